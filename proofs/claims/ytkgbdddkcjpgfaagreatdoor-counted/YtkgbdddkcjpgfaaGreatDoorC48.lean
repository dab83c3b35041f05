import Derived.Test.YtkgbdddkcjpgfaaGreatDoorC47
import Derived.Test.YtkgbdddkcjpgfaaGreatDoorC25
import Derived.Test.YtkgbdddkcjpgfaaGreatDoorC21
import Derived.Test.YtkgbdddkcjpgfaaGreatDoorC14
namespace Go.Proofs.YtkgbdddkcjpgfaaGreatDoor
set_option maxHeartbeats 1000000
set_option maxRecDepth 100000
open Go.Proofs.Tryz
open Pl (PV PW PF Byt FK)
section
open Go.RowKit Go.Lib
variable {w:World} {M:Nat->Prop} {v:Value} {b:Nat}
mutual
def fK:PF->Nat
 | .mk _ _ _ _ ks ns=>1500+301*ns.length+fKL ks
def fKL:List PF->Nat
 | []=>0
 | x::r=>fK x+1+fKL r
end
theorem aBP(k:FK)(nm:Byt)(d:Pl.Tre)(v:PV)(ks:List PF)(ns:List Byt):fK (.mk k nm d v ks ns)=1500+301*ns.length+fKL ks:=by simp [fK]
theorem aA1(x:PF)(r:List PF):fKL (x::r)=fK x+1+fKL r:=by simp [fKL]
theorem aA7:fKL []=0:=by simp [fKL]
def msF(ks:List PF)(i:Nat):Nat:=(ks[i]?.map fK).getD 0
theorem aB4:∀ks:List PF,n3 (msF ks) ks.length=fKL ks
 | []=>by simp [n3,aA7]
 | x::r=>by
  have e:msF (x::r)=mC (fK x) (msF r):=by
   funext i
   cases i with
   | zero=>rfl
   | succ i=>simp [msF,mC]
  rw [e,List.length_cons,Nat.add_comm,aBA,aB4 r,aA1]
theorem aBJ(n:Nat):n3 (fun _=>300) n=301*n:=by
 induction n with
 | zero=>rfl
 | succ n ih=>simp only [n3];omega
theorem fK_le{W:PW}{f:PF}(h:WfF W f):fK f<=92200*fnd f:=by
 induction h with
 | mk k nm d v ks ns h1 h2 h3 h4 h5 h6 _ _ ih =>
  have key:∀l:List PF,(∀x∈l,fK x<=92200*fnd x)->fKL l<=92200*aB5 l+l.length:=fun l=>by
   induction l with
   | nil=>intro _;rw [aA7];omega
   | cons y r ihr =>intro hl;have a:=hl y (by simp);have b:=ihr (fun x hx=>hl x (List.mem_cons_of_mem _ hx));rw [aA1,aAY,List.length_cons];omega
  have:=key ks ih;rw [aBP,aAZ];have:=h5.1;omega
theorem aC8{l:Byt}{T:TypeId}{sz n:Nat}{xs:List Value}(ht:TxtAt w b l)(hT:T≠TTxt/\T≠TBy)(h:Sl M w T sz v n xs):RowSp b w v sz n xs:=by obtain⟨h0,ao,cap,e,hc,h1⟩:=h;refine⟨h0,ao,cap,e,hc,h1.imp id ?_⟩;rintro⟨g,off,cur,e1,_,hb,hx⟩;obtain⟨sv,h2,_⟩:=ht;exact⟨g,off,cur,T,e1,fun e=>by subst e;rw [hb] at h2;cases h2;exact hT.1 rfl,hT.2,hb,hx⟩
theorem Tryz.sp_fIf(x y z:Value)(w:World):(Go.method 638 335 (.agg #[x,y,z]) "Spell").run prog w=.ok (378,.agg #[x,y,z]) w:=by kernel_rfl
theorem Tryz.ent_fIf:Enters 378:=enters_of func378 (by kernel_rfl) rfl
theorem Tryz.sp_fSet(x y z:Value)(w:World):(Go.method 638 340 (.agg #[x,y,z]) "Spell").run prog w=.ok (381,.agg #[x,y,z]) w:=by kernel_rfl
theorem Tryz.ent_fSet:Enters 381:=enters_of func381 (by kernel_rfl) rfl
theorem Tryz.sp_fDef(x y z:Value)(w:World):(Go.method 638 218 (.agg #[x,y,z]) "Spell").run prog w=.ok (336,.agg #[x,y,z]) w:=by kernel_rfl
theorem Tryz.ent_fDef:Enters 336:=enters_of func336 (by kernel_rfl) rfl
theorem Tryz.sp_fLam(x y:Value)(w:World):(Go.method 638 329 (.agg #[x,y]) "Spell").run prog w=.ok (375,.agg #[x,y]) w:=by kernel_rfl
theorem Tryz.ent_fLam:Enters 375:=enters_of func375 (by kernel_rfl) rfl
theorem Tryz.sp_fCon(x y:Value)(w:World):(Go.method 638 223 (.agg #[x,y]) "Spell").run prog w=.ok (340,.agg #[x,y]) w:=by kernel_rfl
theorem Tryz.ent_fCon:Enters 340:=enters_of func340 (by kernel_rfl) rfl
theorem Tryz.sp_fBeg(x:Value)(w:World):(Go.method 638 347 (.agg #[x]) "Spell").run prog w=.ok (386,.agg #[x]) w:=by kernel_rfl
theorem Tryz.ent_fBeg:Enters 386:=enters_of func386 (by kernel_rfl) rfl
theorem Tryz.sp_fCal(x:Value)(w:World):(Go.method 638 349 (.agg #[x]) "Spell").run prog w=.ok (388,.agg #[x]) w:=by kernel_rfl
theorem Tryz.ent_fCal:Enters 388:=enters_of func388 (by kernel_rfl) rfl
theorem FlPost.more{w':World}{l t:Byt}{m m':Nat}{e:Ending}(h:FlPost w b l t m e w')(hm:m<=m'):FlPost w b l t m' e w':=by obtain⟨h1,h2,l',h3,h4,h5⟩:=h;exact⟨h1,h2,l',h3,h4,by omega⟩
theorem RFm.one{s:Sg}{f:PF}(h:RFm M w s v f):v.oneCell'=true:=by obtain⟨T,x,rfl⟩:=h.iface;rfl
theorem p_spF{W:PW}(hP:WfQ W){s:Sg}{l0:Byt}(ht0:TxtAt w b l0)(hL:Lie w s W.pairs b){f:PF}(h:RFm M w s v f):WfF W f->Spl b w v (Pl.fT W.pairs f) (fK f):=by
 have T1:TForm≠TTxt/\TForm≠TBy:=by decide
 have T2:TNam≠TTxt/\TNam≠TBy:=by decide
 induction h with
 | const x q nm d v ks ns h hq =>
  intro hw w1 l h1 h2 h3;have hv:=spl_val hP hL h (hw.val rfl);rw [aBP] at h3 ⊢;obtain⟨T,y,rfl⟩:=h.iface;refine⟨_,_,_,_,rfl,Tryz.sp_fCon _ _ w1,Tryz.ent_fCon,?_⟩;have e:Pl.fT W.pairs (.mk .const nm d v ks ns)=if isQ d then Pl.listT [Pl.quoteB,Pl.text W.pairs v] else Pl.text W.pairs v:=by simp [Pl.fT]
  rw [e,<-hq]
  cases q with
  | true=>exact(aCG w1 b l _ _ h2 (hv.later h1) ⟨_,_,rfl⟩ (by omega)).mono (fun e w' h=>h.more (by omega))
  | false=>exact(aDD w1 b l _ _ h2 (hv.later h1) (by omega)).mono (fun e w' h=>h.more (by omega))
 | name k nm d v ks ns h =>
  intro hw w1 l h1 h2 h3;rw [aBP] at h3 ⊢;have e:Pl.fT W.pairs (.mk .name nm d v ks ns)=nm:=by simp [Pl.fT]
  rw [e];exact⟨_,_,_,_,rfl,Tryz.sp_Nm _ _ w1,Tryz.ent_Nm,(aB9 w1 b l nm k h2 (by omega) hw.lnm).mono (fun e w' h=>h.more (by omega))⟩
 | iff x y z f1 f2 f3 nm d v ns g1 g2 g3 i1 i2 i3 =>
  intro hw w1 l h1 h2 h3;have k1:=i1 (hw.kid (by simp [Pl.PF.ks]));have k2:=i2 (hw.kid (by simp [Pl.PF.ks]));have k3:=i3 (hw.kid (by simp [Pl.PF.ks]));rw [aBP,aA1,aA1,aA1,aA7] at h3 ⊢;have e:Pl.fT W.pairs (.mk .iff nm d v [f1,f2,f3] ns)=Pl.listT [Pl.ifB,Pl.fT W.pairs f1,Pl.fT W.pairs f2,Pl.fT W.pairs f3]:=by simp [Pl.fT,Pl.fTL]
  rw [e];exact⟨_,_,_,_,rfl,Tryz.sp_fIf _ _ _ w1,Tryz.ent_fIf,(p_spIf w1 b l x y z _ _ _ _ _ _ h2 (k1.later h1) (k2.later h1) (k3.later h1) ⟨g1.iface,g2.iface,g3.iface⟩ (by omega)).mono (fun e w' h=>h.more (by omega))⟩
 | set k a x nm d v ns h g1 i1 =>
  intro hw w1 l h1 h2 h3;have k1:=i1 (hw.kid (by simp [Pl.PF.ks]));rw [aBP,aA1,aA7] at h3 ⊢;have e:Pl.fT W.pairs (.mk .set nm d v [x] ns)=Pl.listT [Pl.setB,nm,Pl.fT W.pairs x]:=by simp [Pl.fT,Pl.fTL]
  rw [e];exact⟨_,_,_,_,rfl,Tryz.sp_fSet _ _ _ w1,Tryz.ent_fSet,(p_spSet w1 b l nm k a _ _ h2 hw.lnm (k1.later h1) g1.iface (by omega)).mono (fun e w' h=>h.more (by omega))⟩
 | define k a x nm d v ns h g1 i1 =>
  intro hw w1 l h1 h2 h3;have k1:=i1 (hw.kid (by simp [Pl.PF.ks]));rw [aBP,aA1,aA7] at h3 ⊢;have e:Pl.fT W.pairs (.mk .define nm d v [x] ns)=Pl.listT [Pl.defineB,nm,Pl.fT W.pairs x]:=by simp [Pl.fT,Pl.fTL]
  rw [e];exact⟨_,_,_,_,rfl,Tryz.sp_fDef _ _ _ w1,Tryz.ent_fDef,(aCI w1 b l nm k a _ _ h2 hw.lnm (k1.later h1) g1.iface (by omega)).mono (fun e w' h=>h.more (by omega))⟩
 | begin sl us nm d v ks ns g1 g2 g3 g4 g5 ih =>
  intro hw w1 l h1 h2 h3;have hr:RowSp b w sl 1 us.length us:=by rw [g2];exact aC8 ht0 T1 g1
  rw [aBP,<-aB4,<-g2] at h3 ⊢;have e:Pl.fT W.pairs (.mk .begin nm d v ks ns)=Pl.listT (Pl.beginB::Pl.fTL W.pairs ks):=by simp [Pl.fT]
  rw [e]
  exact⟨_,_,_,_,rfl,Tryz.sp_fBeg _ w1,Tryz.ent_fBeg,(aDE w1 b l sl us _ (msF ks) h2 (hr.later h1) (by omega) (fun u hu=>by
   obtain⟨i,hi⟩:=List.getElem?_of_mem hu;obtain⟨x,hx⟩:∃x,ks[i]?=some x:=⟨_,List.getElem?_eq_getElem (by have:=(List.getElem?_eq_some_iff.1 hi).1;omega)⟩
   exact(g3 i u x hi hx).one) (by rw [Pl.fTL_len,g2]) (fun i u t k1 k2=>by
   obtain⟨x,hx⟩:∃x,ks[i]?=some x:=⟨_,List.getElem?_eq_getElem (by have:=(List.getElem?_eq_some_iff.1 k1).1;omega)⟩
   rw [Pl.fTL_get W.pairs ks i x hx] at k2;obtain rfl:=Option.some.inj k2;have em:msF ks i=fK x:=by simp [msF,hx]
   rw [em]
   exact(ih i u x k1 hx (hw.kid (List.mem_of_getElem? hx))).later h1) (by omega)).mono (fun e w' h=>h.more (by omega))⟩
 | call sl us nm d v ks ns g1 g2 g3 g4 g5 ih =>
  intro hw w1 l h1 h2 h3;have hr:RowSp b w sl 1 us.length us:=by rw [g2];exact aC8 ht0 T1 g1
  rw [aBP,<-aB4,<-g2] at h3 ⊢;have e:Pl.fT W.pairs (.mk .call nm d v ks ns)=Pl.listT (Pl.fTL W.pairs ks):=by simp [Pl.fT]
  rw [e]
  exact⟨_,_,_,_,rfl,Tryz.sp_fCal _ w1,Tryz.ent_fCal,(aDZ w1 b l sl us _ (msF ks) h2 (hr.later h1) (by rw [Pl.fTL_len,g2]) (fun i u t k1 k2=>by
   obtain⟨x,hx⟩:∃x,ks[i]?=some x:=⟨_,List.getElem?_eq_getElem (by have:=(List.getElem?_eq_some_iff.1 k1).1;omega)⟩
   rw [Pl.fTL_get W.pairs ks i x hx] at k2;obtain rfl:=Option.some.inj k2;have em:msF ks i=fK x:=by simp [msF,hx]
   rw [em]
   exact(ih i u x k1 hx (hw.kid (List.mem_of_getElem? hx))).later h1) (by omega)).mono (fun e w' h=>h.more (by omega))⟩
 | lambda sl a x nm d v ns g1 g2 i2 =>
  intro hw w1 l h1 h2 h3;have k1:=i2 (hw.kid (by simp [Pl.PF.ks]));obtain⟨⟨ks,j1,j2⟩,_,_⟩:=g1;have hl:ns.length=ks.length:=j1.1.symm;rw [aBP,aA1,aA7] at h3 ⊢;have e:Pl.fT W.pairs (.mk .lambda nm d v [x] ns)=Pl.listT [Pl.lambdaB,Pl.listT ns,Pl.fT W.pairs x]:=by simp [Pl.fT,Pl.fTL]
  rw [e];exact⟨_,_,_,_,rfl,Tryz.sp_fLam _ _ w1,Tryz.ent_fLam,(aCH w1 b l sl ns ks a _ _ h2 ((aC8 ht0 T2 j2).later h1) hl hw.lnx (k1.later h1) g2.iface (by rw [aBJ];omega)).mono (fun e w' h=>h.more (by rw [aBJ];omega))⟩
theorem aD0{W:PW}(hP:WfQ W){s:Sg}(hL:Lie w s W.pairs w.heap.size)(hmt:Stp M w M (w.alloc (.cells #[.slice none 0 0] TTxt))){f:PF}(h:RFm M w s v f)(hw:WfF W f) :Calls prog 126 #[v] w fun e w'=>e=.returned (.string ⟨(Pl.cut (Pl.fT W.pairs f)).toArray⟩)/\Below w.heap.size w w':=by
 have hB:Below w.heap.size w (w.alloc (.cells #[.slice none 0 0] TTxt)):=cX w _ _ (Nat.le_refl _);have hk:=fK_le hw;have hn:=hw.nd;obtain⟨T,x,g,xr,rfl,hmet,hent,hcall⟩:=p_spF hP (aBW w) (hL.below hB) (h.go hmt (Sg.Le.refl _)) hw _ [] (Txs.refl _ _) (aBW w) (by simp only [List.length_nil];omega);have HB:Hid (Below w.heap.size w (w.alloc (.cells #[.slice none 0 0] TTxt))):=hB;have HC:Hid (Calls prog g #[xr,.pointer (some ⟨w.heap.size,0,none⟩)] (w.alloc (.cells #[.slice none 0 0] TTxt)) (FlPost (w.alloc (.cells #[.slice none 0 0] TTxt)) w.heap.size [] (Pl.fT W.pairs f) (fK f))):=hcall;have HK:Hid (fK f<=140000000000000):=show fK f<=_ from by omega
 unfold Enters at hent;unfold TTxt at hmet;clear hcall hL h hw hB hP hk hn hmt;go_enter func126,ntmps126
 go_wp2_with (first
  | (go_at_call 168;refine(p_told _ _ l4 HT4.out HL4.out).mono ?_;rintro e w5 ⟨rfl,rfl⟩)
  | (refine Calls.mono HC.out ?_;rintro e w4 ⟨rfl,hB4,l4,ht4,hQ4,hl4⟩;have HT4:Hid (TxtAt w4 w.heap.size l4):=ht4;have HL4:Hid (l4.length<=140000000000000):=show l4.length<=_ from(by have:=HK.out;simp only [List.length_nil] at hl4;omega)))
 go_ret;exact⟨by rw [hQ4.cut];rfl,HB.out.trans hB4.below⟩
theorem aCK(w:World)(rb:Nat)(c0 ev gv kv ov:Value)(T:TypeId)(x:Value)(t:ByteArray)(n:Int)(hb:w.heap[rb]?=some (.cells #[c0,.iface T x,ev,gv,kv,ov] TRun (0,0)))(hk:∃o,kv=.pointer o)
  (hof:∀w1,Below w.heap.size w w1->Calls prog 126 #[.iface T x] w1 fun e w'=>e=.returned (.string t)/\Below w1.heap.size w1 w')
  (hct:∀w1,Below w.heap.size w w1->Calls prog 127 #[kv] w1 fun e w'=>e=.returned (.int .i64 n)/\w1=w') :
  Calls prog 80 #[.pointer (some ⟨rb,1,none⟩)] w fun e w'=>e=.returned (.agg #[.int .i64 1,.string t,.int .i64 n])/\Below w.heap.size w w':=by
 have hlt:=aB hb;have c1:w.cell? ⟨rb,1,none⟩=some (.iface T x):=aA hb 1;have c4:w.cell? ⟨rb,4,none⟩=some kv:=aA hb 4;obtain⟨o,rfl⟩:=hk;have hB0:∀o:Obj,Below w.heap.size w (w.alloc o):=fun o=>(Below.refl _ _).alloc (Nat.le_refl _) o;have HOf:Hid (∀w1,Below w.heap.size w w1->Calls prog 126 #[.iface T x] w1 fun e w'=>e=.returned (.string t)/\Hid (Below w.heap.size w w')/\Hid (Below w1.heap.size w1 w')):=fun w1 hB=>(hof w1 hB).mono (fun e w' ⟨k1,k2⟩=>⟨k1,hB.trans (k2.mono hB.size),k2⟩);have HCt:Hid (∀w1,Below w.heap.size w w1->Calls prog 127 #[.pointer o] w1 fun e w'=>e=.returned (.int .i64 n)/\w1=w'):=hct;have HB:Hid (w.heap[rb]?=some (.cells #[c0,.iface T x,ev,gv,.pointer o,ov] TRun (0,0))):=hb;clear hof hct hb;go_enter func80,ntmps80;go_wp2_with fail
 go_region_law (first
  | (refine aA2 (by rfl) 126 _ _ (by rfl) func126 (by kernel_rfl) rfl (.iface T x) (by rfl) (HOf.out _ (by first | exact(hB0 _).drew | exact hB0 _)) ?_;rintro e w1 ⟨rfl,HB1,HBk⟩;refine⟨_,rfl,?_⟩;have hbox:=(HBk.out.block w.heap.size (by simp)).trans (by first | exact heap_alloc_new w _ | rfl);have d4:w1.cell? ⟨rb,4,none⟩=some (.pointer o):=aA ((HB1.out.block rb hlt).trans HB.out) 4;have hlt1:=aB hbox;obtain⟨t0,t1,t2,u0,u1,u2,r1,r2,r3⟩:=set3 hbox)
  | (refine aA2 (by rfl) 127 _ _ (by rfl) func127 (by kernel_rfl) rfl (.pointer o) (by rfl) (HCt.out _ (by first | exact HB1.out | exact(hB0 _).drew | exact hB0 _)) ?_;rintro e w2 ⟨rfl,rfl⟩;refine⟨_,rfl,?_⟩))
 all_goals
  go_wp2_with fail
  (try simp only [Exit.inBlock,Exit.then])
  refine bodyPost_ret (v:=.agg #[.int .i64 1,.string t,.int .i64 n]) ?_ rfl ?_
  ·rw [aO rfl]
   go_simp
   try rfl
  exact⟨rfl,bO (bO (bO HB1.out (Nat.le_refl _) _ _) (Nat.le_refl _) _ _) (Nat.le_refl _) _ _⟩
theorem aCL(w:World)(rb:Nat)(c0 ev kv ov:Value)(T:TypeId)(x:Value)(t:ByteArray)(n:Int)(hb:w.heap[rb]?=some (.cells #[c0,.nilIface,ev,.iface T x,kv,ov] TRun (0,0)))(hk:∃o,kv=.pointer o)
  (hof:∀w1,Below w.heap.size w w1->Calls prog 126 #[.iface T x] w1 fun e w'=>e=.returned (.string t)/\Below w1.heap.size w1 w')
  (hct:∀w1,Below w.heap.size w w1->Calls prog 127 #[kv] w1 fun e w'=>e=.returned (.int .i64 n)/\w1=w') :
  Calls prog 80 #[.pointer (some ⟨rb,1,none⟩)] w fun e w'=>e=.returned (.agg #[.int .i64 2,.string t,.int .i64 n])/\Below w.heap.size w w':=by
 have hlt:=aB hb;have c1:w.cell? ⟨rb,1,none⟩=some .nilIface:=aA hb 1;have c3:w.cell? ⟨rb,3,none⟩=some (.iface T x):=aA hb 3;have c4:w.cell? ⟨rb,4,none⟩=some kv:=aA hb 4;obtain⟨o,rfl⟩:=hk;have hB0:∀o:Obj,Below w.heap.size w (w.alloc o):=fun o=>(Below.refl _ _).alloc (Nat.le_refl _) o;have HOf:Hid (∀w1,Below w.heap.size w w1->Calls prog 126 #[.iface T x] w1 fun e w'=>e=.returned (.string t)/\Hid (Below w.heap.size w w')/\Hid (Below w1.heap.size w1 w')):=fun w1 hB=>(hof w1 hB).mono (fun e w' ⟨k1,k2⟩=>⟨k1,hB.trans (k2.mono hB.size),k2⟩);have HCt:Hid (∀w1,Below w.heap.size w w1->Calls prog 127 #[.pointer o] w1 fun e w'=>e=.returned (.int .i64 n)/\w1=w'):=hct;have HB:Hid (w.heap[rb]?=some (.cells #[c0,.nilIface,ev,.iface T x,.pointer o,ov] TRun (0,0))):=hb;clear hof hct hb;go_enter func80,ntmps80;go_wp2_with fail
 go_region_law (first
  | (refine aA2 (by rfl) 126 _ _ (by rfl) func126 (by kernel_rfl) rfl (.iface T x) (by rfl) (HOf.out _ (by first | exact(hB0 _).drew | exact hB0 _)) ?_;rintro e w1 ⟨rfl,HB1,HBk⟩;refine⟨_,rfl,?_⟩;have hbox:=(HBk.out.block w.heap.size (by simp)).trans (by first | exact heap_alloc_new w _ | rfl);have d3:w1.cell? ⟨rb,3,none⟩=some (.iface T x):=aA ((HB1.out.block rb hlt).trans HB.out) 3;have d4:w1.cell? ⟨rb,4,none⟩=some (.pointer o):=aA ((HB1.out.block rb hlt).trans HB.out) 4;have hlt1:=aB hbox;obtain⟨t0,t1,t2,u0,u1,u2,r1,r2,r3⟩:=set3 hbox)
  | (refine aA2 (by rfl) 127 _ _ (by rfl) func127 (by kernel_rfl) rfl (.pointer o) (by rfl) (HCt.out _ (by first | exact HB1.out | exact(hB0 _).drew | exact hB0 _)) ?_;rintro e w2 ⟨rfl,rfl⟩;refine⟨_,rfl,?_⟩))
 all_goals
  go_wp2_with fail
  (try simp only [Exit.inBlock,Exit.then])
  refine bodyPost_ret (v:=.agg #[.int .i64 2,.string t,.int .i64 n]) ?_ rfl ?_
  ·rw [aO rfl]
   go_simp
   try rfl
  exact⟨rfl,bO (bO (bO HB1.out (Nat.le_refl _) _ _) (Nat.le_refl _) _ _) (Nat.le_refl _) _ _⟩
end
end Go.Proofs.YtkgbdddkcjpgfaaGreatDoor
