import Derived.Test.YtkgbdddkcjpgfaaGreatDoorC15
import Derived.Test.YtkgbdddkcjpgfaaGreatDoorC24
import Derived.Test.YtkgbdddkcjpgfaaGreatDoorC25
import Derived.Test.YtkgbdddkcjpgfaaGreatDoorC19
import Derived.Test.YtkgbdddkcjpgfaaGreatDoorC27
import Derived.Test.YtkgbdddkcjpgfaaGreatDoorC13
import Derived.Test.YtkgbdddkcjpgfaaGreatDoorC05
import Derived.Test.YtkgbdddkcjpgfaaGreatDoorC03
import Derived.Test.YtkgbdddkcjpgfaaGreatDoorC28
import Derived.Test.YtkgbdddkcjpgfaaGreatDoorC09
namespace Go.Proofs.YtkgbdddkcjpgfaaGreatDoor
set_option maxHeartbeats 1000000
set_option maxRecDepth 100000
section
open Go.RowKit
namespace Pl
def W0:PW:=⟨[],[],[],[],[],[]⟩
def newL(l:List Byt):PW:=l.foldl (fun W s=>bind W s (.prim s)) W0
def newW:PW:=newL prims
end Pl
theorem nR(l:List Pl.Byt)(s:Pl.Byt):Pl.newL (l++[s])=Pl.bind (Pl.newL l) s (.prim s):=by simp [Pl.newL,List.foldl_append]
theorem W0_ok:WW Pl.W0 0:=⟨fun i p h=>by simp [Pl.W0] at h,fun i p h=>by simp [Pl.W0] at h,Nat.le_refl _,fun p h=>by simp [Pl.W0] at h,Nat.le_refl _,fun p h=>by simp [Pl.W0] at h,Nat.le_refl _,fun p h=>by simp [Pl.W0] at h,Nat.le_refl _,fun p h=>by simp [Pl.W0] at h,Nat.le_refl _⟩
theorem newL_ok(l:List Pl.Byt)(h:∀s∈l,s∈Pl.prims):WW (Pl.newL l) l.length:=by
 have key:∀n (l:List Pl.Byt),l.length=n->(∀s∈l,s∈Pl.prims)->WW (Pl.newL l) n:=by
  intro n
  induction n with
  | zero=>intro l hl _;obtain rfl:=List.eq_nil_of_length_eq_zero hl;exact W0_ok
  | succ n ih =>
   intro l hl hm;obtain⟨l',s,rfl⟩:∃l' s,l=l'++[s]:=⟨l.dropLast,l.getLast (by intro e;simp [e] at hl),(List.dropLast_concat_getLast _).symm⟩
   rw [nR];exact(jR (ih l' (by simpa using hl) (fun x hx=>hm x (by simp [hx]))) s (.prim s) (hm s (by simp))).1
 exact key _ l rfl h
theorem newW_ok:WW Pl.newW 13:=newL_ok Pl.prims (fun _ h=>h)
theorem RW.empty{w:World}{wb:Nat}(h:w.heap[wb]?=some (.cells #[.slice none 0 0,.slice none 0 0,.slice none 0 0,.slice none 0 0,.slice none 0 0,.string ⟨#[]⟩] TWd (0,0))):RW w wb (Mof wb [.slice none 0 0,.slice none 0 0,.slice none 0 0,.slice none 0 0,.slice none 0 0]) Pl.W0 :=⟨_,_,_,_,_,[],[],rfl,⟨h,World.ownsRow_nil _ _ _ _,World.ownsRow_nil _ _ _ _,fun i p hi=>by simp [Pl.W0] at hi,World.ownsRow_nil _ _ _ _,fun i p hi=>by simp [Pl.W0] at hi,World.ownsRow_nil _ _ _ _,World.ownsRow_nil _ _ _ _,by simp [Pl.W0]⟩⟩
end
open Pl (Byt)
section
open Go.RowKit
def aggO(n:Nat)(out val:Byt):Value:=.agg #[.int .i64 (n:Int),.string ⟨out.toArray⟩,.string ⟨val.toArray⟩]
end
open Go.Proofs.Tryz
open Pl (PW PO)
section
open Go.RowKit Go.Lib Go.Maps
def TIn:TypeId:=41
def oE(w:World)(b:ByteArray)(n:Int):World:=(w.alloc (.cells #[.string b,.int .i64 n] TIn)).alloc (.cells #[.int .i64 0,.string ⟨#[]⟩,.string ⟨#[]⟩] TOc)
def ansZ(w:World)(R:Nat)(c:Int)(o t:ByteArray):World:=((w.setCell ⟨R,0,none⟩ (.int .i64 c)).setCell ⟨R,1,none⟩ (.string o)).setCell ⟨R,2,none⟩ (.string t)
theorem ansA_at(w:World)(b:ByteArray)(n:Int):(oE w b n).heap[w.heap.size]?=some (.cells #[.string b,.int .i64 n] TIn (0,0))/\(oE w b n).heap[w.heap.size+1]?=some (.cells #[.int .i64 0,.string ⟨#[]⟩,.string ⟨#[]⟩] TOc (0,0))/\(oE w b n).heap.size=w.heap.size+2/\Below w.heap.size w (oE w b n):=by refine⟨(Below.heap_alloc _ _ _ (by simp)).trans (heap_alloc_new w _),?_,by simp [oE],((Below.refl _ _).alloc (Nat.le_refl _) _).alloc (by simp) _⟩;have:=heap_alloc_new (w.alloc (.cells #[.string b,.int .i64 n] TIn)) (.cells #[.int .i64 0,.string ⟨#[]⟩,.string ⟨#[]⟩] TOc);rw [show(w.alloc (.cells #[.string b,.int .i64 n] TIn)).heap.size=w.heap.size+1 from by simp] at this;exact this
theorem gS(w:World)(ev tb:Value)(b:ByteArray)(n:Int)(c:Nat)(Q:World->Prop)
  (hev:∃T x,ev=.iface T x) (htb:∃o,tb=.pointer o)
  (hrd:Calls prog 48 #[.agg #[.string b,.int .i64 n],tb] (oE w b n) fun e w'=>∃v es,e=.returned (.tuple #[v,aY es (c:Int)])/\Q w')
  (hR:∀w',Q w'->GT w'/\w'.heap[w.heap.size+1]?=some (.cells #[.int .i64 0,.string ⟨#[]⟩,.string ⟨#[]⟩] TOc (0,0))) :
  Calls prog 74 #[ev,.agg #[.string b,.int .i64 n],tb] w fun e w'=>∃w3 w4,e=.returned (.agg #[.int .i64 (c:Int),.string ⟨#[]⟩,.string ⟨#[]⟩])/\Q w3/\Below w3.heap.size w3 w4/\w'=ansZ w4 (w.heap.size+1) c ⟨#[]⟩ ⟨#[]⟩:=by
 have HRd:Hid (Calls prog 48 #[.agg #[.string b,.int .i64 n],tb] ((w.alloc (.cells #[.string b,.int .i64 n] 41)).alloc (.cells #[.int .i64 0,.string ⟨#[]⟩,.string ⟨#[]⟩] 43)) fun e w'=>∃v es,e=.returned (.tuple #[v,aY es (c:Int)])/\Hid (Q w')):=hrd;have HR:Hid (∀w',Q w'->GT w'/\w'.heap[w.heap.size+1]?=some (.cells #[.int .i64 0,.string ⟨#[]⟩,.string ⟨#[]⟩] TOc (0,0))):=hR;obtain⟨T,x,rfl⟩:=hev;obtain⟨o,rfl⟩:=htb;clear hrd hR;go_enter func74,ntmps74
 go_upto_region 2 with(go_at_call 48;refine Calls.mono HRd.out ?_;rintro e w3 ⟨v,es,rfl,HQ⟩)
 obtain⟨hgt,hb3⟩:=HR.out w3 HQ.out;have HCo:Hid (Calls prog 42 #[aY es (c:Int)] w3 fun e w'=>e=.returned (.int .i64 (c:Int))/\Hid (Below w3.heap.size w3 w')):=aCA es c w3 hgt;have HX:Hid (∀w4,Below w3.heap.size w3 w4->w4.heap[w.heap.size+1]?=some (.cells #[.int .i64 0,.string ⟨#[]⟩,.string ⟨#[]⟩] TOc (0,0))):=fun w4 hB=>(hB.block _ (aB hb3)).trans hb3;clear hgt hb3;unfold aY at HCo ⊢;go_wp2_with (go_at_call 42;refine Calls.mono HCo.out ?_;rintro e w4 ⟨rfl,HB4⟩;obtain⟨t0,t1,t2,u0,u1,u2,r1,r2,r3⟩:=set3 (HX.out w4 HB4.out))
 (try simp only [Exit.inBlock,Exit.then])
 refine bodyPost_ret (v:=.agg #[.int .i64 (c:Int),.string ⟨#[]⟩,.string ⟨#[]⟩]) ?_ rfl ?_
 ·rw [aO rfl]
  go_simp
  try rfl
 exact⟨w3,w4,rfl,HQ.out,HB4.out,rfl⟩
theorem Tryz.runM(b:Nat)(w:World):(Go.method 638 73 (.pointer (some ⟨b,0,none⟩)) "Run").run prog w=.ok (256,.pointer (some ⟨b,0,none⟩)) w:=by kernel_rfl
theorem Tryz.runN(b:Nat)(w:World):(Go.nilAhead 638 73 (.pointer (some ⟨b,0,none⟩)) "Run").run prog w=.ok (some false) w:=by kernel_rfl
theorem Tryz.ent_run:Enters 256:=enters_of func256 (by kernel_rfl) rfl
theorem sP(w:World)(sb:Nat)(tb:Value)(b:ByteArray)(n:Int)(o t:ByteArray)(c:Nat)(Q1:Value->World->Prop)(Q2:World->Prop)(htb:∃o,tb=.pointer o)
  (hrd:Calls prog 48 #[.agg #[.string b,.int .i64 n],tb] (oE w b n) fun e w'=>∃fv,e=.returned (.tuple #[fv,.nilIface])/\Q1 fv w')
  (hin:∀fv w',Q1 fv w'->(∃T x,fv=.iface T x)/\w'.heap[w.heap.size]?=some (.cells #[.string b,.int .i64 n] TIn (0,0)))
  (hrun:∀fv w2,Q1 fv w2->Calls prog 256 #[.pointer (some ⟨sb,0,none⟩),fv,.int .i64 n] w2 fun e w'=>∃ev,e=.returned (.tuple #[.string o,.string t,ev])/\(Calls prog 42 #[ev] w' fun e w''=>e=.returned (.int .i64 (c:Int))/\Below w'.heap.size w' w'')/\Q2 w')
  (hR:∀w',Q2 w'->w'.heap[w.heap.size+1]?=some (.cells #[.int .i64 0,.string ⟨#[]⟩,.string ⟨#[]⟩] TOc (0,0))) :
  Calls prog 74 #[.iface 73 (.pointer (some ⟨sb,0,none⟩)),.agg #[.string b,.int .i64 n],tb] w fun e w'=>∃w3 w4,e=.returned (.agg #[.int .i64 (c:Int),.string o,.string t])/\Q2 w3/\Below w3.heap.size w3 w4/\w'=ansZ w4 (w.heap.size+1) c o t:=by
 have HRd:Hid (Calls prog 48 #[.agg #[.string b,.int .i64 n],tb] ((w.alloc (.cells #[.string b,.int .i64 n] 41)).alloc (.cells #[.int .i64 0,.string ⟨#[]⟩,.string ⟨#[]⟩] 43)) fun e w'=>∃fv,e=.returned (.tuple #[fv,.nilIface])/\Hid (Q1 fv w')):=hrd;have HR:Hid (∀w',Q2 w'->w'.heap[w.heap.size+1]?=some (.cells #[.int .i64 0,.string ⟨#[]⟩,.string ⟨#[]⟩] TOc (0,0))):=hR;have HIn:Hid (∀fv w',Q1 fv w'->(∃T x,fv=.iface T x)/\w'.heap[w.heap.size]?=some (.cells #[.string b,.int .i64 n] TIn (0,0))):=hin;have HRun:Hid (∀fv w2,Q1 fv w2->Calls prog 256 #[.pointer (some ⟨sb,0,none⟩),fv,.int .i64 n] w2 fun e w'=>∃ev,e=.returned (.tuple #[.string o,.string t,ev])/\Hid (Calls prog 42 #[ev] w' fun e w''=>e=.returned (.int .i64 (c:Int))/\Hid (Below w'.heap.size w' w''))/\Hid (Q2 w')):=hrun;have hm:=Tryz.runM sb;have hnl:=Tryz.runN sb;have hen:=Tryz.ent_run;unfold Enters at hen;obtain⟨oo,rfl⟩:=htb;clear hrd hR hin hrun;go_enter func74,ntmps74
 go_upto_region 2 with(go_at_call 48;refine Calls.mono HRd.out ?_;rintro e w2 ⟨fv,rfl,HQ1⟩)
 obtain⟨⟨T,x,rfl⟩,hb2⟩:=HIn.out fv w2 HQ1.out;have e1:w2.cell? ⟨w.heap.size,1,none⟩=some (.int .i64 n):=aA hb2 1;have HC:Hid (Calls prog 256 #[.pointer (some ⟨sb,0,none⟩),.iface T x,.int .i64 n] w2 fun e w'=>∃ev,e=.returned (.tuple #[.string o,.string t,ev])/\Hid (Calls prog 42 #[ev] w' fun e w''=>e=.returned (.int .i64 (c:Int))/\Hid (Below w'.heap.size w' w''))/\Hid (Q2 w')):=HRun.out _ w2 HQ1.out;clear hb2
 go_wp2_with (first
  | (go_at_call 256;refine Calls.mono HC.out ?_;rintro e w3 ⟨ev,rfl,HCo,HQ2⟩)
  | (go_at_call 42;refine Calls.mono HCo.out ?_;rintro e w4 ⟨rfl,HB4⟩;have hb3:=HR.out w3 HQ2.out;obtain⟨t0,t1,t2,u0,u1,u2,r1,r2,r3⟩:=set3 ((HB4.out.block _ (aB hb3)).trans hb3);clear hb3))
 (try simp only [Exit.inBlock,Exit.then])
 refine bodyPost_ret (v:=.agg #[.int .i64 (c:Int),.string o,.string t]) ?_ rfl ?_
 ·rw [aO rfl]
  go_simp
  try rfl
 exact⟨w3,w4,rfl,HQ2.out,HB4.out,rfl⟩
def AnsP(M:Nat->Prop)(w:World)(s:Sg)(tb mb sb gb:Nat)(r:PW×PO)(e:Ending)(w':World):Prop :=e=.returned (aggO r.2.code r.2.out r.2.val)/\∃M' s',Stp M w M' w'/\(Sg.Le s s'/\PbN w s s')/\s'.ns.length<=s.ns.length+300/\Wd M' w' s' tb mb sb gb r.1
end
open Pl (PV PF)
section
open Go.RowKit
variable {w w0 w' a b:World} {wb lo hi:Nat} {pv qv cv lv gv pv':Value} {qs cs:List Value}
structure PrJ(w0 w:World)(wb:Nat)(W:PW)(pv qv cv lv gv:Value)(qs cs:List Value)(l:List (PV×PV))(pv':Value):Prop where
 old:RWs w0 wb W pv qv cv lv gv qs cs
 chg:Chg w0 w wb pv.ownBlock
 blk:w.heap[wb]?=some (.cells #[pv',qv,cv,lv,gv,byV W.out] TWd (0,0))
 row:w.ownsRow 0 TPa 6 pv' (W.pairs.length+l.length) ((W.pairs++l).flatMap encP)
 at_:∀k,pv'.ownBlock=some k->pv.ownBlock=some k\/w0.heap.size<=k
theorem PrJ.start{W:PW}(h:RWs w0 wb W pv qv cv lv gv qs cs)(hB:Below w0.heap.size w0 w):PrJ w0 w wb W pv qv cv lv gv qs cs [] pv:=by have h':=h.later (fun k hk=>hB.block k hk) (Stp.of_below hB);exact⟨h,⟨hB.os,hB.tape,hB.output,hB.size,fun k hk _ _=>hB.block k hk⟩,h'.blk,by simpa using h'.pr,fun k hk=>.inl hk⟩
theorem PrJ.grown{W:PW}{l:List (PV×PV)}(h:PrJ w0 w wb W pv qv cv lv gv qs cs l pv'){row:Option Nat}(hg:w.grownBy w' row)(hr:∀k,row=some k->w0.heap.size<=k/\pv'.ownBlock≠some k):PrJ w0 w' wb W pv qv cv lv gv qs cs l pv':=by
 have hwb:=aB h.old.blk;have hsz:=h.chg.size;refine⟨h.old,⟨hg.os.trans h.chg.os,hg.tape.trans h.chg.tape,hg.output.trans h.chg.output,Nat.le_trans hsz hg.size,fun k hk h1 h2=>?_⟩,?_,?_,h.at_⟩
 ·rw [hg.block k (by omega) (fun e=>by have:=(hr k e.symm).1;omega)];exact h.chg.block k hk h1 h2
 ·rw [hg.block wb (aB h.blk) (fun e=>by have:=(hr wb e.symm).1;omega)];exact h.blk
 ·refine⟨h.row.1,?_⟩;rcases h.row.2 with hn | ⟨g,cap,cur,rfl,h0,hgg,rest⟩
  ·exact .inl hn
  ·exact .inr ⟨g,cap,cur,rfl,h0,(hg.block g (aB hgg) (fun e=>(hr g e.symm).2 rfl)).trans hgg,rest⟩
theorem PrJ.later{W:PW}{l:List (PV×PV)}(h:PrJ w0 w wb W pv qv cv lv gv qs cs l pv')(hB:Below w.heap.size w w'):PrJ w0 w' wb W pv qv cv lv gv qs cs l pv' :=h.grown (aQ none hB) (fun k e=>by cases e)
theorem PrJ.done{W:PW}{l:List (PV×PV)}(h:PrJ w0 w wb W pv qv cv lv gv qs cs l pv') :RWs w wb {W with pairs:=W.pairs++l} pv' qv cv lv gv qs cs/\Stp (Mof wb [pv,qv,cv,lv,gv]) w0 (Mof wb [pv',qv,cv,lv,gv]) w:=by have ht:=aN h.old.pr;have hs:Stp (Mof wb [pv,qv,cv,lv,gv]) w0 (Mof wb [pv',qv,cv,lv,gv]) w :=h.chg.stp (fun k hk=>.inr ⟨pv,by simp,hk⟩) (fJ (v:=pv) (v':=pv') (by simp) (by intro x hx;simp only [List.mem_cons,List.not_mem_nil,or_false] at hx ⊢;rcases hx with rfl | rfl | rfl | rfl | rfl<;>simp) h.at_);refine⟨h.old.upd hs h.blk ?_ (aL h.old.pc h.chg h.old.blk ht (by decide) (by decide)) (aL h.old.cn h.chg h.old.blk ht (by decide) (by decide)) (aL h.old.pl h.chg h.old.blk ht (by decide) (by decide)) (aL h.old.gl h.chg h.old.blk ht (by decide) (by decide)) h.old.out (fun i p hi=>.inl ⟨hi,rfl,rfl⟩) (fun i fs hi=>.inl ⟨hi,rfl⟩),hs⟩;simpa using h.row
theorem PrJ.ne{W:PW}{l:List (PV×PV)}(h:PrJ w0 w wb W pv qv cv lv gv qs cs l pv'):∀k,pv'.ownBlock=some k->k≠wb/\k<w.heap.size:=fun k hk=>by obtain⟨cur,hc⟩:=aN h.row k hk;exact⟨fun e=>by subst e;exact absurd (aK hc h.blk).2 (by decide),aB hc⟩
def KeepPr(w w':World):Prop:=∀(k:Nat)(cur:Array Value)(e:TypeId),e≠TWd->e≠TPa->w.heap[k]?=some (.cells cur e (0,0))->w'.heap[k]?=some (.cells cur e (0,0))
theorem KeepPr.trans{c:World}(h:KeepPr a b)(k:KeepPr b c):KeepPr a c:=fun i cur e h1 h2 h3=>k i cur e h1 h2 (h i cur e h1 h2 h3)
theorem KeepPr.of_below(h:Below w.heap.size w w'):KeepPr w w':=fun k _ _ _ _ hb=>(h.block k (aB hb)).trans hb
theorem KeepPr.keepD(h:KeepPr w w'):KeepD (fun _=>True) w w':=fun k cur e _ ht hb=>h k cur e (by rcases ht with rfl | rfl<;>decide) (by rcases ht with rfl | rfl<;>decide) hb
theorem PrJ.keepP{W:PW}{l:List (PV×PV)}(h:PrJ w0 w wb W pv qv cv lv gv qs cs l pv')(hk:∀k,k<w.heap.size->k≠wb->pv'.ownBlock≠some k->w'.heap[k]?=w.heap[k]?):KeepPr w w':=by intro k cur e h1 h2 hb;rw [hk k (aB hb) (fun e=>by subst e;exact h1 (aK hb h.blk).2) (fun e=>by obtain⟨c,hc⟩:=aN h.row k e;exact h2 (aK hb hc).2)];exact hb
def KeepS(lo hi:Nat)(w w':World):Prop:=∀(k:Nat)(cur:Array Value)(e:TypeId),imT e->(e=TFo->k<lo\/hi<=k)->w.heap[k]?=some (.cells cur e (0,0))->w'.heap[k]?=some (.cells cur e (0,0))
theorem KeepS.refl(lo hi:Nat)(w:World):KeepS lo hi w w:=fun _ _ _ _ _ h=>h
theorem KeepS.trans{c:World}(h:KeepS lo hi a b)(k:KeepS lo hi b c):KeepS lo hi a c:=fun i cur e h1 h2 h3=>k i cur e h1 h2 (h i cur e h1 h2 h3)
theorem KeepS.mono{lo' hi':Nat}(h:KeepS lo hi a b)(h1:lo'<=lo)(h2:hi<=hi'):KeepS lo' hi' a b:=fun i cur e k1 k2 k3=>h i cur e k1 (fun x=>(k2 x).imp (fun y=>by omega) (fun y=>by omega)) k3
theorem KeepS.x(h:KeepS lo hi a b):KeepX lo hi a b:=fun i cur e h1 h2 h3=>h i cur e h1 (fun x=>h2 (.inl x)) h3
theorem KeepS.row{v:Value}{n:Nat}{xs:List Value}{T:TypeId}(hk:KeepS lo hi w w')(ht:imT T)(hn:T≠TFo)(h:w.ownsRow 0 T 1 v n xs):w'.ownsRow 0 T 1 v n xs:=by
 refine⟨h.1,?_⟩;rcases h.2 with hn | ⟨g,cap,cur,rfl,hb,hg,rest⟩
 ·exact .inl hn
 ·exact .inr ⟨g,cap,cur,rfl,hb,hk g cur T ht (fun e=>absurd e hn) hg,rest⟩
theorem KeepS.set{b:Nat}(h1:lo<=b)(h2:b<hi){c:Array Value}(hb:w.heap[b]?=some (.cells c TFo (0,0)))(o:Nat)(x:Value):KeepS lo hi w (w.setCell ⟨b,o,none⟩ x):=fun k cur e _ he hk=>by
 by_cases hkb:k=b
 ·subst hkb;obtain⟨_,rfl⟩:=aK hk hb;have:=he rfl;omega
 ·rw [Below.heap_setCell _ _ _ _ (fun e=>hkb (by simpa using e))];exact hk
theorem gM:∀(ks:List PF)(B k:Nat)(x:PF),ks[k]?=some x->(Pl.settleL ks B).1[k]?=some (Pl.settle x (B+(Pl.settleL (ks.take k) B).2.length)).1/\(Pl.settleL (ks.take (k+1)) B).2=(Pl.settleL (ks.take k) B).2++(Pl.settle x (B+(Pl.settleL (ks.take k) B).2.length)).2
 | [],_,_,_,h=>by simp at h
 | y::ks,B,0,x,h=>by simp only [List.getElem?_cons_zero,Option.some.injEq] at h;subst h;simp [Pl.settleL_cons,Pl.settleL_nil]
 | y::ks,B,k+1,x,h=>by rw [List.getElem?_cons_succ] at h;obtain⟨h1,h2⟩:=gM ks (B+(Pl.settle y B).2.length) k x h;simp only [List.take_succ_cons,Pl.settleL_cons,List.getElem?_cons_succ,List.length_append];rw [<- Nat.add_assoc,h2];exact⟨h1,by simp⟩
structure SetInv(w0 w wr:World)(wb:Nat)(W:PW)(pv qv cv lv gv:Value)(qs cs:List Value)(l:List (PV×PV))(n lo b:Nat)(iv:List (Nat×Nat))(us:List Value)(ks:List PF)(j:Nat)(pj:Value):Prop where
 prj:PrJ w0 wr wb W pv qv cv lv gv qs cs (l++(Pl.settleL (ks.take j) (W.pairs.length+l.length)).2) pj
 keep:KeepS lo b w wr
 did:∀(i:Nat)(p:Nat×Nat)(u:Value)(x:PF),i<j->iv[i]?=some p->us[i]?=some u->(Pl.settleL ks (W.pairs.length+l.length)).1[i]?=some x->RepU true n wr p.1 p.2 u x
 todo:∀(i:Nat)(p:Nat×Nat)(u:Value)(x:PF),j<=i->iv[i]?=some p->us[i]?=some u->ks[i]?=some x->RepU false n wr p.1 p.2 u x
theorem SetInv.next{wr w2:World}{W:PW}{l:List (PV×PV)}{n b:Nat}{iv:List (Nat×Nat)}{us:List Value}{ks:List PF}{j:Nat}{pj:Value}(h:SetInv w0 w wr wb W pv qv cv lv gv qs cs l n lo b iv us ks j pj)
  (hin:∀(i:Nat)(p:Nat×Nat),iv[i]?=some p->lo<=p.1/\p.2<=b) (hdis:∀(i k:Nat)(p q:Nat×Nat),i<k->iv[i]?=some p->iv[k]?=some q->p.2<=q.1) {p:Nat×Nat} {u:Value} {x:PF} (hp:iv[j]?=some p) (hu:us[j]?=some u) (hx:ks[j]?=some x) {pj2:Value}
  (k1:PrJ w0 w2 wb W pv qv cv lv gv qs cs (l++(Pl.settleL (ks.take j) (W.pairs.length+l.length)).2++(Pl.settle x (W.pairs.length+(l++(Pl.settleL (ks.take j) (W.pairs.length+l.length)).2).length)).2) pj2)
  (k2:RepU true n w2 p.1 p.2 u (Pl.settle x (W.pairs.length+(l++(Pl.settleL (ks.take j) (W.pairs.length+l.length)).2).length)).1) (k3:KeepS p.1 p.2 wr w2):SetInv w0 w w2 wb W pv qv cv lv gv qs cs l n lo b iv us ks (j+1) pj2:=by
 obtain⟨e1,e2⟩:=gM ks (W.pairs.length+l.length) j x hx;have hB:W.pairs.length+(l++(Pl.settleL (ks.take j) (W.pairs.length+l.length)).2).length=W.pairs.length+l.length+(Pl.settleL (ks.take j) (W.pairs.length+l.length)).2.length:=by rw [List.length_append,Nat.add_assoc]
 rw [hB] at k1 k2;obtain⟨h1,h2⟩:=hin j p hp;refine⟨by rw [e2,<-List.append_assoc];exact k1,h.keep.trans (k3.mono h1 h2),fun i q v y hi hq hv hy=>?_,fun i q v y hi hq hv hy=>?_⟩
 ·by_cases hij:i=j
  ·subst hij;rw [hp] at hq;obtain rfl:=Option.some.inj hq;rw [hu] at hv;obtain rfl:=Option.some.inj hv;rw [e1] at hy;obtain rfl:=Option.some.inj hy;exact k2
  ·exact RepU.keep k3.x n _ _ _ _ (.inl (hdis i j q p (by omega) hq hp)) (h.did i q v y (by omega) hq hv hy)
 ·exact RepU.keep k3.x n _ _ _ _ (.inr (hdis j i p q (by omega) hp hq)) (h.todo i q v y (by omega) hq hv hy)
end
open Pl (callccW)
section
open Go.RowKit Go.Lib Go.Maps
variable {n gb:Nat} {w w':World}
def oF:List Byt:=callccW::Pl.prims.take 12
theorem kZ:oF.Nodup:=by decide
theorem aAQ:oF.length=13:=rfl
def valI:Nat->Value
 | 0=>.iface 243 (.agg #[])
 | k+1=>.iface 246 (.int .i64 (k:Int))
def nsI(n0:List Byt):Nat->List Byt
 | 0=>n0
 | n+1=>match oF[n]? with
  | some nm=>b9 (nsI n0 n) nm
  | none=>nsI n0 n
theorem aA8{n0:List Byt}{nm:Byt}(hi:oF[n]?=some nm):nsI n0 (n+1)=b9 (nsI n0 n) nm:=by show(match oF[n]? with | some nm=>b9 (nsI n0 n) nm | none=>nsI n0 n)=_;rw [hi]
theorem aBB(n0:List Byt):∀n,(nsI n0 n).length<=n0.length+n
 | 0=>Nat.le_refl _
 | n+1=>by
  have:=aBB n0 n;show(match oF[n]? with | some nm=>b9 (nsI n0 n) nm | none=>nsI n0 n).length<=_;split
  ·rename_i nm _;have:=dE (nsI n0 n) nm;omega
  ·omega
theorem aB3(n0:List Byt):∀n,n0 <+: nsI n0 n
 | 0=>List.prefix_refl _
 | n+1=>by
  show n0 <+: (match oF[n]? with | some nm=>b9 (nsI n0 n) nm | none=>nsI n0 n);split
  ·exact(aB3 n0 n).trans (pL _ _)
  ·exact aB3 n0 n
theorem num_at(w:World)(tb mb i:Nat)(n0:List Byt)(hn0:n0.length<=1000)(nm:Byt)(h:Tab w tb mb (nsI n0 i))(hi:oF[i]?=some nm):Calls prog 123 #[.pointer (some ⟨tb,0,none⟩),.string ⟨nm.toArray⟩] w fun e w'=>e=.returned (.int .i64 ((nsI n0 i).idxOf nm:Nat))/\Tab w' tb mb (nsI n0 (i+1))/\w.grownBy w' (some mb):=by
 have hil:=(List.getElem?_eq_some_iff.1 hi).1
 have hlen:nm.length<=10:=by
  have:∀x∈oF,x.length<=10:=by decide
  exact this nm (List.mem_of_getElem? hi)
 have hl:=aBB n0 i;rw [aAQ] at hil;refine(jE w tb mb (nsI n0 i) nm h (by omega) (by omega)).mono (fun e w' ⟨h1,h2,h3⟩=>⟨h1,?_,h3⟩);rw [aA8 hi];exact h2
structure GI(w:World)(gb:Nat)(n0:List Byt)(n:Nat)(D:DataW Value):Prop where
 own:w.ownsMap prog 3 s9 gb n D
 tidy:Tidy D
 nodup:(nsI n0 n).Nodup
 yes:∀(j:Nat)(nm:Byt),j<n->oF[j]?=some nm->∃k:Nat,(nsI n0 n)[k]?=some nm/\Maps.has D (.int .i64 (k:Int))=true/\∀z,D.atKey (.int .i64 (k:Int)) z=.held (valI j)
 no:∀k:Nat,Maps.has D (.int .i64 (k:Int))=true->∃(j:Nat)(nm:Byt),j<n/\oF[j]?=some nm/\(nsI n0 n)[k]?=some nm
theorem GI.keep{n0:List Byt}{D:DataW Value}(h:GI w gb n0 n D)(hk:w'.heap[gb]?=w.heap[gb]?):GI w' gb n0 n D:=by obtain⟨es,c,hb,r⟩:=h.own;exact⟨⟨es,c,hk.trans hb,r⟩,h.tidy,h.nodup,h.yes,h.no⟩
theorem aCM{ns:List Byt}(h:ns.Nodup)(nm:Byt):(b9 ns nm).Nodup:=by
 unfold b9;split
 ·exact h
 ·rename_i hn;rw [List.nodup_append];refine⟨h,by simp,fun a ha b hb=>?_⟩;rintro rfl;simp at hb;subst hb;exact hn ha
theorem aD3{i j:Nat}{nm:Byt}(hi:oF[i]?=some nm)(hj:oF[j]?=some nm):i=j:=by have h1:=cV kZ hi;have h2:=cV kZ hj;omega
theorem GI.store{n0:List Byt}{D:DataW Value}(hn0:n0.length<=1000)(h:GI w gb n0 n D){nm:Byt}(hi:oF[n]?=some nm):∃w',(Instr.mapUpdate 145 (.map (some gb)) (.int .i64 ((nsI n0 n).idxOf nm:Nat)) (valI n)).run prog w=.ok () w'/\GI w' gb n0 (n+1) (D.put (.int .i64 ((nsI n0 n).idxOf nm:Nat)) (.held (valI n)))/\w.grownBy w' (some gb):=by
 have hn:=(List.getElem?_eq_some_iff.1 hi).1;rw [aAQ] at hn;have hl:=aBB n0 n;have hx:(nsI n0 n).idxOf nm<=(nsI n0 n).length:=List.idxOf_le_length;have hq:((b9 (nsI n0 n) nm))[(nsI n0 n).idxOf nm]?=some nm:=d8 _ _;have hpre:∀{k x},(nsI n0 n)[k]?=some x->(b9 (nsI n0 n) nm)[k]?=some x:=fun hk=>bS (pL _ _) hk;have hnd:=aCM h.nodup nm;have hkl:WideAt.IsKeyLit (.int .i64 ((nsI n0 n).idxOf nm:Nat)):=trivial;obtain⟨w',h1,h2,h3⟩:=h.own.store lawI underlying145 (by unfold maxLen;omega) (keyK (k:=(nsI n0 n).idxOf nm) (by unfold NsTop;omega)) (d:=.held (valI n)) (ps:=[]) (val:=valI n) rfl;refine⟨w',h1,⟨h2,h.tidy.put hkl _,by rw [aA8 hi];exact hnd,fun j x hj hx2=>?_,fun k hk=>?_⟩,h3.grown⟩
 ·rw [aA8 hi];by_cases e:j=n
  ·subst e;obtain rfl:nm=x:=Option.some.inj (hi.symm.trans hx2);exact⟨_,hq,has_put_same h.tidy.isMap hkl _,fun z=>atKey_put_same h.tidy.isMap hkl _ z⟩
  ·obtain⟨k,k1,k2,k3⟩:=h.yes j x (by omega) hx2;have hne:k≠(nsI n0 n).idxOf nm:=fun ek=>by have:=hpre k1;rw [ek,hq] at this;obtain rfl:=Option.some.inj this;exact e (aD3 hx2 hi)
   exact⟨k,hpre k1,by rw [has_put_other (eK hne)];exact k2,fun z=>by rw [atKey_put_other (eK hne)];exact k3 z⟩
 ·rw [aA8 hi];by_cases e:k=(nsI n0 n).idxOf nm
  ·exact⟨n,nm,by omega,hi,by rw [e];exact hq⟩
  ·rw [has_put_other (eK e)] at hk;obtain⟨j,x,k1,k2,k3⟩:=h.no k hk;exact⟨j,x,by omega,k2,hpre k3⟩
def GQ(w:World)(tb mb gb:Nat)(n0:List Byt)(n:Nat)(w':World):Prop:=Tab w' tb mb (nsI n0 n)/\(∃D,GI w' gb n0 n D)/\(∀k,k<w.heap.size->k≠mb->w'.heap[k]?=w.heap[k]?)/\w.heap.size<=w'.heap.size/\w'.os=w.os/\w'.tape=w.tape/\w'.output=w.output/\gb<w'.heap.size/\w.heap.size<=gb
theorem GQ.alloc{tb mb:Nat}{n0:List Byt}(h:GQ w tb mb gb n0 n w')(o:Obj):GQ w tb mb gb n0 n (w'.alloc o):=by obtain⟨h1,⟨D,h2⟩,h3,h4,h5,h6,h7,h8,h9⟩:=h;exact⟨h1.keep (Below.heap_alloc _ _ _ h1.lt.1) (Below.heap_alloc _ _ _ h1.lt.2),⟨D,h2.keep (Below.heap_alloc _ _ _ h8)⟩,fun k hk e=>(Below.heap_alloc _ _ _ (by omega)).trans (h3 k hk e),by simp;omega,h5,h6,h7,by simp;omega,h9⟩
theorem GQ.next{tb mb:Nat}{n0:List Byt}(hn0:n0.length<=1000)(h:GQ w tb mb gb n0 n w'){nm:Byt}(hi:oF[n]?=some nm)(hmb:mb<w.heap.size)(htb:tb<w.heap.size):Calls prog 123 #[.pointer (some ⟨tb,0,none⟩),.string ⟨nm.toArray⟩] w' fun e w2=>∃i:Nat,e=.returned (.int .i64 (i:Int))/\∃w3,(Instr.mapUpdate 145 (.map (some gb)) (.int .i64 (i:Int)) (valI n)).run prog w2=.ok () w3/\GQ w tb mb gb n0 (n+1) w3/\∀k,w.heap.size<=k->k<w'.heap.size->k≠gb->w2.heap[k]?=w'.heap[k]? := by obtain⟨h1,⟨D,h2⟩,h3,h4,h5,h6,h7,h8,h9⟩:=h;refine(num_at w' tb mb n n0 hn0 nm h1 hi).mono (fun e w2 ⟨k1,k2,k3⟩=>⟨_,k1,?_⟩);have hgk:w2.heap[gb]?=w'.heap[gb]? := k3.block gb h8 (fun e=>by have:=Option.some.inj e;omega);obtain⟨w3,j1,j2,j3⟩:=(h2.keep hgk).store hn0 hi;have e1:∀k,k<w2.heap.size->k≠gb->w3.heap[k]?=w2.heap[k]? := fun k hk e=>j3.block k hk (fun x=>e (Option.some.inj x));have e2:∀k,k<w'.heap.size->k≠mb->w2.heap[k]?=w'.heap[k]? := fun k hk e=>k3.block k hk (fun x=>e (Option.some.inj x));have hs2:=k3.size;have hs3:=j3.size;refine⟨w3,j1,⟨k2.keep (e1 tb (k2.lt.1) (by omega)) (e1 mb (k2.lt.2) (by omega)),⟨_,j2⟩,fun k hk e=>?_,by omega,j3.os.trans (k3.os.trans h5),j3.tape.trans (k3.tape.trans h6),j3.output.trans (k3.output.trans h7),by omega,h9⟩,fun k hk1 hk2 _=>e2 k hk2 (by omega)⟩;rw [e1 k (by omega) (by omega),e2 k (by omega) e];exact h3 k hk e
end
end Go.Proofs.YtkgbdddkcjpgfaaGreatDoor
