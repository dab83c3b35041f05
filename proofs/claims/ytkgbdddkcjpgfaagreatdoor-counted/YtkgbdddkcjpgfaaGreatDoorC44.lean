import Derived.Test.YtkgbdddkcjpgfaaGreatDoorC03
import Derived.Test.YtkgbdddkcjpgfaaGreatDoorC14
import Derived.Test.YtkgbdddkcjpgfaaGreatDoorC20
namespace Go.Proofs.YtkgbdddkcjpgfaaGreatDoor
set_option maxHeartbeats 2000000
set_option maxRecDepth 100000
section
namespace Pl
def shV(c:Nat):PV->PV
 | .pair i=>.pair (i+c)
 | v=>v
def shP(c:Nat)(p:PV×PV):PV×PV:=(shV c p.1,shV c p.2)
mutual
def shF(c:Nat):PF->PF
 | .mk k nm d v ks ns=>.mk k nm d (if k=.const then shV c v else v) (if k=.const then ks else shL c ks) ns
def shL(c:Nat):List PF->List PF
 | []=>[]
 | x::r=>shF c x::shL c r
end
theorem shF_mk(c:Nat)(k:FK)(nm:Byt)(d:Tre)(v:PV)(ks:List PF)(ns:List Byt):shF c (.mk k nm d v ks ns)=.mk k nm d (if k=.const then shV c v else v) (if k=.const then ks else shL c ks) ns:=by simp [shF]
theorem shL_nil(c:Nat):shL c []=[]:=by simp [shL]
theorem shL_cons(c:Nat)(x:PF)(r:List PF):shL c (x::r)=shF c x::shL c r:=by simp [shL]
theorem shL_len(c:Nat):∀(l:List PF),(shL c l).length=l.length
 | []=>by rw [shL_nil]
 | x::r=>by rw [shL_cons,List.length_cons,List.length_cons,shL_len c r]
theorem shL_get(c:Nat):∀(l:List PF)(i:Nat)(f:PF),(shL c l)[i]?=some f->∃g,l[i]?=some g/\f=shF c g
 | [],i,f,h=>by rw [shL_nil] at h;simp at h
 | x::r,0,f,h=>by rw [shL_cons] at h;exact⟨x,rfl,(Option.some.inj h).symm⟩
 | x::r,i+1,f,h=>by rw [shL_cons,List.getElem?_cons_succ] at h;obtain⟨g,h1,h2⟩:=shL_get c r i f h;exact⟨g,by simpa using h1,h2⟩
theorem aCC(c:Nat)(f:Nat->Tre->PV×List (PV×PV))(hf:∀b t,f (b+c) t=(shV c (f b t).1,(f b t).2.map (shP c)))(b:Nat):∀(ts:List Tre),madeL f (b+c) ts=(shV c (madeL f b ts).1,(madeL f b ts).2.map (shP c))
 | []=>rfl
 | x::r=>by
  have ih:=aCC c f hf b r;have e:∀b,madeL f b (x::r)=((.pair (b+(madeL f b r).2.length+(f (b+(madeL f b r).2.length) x).2.length)),(madeL f b r).2++(f (b+(madeL f b r).2.length) x).2++[((f (b+(madeL f b r).2.length) x).1,(madeL f b r).1)]):=fun _=>rfl;rw [e,e,ih];dsimp only;rw [List.length_map,show b+c+(madeL f b r).2.length=b+(madeL f b r).2.length+c by omega,hf];dsimp only;rw [List.length_map];refine Prod.ext ?_ ?_
  ·show PV.pair _=PV.pair _
   congr 1
   omega
  ·dsimp only;rw [List.map_append,List.map_append];rfl
theorem aDL(c:Nat):∀(n b:Nat)(t:Tre),made n (b+c) t=(shV c (made n b t).1,(made n b t).2.map (shP c))
 | 0,_,_=>rfl
 | n+1,b,t=>by
  cases t with
  | agg ts=>exact aCC c (made n) (aDL c n) b ts
  | lit x=>cases x<;>rfl
  | _=>rfl
mutual
theorem settle_sh(c:Nat):∀(f:PF)(b:Nat),settle f (b+c)=(shF c (settle f b).1,(settle f b).2.map (shP c))
 | .mk k nm d v ks ns,b=>by
  by_cases hk:k=.const
  ·subst hk;rw [settle_const,settle_const,aDL];dsimp only;rw [shF_mk,if_pos rfl,if_pos rfl]
  ·rw [settle_other _ _ _ _ _ _ _ hk,settle_other _ _ _ _ _ _ _ hk,aBK c ks b];dsimp only;rw [shF_mk,if_neg hk,if_neg hk]
theorem aBK(c:Nat):∀(l:List PF)(b:Nat),settleL l (b+c)=(shL c (settleL l b).1,(settleL l b).2.map (shP c))
 | [],b=>by rw [settleL_nil,settleL_nil,shL_nil];rfl
 | x::r,b=>by rw [settleL_cons,settleL_cons,settle_sh c x b];dsimp only;rw [List.length_map,show b+c+(settle x b).2.length=b+(settle x b).2.length+c by omega,aBK c r,shL_cons,List.map_append]
end
end Pl
namespace Pl
def quoteB:Byt:=[113,117,111,116,101]
def ifB:Byt:=[105,102]
def beginB:Byt:=[98,101,103,105,110]
def setB:Byt:=[115,101,116,33]
def defineB:Byt:=[100,101,102,105,110,101]
def lambdaB:Byt:=[108,97,109,98,100,97]
mutual
def fT(ps:List (PV×PV)):PF->Byt
 | .mk k nm d v ks ns=>match k with
  | .const=>if isQ d then listT [quoteB,text ps v] else text ps v
  | .name=>nm
  | .iff=>listT (ifB::fTL ps ks)
  | .begin=>listT (beginB::fTL ps ks)
  | .call=>listT (fTL ps ks)
  | .set=>listT (setB::nm::fTL ps ks)
  | .define=>listT (defineB::nm::fTL ps ks)
  | .lambda=>listT (lambdaB::listT ns::fTL ps ks)
def fTL(ps:List (PV×PV)):List PF->List Byt
 | []=>[]
 | x::r=>fT ps x::fTL ps r
end
theorem fTL_get(ps:List (PV×PV)):∀(l:List PF)(i:Nat)(f:PF),l[i]?=some f->(fTL ps l)[i]?=some (fT ps f)
 | [],i,f,h=>by simp at h
 | x::r,0,f,h=>by obtain rfl:=Option.some.inj h;simp [fTL]
 | x::r,i+1,f,h=>by have:=fTL_get ps r i f (by simpa using h);simpa [fTL] using this
theorem fTL_len(ps:List (PV×PV)):∀(l:List PF),(fTL ps l).length=l.length
 | []=>by simp [fTL]
 | x::r=>by simp [fTL,fTL_len ps r]
end Pl
end
open Go.Proofs.Tryz
open Pl (Byt)
section
open Go.RowKit Go.Lib
variable {b i n:Nat} {w:World}
def FlPost(w:World)(b:Nat)(l t:Byt)(m:Nat)(e:Ending)(w':World):Prop:=e=.returned (.tuple #[])/\Txs b w w'/\∃l',TxtAt w' b l'/\Pl.Q l' (l++t)/\l'.length<=l.length+m
def Spl(b:Nat)(w0:World)(u:Value)(t:Byt)(m:Nat):Prop:=∀(w:World)(l:Byt),Txs b w0 w->TxtAt w b l->l.length+m<=1000000000->Spells u b w (FlPost w b l t m)
theorem Spl.later{w0 w1:World}{u:Value}{t:Byt}{m:Nat}(h:Spl b w0 u t m)(k:Txs b w0 w1):Spl b w1 u t m:=fun w l h1 h2 h3=>h w l (k.trans h1) h2 h3
def RowSp(b:Nat)(w:World)(sl:Value)(sz n:Nat)(xs:List Value):Prop:=xs.length=n*sz/\∃ao cap,sl=.slice ao n cap/\n<=cap/\(n=0\/∃g off cur T,ao=some ⟨g,off,none⟩/\g≠b/\T≠TBy/\w.heap[g]?=some (.cells cur T (0,0))/\∀(i:Nat)(u:Value),xs[i]?=some u->cur[off+i]?=some u)
theorem RowSp.cell{w':World}{sl:Value}{sz:Nat}{xs:List Value}(h:RowSp b w sl sz n xs)(k:Txs b w w'){u:Value}(hu:xs[i]?=some u):∃g off cap,sl=.slice (some ⟨g,off,none⟩) n cap/\n<=cap/\g<w'.heap.size/\w'.cell? ⟨g,off+i,none⟩=some u:=by
 obtain⟨h0,ao,cap,rfl,hc,h1⟩:=h;rcases h1 with h1 | ⟨g,off,cur,T,rfl,hg,hT,hb,hx⟩
 ·subst h1;have:=(List.getElem?_eq_some_iff.1 hu).1;omega
 ·have hb':=k.kept g _ hb hg (fun c fz e=>hT (by cases e;rfl));exact⟨g,off,cap,rfl,hc,aB hb',(aA hb' _).trans (hx i u hu)⟩
theorem RowSp.slice{sl:Value}{sz:Nat}{xs:List Value}(h:RowSp b w sl sz n xs):∃ao cap,sl=.slice ao n cap/\n<=cap:=by obtain⟨h0,ao,cap,e,hc,_⟩:=h;exact⟨ao,cap,e,hc⟩
theorem Pl.Q.refl'{a b:Byt}(h:a=b):Pl.Q a b:=by rw [h];exact Pl.Q.refl _
def n3(ms:Nat->Nat):Nat->Nat
 | 0=>0
 | i+1=>n3 ms i+(ms i+1)
theorem aBN(ms:Nat->Nat)(n:Nat):n<=n3 ms n:=by
 induction n with
 | zero=>exact Nat.le_refl _
 | succ n ih=>simp only [n3];omega
theorem aA9(ms:Nat->Nat)(h:i<=n):n3 ms i<=n3 ms n:=by
 induction n with
 | zero=>rw [Nat.le_zero.1 h];exact Nat.le_refl _
 | succ n ih =>
  rcases Nat.lt_or_ge i (n+1) with h1 | h1
  ·have:=ih (by omega);simp only [n3];omega
  ·rw [show i=n+1 by omega];exact Nat.le_refl _
structure LsI(w:World)(b:Nat)(l:Byt)(ts:List Byt)(ms:Nat->Nat)(i:Nat)(wr:World)(lk:Byt):Prop where
 txt:TxtAt wr b lk
 txs:Txs b w wr
 q:Pl.Q lk (l++40::Pl.joinB (ts.take i))
 len:lk.length<=l.length+1+n3 ms i
theorem aBR{ts:List Byt}{t:Byt}(h:ts[i]?=some t):ts.take (i+1)=ts.take i++[t]:=by rw [List.take_add_one,h];rfl
theorem LsI.first{wr w2:World}{l lk l2:Byt}{ts:List Byt}{ms:Nat->Nat}{t:Byt}(h:LsI w b l ts ms 0 wr lk)(ht:ts[0]?=some t)(k1:TxtAt w2 b l2)(k2:Txs b wr w2)(k3:Pl.Q l2 (lk++t))(k4:l2.length<=lk.length+ms 0):LsI w b l ts ms 1 w2 l2:=by refine⟨k1,h.txs.trans k2,k3.trans ((h.q.app t).trans (Pl.Q.refl' ?_)),by have:=h.len;simp only [n3] at this ⊢;omega⟩;rw [aBR ht];simp [Pl.joinB]
theorem take_ne{ts:List Byt}(hi:i≠0)(hl:i<ts.length):ts.take i≠[]:=fun e=>by
 have h2:(ts.take i).length=0:=by rw [e];rfl
 rw [List.length_take] at h2;omega
theorem LsI.next{wr w1 w2:World}{l lk l2:Byt}{ts:List Byt}{ms:Nat->Nat}{t:Byt}(h:LsI w b l ts ms i wr lk)(hi:i≠0)(ht:ts[i]?=some t)(k0:Txs b wr w1)(k1:TxtAt w2 b l2)(k2:Txs b w1 w2)(k3:Pl.Q l2 ((lk++[32])++t))(k4:l2.length<=(lk++[32]).length+ms i):LsI w b l ts ms (i+1) w2 l2:=by
 have hl:=(List.getElem?_eq_some_iff.1 ht).1;refine⟨k1,(h.txs.trans k0).trans k2,k3.trans (((h.q.app [32]).app t).trans (Pl.Q.refl' ?_)),?_⟩
 ·rw [aBR ht,Pl.joinB_snoc _ _ (take_ne hi hl)];simp
 ·have:=h.len;simp only [List.length_append,List.length_cons,List.length_nil] at k4;simp only [n3];omega
theorem aB1(w:World)(b:Nat)(l:Byt)(sl:Value)(us:List Value)(ts:List Byt)(ms:Nat->Nat)(ht:TxtAt w b l)(hr:RowSp b w sl 1 us.length us)(hlen:ts.length=us.length)(hsp:∀(i:Nat)(u:Value)(t:Byt),us[i]?=some u->ts[i]?=some t->Spl b w u t (ms i))(hb:l.length+2+n3 ms us.length<=1000000000) :Calls prog 338 #[.pointer (some ⟨b,0,none⟩),sl] w fun e w'=>FlPost w b l (Pl.listT ts) (2+n3 ms us.length) e w':=by
 have HT:Hid (TxtAt w b l):=ht;have HR:Hid (RowSp b w sl 1 us.length us):=hr;have HS:Hid (∀(i:Nat)(u:Value)(t:Byt),us[i]?=some u->ts[i]?=some t->Spl b w u t (ms i)):=hsp;have HB:Hid (l.length+2+n3 ms us.length<=1000000000):=hb;have HE:Hid (ts.length=us.length):=hlen;have hn9:us.length<=1000000000:=Nat.le_trans (aBN ms _) (by omega);obtain⟨ao,cap,rfl,hcap⟩:=hr.slice;clear ht hr hsp hb hlen;go_enter func338,ntmps338
 go_upto_region 1 with(go_at_call 335;refine(jI _ b l _ HT.out (by have:=HB.out;show l.length+1<=_;omega)).mono ?_;rintro e w1 ⟨rfl,ht1,hB1⟩)
 have H1:Hid (LsI w b l ts ms 0 w1 (l++[40])):=⟨ht1,hB1,Pl.Q.refl _,by simp⟩
 clear ht1 hB1;go_wp2_with fail
 go_loopw [10] (fun iv wr=>∃(i:Nat)(lk:Byt),iv=.int .i64 (i:Int)/\i<=us.length/\Hid (LsI w b l ts ms i wr lk)) (fun iv _=>us.length-(RowKit.intOf iv).toNat)
 case atStart=>exact⟨0,_,rfl,Nat.zero_le _,H1⟩
 case round =>
  obtain⟨i,lk,rfl,hi,HI⟩:=hrel;clear H1;by_cases hlt:i<us.length
  ·obtain⟨u,hu⟩:∃u,us[i]?=some u:=⟨_,List.getElem?_eq_getElem hlt⟩
   obtain⟨t,htt⟩:∃t,ts[i]?=some t:=⟨_,List.getElem?_eq_getElem (by have:=HE.out;omega)⟩
   obtain⟨g,off,cap',e',_,hg,c0⟩:=HR.out.cell HI.out.txs hu;simp only [Value.slice.injEq,true_and] at e';obtain⟨rfl,rfl⟩:=e';have hmul:n3 ms i+(ms i+1)<=n3 ms us.length:=aA9 ms (i:=i+1) hlt;have HM:Hid (lk.length+1+ms i<=1000000000/\ts[i]?=some t):=⟨by have:=HI.out.len;have:=HB.out;omega,htt⟩
   have hspl:=(HS.out i u t hu htt).later HI.out.txs;have HP:Hid (Spl b wr u t (ms i)):=hspl;obtain⟨T,x,rfl⟩:∃T x,u=.iface T x:=by obtain⟨T,x,_,_,e,_⟩:=hspl wr lk (Txs.refl _ _) HI.out.txt (by have:=HM.out.1;omega);exact⟨T,x,e⟩
   have hlt2:(i:Int)<(us.length:Int):=by omega
   clear hu htt hmul hspl;by_cases h0:i=0
   ·have HZ:Hid (i=0):=h0;have hgt:¬(0:Int)<(i:Int):=by omega
    clear h0;obtain⟨T1,x1,f,xr,e1,hmet,hent,hcall⟩:=HP.out wr lk (Txs.refl _ _) HI.out.txt (by have:=HM.out.1;omega);simp only [Value.iface.injEq] at e1;obtain⟨rfl,rfl⟩:=e1;unfold Enters at hent;have HC:Hid (Calls prog f #[xr,.pointer (some ⟨b,0,none⟩)] wr (FlPost wr b lk t (ms i))):=hcall;clear hcall;go_wp2_with (refine Calls.mono HC.out ?_;rintro e w2 ⟨rfl,hB2,l2,ht2,hQ2,hl2⟩)
    go_roundw
    case rel=>exact⟨i+1,l2,by go_num,by omega,by have hz:=HZ.out;subst hz;exact HI.out.first HM.out.2 ht2 hB2 hQ2 hl2⟩
    case measure=>simp [RowKit.intOf];omega
   ·have hgt:(0:Int)<(i:Int):=by omega
    go_upto_region 6 with(go_at_call 335;refine(jI _ b lk _ HI.out.txt (by have:=HM.out.1;show lk.length+1<=_;omega)).mono ?_;rintro e w2 ⟨rfl,ht2,hB2⟩)
    obtain⟨T1,x1,f,xr,e1,hmet,hent,hcall⟩:=HP.out w2 _ hB2 ht2 (by have:=HM.out.1;show(lk++([32]:List UInt8)).length+ms i<=_;simp;omega);simp only [Value.iface.injEq] at e1;obtain⟨rfl,rfl⟩:=e1;unfold Enters at hent;have HC:Hid (Calls prog f #[xr,.pointer (some ⟨b,0,none⟩)] w2 (FlPost w2 b (lk++[32]) t (ms i))):=hcall;have HB2:Hid (Txs b wr w2):=hB2;clear hcall ht2 hB2;go_wp2_with (refine Calls.mono HC.out ?_;rintro e w3 ⟨rfl,hB3,l3,ht3,hQ3,hl3⟩)
    go_roundw
    case rel=>exact⟨i+1,l3,by go_num,by omega,HI.out.next h0 HM.out.2 HB2.out ht3 hB3 hQ3 hl3⟩
    case measure=>simp [RowKit.intOf];omega
  ·obtain rfl:i=us.length:=by omega
   have HN:Hid (lk.length+1<=140000000000000):=show lk.length+1<=_ from by have:=HI.out.len;have:=HB.out;omega
   go_wp2_with (go_at_call 335;refine(jI _ b lk _ HI.out.txt (by have:=HN.out;show lk.length+1<=_;exact this)).mono ?_;rintro e w2 ⟨rfl,ht2,hB2⟩)
   go_end0
   refine⟨rfl,HI.out.txs.trans hB2,_,ht2,?_,?_⟩
   ·have h1:=HI.out.q.app [41];rw [<- HE.out,List.take_length] at h1;refine Pl.Q.trans (Pl.Q.refl' rfl) (h1.trans (Pl.Q.refl' ?_));simp [Pl.listT]
   ·have:=HI.out.len;show(lk++([41]:List UInt8)).length<=_;simp only [List.length_append,List.length_cons,List.length_nil];omega
theorem p_listS(w:World)(b:Nat)(l:Byt)(sl:Value)(us:List Value)(ts:List Byt)(ms:Nat->Nat)(ht:TxtAt w b l)(hr:RowSp b w sl 1 us.length us)(hlen:ts.length=us.length)(hsp:∀(i:Nat)(u:Value)(t:Byt),us[i]?=some u->ts[i]?=some t->Spl b w u t (ms i))(hb:l.length+2+n3 ms us.length<=1000000000) :Calls prog 342 #[.pointer (some ⟨b,0,none⟩),sl] w fun e w'=>FlPost w b l (Pl.listT ts) (2+n3 ms us.length) e w':=by
 have HT:Hid (TxtAt w b l):=ht;have HR:Hid (RowSp b w sl 1 us.length us):=hr;have HS:Hid (∀(i:Nat)(u:Value)(t:Byt),us[i]?=some u->ts[i]?=some t->Spl b w u t (ms i)):=hsp;have HB:Hid (l.length+2+n3 ms us.length<=1000000000):=hb;have HE:Hid (ts.length=us.length):=hlen;have hn9:us.length<=1000000000:=Nat.le_trans (aBN ms _) (by omega);obtain⟨ao,cap,rfl,hcap⟩:=hr.slice;clear ht hr hsp hb hlen;go_enter func342,ntmps342
 go_upto_region 1 with(go_at_call 335;refine(jI _ b l _ HT.out (by have:=HB.out;show l.length+1<=_;omega)).mono ?_;rintro e w1 ⟨rfl,ht1,hB1⟩)
 have H1:Hid (LsI w b l ts ms 0 w1 (l++[40])):=⟨ht1,hB1,Pl.Q.refl _,by simp⟩
 clear ht1 hB1;go_wp2_with fail
 go_loopw [10] (fun iv wr=>∃(i:Nat)(lk:Byt),iv=.int .i64 (i:Int)/\i<=us.length/\Hid (LsI w b l ts ms i wr lk)) (fun iv _=>us.length-(RowKit.intOf iv).toNat)
 case atStart=>exact⟨0,_,rfl,Nat.zero_le _,H1⟩
 case round =>
  obtain⟨i,lk,rfl,hi,HI⟩:=hrel;clear H1;by_cases hlt:i<us.length
  ·obtain⟨u,hu⟩:∃u,us[i]?=some u:=⟨_,List.getElem?_eq_getElem hlt⟩
   obtain⟨t,htt⟩:∃t,ts[i]?=some t:=⟨_,List.getElem?_eq_getElem (by have:=HE.out;omega)⟩
   obtain⟨g,off,cap',e',_,hg,c0⟩:=HR.out.cell HI.out.txs hu;simp only [Value.slice.injEq,true_and] at e';obtain⟨rfl,rfl⟩:=e';have hmul:n3 ms i+(ms i+1)<=n3 ms us.length:=aA9 ms (i:=i+1) hlt;have HM:Hid (lk.length+1+ms i<=1000000000/\ts[i]?=some t):=⟨by have:=HI.out.len;have:=HB.out;omega,htt⟩
   have hspl:=(HS.out i u t hu htt).later HI.out.txs;have HP:Hid (Spl b wr u t (ms i)):=hspl;obtain⟨T,x,rfl⟩:∃T x,u=.iface T x:=by obtain⟨T,x,_,_,e,_⟩:=hspl wr lk (Txs.refl _ _) HI.out.txt (by have:=HM.out.1;omega);exact⟨T,x,e⟩
   have hlt2:(i:Int)<(us.length:Int):=by omega
   clear hu htt hmul hspl;by_cases h0:i=0
   ·have HZ:Hid (i=0):=h0;have hgt:¬(0:Int)<(i:Int):=by omega
    clear h0;obtain⟨T1,x1,f,xr,e1,hmet,hent,hcall⟩:=HP.out wr lk (Txs.refl _ _) HI.out.txt (by have:=HM.out.1;omega);simp only [Value.iface.injEq] at e1;obtain⟨rfl,rfl⟩:=e1;unfold Enters at hent;have HC:Hid (Calls prog f #[xr,.pointer (some ⟨b,0,none⟩)] wr (FlPost wr b lk t (ms i))):=hcall;clear hcall;go_wp2_with (refine Calls.mono HC.out ?_;rintro e w2 ⟨rfl,hB2,l2,ht2,hQ2,hl2⟩)
    go_roundw
    case rel=>exact⟨i+1,l2,by go_num,by omega,by have hz:=HZ.out;subst hz;exact HI.out.first HM.out.2 ht2 hB2 hQ2 hl2⟩
    case measure=>simp [RowKit.intOf];omega
   ·have hgt:(0:Int)<(i:Int):=by omega
    go_upto_region 6 with(go_at_call 335;refine(jI _ b lk _ HI.out.txt (by have:=HM.out.1;show lk.length+1<=_;omega)).mono ?_;rintro e w2 ⟨rfl,ht2,hB2⟩)
    obtain⟨T1,x1,f,xr,e1,hmet,hent,hcall⟩:=HP.out w2 _ hB2 ht2 (by have:=HM.out.1;show(lk++([32]:List UInt8)).length+ms i<=_;simp;omega);simp only [Value.iface.injEq] at e1;obtain⟨rfl,rfl⟩:=e1;unfold Enters at hent;have HC:Hid (Calls prog f #[xr,.pointer (some ⟨b,0,none⟩)] w2 (FlPost w2 b (lk++[32]) t (ms i))):=hcall;have HB2:Hid (Txs b wr w2):=hB2;clear hcall ht2 hB2;go_wp2_with (refine Calls.mono HC.out ?_;rintro e w3 ⟨rfl,hB3,l3,ht3,hQ3,hl3⟩)
    go_roundw
    case rel=>exact⟨i+1,l3,by go_num,by omega,HI.out.next h0 HM.out.2 HB2.out ht3 hB3 hQ3 hl3⟩
    case measure=>simp [RowKit.intOf];omega
  ·obtain rfl:i=us.length:=by omega
   have HN:Hid (lk.length+1<=140000000000000):=show lk.length+1<=_ from by have:=HI.out.len;have:=HB.out;omega
   go_wp2_with (go_at_call 335;refine(jI _ b lk _ HI.out.txt (by have:=HN.out;show lk.length+1<=_;exact this)).mono ?_;rintro e w2 ⟨rfl,ht2,hB2⟩)
   go_end0
   refine⟨rfl,HI.out.txs.trans hB2,_,ht2,?_,?_⟩
   ·have h1:=HI.out.q.app [41];rw [<- HE.out,List.take_length] at h1;refine Pl.Q.trans (Pl.Q.refl' rfl) (h1.trans (Pl.Q.refl' ?_));simp [Pl.listT]
   ·have:=HI.out.len;show(lk++([41]:List UInt8)).length<=_;simp only [List.length_append,List.length_cons,List.length_nil];omega
theorem aA3(w:World)(s:ByteArray):Calls prog 339 #[.string s] w fun e w'=>e=.returned (.agg #[.string s,.int .i64 0])/\Below w.heap.size w w':=by
 go_enter func339,ntmps339
 go_wp2_with fail
 (try simp only [Exit.inBlock,Exit.then])
 refine bodyPost_ret (v:=.agg #[.string s,.int .i64 0]) ?_ rfl ?_
 ·rw [aO rfl]
  go_simp
  try rfl
 exact⟨rfl,(Below.refl _ _).alloc (Nat.le_refl _) _⟩
theorem aB9(w:World)(b:Nat)(l:Byt)(x:Byt)(k:Int)(h:TxtAt w b l)(hl:l.length+300<=1000000000)(hx:x.length<=300):Calls prog 333 #[.agg #[.string ⟨x.toArray⟩,.int .i64 k],.pointer (some ⟨b,0,none⟩)] w fun e w'=>FlPost w b l x 300 e w':=by
 have HT:Hid (TxtAt w b l):=h;have HL:Hid (l.length+x.toArray.size<=140000000000000):=show _ from by show l.length+_<=_;simp;omega
 have HX:Hid (x.length<=300):=hx;clear h hl hx;go_enter func333,ntmps333;go_wp2_with (go_at_call 335;refine(jI _ b l _ (HT.out.alloc _) (by have:=HL.out;exact this)).mono ?_;rintro e w1 ⟨rfl,ht1,hB1⟩)
 go_end0
 exact⟨rfl,(f6 w b _ (Nat.le_of_lt HT.out.lt)).trans hB1,_,ht1,Pl.Q.refl _,by have:=HX.out;show(l++x).length<=_;rw [List.length_append];omega⟩
theorem Tryz.sp_Nm(s:ByteArray)(k:Int)(w:World):(Go.method 638 214 (.agg #[.string s,.int .i64 k]) "Spell").run prog w=.ok (333,.agg #[.string s,.int .i64 k]) w:=by kernel_rfl
theorem Tryz.ent_Nm:Enters 333:=enters_of func333 (by kernel_rfl) rfl
theorem aA0(b:Nat)(w:World)(x:Byt)(k:Int)(hx:x.length<=300):Spl b w (.iface 214 (.agg #[.string ⟨x.toArray⟩,.int .i64 k])) x 300:=fun w1 l _ h2 h3 =>⟨_,_,_,_,rfl,Tryz.sp_Nm _ _ w1,Tryz.ent_Nm,aB9 w1 b l x k h2 h3 hx⟩
theorem aCB:∀(ns:List Byt)(ks:List Nat)(i:Nat)(x:Byt),ns.length=ks.length->ns[i]?=some x->∃k:Nat,(d7 ns ks)[i*2]?=some (.string ⟨x.toArray⟩)/\(d7 ns ks)[i*2+1]?=some (.int .i64 (k:Int))
 | [],_,_,_,_,h=>by simp at h
 | _::_,[],_,_,hl,_=>by simp at hl
 | y::ns,k::ks,0,x,_,h=>by obtain rfl:=Option.some.inj h;exact⟨k,rfl,rfl⟩
 | y::ns,k::ks,i+1,x,hl,h=>by
  obtain⟨k',h1,h2⟩:=aCB ns ks i x (by simpa using hl) (by simpa using h);refine⟨k',?_,?_⟩
  ·rw [show(i+1)*2=i*2+2 by omega];exact h1
  ·rw [show(i+1)*2+1=(i*2+1)+2 by omega];exact h2
theorem p_listN(w:World)(b:Nat)(l:Byt)(sl:Value)(ns:List Byt)(ks:List Nat)(ht:TxtAt w b l)(hr:RowSp b w sl 2 ns.length (d7 ns ks))(hlen:ns.length=ks.length)(hx:∀x∈ns,x.length<=300)(hb:l.length+2+n3 (fun _=>300) ns.length<=1000000000) :Calls prog 407 #[.pointer (some ⟨b,0,none⟩),sl] w fun e w'=>FlPost w b l (Pl.listT ns) (2+n3 (fun _=>300) ns.length) e w':=by
 have HT:Hid (TxtAt w b l):=ht;have HR:Hid (RowSp b w sl 2 ns.length (d7 ns ks)):=hr;have HS:Hid (∀x∈ns,x.length<=300):=hx;have HB:Hid (l.length+2+n3 (fun _=>300) ns.length<=1000000000):=hb;have HE:Hid (ns.length=ks.length):=hlen;have hn9:ns.length<=1000000000:=Nat.le_trans (aBN (fun _=>300) _) (by omega);obtain⟨ao,cap,rfl,hcap⟩:=hr.slice;clear ht hr hx hb hlen;go_enter func407,ntmps407
 go_upto_region 1 with(go_at_call 335;refine(jI _ b l _ HT.out (by have:=HB.out;show l.length+1<=_;omega)).mono ?_;rintro e w1 ⟨rfl,ht1,hB1⟩)
 have H1:Hid (LsI w b l ns (fun _=>300) 0 w1 (l++[40])):=⟨ht1,hB1,Pl.Q.refl _,by simp⟩
 clear ht1 hB1;go_wp2_with fail
 go_loopw [10] (fun iv wr=>∃(i:Nat)(lk:Byt),iv=.int .i64 (i:Int)/\i<=ns.length/\Hid (LsI w b l ns (fun _=>300) i wr lk)) (fun iv _=>ns.length-(RowKit.intOf iv).toNat)
 case atStart=>exact⟨0,_,rfl,Nat.zero_le _,H1⟩
 case round =>
  obtain⟨i,lk,rfl,hi,HI⟩:=hrel;clear H1;by_cases hlt:i<ns.length
  ·obtain⟨x,hxx⟩:∃x,ns[i]?=some x:=⟨_,List.getElem?_eq_getElem hlt⟩
   obtain⟨k,hk0,hk1⟩:=aCB ns ks i x HE.out hxx;obtain⟨g,off,cap',e',_,hg,c0⟩:=HR.out.cell HI.out.txs hk0;obtain⟨g2,off2,cap2,e2,_,_,c1⟩:=HR.out.cell HI.out.txs hk1;simp only [Value.slice.injEq,true_and] at e' e2;obtain⟨rfl,rfl⟩:=e';simp only [Option.some.injEq,Addr.mk.injEq,and_true] at e2;obtain⟨⟨rfl,rfl⟩,rfl⟩:=e2;rw [<- Nat.add_assoc] at c1;have HM:Hid (lk.length+1+300<=1000000000/\ns[i]?=some x):=⟨by have:=HI.out.len;have:=HB.out;have:n3 (fun _=>300) i+(300+1)<=n3 (fun _=>300) ns.length:=aA9 (fun _=>300) (i:=i+1) hlt;omega,hxx⟩
   have HXl:Hid (x.length<=300):=HS.out x (List.mem_of_getElem? hxx);have hbw:=HI.out.txt.lt;have hlt2:(i:Int)<(ns.length:Int):=by omega
   clear hk0 hk1 hxx;by_cases h0:i=0
   ·have HZ:Hid (i=0):=h0;have hgt:¬(0:Int)<(i:Int):=by omega
    have hmet:=Tryz.sp_Nm ⟨x.toArray⟩ k;have hent:=Tryz.ent_Nm;unfold Enters at hent;have HC:=(show Hid (∀o:Obj,Calls prog 333 #[.agg #[.string ⟨x.toArray⟩,.int .i64 k],.pointer (some ⟨b,0,none⟩)] (wr.alloc o) (FlPost (wr.alloc o) b lk x 300)) from fun o=>aB9 _ b lk x k (HI.out.txt.alloc o) (by have:=HM.out.1;omega) HXl.out)
    clear h0;go_wp2_with (refine Calls.mono (HC.out _) ?_;rintro e w2 ⟨rfl,hB2,l2,ht2,hQ2,hl2⟩)
    go_roundw
    case rel=>exact⟨i+1,l2,by go_num,by omega,by have hz:=HZ.out;subst hz;exact HI.out.first HM.out.2 ht2 ((f6 wr b _ (Nat.le_of_lt hbw)).trans hB2) hQ2 hl2⟩
    case measure=>simp [RowKit.intOf];omega
   ·have hgt:(0:Int)<(i:Int):=by omega
    have HA:Hid (∀o:Obj,TxtAt (wr.alloc o) b lk):=fun o=>HI.out.txt.alloc o
    go_upto_region 6 with(go_at_call 335;refine(jI _ b lk _ (HA.out _) (by have:=HM.out.1;show lk.length+1<=_;omega)).mono ?_;rintro e w2 ⟨rfl,ht2,hB2⟩)
    have hbl:=hB2.kept wr.heap.size _ (heap_alloc_new wr _) (by omega) (fun c fz e=>by cases e);have d0:w2.cell? ⟨wr.heap.size,0,none⟩=some (.string ⟨x.toArray⟩):=aA hbl 0;have d1:w2.cell? ⟨wr.heap.size,1,none⟩=some (.int .i64 (k:Int)):=aA hbl 1;have hmet:=Tryz.sp_Nm ⟨x.toArray⟩ k;have hent:=Tryz.ent_Nm;unfold Enters at hent;have HC:Hid (Calls prog 333 #[.agg #[.string ⟨x.toArray⟩,.int .i64 k],.pointer (some ⟨b,0,none⟩)] w2 (FlPost w2 b (lk++[32]) x 300)):=aB9 _ b _ x k ht2 (by have:=HM.out.1;show(lk++([32]:List UInt8)).length+300<=_;simp;omega) HXl.out;have HB2:Hid (Txs b wr w2):=(f6 wr b _ (Nat.le_of_lt hbw)).trans hB2;clear ht2 hB2 hbl;go_wp2_with (refine Calls.mono HC.out ?_;rintro e w3 ⟨rfl,hB3,l3,ht3,hQ3,hl3⟩)
    go_roundw
    case rel=>exact⟨i+1,l3,by go_num,by omega,HI.out.next h0 HM.out.2 HB2.out ht3 hB3 hQ3 hl3⟩
    case measure=>simp [RowKit.intOf];omega
  ·obtain rfl:i=ns.length:=by omega
   have HN:Hid (lk.length+1<=140000000000000):=show lk.length+1<=_ from by have:=HI.out.len;have:=HB.out;omega
   go_wp2_with (go_at_call 335;refine(jI _ b lk _ HI.out.txt (by have:=HN.out;show lk.length+1<=_;exact this)).mono ?_;rintro e w2 ⟨rfl,ht2,hB2⟩)
   go_end0
   refine⟨rfl,HI.out.txs.trans hB2,_,ht2,?_,?_⟩
   ·have h1:=HI.out.q.app [41];rw [List.take_length] at h1;refine Pl.Q.trans (Pl.Q.refl' rfl) (h1.trans (Pl.Q.refl' ?_));simp [Pl.listT]
   ·have:=HI.out.len;show(lk++([41]:List UInt8)).length<=_;simp only [List.length_append,List.length_cons,List.length_nil];omega
theorem p_spRow(w:World)(b:Nat)(l:Byt)(sl:Value)(ns:List Byt)(ks:List Nat)(ht:TxtAt w b l)(hr:RowSp b w sl 2 ns.length (d7 ns ks))(hlen:ns.length=ks.length)(hx:∀x∈ns,x.length<=300)(hb:l.length+2+n3 (fun _=>300) ns.length<=1000000000) :Calls prog 406 #[sl,.pointer (some ⟨b,0,none⟩)] w fun e w'=>FlPost w b l (Pl.listT ns) (2+n3 (fun _=>300) ns.length) e w':=by
 have HC:Hid (Calls prog 407 #[.pointer (some ⟨b,0,none⟩),sl] w fun e w'=>FlPost w b l (Pl.listT ns) (2+n3 (fun _=>300) ns.length) e w'):=p_listN w b l sl ns ks ht hr hlen hx hb;obtain⟨ao,cap,rfl,hcap⟩:=hr.slice;clear ht hr hlen hx hb;go_enter func406,ntmps406;go_wp2_with (go_at_call 407;refine Calls.mono HC.out ?_;rintro e w1 ⟨rfl,h1,h2⟩)
 go_end0
 exact⟨rfl,h1,h2⟩
end
section
namespace Pl
def line(W:PW)(S:PS):Nat×Byt×Nat:=match S.form with
 | some f=>(1,cut (fT W.pairs f),S.frames.length)
 | none=>(2,cut (text W.pairs S.val),S.frames.length)
def trace:Nat->PW->PS->List (Nat×Byt×Nat)
 | 0,_,_=>[]
 | n+1,W,S=>line W S::(if S.ended then [] else if(step W S).e=0 then trace n (step W S).W (step W S).S else [])
theorem trace_len:∀(n:Nat)(W:PW)(S:PS),(trace n W S).length<=n
 | 0,_,_=>Nat.le_refl _
 | n+1,W,S=>by
  unfold trace;rw [List.length_cons];split
  ·simp
  ·split
   ·have:=trace_len n (step W S).W (step W S).S;omega
   ·simp
theorem aCD{W:PW}{S:PS}(h1:(line W S).1=2)(h2:(line W S).2.2=0):S.ended=true/\(line W S).2.1=cut (text W.pairs S.val):=by
 unfold line at *
 cases hf:S.form with
 | some f=>rw [hf] at h1;cases h1
 | none =>rw [hf] at h2;have h3:S.frames=[]:=List.eq_nil_of_length_eq_zero h2;refine⟨?_,rfl⟩;unfold PS.ended;rw [hf,h3];rfl
theorem aBI:∀(N:Nat)(W:PW)(S:PS)(x:Nat×Byt×Nat),(trace N W S).length<N->(trace N W S).getLast? = some x->x.1=2->x.2.2=0->∃m,(trace N W S).length=m+1/\(goOn m W S).e=0/\x.2.1=cut (text (goOn m W S).W.pairs (goOn m W S).S.val)/\∀j,j<m->(goOn j W S).e=7
 | 0,_,_,_,h,_,_,_=>by omega
 | N+1,W,S,x,h,hx,h1,h2=>by
  by_cases he:S.ended=true
  ·have e:trace (N+1) W S=[line W S]:=by unfold trace;rw [if_pos he]
   rw [e] at hx ⊢;obtain rfl:line W S=x:=by simpa using hx
   have hg:goOn 0 W S=⟨0,W,S⟩:=by unfold goOn;rw [if_pos he]
   exact⟨0,rfl,by rw [hg],by rw [hg];exact(aCD h1 h2).2,fun j hj=>by omega⟩
  ·by_cases h0:(step W S).e=0
   ·have e:trace (N+1) W S=line W S::trace N (step W S).W (step W S).S:=by
     show line W S::(if S.ended then [] else if(step W S).e=0 then trace N (step W S).W (step W S).S else [])=_;rw [if_neg he,if_pos h0]
    rw [e] at h hx ⊢;rw [List.length_cons] at h
    have hne:trace N (step W S).W (step W S).S≠[]:=by
     cases N with
     | zero=>omega
     | succ N=>simp [trace]
    rw [List.getLast?_cons_of_ne_nil hne] at hx;obtain⟨m,k1,k2,k3,k4⟩:=aBI N (step W S).W (step W S).S x (by omega) hx h1 h2;have hg:∀j,goOn (j+1) W S=goOn j (step W S).W (step W S).S:=fun j=>by show(if S.ended then _ else _)=_;rw [if_neg he];show(if(step W S).e=0 then _ else _)=_;rw [if_pos h0]
    refine⟨m+1,by rw [List.length_cons,k1],by rw [hg];exact k2,by rw [hg];exact k3,fun j hj=>?_⟩
    cases j with
    | zero =>show(if S.ended then(⟨0,W,S⟩:SR) else⟨7,W,S⟩).e=7;rw [if_neg he]
    | succ j=>rw [hg];exact k4 j (by omega)
   ·exfalso;have e:trace (N+1) W S=[line W S]:=by show line W S::(if S.ended then [] else if(step W S).e=0 then trace N (step W S).W (step W S).S else [])=_;rw [if_neg he,if_neg h0]
    rw [e] at hx;obtain rfl:line W S=x:=by simpa using hx
    exact he (aCD h1 h2).1
end Pl
namespace Pl
def traceR(W:PW)(t:Byt)(n:Int):Nat×List (Nat×Byt×Nat) :=
 if over n then(6,[])
 else if check t≠0 then(check t,[])
 else match readF t with
  | some f=>(0,trace n.toNat (beganW W f) (beganS W f))
  | none=>(5,[])
end Pl
namespace Pl
theorem traceR_no{W:PW}{t:Byt}{n:Int}(ho:over n=false)(hc:check t≠0):traceR W t n=(check t,[]):=by unfold traceR;rw [if_neg (by simp [ho]),if_pos hc]
theorem traceR_ok{W:PW}{t:Byt}{n:Int}{f:PF}(ho:over n=false)(hc:check t=0)(hf:readF t=some f):traceR W t n=(0,trace n.toNat (beganW W f) (beganS W f)):=by unfold traceR;rw [if_neg (by simp [ho]),if_neg (by simp [hc]),hf]
theorem trace_first(W:PW)(f:PF)(n:Nat):∃t r,trace (n+1) (beganW W f) (beganS W f)=(1,t,0)::r:=⟨_,_,rfl⟩
theorem aBE{W:PW}{t:Byt}{f:PF}(hc:check t=0)(hf:readF t=some f){k:Nat}(hk:k<=1000000):(answer W (t,(k:Int))).2=told (goOn k (beganW W f) (beganS W f)):=by
 have ho:over (k:Int)=false:=by unfold over;simp;omega
 unfold answer;dsimp only;rw [if_neg (by simp [ho]),if_neg (by simp [hc]),hf];rfl
theorem counted_end{W:PW}{t:Byt}{f:PF}(hc:check t=0)(hf:readF t=some f){x:Nat×Byt×Nat}(hl:(trace 2000 (beganW W f) (beganS W f)).length<2000)(hx:(trace 2000 (beganW W f) (beganS W f)).getLast? = some x)(h1:x.1=2)(h2:x.2.2=0) :∃m,(trace 2000 (beganW W f) (beganS W f)).length=m+2/\(answer W (t,((m+1:Nat):Int))).2.code=0/\(answer W (t,((m+1:Nat):Int))).2.val=x.2.1/\(answer W (t,(m:Int))).2.code=7:=by
 obtain⟨m,k1,k2,k3,k4⟩:=aBI 2000 (beganW W f) (beganS W f) x hl hx h1 h2;obtain⟨t0,r,e⟩:=trace_first W f 1999
 cases m with
 | zero =>
  exfalso;rw [e] at k1 hx;obtain rfl:r=[]:=List.eq_nil_of_length_eq_zero (by simpa using k1);obtain rfl:(1,t0,0)=x:=by simpa using hx
  cases h1
 | succ m =>
  refine⟨m,k1,?_,?_,?_⟩
  ·rw [aBE hc hf (by omega)];exact k2
  ·rw [aBE hc hf (by omega),k3];unfold told;rw [if_pos k2]
  ·rw [aBE hc hf (by omega)];exact k4 m (by omega)
end Pl
end
end Go.Proofs.YtkgbdddkcjpgfaaGreatDoor
