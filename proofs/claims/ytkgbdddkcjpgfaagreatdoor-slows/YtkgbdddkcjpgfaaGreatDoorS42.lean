import Derived.Test.YtkgbdddkcjpgfaaGreatDoorS32
import Derived.Test.YtkgbdddkcjpgfaaGreatDoorS41
import Derived.Test.YtkgbdddkcjpgfaaGreatDoorS40
namespace Go.Proofs.YtkgbdddkcjpgfaaGreatDoor
set_option maxHeartbeats 2000000
set_option maxRecDepth 100000
open Go.Proofs.Tryz
open Pl (PV PW PF Byt FK)
section
open Go.RowKit
variable {w w0 a:World} {lo hi wb b n:Nat} {c:Array Value} {pv qv cv lv gv:Value} {qs cs:List Value}
theorem mE{ok:Nat->Prop}:∀(n m:Nat)(v:Value)(t:Tr),RepR ok n w v t->cL n t->cL m t
 | 0,_,_,_,h,_=>h.elim
 | _+1,0,_,_,_,_=>trivial
 | n+1,m+1,v,t,h,hl=>by
  cases t with
  | agg ts =>intro x hx;obtain⟨b,_,_,kids,vs,_,_,h5,h6,_⟩:=h;obtain⟨i,hi⟩:=List.mem_iff_getElem?.1 hx;have hvl:vs.length=ts.length:=h5.1.trans (Nat.mul_one _);have hlt:=(List.getElem?_eq_some_iff.1 hi).1;exact mE n m _ x (h6 i vs[i] x (List.getElem?_eq_getElem (by omega)) hi) (hl x hx)
  | lit x=>cases x<;>first | trivial | exact hl
  | _=>trivial
def KeepS(lo hi:Nat)(w w':World):Prop:=∀(k:Nat)(cur:Array Value)(e:TypeId),imT e->(e=TFo->k<lo\/hi<=k)->w.heap[k]?=some (.cells cur e (0,0))->w'.heap[k]?=some (.cells cur e (0,0))
theorem KeepS.refl(lo hi:Nat)(w:World):KeepS lo hi w w:=fun _ _ _ _ _ h=>h
theorem KeepS.trans{b c:World}(h:KeepS lo hi a b)(k:KeepS lo hi b c):KeepS lo hi a c:=fun i cur e h1 h2 h3=>k i cur e h1 h2 (h i cur e h1 h2 h3)
theorem KeepS.mono{lo' hi':Nat}{b:World}(h:KeepS lo hi a b)(h1:lo'<=lo)(h2:hi<=hi'):KeepS lo' hi' a b:=fun i cur e k1 k2 k3=>h i cur e k1 (fun x=>(k2 x).imp (fun y=>by omega) (fun y=>by omega)) k3
theorem KeepS.x{b:World}(h:KeepS lo hi a b):KeepX lo hi a b:=fun i cur e h1 h2 h3=>h i cur e h1 (fun x=>h2 (.inl x)) h3
theorem KeepS.row{w':World}{v:Value}{xs:List Value}{T:TypeId}(hk:KeepS lo hi w w')(ht:imT T)(hn:T≠TFo)(h:w.ownsRow 0 T 1 v n xs):w'.ownsRow 0 T 1 v n xs:=by
 refine⟨h.1,?_⟩;rcases h.2 with hn | ⟨g,cap,cur,rfl,hb,hg,rest⟩
 ·exact .inl hn
 ·exact .inr ⟨g,cap,cur,rfl,hb,hk g cur T ht (fun e=>absurd e hn) hg,rest⟩
theorem KeepPr.keepS{w':World}(h:KeepPr w w'):KeepS lo hi w w':=fun k cur e hi _ hb=>h k cur e (by rintro rfl;rcases hi with h | h | h | h | h | h<;>exact absurd h (by decide)) (by rintro rfl;rcases hi with h | h | h | h | h | h<;>exact absurd h (by decide)) hb
def SetPost(w0 w:World)(wb:Nat)(W:PW)(pv qv cv lv gv:Value)(qs cs:List Value)(l:List (PV×PV))(n lo hi:Nat)(v:Value)(r:PF×List (PV×PV))(e:Ending)(w':World):Prop :=e=.returned (.tuple #[])/\∃pv'',PrJ w0 w' wb W pv qv cv lv gv qs cs (l++r.2) pv''/\RepU true n w' lo hi v r.1/\KeepS lo hi w w'
def SetSaid(w0:World)(wb:Nat)(W:PW)(pv qv cv lv gv:Value)(qs cs:List Value)(n:Nat):Prop :=
 ∀(w:World) (l:List (PV×PV)) (pv':Value) (lo hi:Nat) (v:Value) (f:PF),PrJ w0 w wb W pv qv cv lv gv qs cs l pv'->RepU false n w lo hi v f->w0.heap.size<=lo->W.pairs.length+l.length+(Pl.settle f (W.pairs.length+l.length)).2.length<=1000000000 ->
  Calls prog 83 #[.pointer (some ⟨wb,0,none⟩),v] w fun e w'=>SetPost w0 w wb W pv qv cv lv gv qs cs l n lo hi v (Pl.settle f (W.pairs.length+l.length)) e w'
theorem PrJ.setForm{W:PW}{l:List (PV×PV)}{pv':Value}(h:PrJ w0 w wb W pv qv cv lv gv qs cs l pv')(hb:w.heap[b]?=some (.cells c TFo (0,0)))(hlo:w0.heap.size<=b)(o:Nat)(x:Value):PrJ w0 (w.setCell ⟨b,o,none⟩ x) wb W pv qv cv lv gv qs cs l pv' :=
 h.grown (aE w b o x) (fun k hk=>by
  obtain rfl:=Option.some.inj hk;refine⟨hlo,fun e=>?_⟩;obtain⟨c',hc⟩:=aN h.row _ e
  exact absurd (aK hb hc).2 (by decide))
theorem KeepS.set(h1:lo<=b)(h2:b<hi)(hb:w.heap[b]?=some (.cells c TFo (0,0)))(o:Nat)(x:Value):KeepS lo hi w (w.setCell ⟨b,o,none⟩ x):=fun k cur e _ he hk=>by
 by_cases hkb:k=b
 ·subst hkb;obtain⟨_,rfl⟩:=aK hk hb;have:=he rfl;omega
 ·rw [Below.heap_setCell _ _ _ _ (fun e=>hkb (by simpa using e))];exact hk
theorem gM:∀(ks:List PF)(B k:Nat)(x:PF),ks[k]?=some x->(Pl.settleL ks B).1[k]?=some (Pl.settle x (B+(Pl.settleL (ks.take k) B).2.length)).1/\(Pl.settleL (ks.take (k+1)) B).2=(Pl.settleL (ks.take k) B).2++(Pl.settle x (B+(Pl.settleL (ks.take k) B).2.length)).2
 | [],_,_,_,h=>by simp at h
 | y::ks,B,0,x,h=>by simp only [List.getElem?_cons_zero,Option.some.injEq] at h;subst h;simp [Pl.settleL_cons,Pl.settleL_nil]
 | y::ks,B,k+1,x,h=>by rw [List.getElem?_cons_succ] at h;obtain⟨h1,h2⟩:=gM ks (B+(Pl.settle y B).2.length) k x h;simp only [List.take_succ_cons,Pl.settleL_cons,List.getElem?_cons_succ,List.length_append];rw [<- Nat.add_assoc,h2];exact⟨h1,by simp⟩
theorem kQ:∀(ks:List PF)(B k:Nat),(Pl.settleL (ks.take k) B).2.length<=(Pl.settleL ks B).2.length
 | [],_,_=>by simp
 | y::ks,B,0=>by simp [Pl.settleL_nil]
 | y::ks,B,k+1=>by have:=kQ ks (B+(Pl.settle y B).2.length) k;simp only [List.take_succ_cons,Pl.settleL_cons,List.length_append];omega
structure SetInv(w0 w wr:World)(wb:Nat)(W:PW)(pv qv cv lv gv:Value)(qs cs:List Value)(l:List (PV×PV))(n lo b:Nat)(iv:List (Nat×Nat))(us:List Value)(ks:List PF)(j:Nat)(pj:Value):Prop where
 prj:PrJ w0 wr wb W pv qv cv lv gv qs cs (l++(Pl.settleL (ks.take j) (W.pairs.length+l.length)).2) pj
 keep:KeepS lo b w wr
 did:∀(i:Nat)(p:Nat×Nat)(u:Value)(x:PF),i<j->iv[i]?=some p->us[i]?=some u->(Pl.settleL ks (W.pairs.length+l.length)).1[i]?=some x->RepU true n wr p.1 p.2 u x
 todo:∀(i:Nat)(p:Nat×Nat)(u:Value)(x:PF),j<=i->iv[i]?=some p->us[i]?=some u->ks[i]?=some x->RepU false n wr p.1 p.2 u x
theorem SetInv.next{wr w2:World}{W:PW}{l:List (PV×PV)}{iv:List (Nat×Nat)}{us:List Value}{ks:List PF}{j:Nat}{pj:Value}(h:SetInv w0 w wr wb W pv qv cv lv gv qs cs l n lo b iv us ks j pj)
  (hin:∀(i:Nat)(p:Nat×Nat),iv[i]?=some p->lo<=p.1/\p.2<=b) (hdis:∀(i k:Nat)(p q:Nat×Nat),i<k->iv[i]?=some p->iv[k]?=some q->p.2<=q.1) {p:Nat×Nat} {u:Value} {x:PF} (hp:iv[j]?=some p) (hu:us[j]?=some u) (hx:ks[j]?=some x) {pj2:Value}
  (k1:PrJ w0 w2 wb W pv qv cv lv gv qs cs (l++(Pl.settleL (ks.take j) (W.pairs.length+l.length)).2++(Pl.settle x (W.pairs.length+(l++(Pl.settleL (ks.take j) (W.pairs.length+l.length)).2).length)).2) pj2)
  (k2:RepU true n w2 p.1 p.2 u (Pl.settle x (W.pairs.length+(l++(Pl.settleL (ks.take j) (W.pairs.length+l.length)).2).length)).1) (k3:KeepS p.1 p.2 wr w2):SetInv w0 w w2 wb W pv qv cv lv gv qs cs l n lo b iv us ks (j+1) pj2:=by
 obtain⟨e1,e2⟩:=gM ks (W.pairs.length+l.length) j x hx;have hB:W.pairs.length+(l++(Pl.settleL (ks.take j) (W.pairs.length+l.length)).2).length=W.pairs.length+l.length+(Pl.settleL (ks.take j) (W.pairs.length+l.length)).2.length:=by rw [List.length_append,Nat.add_assoc]
 rw [hB] at k1 k2;obtain⟨h1,h2⟩:=hin j p hp;refine⟨by rw [e2,<-List.append_assoc];exact k1,h.keep.trans (k3.mono h1 h2),fun i q v y hi hq hv hy=>?_,fun i q v y hi hq hv hy=>?_⟩
 ·by_cases hij:i=j
  ·subst hij;rw [hp] at hq;obtain rfl:=Option.some.inj hq;rw [hu] at hv;obtain rfl:=Option.some.inj hv;rw [e1] at hy;obtain rfl:=Option.some.inj hy;exact k2
  ·exact RepU.keep k3.x n _ _ _ _ (.inl (hdis i j q p (by omega) hq hp)) (h.did i q v y (by omega) hq hv hy)
 ·exact RepU.keep k3.x n _ _ _ _ (.inr (hdis j i p q (by omega) hp hq)) (h.todo i q v y (by omega) hq hv hy)
theorem kB(w0:World)(wb:Nat)(W:PW)(pv qv cv lv gv:Value)(qs cs:List Value)(n:Nat)(ih:SetSaid w0 wb W pv qv cv lv gv qs cs n)(w:World)(l:List (PV×PV))(pv':Value)(lo hi:Nat)(v:Value)(k:FK)(nm:Byt)(d:Tr)(px:PV)(ks:List PF)(ns:List Byt)(hk:k≠.const)(hJ:PrJ w0 w wb W pv qv cv lv gv qs cs l pv')(hU:RepU false (n+1) w lo hi v (.mk k nm d px ks ns))(hlo0:w0.heap.size<=lo)(hz:W.pairs.length+l.length+(Pl.settle (.mk k nm d px ks ns) (W.pairs.length+l.length)).2.length<=1000000000) :Calls prog 83 #[.pointer (some ⟨wb,0,none⟩),v] w fun e w'=>SetPost w0 w wb W pv qv cv lv gv qs cs l (n+1) lo hi v (Pl.settle (.mk k nm d px ks ns) (W.pairs.length+l.length)) e w':=by
 rw [Pl.settle_other _ _ _ _ _ _ _ hk] at hz ⊢;obtain⟨b,dv,kv,nv,c0,c1,c2,us,rfl,hlo,hhi,hb,hval,hrow,⟨hul,iv,hil,hiv,hdis⟩,hnrow,hcon,hshape,hl1,hl2,hr1,hr2⟩:=hU;have ck:w.cell? ⟨b,0,none⟩=some (.string ⟨(fkS k).toArray⟩):=aA hb 0;have hkn:(fkS k==[99,111,110,115,116])=false:=by cases k<;>first | rfl | exact absurd rfl hk
 have c3:w.cell? ⟨b,3,none⟩=some kv:=aA hb 3;have HB:Hid (w.heap[b]?=some (.cells #[byV (fkS k),byV nm,dv,kv,nv,c0,c1,c2] TFo (0,0))):=hb;have HIn:Hid (∀(i:Nat)(p:Nat×Nat),iv[i]?=some p->lo<=p.1/\p.2<=b):=fun i p hp=>by have hlt:=(List.getElem?_eq_some_iff.1 hp).1;obtain⟨q1,q2,_⟩:=hiv i p us[i] ks[i] hp (List.getElem?_eq_getElem (by omega)) (List.getElem?_eq_getElem (by omega));exact⟨q1,q2⟩
 have HDis:Hid (∀(i k:Nat)(p q:Nat×Nat),i<k->iv[i]?=some p->iv[k]?=some q->p.2<=q.1):=hdis;have HRow:Hid (w.ownsRow 0 TFP 1 kv ks.length us):=hrow;have HS0:Hid (SetInv w0 w w wb W pv qv cv lv gv qs cs l n lo b iv us ks 0 pv'):=show SetInv _ _ _ _ _ _ _ _ _ _ _ _ _ _ _ _ _ _ _ _ _ from ⟨by simp only [List.take_zero,Pl.settleL_nil,List.append_nil];exact hJ,KeepS.refl _ _ _,fun i p u x hi=>by omega,fun i p u x _ hp hu hx=>(hiv i p u x hp hu hx).2.2⟩;have HFin:Hid (∀(wr:World)(pj:Value),SetInv w0 w wr wb W pv qv cv lv gv qs cs l n lo b iv us ks ks.length pj->SetPost w0 w wb W pv qv cv lv gv qs cs l (n+1) lo hi (.pointer (some ⟨b,0,none⟩)) (.mk k nm d px (Pl.settleL ks (W.pairs.length+l.length)).1 ns,(Pl.settleL ks (W.pairs.length+l.length)).2) (.returned (.tuple #[])) wr):=fun wr pj h=>by have hsl:=Pl.settleL_len ks (W.pairs.length+l.length);have hkp:KeepS lo hi w wr:=h.keep.mono (Nat.le_refl _) (by omega);refine⟨rfl,pj,by have:=h.prj;rw [List.take_length] at this;exact this,⟨b,dv,kv,nv,c0,c1,c2,us,rfl,hlo,hhi,h.keep b _ _ (.inr (.inr (.inl rfl))) (fun _=>.inr (Nat.le_refl _)) HB.out,fun e=>absurd e hk,by rw [hsl];exact h.keep.row (.inr (.inr (.inr (.inl rfl)))) (by decide) hrow,⟨by rw [hsl];exact hul,iv,by rw [hsl];exact hil,fun i p u x hp hu hx=>?_,hdis⟩,h.keep.row (.inr (.inr (.inr (.inr (.inl rfl))))) (by decide) hnrow,fun e=>absurd e hk,by rw [hsl];exact hshape,by rw [hsl];exact hl1,hl2,hr1,hr2⟩,hkp⟩;have hlt:=(List.getElem?_eq_some_iff.1 hp).1;obtain⟨q1,q2⟩:=HIn.out i p hp;exact⟨q1,q2,h.did i p u x (by omega) hp hu hx⟩
 have HIh:Hid (SetSaid w0 wb W pv qv cv lv gv qs cs n):=ih;have HZ:Hid (W.pairs.length+l.length+(Pl.settleL ks (W.pairs.length+l.length)).2.length<=1000000000/\w0.heap.size<=lo/\us.length=ks.length/\iv.length=ks.length):=⟨hz,hlo0,hul,hil⟩
 obtain⟨ao,cap,rfl,hcap,_⟩:=bC hrow;rw [hul] at c3 hcap HRow HB;generalize hkk:fkS k=kk at ck hkn;clear hkk hJ hb hval hrow hiv hdis hnrow hcon hshape hr1 hr2 hz ih hul hil hl2;go_enter func83,ntmps83;go_wp2_with fail
 go_loopw [5] (fun i wr=>∃(j:Nat)(pj:Value),j<=ks.length/\i=.int .i64 j/\Hid (SetInv w0 w wr wb W pv qv cv lv gv qs cs l n lo b iv us ks j pj)) (fun i _=>ks.length-(intOf i).toNat)
 case atStart=>exact⟨0,pv',Nat.zero_le _,rfl,HS0⟩
 case round =>
  obtain⟨j,pj,hj,rfl,HI⟩:=hrel;have c3':wr.cell? ⟨b,3,none⟩=some (.slice ao ks.length cap):=aA (HI.out.keep b _ _ (.inr (.inr (.inl rfl))) (fun _=>.inr (Nat.le_refl _)) HB.out) 3;by_cases hlt:j<ks.length
  ·obtain⟨_,_,hz3,hz4⟩:=HZ.out;obtain⟨u,hu⟩:∃u,us[j]?=some u:=⟨us[j],List.getElem?_eq_getElem (by omega)⟩
   obtain⟨x,hx⟩:∃x,ks[j]?=some x:=⟨ks[j],List.getElem?_eq_getElem hlt⟩
   obtain⟨p,hp⟩:∃p,iv[j]?=some p:=⟨iv[j],List.getElem?_eq_getElem (by omega)⟩
   obtain⟨ao',cap',e,_,hcell⟩:=bC (HI.out.keep.row (.inr (.inr (.inr (.inl rfl)))) (by decide) HRow.out);obtain⟨g,off,rfl,hg,hc⟩:=hcell j u hu;simp only [Value.slice.injEq] at e;obtain⟨rfl,_,_⟩:=e;have hR:=HI.out.todo j p u x (Nat.le_refl _) hp hu hx;obtain⟨e1,e2⟩:=gM ks (W.pairs.length+l.length) j x hx
   have HCall:Hid (Calls prog 83 #[.pointer (some ⟨wb,0,none⟩),u] wr fun e w'=>SetPost w0 wr wb W pv qv cv lv gv qs cs (l++(Pl.settleL (ks.take j) (W.pairs.length+l.length)).2) n p.1 p.2 u (Pl.settle x (W.pairs.length+(l++(Pl.settleL (ks.take j) (W.pairs.length+l.length)).2).length)) e w') :=
    HIh.out wr _ pj p.1 p.2 u x HI.out.prj hR (Nat.le_trans HZ.out.2.1 (HIn.out j p hp).1) (by
     have h1:=HZ.out.1;have h2:=kQ ks (W.pairs.length+l.length) (j+1);rw [e2,List.length_append] at h2;rw [show W.pairs.length+(l++(Pl.settleL (ks.take j) (W.pairs.length+l.length)).2).length=W.pairs.length+l.length+(Pl.settleL (ks.take j) (W.pairs.length+l.length)).2.length from by rw [List.length_append,Nat.add_assoc]]
     omega)
   have HX:Hid (iv[j]?=some p/\us[j]?=some u/\ks[j]?=some x):=⟨hp,hu,hx⟩
   have hlt2:(j:Int)<(ks.length:Int):=by omega
   obtain⟨bu,rfl⟩:=hR.ptr;clear hR e1 e2 hp hu hx hcell hz3 hz4;go_wp2_with fail;refine Calls.mono HCall.out ?_;rintro e w2 ⟨rfl,pj2,k1,k2,k3⟩;have HN:Hid (SetInv w0 w w2 wb W pv qv cv lv gv qs cs l n lo b iv us ks (j+1) pj2):=HI.out.next HIn.out HDis.out HX.out.1 HX.out.2.1 HX.out.2.2 k1 k2 k3;clear k1 k2 k3 HCall;go_wp2_with fail
   go_roundw
   case rel=>exact⟨j+1,pj2,by omega,by go_num,HN⟩
   case measure=>simp [intOf];omega
  ·obtain rfl:j=ks.length:=by omega
   go_wp2_with fail
   go_end0
   exact HFin.out wr pj HI.out
def setV(w:World)(b:Nat)(x:PV):World:=((w.setCell ⟨b,5,none⟩ (byV (vK x))).setCell ⟨b,6,none⟩ (.int .i64 (vN x))).setCell ⟨b,7,none⟩ (byV (vS x))
theorem tW{w2:World}{W:PW}{l:List (PV×PV)}{nm:Byt}{d:Tr}{ns:List Byt}{dv kv nv c0 c1 c2:Value}(hlo0:w0.heap.size<=lo)(hlo:lo<=b)(hhi:b<hi)(hb:w.heap[b]?=some (.cells #[byV (fkS .const),byV nm,dv,kv,nv,c0,c1,c2] TFo (0,0)))(hrow:w.ownsRow 0 TFP 1 kv 0 [])(hnrow:w.ownsRow 0 TS 1 nv ns.length (ns.map byV))(hcon:∃m,m<=1000/\RepR (fun _=>True) m w dv d/\cL m d/\uG d)(hl2:ns.length<=1000)(hr1:fI lo hi kv)(hr2:fI lo hi nv){r:PV×List (PV×PV)}{pj:Value}(hJ:PrJ w0 w2 wb W pv qv cv lv gv qs cs (l++r.2) pj)(hk:KeepPr w w2) :SetPost w0 w wb W pv qv cv lv gv qs cs l (n+1) lo hi (.pointer (some ⟨b,0,none⟩)) (.mk .const nm d r.1 [] ns,r.2) (.returned (.tuple #[])) (setV w2 b r.1)/\(setV w2 b r.1).cell? ⟨b,3,none⟩=some kv:=by have b2:w2.heap[b]?=some (.cells #[byV (fkS .const),byV nm,dv,kv,nv,c0,c1,c2] TFo (0,0)):=hk b _ _ (by decide) (by decide) hb;have b3:=aD b2 5 (byV (vK r.1));have b4:=aD b3 6 (.int .i64 (vN r.1));have b5:=aD b4 7 (byV (vS r.1));have k1:KeepS lo hi w (setV w2 b r.1):=((hk.keepS.trans (KeepS.set hlo hhi b2 5 _)).trans (KeepS.set hlo hhi b3 6 _)).trans (KeepS.set hlo hhi b4 7 _);refine⟨⟨rfl,pj,((hJ.setForm b2 (by omega) 5 _).setForm b3 (by omega) 6 _).setForm b4 (by omega) 7 _,⟨b,dv,kv,nv,_,_,_,[],rfl,hlo,hhi,b5,fun _=>rfl,k1.row (.inr (.inr (.inr (.inl rfl)))) (by decide) hrow,KidsU.nil _ _ _,k1.row (.inr (.inr (.inr (.inr (.inl rfl))))) (by decide) hnrow,fun _=>hcon.elim fun m hm=>⟨m,hm.1,RepR.keep k1.x.keepD _ _ _ hm.2.1,hm.2.2⟩,rfl,by simp,hl2,hr1,hr2⟩,k1⟩,?_⟩;exact aA b5 3
theorem iX(w0:World)(wb:Nat)(W:PW)(pv qv cv lv gv:Value)(qs cs:List Value)(n:Nat)(w:World)(l:List (PV×PV))(pv':Value)(lo hi:Nat)(v:Value)(nm:Byt)(d:Tr)(px:PV)(ks:List PF)(ns:List Byt)(hJ:PrJ w0 w wb W pv qv cv lv gv qs cs l pv')(hU:RepU false (n+1) w lo hi v (.mk .const nm d px ks ns))(hlo0:w0.heap.size<=lo)(hz:W.pairs.length+l.length+(Pl.settle (.mk .const nm d px ks ns) (W.pairs.length+l.length)).2.length<=1000000000) :Calls prog 83 #[.pointer (some ⟨wb,0,none⟩),v] w fun e w'=>SetPost w0 w wb W pv qv cv lv gv qs cs l (n+1) lo hi v (Pl.settle (.mk .const nm d px ks ns) (W.pairs.length+l.length)) e w':=by
 rw [Pl.settle_const] at hz ⊢;obtain⟨b,dv,kv,nv,c0,c1,c2,us,rfl,hlo,hhi,hb,hval,hrow,⟨hul,_⟩,hnrow,hcon,hshape,hl1,hl2,hr1,hr2⟩:=hU;obtain rfl:ks=[]:=List.eq_nil_of_length_eq_zero hshape;obtain rfl:us=[]:=List.eq_nil_of_length_eq_zero hul;have ck:w.cell? ⟨b,0,none⟩=some (.string ⟨#[99,111,110,115,116]⟩):=aA hb 0;have c2':w.cell? ⟨b,2,none⟩=some dv:=aA hb 2;have HFin:Hid (∀(w2:World)(pj:Value),PrJ w0 w2 wb W pv qv cv lv gv qs cs (l++(Pl.made 1000 (W.pairs.length+l.length) (Pl.quoted d)).2) pj->KeepPr w w2->SetPost w0 w wb W pv qv cv lv gv qs cs l (n+1) lo hi (.pointer (some ⟨b,0,none⟩)) (.mk .const nm d (Pl.made 1000 (W.pairs.length+l.length) (Pl.quoted d)).1 [] ns,(Pl.made 1000 (W.pairs.length+l.length) (Pl.quoted d)).2) (.returned (.tuple #[])) (setV w2 b (Pl.made 1000 (W.pairs.length+l.length) (Pl.quoted d)).1)/\(setV w2 b (Pl.made 1000 (W.pairs.length+l.length) (Pl.quoted d)).1).cell? ⟨b,3,none⟩=some kv):=fun w2 pj h1 h2=>tW hlo0 hlo hhi hb hrow hnrow (hcon rfl) hl2 hr1 hr2 h1 h2;obtain⟨m,hm,hR,hBg,hQ⟩:=hcon rfl;have HB:Hid (w.heap[b]?=some (.cells #[byV (fkS .const),byV nm,dv,kv,nv,c0,c1,c2] TFo (0,0))):=hb;have HJ:Hid (PrJ w0 w wb W pv qv cv lv gv qs cs l pv'):=hJ;have HZ:Hid (W.pairs.length+l.length+(Pl.made 1000 (W.pairs.length+l.length) (Pl.quoted d)).2.length<=1000000000):=hz;obtain⟨ao,cap,rfl,hcap,_⟩:=bC hrow;simp only [List.length_nil] at HFin HB;unfold setV byV at HFin;clear hJ hz hb hval hrow hnrow hcon hshape hl1 hl2 hr1 hr2 hul;by_cases hls:∃ts,d=.agg ts
 ·obtain⟨ts,rfl⟩:=hls
  obtain⟨a,x,rfl⟩:∃a x,ts=[a,x]:=by
   match ts,hQ with
   | [a,x],_=>exact⟨a,x,rfl⟩
  obtain⟨m',rfl⟩:∃m',m=m'+1:=by
   cases m with
   | zero=>exact hR.elim
   | succ m'=>exact⟨m',rfl⟩
  obtain⟨bd,kids,vs,rfl,hbd,ckd,c3d,hS,hvl,hA⟩:=hR.list
  obtain⟨y0,y1,rfl⟩:∃y0 y1,vs=[y0,y1]:=by
   match vs,hvl with
   | [y0,y1],_=>exact⟨y0,y1,rfl⟩
  obtain⟨g,off,capd,rfl,hcapd,hg,z0,zs⟩:=hS.cell0;have z1:=zs 0 y1 rfl;simp only [Nat.zero_add,List.length_cons,List.length_nil] at z1 c3d hcapd;have hr1:=hA 1 y1 x rfl rfl;have HRq:Hid (RepR (fun _=>True) 1000 w y1 x):=RepR.up _ _ _ _ (by omega) hr1;have HBq:Hid (cL 1000 x):=mE m' 1000 y1 x hr1 (hBg x (by simp));have ckd2:w.cell? ⟨bd,0,none⟩=some (.string ⟨#[108,105,115,116]⟩):=ckd;obtain⟨by1,rfl⟩:=hr1.ptr;clear hR hBg hQ hA hS hvl zs hr1 ckd;go_enter func83,ntmps83;go_wp2_with fail;refine(lL w0 wb W pv qv cv lv gv qs cs 1000 w l pv' _ _ HJ.out HRq.out HBq.out HZ.out).mono ?_;rintro e w2 ⟨rfl,pj,hJ2,hK2⟩;have b2:w2.heap[b]?=some (.cells #[byV (fkS .const),byV nm,.pointer (some ⟨bd,0,none⟩),.slice ao 0 cap,nv,c0,c1,c2] TFo (0,0)):=hK2 b _ _ (by decide) (by decide) HB.out;have HP:Hid _:=HFin.out w2 pj hJ2 hK2;have x5:w2.cell? ⟨b,5,none⟩=some c0:=aA b2 5;have x6:w2.cell? ⟨b,6,none⟩=some c1:=aA b2 6;have x7:w2.cell? ⟨b,7,none⟩=some c2:=aA b2 7;have f5:w2.frozen? ⟨b,5,none⟩=false:=aF b2 5;have f6:w2.frozen? ⟨b,6,none⟩=false:=aF b2 6;have f7:w2.frozen? ⟨b,7,none⟩=false:=aF b2 7;clear hJ2 hK2 b2;unfold bT byV;go_wp2_with fail
  go_loopw [5] (fun i wr=>i=.int .i64 0/\wr.cell? ⟨b,3,none⟩=some (.slice ao 0 cap)/\Hid (SetPost w0 w wb W pv qv cv lv gv qs cs l (n+1) lo hi (.pointer (some ⟨b,0,none⟩)) (.mk .const nm (.agg [a,x]) (Pl.made 1000 (W.pairs.length+l.length) (Pl.quoted (.agg [a,x]))).1 [] ns,(Pl.made 1000 (W.pairs.length+l.length) (Pl.quoted (.agg [a,x]))).2) (.returned (.tuple #[])) wr)) (fun _ _=>0)
  case atStart=>exact⟨rfl,HP.out.2,HP.out.1⟩
  case round =>
   obtain⟨rfl,c3',HE⟩:=hrel;go_wp2_with fail
   go_end0
   exact HE.out
 ·have hq:Pl.quoted d=d:=by
   unfold Pl.quoted;split
   ·exact absurd ⟨_,rfl⟩ hls
   ·rfl
  obtain⟨kk,hkk,hk0⟩:=hR.notList hls;have HRq:Hid (RepR (fun _=>True) 1000 w dv (Pl.quoted d)):=show RepR _ _ _ _ _ from by rw [hq];exact RepR.up _ _ _ _ hm hR
  have HBq:Hid (cL 1000 (Pl.quoted d)):=show cL _ _ from by rw [hq];exact mE m 1000 dv d hR hBg
  obtain⟨bd,rfl,hbd,ckd,_⟩:=hR.cellS;rw [hkk] at ckd;clear hR hBg hQ hls hq hkk;go_enter func83,ntmps83;go_wp2_with fail;refine(lL w0 wb W pv qv cv lv gv qs cs 1000 w l pv' _ _ HJ.out HRq.out HBq.out HZ.out).mono ?_;rintro e w2 ⟨rfl,pj,hJ2,hK2⟩;have b2:w2.heap[b]?=some (.cells #[byV (fkS .const),byV nm,.pointer (some ⟨bd,0,none⟩),.slice ao 0 cap,nv,c0,c1,c2] TFo (0,0)):=hK2 b _ _ (by decide) (by decide) HB.out;have HP:Hid _:=HFin.out w2 pj hJ2 hK2;have x5:w2.cell? ⟨b,5,none⟩=some c0:=aA b2 5;have x6:w2.cell? ⟨b,6,none⟩=some c1:=aA b2 6;have x7:w2.cell? ⟨b,7,none⟩=some c2:=aA b2 7;have f5:w2.frozen? ⟨b,5,none⟩=false:=aF b2 5;have f6:w2.frozen? ⟨b,6,none⟩=false:=aF b2 6;have f7:w2.frozen? ⟨b,7,none⟩=false:=aF b2 7;clear hJ2 hK2 b2;unfold bT byV;go_wp2_with fail
  go_loopw [5] (fun i wr=>i=.int .i64 0/\wr.cell? ⟨b,3,none⟩=some (.slice ao 0 cap)/\Hid (SetPost w0 w wb W pv qv cv lv gv qs cs l (n+1) lo hi (.pointer (some ⟨b,0,none⟩)) (.mk .const nm d (Pl.made 1000 (W.pairs.length+l.length) (Pl.quoted d)).1 [] ns,(Pl.made 1000 (W.pairs.length+l.length) (Pl.quoted d)).2) (.returned (.tuple #[])) wr)) (fun _ _=>0)
  case atStart=>exact⟨rfl,HP.out.2,HP.out.1⟩
  case round =>
   obtain⟨rfl,c3',HE⟩:=hrel;go_wp2_with fail
   go_end0
   exact HE.out
theorem mS(w0:World)(wb:Nat)(W:PW)(pv qv cv lv gv:Value)(qs cs:List Value):∀n,SetSaid w0 wb W pv qv cv lv gv qs cs n
 | 0=>fun _ _ _ _ _ _ _ _ h=>h.elim
 | n+1=>fun w l pv' lo hi v f hJ hU h0 hz=>by
  match f,hU,hz with
  | .mk k nm d px ks ns,hU,hz =>
   by_cases hk:k=.const
   ·subst hk;exact iX w0 wb W pv qv cv lv gv qs cs n w l pv' lo hi v nm d px ks ns hJ hU h0 hz
   ·exact kB w0 wb W pv qv cv lv gv qs cs n (mS w0 wb W pv qv cv lv gv qs cs n) w l pv' lo hi v k nm d px ks ns hk hJ hU h0 hz
def BegPost(w0:World)(wb:Nat)(M:Nat->Prop)(W:PW)(f:PF)(e:Ending)(w':World):Prop :=∃xb M',e=.returned (.pointer (some ⟨xb,0,none⟩))/\RW w' wb M' (Pl.beganW W f)/\RS M' w' xb (Pl.beganS W f)/\Stp M w0 M' w'/\w0.heap.size<=xb
theorem nV(hb:w.heap[wb]?=some (.cells c TWd (0,0)))(o:Nat)(x:Value):KeepX lo hi w (w.setCell ⟨wb,o,none⟩ x):=fun k cur e hi _ hk=>by
 by_cases hkb:k=wb
 ·subst hkb;obtain⟨_,rfl⟩:=aK hk hb;rcases hi with h | h | h | h | h | h<;>exact absurd h (by decide)
 ·rw [Below.heap_setCell _ _ _ _ (fun e=>hkb (by simpa using e))];exact hk
theorem tG(h:Below w0.heap.size w0 w){T:TypeId}(hb:w0.heap[wb]?=some (.cells c T (0,0)))(o:Nat)(x:Value):Below (w0.setCell ⟨wb,o,none⟩ x).heap.size (w0.setCell ⟨wb,o,none⟩ x) (w.setCell ⟨wb,o,none⟩ x):=by
 have hs:(w0.setCell ⟨wb,o,none⟩ x).heap.size=w0.heap.size:=by simp [World.setCell]
 refine⟨h.os,h.tape,h.output,by simpa [World.setCell] using h.size,fun k hk=>?_⟩;rw [hs] at hk;by_cases hkb:k=wb
 ·subst hkb;rw [aD hb o x,aD ((h.block k (aB hb)).trans hb) o x]
 ·rw [Below.heap_setCell _ _ _ _ (fun e=>hkb (by simpa using e)),Below.heap_setCell _ _ _ _ (fun e=>hkb (by simpa using e))];exact h.block k hk
theorem xP(w0 w:World)(wb:Nat)(M:Nat->Prop)(W:PW)(f:PF)(b m:Nat)(hW:RW w0 wb M W)(hB:Below w0.heap.size w0 w)(hU:RepU false m w w0.heap.size w.heap.size (.pointer (some ⟨b,0,none⟩)) f)(hz:W.pairs.length+(Pl.settle f W.pairs.length).2.length<=1000000000) :Calls prog 51 #[.pointer (some ⟨wb,0,none⟩),.pointer (some ⟨b,0,none⟩)] w fun e w'=>BegPost w0 wb M W f e w':=by
 obtain⟨pv,qv,cv,lv,gv,qs,cs,rfl,hws⟩:=hW;have hwb:=hws.blk;have hwb1:=(hB.block wb (aB hwb)).trans hwb;have c5:w.cell? ⟨wb,5,none⟩=some (byV W.out):=aA hwb1 5;have f5:w.frozen? ⟨wb,5,none⟩=false:=aF hwb1 5;obtain⟨hws1,hst1⟩:=hws.out_set [] (by simp);have hs0:(w0.setCell ⟨wb,5,none⟩ (byV [])).heap.size=w0.heap.size:=by simp [World.setCell]
 have hJ0:=PrJ.start hws1 (tG hB hwb 5 (byV []));have hU1:RepU false m (w.setCell ⟨wb,5,none⟩ (byV [])) w0.heap.size w.heap.size (.pointer (some ⟨b,0,none⟩)) f:=RepU.keep (nV (lo:=0) (hi:=0) hwb1 5 _) m _ _ _ _ (.inr (Nat.zero_le _)) hU;have HC:Hid (Calls prog 83 #[.pointer (some ⟨wb,0,none⟩),.pointer (some ⟨b,0,none⟩)] (w.setCell ⟨wb,5,none⟩ (.string ⟨#[]⟩)) fun e w'=>SetPost (w0.setCell ⟨wb,5,none⟩ (byV [])) (w.setCell ⟨wb,5,none⟩ (byV [])) wb {W with out:=[]} pv qv cv lv gv qs cs [] m w0.heap.size w.heap.size (.pointer (some ⟨b,0,none⟩)) (Pl.settle f (W.pairs.length+0)) e w') :=mS (w0.setCell ⟨wb,5,none⟩ (byV [])) wb {W with out:=[]} pv qv cv lv gv qs cs m _ [] pv w0.heap.size w.heap.size _ f hJ0 hU1 (by omega) hz;have HS1:Hid (Stp (Mof wb [pv,qv,cv,lv,gv]) w0 (Mof wb [pv,qv,cv,lv,gv]) (w0.setCell ⟨wb,5,none⟩ (byV []))):=hst1
 have HFin:Hid (∀(w2:World)(pv2:Value)(o:Obj),PrJ (w0.setCell ⟨wb,5,none⟩ (byV [])) w2 wb {W with out:=[]} pv qv cv lv gv qs cs ([]++(Pl.settle f (W.pairs.length+0)).2) pv2->RepU true m w2 w0.heap.size w.heap.size (.pointer (some ⟨b,0,none⟩)) (Pl.settle f (W.pairs.length+0)).1->o=.cells #[.pointer (some ⟨b,0,none⟩),.slice none 0 0,byV [],.int .i64 0,byV [],.pointer none] TSt (0,0)->BegPost w0 wb (Mof wb [pv,qv,cv,lv,gv]) W f (.returned (.pointer (some ⟨w2.heap.size,0,none⟩))) (w2.alloc o)):=fun w2 pv2 o h1 h2 ho=>by
  obtain⟨d1,d2⟩:=h1.done;have hb2:Below w2.heap.size w2 (w2.alloc o):=(Below.refl _ _).alloc (Nat.le_refl _) _;have hRW:RW w2 wb (Mof wb [pv2,qv,cv,lv,gv]) (Pl.beganW W f):=⟨pv2,qv,cv,lv,gv,qs,cs,rfl,d1⟩
  have hs2:=d2.size;refine⟨w2.heap.size,Mof wb [pv2,qv,cv,lv,gv],rfl,hRW.later hb2,⟨_,_,_,_,_,_,by rw [ho];exact heap_alloc_new _ _,⟨m,RepU.settled m _ _ _ _ (h2.later hb2)⟩,?_,rfl⟩,(HS1.out.trans d2).trans (Stp.of_below hb2),by omega⟩;exact⟨rfl,none,0,rfl,Nat.le_refl _,.inl rfl⟩
 clear hws hwb hwb1 hws1 hst1 hJ0 hU1 hU hz hB hs0;go_enter func51,ntmps51;go_wp2_with fail;refine Calls.mono HC.out ?_;rintro e w2 ⟨rfl,pv2,k1,k2,k3⟩;have HF2:Hid (∀o,o=Obj.cells #[.pointer (some ⟨b,0,none⟩),.slice none 0 0,byV [],.int .i64 0,byV [],.pointer none] TSt (0,0)->BegPost w0 wb (Mof wb [pv,qv,cv,lv,gv]) W f (.returned (.pointer (some ⟨w2.heap.size,0,none⟩))) (w2.alloc o)):=fun o=>HFin.out w2 pv2 o k1 k2;clear k1 k2 k3 HC;go_wp2_with fail;go_ret;exact HF2.out _ rfl
end
end Go.Proofs.YtkgbdddkcjpgfaaGreatDoor
