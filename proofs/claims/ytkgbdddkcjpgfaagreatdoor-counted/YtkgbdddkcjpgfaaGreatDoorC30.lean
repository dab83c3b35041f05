import Derived.Test.YtkgbdddkcjpgfaaGreatDoorC25
import Derived.Test.YtkgbdddkcjpgfaaGreatDoorC09
import Derived.Test.YtkgbdddkcjpgfaaGreatDoorC29
namespace Go.Proofs.YtkgbdddkcjpgfaaGreatDoor
open Pl (PV PW PF Byt FK formOf mkF kwB madeL)
section
open Go.RowKit
variable {n:Nat} {h:List UInt8}
def els:Nat->Pl.Tre->Nat
 | 0,_=>0
 | n+1,t=>match t with
  | .agg ts=>ts.length+(ts.map (els n)).sum
  | _=>0
def bN(W:PW)(l:List (PV×PV)):PW:={W with pairs:=W.pairs++l}
theorem fN(W:PW):bN W []=W:=by simp [bN]
theorem tL(W:PW)(a b:List (PV×PV)):bN (bN W a) b=bN W (a++b):=by simp [bN]
theorem iO(W:PW)(a:List (PV×PV)):(bN W a).pairs.length=W.pairs.length+a.length:=by simp [bN]
def MadeOk(W:PW)(t:Nat)(r:PV×List (PV×PV)):Prop:=WW (bN W r.2) (t+r.2.length)/\Le W (bN W r.2)/\WfV (bN W r.2) r.1
theorem q8(n:Nat)(ih:∀(tr:Pl.Tre)(W:PW)(t:Nat),WW W t->cL n tr->MadeOk W t (Pl.made n W.pairs.length tr)/\(Pl.made n W.pairs.length tr).2.length<=els n tr):∀(ts:List Pl.Tre)(W:PW)(t:Nat),WW W t->(∀x∈ts,cL n x)->MadeOk W t (madeL (Pl.made n) W.pairs.length ts)/\(madeL (Pl.made n) W.pairs.length ts).2.length<=ts.length+(ts.map (els n)).sum
 | [],W,t,h,_=>by refine⟨?_,by simp [madeL]⟩;show WW (bN W []) (t+0)/\Le W (bN W [])/\WfV (bN W []) .empty;rw [fN];exact⟨h,Le.refl _,trivial⟩
 | x::r,W,t,h,hb=>by
  obtain⟨⟨a1,a2,a3⟩,a4⟩:=q8 n ih r W t h (fun y hy=>hb y (List.mem_cons_of_mem _ hy));obtain⟨⟨b1,b2,b3⟩,b4⟩:=ih x (bN W (madeL (Pl.made n) W.pairs.length r).2) _ a1 (hb x (by simp));rw [iO] at b1 b2 b3 b4;obtain⟨c1,c2⟩:=b1.pair b3 (a3.le b2);have e:madeL (Pl.made n) W.pairs.length (x::r)=((.pair (W.pairs.length+(madeL (Pl.made n) W.pairs.length r).2.length+(Pl.made n (W.pairs.length+(madeL (Pl.made n) W.pairs.length r).2.length) x).2.length)),(madeL (Pl.made n) W.pairs.length r).2++(Pl.made n (W.pairs.length+(madeL (Pl.made n) W.pairs.length r).2.length) x).2++[((Pl.made n (W.pairs.length+(madeL (Pl.made n) W.pairs.length r).2.length) x).1,(madeL (Pl.made n) W.pairs.length r).1)]):=rfl;rw [e];generalize madeL (Pl.made n) W.pairs.length r=R at *;generalize Pl.made n (W.pairs.length+R.2.length) x=X at *;have hw:bN W (R.2++X.2++[(X.1,R.1)])={bN (bN W R.2) X.2 with pairs:=(bN (bN W R.2) X.2).pairs++[(X.1,R.1)]}:=by simp [bN]
  refine⟨⟨?_,?_,?_⟩,?_⟩
  ·show WW (bN W (R.2++X.2++[(X.1,R.1)])) (t+(R.2++X.2++[(X.1,R.1)]).length);rw [hw,show t+(R.2++X.2++[(X.1,R.1)]).length=t+R.2.length+X.2.length+1 from by simp;omega];exact c1
  ·show Le W (bN W (R.2++X.2++[(X.1,R.1)]));rw [hw];exact(a2.trans b2).trans c2
  ·show W.pairs.length+R.2.length+X.2.length<(bN W (R.2++X.2++[(X.1,R.1)])).pairs.length;rw [iO];simp;omega
  ·simp only [List.length_append,List.length_cons,List.length_nil,List.map_cons,List.sum_cons];omega
theorem vU:∀(n:Nat)(tr:Pl.Tre)(W:PW)(t:Nat),WW W t->cL n tr->MadeOk W t (Pl.made n W.pairs.length tr)/\(Pl.made n W.pairs.length tr).2.length<=els n tr
 | 0,_,W,t,h,_=>⟨by show WW (bN W []) (t+0)/\Le W (bN W [])/\WfV (bN W []) .nothing;rw [fN];exact⟨h,Le.refl _,trivial⟩,Nat.le_refl _⟩
 | n+1,tr,W,t,h,hb=>by
  have flat:∀v,WfV W v->MadeOk W t (v,[]):=fun v hv=>by show WW (bN W []) (t+0)/\Le W (bN W [])/\WfV (bN W []) v;rw [fN];exact⟨h,Le.refl _,hv⟩
  cases tr with
  | agg ts=>exact q8 n (vU n) ts W t h hb
  | lit x =>
   cases x with
   | int k m =>refine⟨flat (.num m) ?_,Nat.zero_le _⟩;have:gW m:=hb;unfold gW at this;show m.natAbs<=Pl.big;omega
   | bool b=>exact⟨flat (.truth b) trivial,Nat.zero_le _⟩
   | string s =>refine⟨flat (.name s) ?_,Nat.zero_le _⟩;have:s.length<=300:=hb;first | (show s.length<=_;omega) | exact this
   | _=>exact⟨flat .nothing trivial,Nat.zero_le _⟩
  | _=>exact⟨flat .nothing trivial,Nat.zero_le _⟩
theorem aBM(n:Nat)(ih:∀(ps:List (PV×PV)) (t:Pl.Tre) (l:List (PV×PV)),Pl.Acy (ps++(Pl.made n ps.length t).2++l)->Pl.text (ps++(Pl.made n ps.length t).2++l) (Pl.made n ps.length t).1=Pl.datT n t)(ps:List (PV×PV)):∀(ts:List Pl.Tre) (l:List (PV×PV)),Pl.Acy (ps++(madeL (Pl.made n) ps.length ts).2++l)->Pl.text (ps++(madeL (Pl.made n) ps.length ts).2++l) (madeL (Pl.made n) ps.length ts).1=Pl.listT (ts.map (Pl.datT n))/\Pl.tl (ps++(madeL (Pl.made n) ps.length ts).2++l) (madeL (Pl.made n) ps.length ts).1=(ts.map (Pl.datT n)).flatMap (fun t=>32::t)++[41]
 | [],l,_=>⟨rfl,rfl⟩
 | x::r,l,ha=>by
  have e:madeL (Pl.made n) ps.length (x::r)=((.pair (ps.length+(madeL (Pl.made n) ps.length r).2.length+(Pl.made n (ps.length+(madeL (Pl.made n) ps.length r).2.length) x).2.length)),(madeL (Pl.made n) ps.length r).2++(Pl.made n (ps.length+(madeL (Pl.made n) ps.length r).2.length) x).2++[((Pl.made n (ps.length+(madeL (Pl.made n) ps.length r).2.length) x).1,(madeL (Pl.made n) ps.length r).1)]):=rfl;have hr:=aBM n ih ps r;have hx:=ih (ps++(madeL (Pl.made n) ps.length r).2) x;rw [List.length_append] at hx;rw [e] at ha ⊢;generalize madeL (Pl.made n) ps.length r=R at *;generalize Pl.made n (ps.length+R.2.length) x=X at *;dsimp only at ha ⊢;have e1:ps++(R.2++X.2++[(X.1,R.1)])++l=ps++R.2++(X.2++[(X.1,R.1)]++l):=by simp
  have e2:ps++(R.2++X.2++[(X.1,R.1)])++l=ps++R.2++X.2++([(X.1,R.1)]++l):=by simp
  have r2:=(hr (X.2++[(X.1,R.1)]++l) (e1▸ha)).2;have x1:=hx ([(X.1,R.1)]++l) (e2▸ha);rw [<- e1] at r2;rw [<- e2] at x1;have hg:(ps++(R.2++X.2++[(X.1,R.1)])++l)[ps.length+R.2.length+X.2.length]?=some (X.1,R.1):=by rw [e2,List.getElem?_append_right (by simp;omega)];rw [show ps.length+R.2.length+X.2.length-(ps++R.2++X.2).length=0 from by simp;omega];rfl
  rw [Pl.text_pair ha hg,Pl.tl_pair ha hg];dsimp only;rw [r2,x1];refine⟨?_,?_⟩
  ·rw [List.map_cons];unfold Pl.listT;rw [Pl.joinB_cons,List.append_assoc]
  ·simp
theorem aBL:∀(n:Nat) (ps:List (PV×PV)) (t:Pl.Tre) (l:List (PV×PV)),Pl.Acy (ps++(Pl.made n ps.length t).2++l)->Pl.text (ps++(Pl.made n ps.length t).2++l) (Pl.made n ps.length t).1=Pl.datT n t
 | 0,_,_,_,_=>rfl
 | n+1,ps,t,l,ha=>by
  cases t with
  | agg ts=>exact(aBM n (aBL n) ps ts l ha).1
  | lit x=>cases x<;>rfl
  | _=>rfl
theorem aDK(ps:List (PV×PV))(n:Nat)(t:Pl.Tre)(l:List (PV×PV)):Pl.Acy (ps++(Pl.made n ps.length t).2++l)->Pl.text (ps++(Pl.made n ps.length t).2++l) (Pl.made n ps.length t).1=Pl.datT n t:=aBL n ps t l
inductive FOk (n:Nat):PF->Prop
 | mk (k:FK) (nm:Byt) (d:Pl.Tre) (v:PV) (ks:List PF) (ns:List Byt) (h1:k=.const->cL 1000 (Pl.quoted d)) (h2:shape k ks.length) (h3:∀x,x∈ks->FOk n x) (h4:ks.length<=300) (h5:ns.length<=300/\nm.length<=300/\∀x∈ns,x.length<=300) (h6:Pl.Nm k nm d):FOk n (.mk k nm d v ks ns)
mutual
def gH:PF->Nat
 | .mk k _ d _ ks _=>(if k=.const then els 1000 (Pl.quoted d) else 0)+gY ks
def gY:List PF->Nat
 | []=>0
 | x::r=>gH x+gY r
end
def SetOk(W:PW)(t:Nat)(r:PF×List (PV×PV)):Prop:=WW (bN W r.2) (t+r.2.length)/\Le W (bN W r.2)/\WfF (bN W r.2) r.1
theorem kP{n:Nat}:∀(ks:List PF),(∀x∈ks,∀(W:PW)(t:Nat),WW W t->SetOk W t (Pl.settle x W.pairs.length)/\(Pl.settle x W.pairs.length).2.length<=gH x)->∀(W:PW)(t:Nat),WW W t ->
  (WW (bN W (Pl.settleL ks W.pairs.length).2) (t+(Pl.settleL ks W.pairs.length).2.length)/\Le W (bN W (Pl.settleL ks W.pairs.length).2)/\(∀x∈(Pl.settleL ks W.pairs.length).1,WfF (bN W (Pl.settleL ks W.pairs.length).2) x))/\(Pl.settleL ks W.pairs.length).2.length<=gY ks
 | [],_,W,t,h=>by rw [Pl.settleL_nil];refine⟨?_,Nat.zero_le _⟩;show WW (bN W []) (t+0)/\Le W (bN W [])/\∀x∈[],_;rw [fN];exact⟨h,Le.refl _,fun x hx=>by simp at hx⟩
 | y::r,hk,W,t,h=>by
  obtain⟨⟨a1,a2,a3⟩,a4⟩:=hk y (by simp) W t h;obtain⟨⟨b1,b2,b3⟩,b4⟩:=kP (n:=n) r (fun x hx=>hk x (List.mem_cons_of_mem _ hx)) _ _ a1;rw [iO] at b1 b2 b3 b4;rw [Pl.settleL_cons];generalize Pl.settle y W.pairs.length=Y at *;generalize Pl.settleL r (W.pairs.length+Y.2.length)=R at *;rw [tL] at b1 b2 b3;refine⟨⟨?_,a2.trans b2,fun x hx=>?_⟩,?_⟩
  ·show WW (bN W (Y.2++R.2)) (t+(Y.2++R.2).length);rw [List.length_append,<-Nat.add_assoc];exact b1
  ·rcases List.mem_cons.1 hx with rfl | hx
   ·exact a3.le b2
   ·exact b3 x hx
  ·show(Y.2++R.2).length<=gH y+gY r;rw [List.length_append];omega
theorem aA6:∀(ks:List PF),(∀x∈ks,∀b,fnd (Pl.settle x b).1=fnd x)->∀b,aB5 (Pl.settleL ks b).1=aB5 ks
 | [],_,b=>by rw [Pl.settleL_nil]
 | y::r,h,b=>by rw [Pl.settleL_cons];show aB5 (_::_)=_;rw [aAY,aAY,h y (by simp) b,aA6 r (fun x hx=>h x (List.mem_cons_of_mem _ hx))]
theorem aC7{f:PF}(hf:FOk n f):∀b,fnd (Pl.settle f b).1=fnd f:=by
 induction hf with
 | mk k nm d v ks ns h1 h2 _ h4 h5 h6 ih =>
  intro b;by_cases hk:k=.const
  ·subst hk;rw [Pl.settle_const];show fnd (.mk _ _ _ _ _ _)=_;rw [aAZ,aAZ]
  ·rw [Pl.settle_other _ _ _ _ _ _ _ hk];show fnd (.mk _ _ _ _ _ _)=_;rw [aAZ,aAZ,aA6 ks ih]
theorem mQ{f:PF}(hf:FOk n f):fnd f<=1001->∀(W:PW)(t:Nat),WW W t->SetOk W t (Pl.settle f W.pairs.length)/\(Pl.settle f W.pairs.length).2.length<=gH f:=by
 induction hf with
 | mk k nm d v ks ns h1 h2 h3 h4 h5 h6 ih =>
  intro hnd W t h;rw [aAZ] at hnd;by_cases hk:k=.const
  ·subst hk;rw [Pl.settle_const];obtain⟨⟨a1,a2,a3⟩,a4⟩:=vU 1000 (Pl.quoted d) W t h (h1 rfl);obtain rfl:ks=[]:=List.eq_nil_of_length_eq_zero h2;exact⟨⟨a1,a2,.mk _ _ _ _ _ _ (fun _=>a3) h2 (fun x hx=>by simp at hx) h4 h5 hnd (fun _ l=>aDK W.pairs 1000 (Pl.quoted d) l) h6⟩,by simp only [gH,gY,if_pos];omega⟩
  ·rw [Pl.settle_other _ _ _ _ _ _ _ hk];obtain⟨⟨a1,a2,a3⟩,a4⟩:=kP (n:=n) ks (fun x hx=>ih x hx (by have:=aDP hx;omega)) W t h;have hl:=Pl.settleL_len ks W.pairs.length;exact⟨⟨a1,a2,.mk _ _ _ _ _ _ (fun e=>absurd e hk) (by rw [hl];exact h2) a3 (by rw [hl];exact h4) h5 (by rw [aA6 ks (fun x hx=>aC7 (h3 x hx))];exact hnd) (fun e=>absurd e hk) h6⟩,by simp only [gH,if_neg hk];omega⟩
theorem rI{f:PF}(hf:FOk n f)(hs:gH f<=1000/\fnd f<=1001){W:PW}{t:Nat}(h:WW W t):WW (Pl.beganW W f) (t+1000)/\SW (Pl.beganW W f) (Pl.beganS W f) (t+1000):=by have hW:WW {W with out:=[]} t:=(h.out []).1;obtain⟨⟨a1,a2,a3⟩,a4⟩:=mQ hf hs.2 {W with out:=[]} t hW;refine⟨a1.later (by omega),⟨fun g hg=>?_,fun b hb=>by simp [Pl.beganS] at hb,by simp [Pl.beganS],fun e=>by simp [Pl.beganS] at e,⟨fun fr hfr=>by simp [Pl.beganS] at hfr,by simp [Pl.beganS]⟩⟩⟩;obtain rfl:=Option.some.inj hg;exact a3
def dT:Nat->Pl.Tre->Prop
 | 0,_=>False
 | n+1,t=>match t with
  | .lit (.int _ m)=>gW m
  | .lit (.string s)=>0<s.length/\s.length<=300
  | .agg ts=>ts.length<=298/\∀x∈ts,dT n x
  | _=>True
theorem dT.big:∀(n m:Nat)(t:Pl.Tre),dT n t->cL m t
 | 0,_,_,h=>h.elim
 | _+1,0,_,_=>trivial
 | n+1,m+1,t,h=>by
  cases t with
  | agg ts=>exact fun x hx=>dT.big n m x (h.2 x hx)
  | lit x=>cases x<;>first | trivial | exact h | exact h.2
  | _=>trivial
theorem aBX:∀{n:Nat} {t:Pl.Tre},dT n t->(Pl.strOf t).length<=300
 | 0,_,h=>h.elim
 | n+1,t,h=>by
  cases t with
  | lit x=>cases x<;>first | exact h.2 | exact Nat.zero_le _
  | _=>exact Nat.zero_le _
theorem gI:∀(n m:Nat)(t:Pl.Tre),dT n t->n<=m->els m t=els n t
 | 0,_,_,h,_=>h.elim
 | _+1,0,_,_,h=>by omega
 | n+1,m+1,t,h,hm=>by
  cases t with
  | agg ts =>show ts.length+(ts.map (els m)).sum=ts.length+(ts.map (els n)).sum;rw [List.map_congr_left (fun x hx=>gI n m x (h.2 x hx) (by omega))]
  | _=>rfl
theorem aDQ:∀(n m:Nat)(t:Pl.Tre),dT n t->n<=m->dT m t
 | 0,_,_,h,_=>h.elim
 | _+1,0,_,_,h=>by omega
 | n+1,m+1,t,h,hm=>by
  cases t with
  | agg ts=>exact⟨h.1,fun x hx=>aDQ n m x (h.2 x hx) (by omega)⟩
  | lit x=>cases x<;>first | trivial | exact h
  | _=>trivial
theorem jY(ih:∀t f,formOf n t=some f->dT n t->FOk 0 f/\gH f<=els n t):∀(ts:List Pl.Tre)(fs:List PF),Pl.allF (formOf n) ts=some fs->(∀x∈ts,dT n x)->(∀f∈fs,FOk 0 f)/\gY fs<=(ts.map (els n)).sum/\fs.length=ts.length
 | [],fs,h,_=>by obtain rfl:=Option.some.inj h;exact⟨fun f hf=>by simp at hf,Nat.le_refl _,rfl⟩
 | y::r,fs,h,hd=>by
  unfold Pl.allF at h
  cases hy:formOf n y with
  | none=>rw [hy] at h;simp at h
  | some a =>
   rw [hy] at h;simp only [Option.bind_some,Option.map_eq_some_iff] at h;obtain⟨q,hq,rfl⟩:=h;obtain⟨a1,a2⟩:=ih y a hy (hd y (by simp));obtain⟨b1,b2,b3⟩:=jY ih r q hq (fun x hx=>hd x (List.mem_cons_of_mem _ hx));refine⟨fun f hf=>?_,?_,by simp [b3]⟩
   ·rcases List.mem_cons.1 hf with rfl | hf
    ·exact a1
    ·exact b1 f hf
   ·simp only [gY,List.map_cons,List.sum_cons];omega
theorem rA(ih:∀t f,formOf n t=some f->dT n t->FOk 0 f/\gH f<=els n t){ns bd:Pl.Tre}{f:PF}(h:Pl.lamF (formOf n) ns bd=some f)(hn:∀l,ns=.agg l->l.length<=298/\∀x∈l,(Pl.strOf x).length<=300)(hd:dT n bd):FOk 0 f/\gH f<=els n bd:=by
 unfold Pl.lamF at h;split at h
 ·rename_i l;split at h
  ·simp only [Option.map_eq_some_iff] at h;obtain⟨g,hg,rfl⟩:=h;obtain⟨a1,a2⟩:=ih bd g hg hd;exact⟨.mk _ _ _ _ _ _ (fun e=>by cases e) rfl (fun x hx=>by simp at hx;subst hx;exact a1) (by simp) ⟨by have:=(hn l rfl).1;simp;omega,by simp,fun x hx=>by obtain⟨y,hy,rfl⟩:=List.mem_map.1 hx;exact(hn l rfl).2 y hy⟩ (Pl.Nm.not (by simp) (by simp)),by simp [mkF,gH,gY];exact a2⟩
  ·cases h
 ·cases h
theorem rJ(ih:∀t f,formOf n t=some f->dT n t->FOk 0 f/\gH f<=els n t){k:FK}(hk:k=.set\/k=.define){r:List Pl.Tre}{f:PF}(h:Pl.asgF k (formOf n) r=some f)(hd:∀x∈r,dT n x):FOk 0 f/\gH f<=(r.map (els n)).sum:=by
 unfold Pl.asgF at h;split at h
 ·rename_i a e;split at h
  ·simp only [Option.map_eq_some_iff] at h;obtain⟨g,hg,rfl⟩:=h;obtain⟨a1,a2⟩:=ih e g hg (hd e (by simp));refine⟨.mk _ _ _ _ _ _ (fun e=>by rcases hk with rfl | rfl<;>cases e) (by rcases hk with rfl | rfl<;>rfl) (fun x hx=>by simp at hx;subst hx;exact a1) (by simp) ⟨by simp,aBX (hd a (by simp)),by simp⟩ (by rcases hk with rfl | rfl<;>exact Pl.Nm.not (by simp) (by simp)),?_⟩;have:k≠.const:=by rcases hk with rfl | rfl<;>simp
   simp only [mkF,gH,gY,if_neg this,List.map_cons,List.map_nil,List.sum_cons,List.sum_nil];omega
  ·cases h
 ·cases h
theorem tS{n:Nat}:∀(l:List Pl.Tre),l.all Pl.isPair=true->((l.map Pl.sndOf).map (els n)).sum<=(l.map (els (n+1))).sum
 | [],_=>Nat.le_refl _
 | x::r,h=>by
  simp only [List.all_cons,Bool.and_eq_true] at h;have:=tS (n:=n) r h.2;have hx:=h.1;unfold Pl.isPair at hx;split at hx
  ·rename_i a b;simp only [List.map_cons,List.sum_cons,Pl.sndOf];have:els (n+1) (.agg [a,b])=2+(els n a+(els n b+0)):=rfl;omega
  ·cases hx
theorem zX(ih:∀t f,formOf (n+1) t=some f->dT (n+1) t->FOk 0 f/\gH f<=els (n+1) t){ps bd:Pl.Tre}{f:PF}(h:Pl.letF (formOf (n+1)) ps bd=some f)(hp:dT (n+1) ps)(hd:dT (n+1) bd):FOk 0 f/\gH f<=els (n+1) ps+els (n+1) bd:=by
 unfold Pl.letF at h;split at h
 ·rename_i l;split at h
  ·rename_i hpr;rw [Option.bind_eq_some_iff] at h;obtain⟨g,hg,h⟩:=h;simp only [Option.map_eq_some_iff] at h;obtain⟨q,hq,rfl⟩:=h
   obtain⟨a1,a2⟩:=rA ih hg (fun l' e=>by
    rw [DataW.agg.injEq] at e;subst e;refine⟨by simpa using hp.1,fun x hx=>?_⟩;obtain⟨y,hy,rfl⟩:=List.mem_map.1 hx;have hyp:=List.all_eq_true.1 hpr y hy;have hyd:=hp.2 y hy;unfold Pl.isPair at hyp;split at hyp
    ·rename_i a b
     cases n with
     | zero=>exact hyd.elim
     | succ m=>exact aBX (hyd.2 a (by simp))
    ·cases hyp) hd
   have hsd:∀x∈l.map Pl.sndOf,dT n x/\dT (n+1) x:=fun x hx=>by
    obtain⟨y,hy,rfl⟩:=List.mem_map.1 hx;have hyp:=List.all_eq_true.1 hpr y hy;have hyd:=hp.2 y hy;unfold Pl.isPair at hyp;split at hyp
    ·rename_i a b
     cases n with
     | zero=>exact hyd.elim
     | succ m =>have:=hyd.2 b (by simp);exact⟨aDQ m (m+1) b this (by omega),aDQ m (m+2) b this (by omega)⟩
    ·cases hyp
   obtain⟨b1,b2,b3⟩:=jY ih _ q hq (fun x hx=>(hsd x hx).2);have hl:=hp.1;have e1:((l.map Pl.sndOf).map (els (n+1)))=(l.map Pl.sndOf).map (els n):=List.map_congr_left (fun x hx=>gI n (n+1) x (hsd x hx).1 (by omega));have hels:els (n+1) (.agg l)=l.length+(l.map (els n)).sum:=rfl
   have hse:((l.map Pl.sndOf).map (els n)).sum<=(l.map (els n)).sum:=by
    cases n with
    | zero =>
     cases l with
     | nil=>exact Nat.le_refl _
     | cons y r=>exact(hp.2 y (by simp)).elim
    | succ m =>
     have h2:=tS (n:=m) l hpr
     have e2:((l.map Pl.sndOf).map (els (m+1)))=(l.map Pl.sndOf).map (els m):=List.map_congr_left (fun x hx=>by
      obtain⟨y,hy,rfl⟩:=List.mem_map.1 hx;have hyp:=List.all_eq_true.1 hpr y hy;have hyd:=hp.2 y hy;unfold Pl.isPair at hyp;split at hyp
      ·rename_i a b;exact gI m (m+1) b (hyd.2 b (by simp)) (by omega)
      ·cases hyp)
     rw [e2];exact h2
   rw [e1] at b2;refine⟨.mk _ _ _ _ _ _ (fun e=>by cases e) (by show 1<=_;simp) (fun x hx=>?_) (by simp [b3];omega) ⟨by simp,by simp,by simp⟩ (Pl.Nm.not (by simp) (by simp)),?_⟩
   ·rcases List.mem_cons.1 hx with rfl | hx
    ·exact a1
    ·exact b1 x hx
   ·rw [hels];simp only [mkF,gH,gY];rw [if_neg (by simp)];omega
  ·cases h
 ·cases h
theorem Pl.headKw_eq{k:Pl.Tre}{r:List Pl.Tre}(e:Pl.headKw (k::r)=some h):k=.lit (.string h):=by
 unfold Pl.headKw at e;split at e
 ·rename_i h2 q hc;obtain⟨rfl,rfl⟩:=List.cons.inj hc;split at e
  ·rw [Option.some.inj e]
  ·cases e
 ·cases e
theorem aAA(hn:n+1<=1000)(ih:∀t f,formOf n t=some f->dT n t->FOk 0 f/\gH f<=els n t){k:Pl.Tre}{r:List Pl.Tre}{f:PF}(hkh:k=.lit (.string h))(hf:Pl.keyF (formOf n) (.agg (k::r)) h r=some f)(hd:dT (n+1) (.agg (k::r))):FOk 0 f/\gH f<=els (n+1) (.agg (k::r)):=by
 have hr:∀x∈r,dT n x:=fun x hx=>hd.2 x (List.mem_cons_of_mem _ hx);have hl:r.length<=297:=by have:=hd.1;simp at this;omega
 have he:els (n+1) (.agg (k::r))=(r.length+1)+(els n k+(r.map (els n)).sum):=rfl;unfold Pl.keyF at hf;split at hf
 ·rename_i hqw;split at hf
  ·rename_i h1;obtain rfl:=Option.some.inj hf
   obtain⟨x,rfl⟩:∃x,r=[x]:=by
    match r,h1 with
    | [x],_=>exact⟨x,rfl⟩
   have hx:=hr x (by simp);refine⟨.mk _ _ _ _ _ _ (fun _=>dT.big n 1000 x hx) rfl (fun y hy=>by simp at hy) (by simp) ⟨by simp,by simp,by simp⟩ ⟨(fun e=>by cases e),fun _=>⟨x,by rw [hkh,hqw]⟩⟩,?_⟩;have e1:els 1000 x=els n x:=gI n 1000 x hx (by omega);rw [he];simp only [mkF,gH,gY,Pl.quoted,if_pos,List.map_cons,List.map_nil,List.sum_cons,List.sum_nil];omega
  ·cases hf
 split at hf
 ·split at hf
  ·rename_i h1;simp only [Option.map_eq_some_iff] at hf;obtain⟨fs,hfs,rfl⟩:=hf;obtain⟨a1,a2,a3⟩:=jY ih r fs hfs hr;refine⟨.mk _ _ _ _ _ _ (fun e=>by cases e) (by show fs.length=3;simpa [a3] using h1) a1 (by omega) ⟨by simp,by simp,by simp⟩ (Pl.Nm.not (by simp) (by simp)),?_⟩;rw [he];simp only [mkF,gH];rw [if_neg (by simp)];omega
  ·cases hf
 split at hf
 ·split at hf
  ·rename_i h1;simp only [Option.map_eq_some_iff] at hf;obtain⟨fs,hfs,rfl⟩:=hf;obtain⟨a1,a2,a3⟩:=jY ih r fs hfs hr
   refine⟨.mk _ _ _ _ _ _ (fun e=>by cases e) (by
    show 1<=fs.length;have:r.length≠0:=fun h0=>by have:=List.eq_nil_of_length_eq_zero h0;subst this;simp at h1
    omega) a1 (by omega) ⟨by simp,by simp,by simp⟩ (Pl.Nm.not (by simp) (by simp)),?_⟩
   rw [he];simp only [mkF,gH];rw [if_neg (by simp)];omega
  ·cases hf
 split at hf
 ·obtain⟨a1,a2⟩:=rJ ih (.inl rfl) hf hr;exact⟨a1,by rw [he];omega⟩
 split at hf
 ·unfold Pl.lam2F at hf;split at hf
  ·rename_i a b;have hA:=hr a (by simp)
   obtain⟨a1,a2⟩:=rA ih hf (fun l e=>by
    subst e
    cases n with
    | zero=>exact hA.elim
    | succ m=>exact⟨hA.1,fun x hx=>aBX (hA.2 x hx)⟩) (hr b (by simp))
   refine⟨a1,?_⟩;rw [he];simp only [List.map_cons,List.map_nil,List.sum_cons,List.sum_nil];omega
  ·cases hf
 split at hf
 ·unfold Pl.let2F at hf;split at hf
  ·rename_i a b;have hA:=hr a (by simp);have hB:=hr b (by simp)
   cases n with
   | zero=>exact hA.elim
   | succ m =>obtain⟨a1,a2⟩:=zX ih hf hA hB;refine⟨a1,?_⟩;rw [he];simp only [List.map_cons,List.map_nil,List.sum_cons,List.sum_nil];omega
  ·cases hf
 ·cases hf
theorem gG:∀(n:Nat),n<=1000->∀(t:Pl.Tre)(f:PF),formOf n t=some f->dT n t->FOk 0 f/\gH f<=els n t
 | 0,_,_,_,h,_=>by cases h
 | n+1,hn,t,f,h,hd=>by
  have ih:=gG n (by omega);have atom:Pl.quoted t=t->Pl.QD t->f=mkF .const [] t [] []->FOk 0 f/\gH f<=els (n+1) t:=fun hq hqd hf=>by subst hf;refine⟨.mk _ _ _ _ _ _ (fun _=>by rw [hq];exact dT.big (n+1) 1000 t hd) rfl (fun y hy=>by simp at hy) (by simp) ⟨by simp,by simp,by simp⟩ ⟨(fun e=>by cases e),fun _=>hqd⟩,?_⟩;have e1:els 1000 t=els (n+1) t:=gI (n+1) 1000 t hd hn;simp only [mkF,gH,gY,hq,if_pos];omega
  match t,h,hd,atom with
  | .lit (.int k m),h,hd,atom=>exact atom rfl trivial (Option.some.inj h).symm
  | .lit (.bool b),h,hd,atom=>exact atom rfl trivial (Option.some.inj h).symm
  | .lit (.string s),h,hd,_ =>
   have h:(if kwB s then none else some (mkF .name s .nil [] []))=some f:=h;split at h
   ·cases h
   ·obtain rfl:=Option.some.inj h;exact⟨.mk _ _ _ _ _ _ (fun e=>by cases e) rfl (fun y hy=>by simp at hy) (by simp) ⟨by simp,hd.2,by simp⟩ ⟨fun _ e=>by have:=hd.1;rw [e] at this;simp at this,(fun e=>by cases e)⟩,by simp [mkF,gH,gY]⟩
  | .agg [],h,_,_=>cases h
  | .agg (k::r),h,hd,_ =>
   have h:(match Pl.headKw (k::r) with | some hh=>Pl.keyF (formOf n) (.agg (k::r)) hh r | none=>(Pl.allF (formOf n) (k::r)).map fun l=>mkF .call [] .nil l [])=some f:=h;split at h
   ·rename_i hh hkw;exact aAA hn ih (Pl.headKw_eq hkw) h hd
   ·simp only [Option.map_eq_some_iff] at h;obtain⟨fs,hfs,rfl⟩:=h;obtain⟨a1,a2,a3⟩:=jY ih (k::r) fs hfs hd.2;have hl:=hd.1;refine⟨.mk _ _ _ _ _ _ (fun e=>by cases e) (by show 1<=fs.length;rw [a3];simp) a1 (by omega) ⟨by simp,by simp,by simp⟩ (Pl.Nm.not (by simp) (by simp)),?_⟩;have he:els (n+1) (.agg (k::r))=(k::r).length+((k::r).map (els n)).sum:=rfl;rw [he];simp only [mkF,gH];rw [if_neg (by simp)];omega
theorem wW(hn:n+1<=1000){t:Pl.Tre}{f:PF}(h:Pl.topOf n t=some f)(hd:dT (n+1) t):FOk 0 f/\gH f<=els (n+1) t:=by
 unfold Pl.topOf at h;split at h
 ·rename_i hh r;split at h
  ·obtain⟨a1,a2⟩:=rJ (gG n (by omega)) (.inr rfl) h (fun x hx=>hd.2 x (List.mem_cons_of_mem _ hx));refine⟨a1,?_⟩;have he:els (n+1) (.agg (.lit (.string hh)::r))=(r.length+1)+(els n (.lit (.string hh))+(r.map (els n)).sum):=rfl;rw [he];omega
  ·exact gG (n+1) hn _ _ h hd
 ·exact gG (n+1) hn _ _ h hd
theorem pls_d(n:Nat)(ih:∀l p,Pl.pd n l=some p->p.gr=false->(∀t∈l,0<t.length/\t.length<=300)->l.length<=300->dT n p.t/\els n p.t+1+2*p.q.length<=2*l.length):∀(k:Nat)(l:List Pl.Tok)(p:Pl.PL),Pl.pls (Pl.pd n) k l=some p->p.gr=false->(∀t∈l,0<t.length/\t.length<=300)->l.length<=300->(p.ts.length+p.q.length+1<=l.length/\(∀x∈p.ts,dT n x)/\p.ts.length+(p.ts.map (els n)).sum+2*p.q.length+2<=2*l.length):=by
 intro k
 induction k with
 | zero=>intro l p h;simp [Pl.pls] at h
 | succ k ihk =>
  intro l p h hg ht hl
  cases l with
  | nil=>simp [Pl.pls] at h
  | cons t r =>
   rw [Pl.pls_cons] at h;split at h
   ·obtain rfl:=Option.some.inj h;simp;omega
   ·cases h1:Pl.pd n (t::r) with
    | none=>rw [h1] at h;simp at h
    | some p1 =>
     rw [h1] at h;dsimp only at h;have tl:=Pl.pd_tail _ _ _ h1
     cases h2:Pl.pls (Pl.pd n) k p1.q with
     | none=>rw [h2] at h;simp at h
     | some p2 =>
      rw [h2] at h;simp only [Option.map_some,Option.some.injEq] at h;subst h;simp only [Bool.or_eq_false_iff] at hg;have hq:p1.q.length<(t::r).length:=tl.2;have o1:=ih _ _ h1 hg.1 ht hl;have o2:=ihk _ _ h2 hg.2 (fun y hy=>ht y (tl.1.mem hy)) (by omega);obtain⟨o3,o4,o5⟩:=o2;have o6:=o1.2;simp only [List.length_cons] at hq o6;refine⟨?_,fun x hx=>?_,?_⟩
      ·simp only [List.length_cons];omega
      ·rcases List.mem_cons.1 hx with rfl | hx
       ·exact o1.1
       ·exact o4 x hx
      ·simp only [List.length_cons,List.map_cons,List.sum_cons];omega
theorem pd_d:∀(n:Nat)(l:List Pl.Tok)(p:Pl.PR),Pl.pd n l=some p->p.gr=false->(∀t∈l,0<t.length/\t.length<=300)->l.length<=300->dT n p.t/\els n p.t+1+2*p.q.length<=2*l.length
 | 0,_,_,h,_,_,_=>by simp [Pl.pd] at h
 | n+1,[],_,h,_,_,_=>by simp [Pl.pd] at h
 | n+1,t::r,p,h,hg,ht,hl=>by
  have hb:=(Pl.pd_ok _ _ _ h).big hg (fun y hy=>(ht y hy).2);have ht0:=(ht t (by simp)).1;unfold Pl.pd at h;split at h
  ·simp at h
  split at h
  ·obtain rfl:=Option.some.inj h;exact⟨trivial,by simp [els];omega⟩
  split at h
  ·obtain rfl:=Option.some.inj h;exact⟨trivial,by simp [els];omega⟩
  split at h
  ·simp only [Option.map_eq_some_iff] at h;obtain⟨p1,h1,rfl⟩:=h;obtain⟨o1,o2⟩:=pd_d n r p1 h1 hg (fun y hy=>ht y (List.mem_cons_of_mem _ hy)) (by simp at hl;omega)
   cases n with
   | zero=>simp [Pl.pd] at h1
   | succ m =>
    refine⟨⟨by simp,fun x hx=>?_⟩,?_⟩
    ·rcases List.mem_cons.1 hx with rfl | hx
     ·show 0<Pl.quoteW.length/\Pl.quoteW.length<=300;decide
     ·obtain rfl:x=p1.t:=by simpa using hx
      exact o1
    ·show 2+(0+(els (m+1) p1.t+0))+1+2*p1.q.length<=2*(t::r).length;simp only [List.length_cons];omega
  split at h
  ·simp only [Option.map_eq_some_iff] at h;obtain⟨p1,h1,rfl⟩:=h;obtain⟨o1,o2,o3⟩:=pls_d n (fun l p=>pd_d n l p) _ _ _ h1 hg (fun y hy=>ht y (List.mem_cons_of_mem _ hy)) (by simp at hl;omega);simp only [List.length_cons] at hl;refine⟨⟨by omega,o2⟩,?_⟩;show p1.ts.length+(p1.ts.map (els n)).sum+1+2*p1.q.length<=2*(t::r).length;simp only [List.length_cons];omega
  ·simp only [Option.map_eq_some_iff] at h;obtain⟨p1,h1,rfl⟩:=h;unfold Pl.pw at h1;split at h1
   ·obtain rfl:=Option.some.inj h1;exact⟨hb,by simp [els];omega⟩
   ·split at h1
    ·obtain rfl:=Option.some.inj h1;exact⟨⟨ht0,hb⟩,by simp [els];omega⟩
    ·simp at h1
theorem aBT{bs:Byt}{f:PF}(hc:Pl.check bs=0)(h:Pl.readF bs=some f):FOk 0 f/\gH f<=1000:=by
 unfold Pl.check at hc;split at hc
 ·cases hc
 ·rename_i hl;unfold Pl.readF at h
  cases ht:Pl.toks bs with
  | none=>rw [ht] at h;cases h
  | some l =>
   rw [ht] at h hc;dsimp only at h hc;split at hc
   ·cases hc
   ·cases hp:Pl.pd l.length l with
    | none=>rw [hp] at h;cases h
    | some p =>
     rw [hp] at h hc;dsimp only at h hc;split at hc
     ·cases hc
     split at hc
     ·cases hc
     split at hc
     ·cases hc
     ·rename_i hgr;have hts:=Pl.toks_size ht;have hln:l.length<=300:=by omega
      obtain⟨d1,d2⟩:=pd_d _ _ _ hp (by simpa using hgr) (fun t h=>by have:=hts.2 t h;omega) hln
      have hpos:∃m,l.length=m+1:=by
       cases hm:l.length with
       | zero=>rw [hm] at hp;simp [Pl.pd] at hp
       | succ m=>exact⟨m,rfl⟩
      obtain⟨m,hm⟩:=hpos;rw [hm] at d1 d2 h;rw [Nat.add_sub_cancel] at h;obtain⟨a1,a2⟩:=wW (by omega) h d1;exact⟨a1,by omega⟩
theorem aBF(ih:∀t f,formOf n t=some f->dT n t->fnd f<=els n t+1):∀(ts:List Pl.Tre)(fs:List PF),Pl.allF (formOf n) ts=some fs->(∀x∈ts,dT n x)->aB5 fs<=(ts.map (els n)).sum+ts.length
 | [],fs,h,_=>by obtain rfl:=Option.some.inj h;rw [aA5];exact Nat.zero_le _
 | y::r,fs,h,hd=>by
  unfold Pl.allF at h
  cases hy:formOf n y with
  | none=>rw [hy] at h;simp at h
  | some a =>rw [hy] at h;simp only [Option.bind_some,Option.map_eq_some_iff] at h;obtain⟨q,hq,rfl⟩:=h;have a2:=ih y a hy (hd y (by simp));have b2:=aBF ih r q hq (fun x hx=>hd x (List.mem_cons_of_mem _ hx));simp only [aAY,List.map_cons,List.sum_cons,List.length_cons];omega
theorem aDM(ih:∀t f,formOf n t=some f->dT n t->fnd f<=els n t+1){ns bd:Pl.Tre}{f:PF}(h:Pl.lamF (formOf n) ns bd=some f)(hd:dT n bd):fnd f<=els n bd+2:=by
 unfold Pl.lamF at h;split at h
 ·split at h
  ·simp only [Option.map_eq_some_iff] at h;obtain⟨g,hg,rfl⟩:=h;have:=ih bd g hg hd;unfold mkF;rw [aAZ,aAY,aA5];omega
  ·cases h
 ·cases h
theorem aDU(ih:∀t f,formOf n t=some f->dT n t->fnd f<=els n t+1){k:FK}{r:List Pl.Tre}{f:PF}(h:Pl.asgF k (formOf n) r=some f)(hd:∀x∈r,dT n x):fnd f<=(r.map (els n)).sum+2:=by
 unfold Pl.asgF at h;split at h
 ·rename_i a e;split at h
  ·simp only [Option.map_eq_some_iff] at h;obtain⟨g,hg,rfl⟩:=h;have:=ih e g hg (hd e (by simp));unfold mkF;rw [aAZ,aAY,aA5];simp only [List.map_cons,List.map_nil,List.sum_cons,List.sum_nil];omega
  ·cases h
 ·cases h
theorem letF_nd(ih:∀t f,formOf (n+1) t=some f->dT (n+1) t->fnd f<=els (n+1) t+1){ps bd:Pl.Tre}{f:PF}(h:Pl.letF (formOf (n+1)) ps bd=some f)(hp:dT (n+1) ps)(hd:dT (n+1) bd):fnd f<=els (n+1) ps+els (n+1) bd+3:=by
 unfold Pl.letF at h;split at h
 ·rename_i l;split at h
  ·rename_i hpr;rw [Option.bind_eq_some_iff] at h;obtain⟨g,hg,h⟩:=h;simp only [Option.map_eq_some_iff] at h;obtain⟨q,hq,rfl⟩:=h;have a2:=aDM ih hg hd
   have hsd:∀x∈l.map Pl.sndOf,dT n x/\dT (n+1) x:=fun x hx=>by
    obtain⟨y,hy,rfl⟩:=List.mem_map.1 hx;have hyp:=List.all_eq_true.1 hpr y hy;have hyd:=hp.2 y hy;unfold Pl.isPair at hyp;split at hyp
    ·rename_i a b
     cases n with
     | zero=>exact hyd.elim
     | succ m =>have:=hyd.2 b (by simp);exact⟨aDQ m (m+1) b this (by omega),aDQ m (m+2) b this (by omega)⟩
    ·cases hyp
   have b2:=aBF ih _ q hq (fun x hx=>(hsd x hx).2);have e1:((l.map Pl.sndOf).map (els (n+1)))=(l.map Pl.sndOf).map (els n):=List.map_congr_left (fun x hx=>gI n (n+1) x (hsd x hx).1 (by omega));have hels:els (n+1) (.agg l)=l.length+(l.map (els n)).sum:=rfl
   have hse:((l.map Pl.sndOf).map (els n)).sum<=(l.map (els n)).sum:=by
    cases n with
    | zero =>
     cases l with
     | nil=>exact Nat.le_refl _
     | cons y r=>exact(hp.2 y (by simp)).elim
    | succ m =>
     have h2:=tS (n:=m) l hpr
     have e2:((l.map Pl.sndOf).map (els (m+1)))=(l.map Pl.sndOf).map (els m):=List.map_congr_left (fun x hx=>by
      obtain⟨y,hy,rfl⟩:=List.mem_map.1 hx;have hyp:=List.all_eq_true.1 hpr y hy;have hyd:=hp.2 y hy;unfold Pl.isPair at hyp;split at hyp
      ·rename_i a b;exact gI m (m+1) b (hyd.2 b (by simp)) (by omega)
      ·cases hyp)
     rw [e2];exact h2
   rw [e1,List.length_map] at b2;rw [hels];unfold mkF;rw [aAZ,aAY];omega
  ·cases h
 ·cases h
theorem keyF_nd(ih:∀t f,formOf n t=some f->dT n t->fnd f<=els n t+1){k:Pl.Tre}{r:List Pl.Tre}{f:PF}(hf:Pl.keyF (formOf n) (.agg (k::r)) h r=some f)(hd:dT (n+1) (.agg (k::r))):fnd f<=els (n+1) (.agg (k::r))+1:=by
 have hr:∀x∈r,dT n x:=fun x hx=>hd.2 x (List.mem_cons_of_mem _ hx);have he:els (n+1) (.agg (k::r))=(r.length+1)+(els n k+(r.map (els n)).sum):=rfl;unfold Pl.keyF at hf;split at hf
 ·split at hf
  ·obtain rfl:=Option.some.inj hf;unfold mkF;rw [aAZ,aA5];omega
  ·cases hf
 split at hf
 ·split at hf
  ·simp only [Option.map_eq_some_iff] at hf;obtain⟨fs,hfs,rfl⟩:=hf;have a2:=aBF ih r fs hfs hr;unfold mkF;rw [he,aAZ];omega
  ·cases hf
 split at hf
 ·split at hf
  ·simp only [Option.map_eq_some_iff] at hf;obtain⟨fs,hfs,rfl⟩:=hf;have a2:=aBF ih r fs hfs hr;unfold mkF;rw [he,aAZ];omega
  ·cases hf
 split at hf
 ·have a2:=aDU ih hf hr;rw [he];omega
 split at hf
 ·unfold Pl.lam2F at hf;split at hf
  ·rename_i a b;have a2:=aDM ih hf (hr b (by simp));rw [he];simp only [List.map_cons,List.map_nil,List.sum_cons,List.sum_nil];omega
  ·cases hf
 split at hf
 ·unfold Pl.let2F at hf;split at hf
  ·rename_i a b;have hA:=hr a (by simp);have hB:=hr b (by simp)
   cases n with
   | zero=>exact hA.elim
   | succ m =>have a2:=letF_nd ih hf hA hB;rw [he];simp only [List.map_cons,List.map_nil,List.sum_cons,List.sum_nil,List.length_cons,List.length_nil];omega
  ·cases hf
 ·cases hf
theorem aA4:∀(n:Nat)(t:Pl.Tre)(f:PF),formOf n t=some f->dT n t->fnd f<=els n t+1
 | 0,_,_,h,_=>by cases h
 | n+1,t,f,h,hd=>by
  have ih:=aA4 n;have atom:∀(k:FK)(s:Byt)(d:Pl.Tre)(ns:List Byt),f=mkF k s d [] ns->fnd f<=els (n+1) t+1:=fun k s d ns hf=>by subst hf;unfold mkF;rw [aAZ,aA5];omega
  match t,h,hd,atom with
  | .lit (.int k m),h,hd,atom=>exact atom _ _ _ _ (Option.some.inj h).symm
  | .lit (.bool b),h,hd,atom=>exact atom _ _ _ _ (Option.some.inj h).symm
  | .lit (.string s),h,hd,atom =>
   have h:(if kwB s then none else some (mkF .name s .nil [] []))=some f:=h;split at h
   ·cases h
   ·exact atom _ _ _ _ (Option.some.inj h).symm
  | .agg [],h,_,_=>cases h
  | .agg (k::r),h,hd,_ =>
   have h:(match Pl.headKw (k::r) with | some hh=>Pl.keyF (formOf n) (.agg (k::r)) hh r | none=>(Pl.allF (formOf n) (k::r)).map fun l=>mkF .call [] .nil l [])=some f:=h;split at h
   ·exact keyF_nd ih h hd
   ·simp only [Option.map_eq_some_iff] at h;obtain⟨fs,hfs,rfl⟩:=h;have a2:=aBF ih (k::r) fs hfs hd.2;have he:els (n+1) (.agg (k::r))=(k::r).length+((k::r).map (els n)).sum:=rfl;unfold mkF;rw [he,aAZ];omega
theorem aDW{t:Pl.Tre}{f:PF}(h:Pl.topOf n t=some f)(hd:dT (n+1) t):fnd f<=els (n+1) t+1:=by
 unfold Pl.topOf at h;split at h
 ·rename_i hh r;split at h
  ·have a2:=aDU (aA4 n) h (fun x hx=>hd.2 x (List.mem_cons_of_mem _ hx));have he:els (n+1) (.agg (.lit (.string hh)::r))=(r.length+1)+(els n (.lit (.string hh))+(r.map (els n)).sum):=rfl;rw [he];omega
  ·exact aA4 (n+1) _ _ h hd
 ·exact aA4 (n+1) _ _ h hd
theorem aDY{bs:Byt}{f:PF}(hc:Pl.check bs=0)(h:Pl.readF bs=some f):fnd f<=1001:=by
 unfold Pl.check at hc;split at hc
 ·cases hc
 ·rename_i hl;unfold Pl.readF at h
  cases ht:Pl.toks bs with
  | none=>rw [ht] at h;cases h
  | some l =>
   rw [ht] at h hc;dsimp only at h hc;split at hc
   ·cases hc
   ·cases hp:Pl.pd l.length l with
    | none=>rw [hp] at h;cases h
    | some p =>
     rw [hp] at h hc;dsimp only at h hc;split at hc
     ·cases hc
     split at hc
     ·cases hc
     split at hc
     ·cases hc
     ·rename_i hgr;have hts:=Pl.toks_size ht;have hln:l.length<=300:=by omega
      obtain⟨d1,d2⟩:=pd_d _ _ _ hp (by simpa using hgr) (fun t h=>by have:=hts.2 t h;omega) hln
      have hpos:∃m,l.length=m+1:=by
       cases hm:l.length with
       | zero=>rw [hm] at hp;simp [Pl.pd] at hp
       | succ m=>exact⟨m,rfl⟩
      obtain⟨m,hm⟩:=hpos;rw [hm] at d1 d2 h;rw [Nat.add_sub_cancel] at h;have:=aDW h d1;omega
theorem lN{bs:Byt}{f:PF}(hc:Pl.check bs=0)(h:Pl.readF bs=some f):FOk 0 f/\(gH f<=1000/\fnd f<=1001):=⟨(aBT hc h).1,(aBT hc h).2,aDY hc h⟩
theorem stT_out:stT 43:=by unfold stT imT;decide
end
end Go.Proofs.YtkgbdddkcjpgfaaGreatDoor
