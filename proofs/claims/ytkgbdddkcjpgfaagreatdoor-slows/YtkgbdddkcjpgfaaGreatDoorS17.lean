import Derived.Test.YtkgbdddkcjpgfaaGreatDoorS16
namespace Go.Proofs.YtkgbdddkcjpgfaaGreatDoor
set_option maxHeartbeats 2000000
set_option maxRecDepth 100000
open Go.Proofs.Tryz
open Pl (PV PW PS PF PFr SR Byt Env plusW minusW timesW lessW eqW)
section
open Go.RowKit
variable {w w':World} {M M':Nat->Prop} {xb wb:Nat} {T:TypeId} {v:Value} {cx:Array Value}
structure Kp(M:Nat->Prop)(w:World)(M':Nat->Prop)(w':World):Prop where
 im:KeepI w w'
 rows:∀(k:Nat)(cur:Array Value)(e:TypeId),e=TB\/e=TV->¬M k->w.heap[k]?=some (.cells cur e (0,0))->w'.heap[k]?=some (.cells cur e (0,0))/\¬M' k
theorem Kp.trans{M1 M2 M3:Nat->Prop}{a b c:World}(h:Kp M1 a M2 b)(k:Kp M2 b M3 c):Kp M1 a M3 c :=⟨fun i cur e hi hb=>k.im i cur e hi (h.im i cur e hi hb),fun i cur e he hm hb=>k.rows i cur e he (h.rows i cur e he hm hb).2 (h.rows i cur e he hm hb).1⟩
theorem Stp.kp(h:Stp M w M' w')(ht:Mty M w):Kp M w M' w':=⟨h.keepI ht,fun k _ _ _ hm hb=>⟨(h.block k (aB hb) hm).1.trans hb,(h.block k (aB hb) hm).2⟩⟩
theorem Sl.kp{sz:Nat}{n:Nat}{xs:List Value}(h:Kp M w M' w')(hT:T=TB\/T=TV)(hs:Sl M w T sz v n xs):Sl M' w' T sz v n xs:=by obtain⟨h0,ao,cap,rfl,h2,h3⟩:=hs;refine⟨h0,ao,cap,rfl,h2,h3.imp id ?_⟩;rintro⟨g,off,cur,rfl,hm,hg,hc⟩;obtain⟨e1,e2⟩:=h.rows g cur T hT hm hg;exact⟨g,off,cur,rfl,e2,e1,hc⟩
theorem FrAt.kp(h:Kp M w M' w'):∀(v:Value)(l:List PFr),FrAt M w v l->FrAt M' w' v l
 | _,[],hf=>hf
 | _,_::r,hf=>by obtain⟨b,fv,gv,ev,up,hv,hb,h1,h2,h3,h4⟩:=hf;exact⟨b,fv,gv,ev,up,hv,h.im b _ _ (.inr (.inr (.inr (.inr (.inr rfl))))) hb,h1.keep h.im,h2.kp h (.inr rfl),h3.kp h (.inl rfl),FrAt.kp h up r h4⟩
theorem eV(hg:w.grownBy w' (some xb))(hx:w.heap[xb]?=some (.cells cx T (0,0)))(ht:¬imT T)(h1:T≠TB)(h2:T≠TV):Kp M w M w':=by
 refine⟨fun k cur e hi hb=>(hg.block k (aB hb) ?_).trans hb,fun k cur e he hm hb=>⟨(hg.block k (aB hb) ?_).trans hb,hm⟩⟩
 ·intro e1;have e1:k=xb:=by simpa using e1
  subst e1;exact ht ((aK hb hx).2▸hi)
 ·intro e1;have e1:k=xb:=by simpa using e1
  subst e1;rcases he with rfl | rfl
  ·exact h1 (aK hb hx).2.symm
  ·exact h2 (aK hb hx).2.symm
def stT(T:TypeId):Prop:=T≠TWd/\T≠TPa/\T≠TPc/\T≠TFrP/\T≠TV/\T≠TB/\¬imT T
theorem eC:stT TSt:=by unfold stT imT;decide
theorem RW.grown{W:PW}(h:RW w wb M W)(hg:w.grownBy w' (some xb))(hx:w.heap[xb]?=some (.cells cx T (0,0)))(ht:stT T):RW w' wb M W:=by
 have hm:¬M xb:=h.notM hx (by obtain⟨h1,h2,h3,h4,h5,h6,_⟩:=ht;rintro(e | e | e | e | e | e)<;>contradiction);obtain⟨pv,qv,cv,lv,gv,qs,cs,rfl,h⟩:=h;have hk:Kp (Mof wb [pv,qv,cv,lv,gv]) w (Mof wb [pv,qv,cv,lv,gv]) w':=eV hg hx ht.2.2.2.2.2.2 ht.2.2.2.2.2.1 ht.2.2.2.2.1
 have hr:∀{T:TypeId} {sz:Nat} {v:Value} {n:Nat} {xs:List Value},v∈[pv,qv,cv,lv,gv]->w.ownsRow 0 T sz v n xs->w'.ownsRow 0 T sz v n xs:=by
  intro T sz v n xs hv h;refine⟨h.1,?_⟩;rcases h.2 with hn | ⟨g,cap,cur,rfl,h0,hgg,rest⟩
  ·exact .inl hn
  ·refine .inr ⟨g,cap,cur,rfl,h0,(hg.block g (aB hgg) ?_).trans hgg,rest⟩;intro e;have e:g=xb:=by simpa using e
   subst e;exact hm (.inr ⟨_,hv,rfl⟩)
 refine⟨pv,qv,cv,lv,gv,qs,cs,rfl,⟨(hg.block wb (aB h.blk) (fun e=>hm (.inl (by simpa using e.symm)))).trans h.blk,hr (by simp) h.pr,hr (by simp) h.pc,?_,hr (by simp) h.cn,?_,hr (by simp) h.pl,hr (by simp) h.gl,h.out⟩⟩
 ·intro i p hi;obtain⟨fv,ev,a,b,c,d,e⟩:=h.pcs i p hi;exact⟨fv,ev,a,b,c.keep hk.im,d,e.kp hk (.inl rfl)⟩
 ·intro i fs hi;obtain⟨u,a,b⟩:=h.cns i fs hi;exact⟨u,a,FrAt.kp hk _ _ b⟩
def StV(w:World)(S:PS)(fv c0 c1 c2:Value):Prop:=match S.form with
 | some f=>RF w fv f
 | none=>fv=.pointer none/\[c0,c1,c2]=cZ S.val
def RS(M:Nat->Prop)(w:World)(xb:Nat)(S:PS):Prop:=∃fv ev c0 c1 c2 frv,w.heap[xb]?=some (.cells #[fv,ev,c0,c1,c2,frv] TSt (0,0))/\StV w S fv c0 c1 c2/\EnvAt M w ev S.env/\FrAt M w frv S.frames
theorem StV.keep{S:PS}{fv c0 c1 c2:Value}(h:KeepI w w')(hs:StV w S fv c0 c1 c2):StV w' S fv c0 c1 c2:=by
 unfold StV at hs ⊢
 cases hf:S.form with
 | some f=>rw [hf] at hs;exact RF.keep h hs
 | none=>rw [hf] at hs;exact hs
theorem RS.kp{S:PS}(h:RS M w xb S)(hk:Kp M w M' w')(hx:w'.heap[xb]?=w.heap[xb]?):RS M' w' xb S:=by obtain⟨fv,ev,c0,c1,c2,frv,hb,h1,h2,h3⟩:=h;exact⟨fv,ev,c0,c1,c2,frv,hx.trans hb,h1.keep hk.im,h2.kp hk (.inl rfl),FrAt.kp hk _ _ h3⟩
theorem RS.notM{W:PW}{S:PS}(h:RS M w xb S)(hW:RW w wb M W):¬M xb:=by obtain⟨fv,ev,c0,c1,c2,frv,hb,_⟩:=h;exact hW.notM hb (by decide)
theorem RS.stp{W:PW}{S:PS}(h:RS M w xb S)(hW:RW w wb M W)(hs:Stp M w M' w'):RS M' w' xb S:=by
 have hm:=h.notM hW;have hx:xb<w.heap.size:=by obtain⟨fv,ev,c0,c1,c2,frv,hb,_⟩:=h;exact aB hb
 exact h.kp (hs.kp hW.mty) (hs.block xb hx hm).1
theorem RS.later{W:PW}{S:PS}(h:RS M w xb S)(hW:RW w wb M W)(hb:Below w.heap.size w w'):RS M w' xb S:=h.stp hW (Stp.of_below hb)
def Mx(M:Nat->Prop)(xb:Nat)(k:Nat):Prop:=M k\/k=xb
theorem Stp.mx(h:Stp M w M' w')(xb:Nat):Stp (Mx M xb) w (Mx M' xb) w' :=
 ⟨h.os,h.tape,h.output,h.size,fun k hk hn=>⟨(h.block k hk (fun e=>hn (.inl e))).1,by
  rintro(e | e)
  ·exact(h.block k hk (fun e=>hn (.inl e))).2 e
  ·exact hn (.inr e)⟩⟩
theorem bV(h:w.grownBy w' (some xb)):Stp (Mx M xb) w (Mx M xb) w' :=⟨h.os,h.tape,h.output,h.size,fun k hk hn=>⟨h.block k hk (fun e=>hn (.inr (by simpa using e))),hn⟩⟩
theorem xX(w:World)(xb:Nat)(fv ev c0 c1 c2 frv:Value)(x:PV)(hb:w.heap[xb]?=some (.cells #[fv,ev,c0,c1,c2,frv] TSt (0,0))) :Calls prog 88 #[.pointer (some ⟨xb,0,none⟩),bT x] w fun e w'=>e=.returned (.tuple #[])/\w.grownBy w' (some xb)/\w'.heap[xb]?=some (.cells #[.pointer none,ev,byV (vK x),.int .i64 (vN x),byV (vS x),frv] TSt (0,0)):=by
 have hlt:=aB hb;have hA:∀(X:World)(o:Obj)(cur:Array Value),X.heap[xb]?=some (.cells cur TSt (0,0))->(X.alloc o).heap[xb]?=some (.cells cur TSt (0,0)):=fun X o cur h=>(Below.heap_alloc X o xb (aB h)).trans h;have d0:∀o:Obj,(w.alloc o).cell? ⟨xb,0,none⟩=some fv:=fun o=>aA (hA w o _ hb) 0;have g0:∀o:Obj,(w.alloc o).frozen? ⟨xb,0,none⟩=false:=fun o=>aF (hA w o _ hb) 0;have hb1:∀(a:Value),(w.setCell ⟨xb,0,none⟩ a).heap[xb]?=some (.cells #[a,ev,c0,c1,c2,frv] TSt (0,0)):=fun a=>aD hb 0 a;have d2:∀(o:Obj)(a:Value),((w.setCell ⟨xb,0,none⟩ a).alloc o).cell? ⟨xb,2,none⟩=some c0:=fun o a=>aA (hA _ o _ (hb1 a)) 2;have g2:∀(o:Obj)(a:Value),((w.setCell ⟨xb,0,none⟩ a).alloc o).frozen? ⟨xb,2,none⟩=false:=fun o a=>aF (hA _ o _ (hb1 a)) 2;have hb2:∀(a b:Value),((w.setCell ⟨xb,0,none⟩ a).setCell ⟨xb,2,none⟩ b).heap[xb]?=some (.cells #[a,ev,b,c1,c2,frv] TSt (0,0)):=fun a b=>aD (hb1 a) 2 b;have d3:∀(o:Obj)(a b:Value),(((w.setCell ⟨xb,0,none⟩ a).setCell ⟨xb,2,none⟩ b).alloc o).cell? ⟨xb,3,none⟩=some c1:=fun o a b=>aA (hA _ o _ (hb2 a b)) 3;have g3:∀(o:Obj)(a b:Value),(((w.setCell ⟨xb,0,none⟩ a).setCell ⟨xb,2,none⟩ b).alloc o).frozen? ⟨xb,3,none⟩=false:=fun o a b=>aF (hA _ o _ (hb2 a b)) 3;have hb3:∀(a b c:Value),(((w.setCell ⟨xb,0,none⟩ a).setCell ⟨xb,2,none⟩ b).setCell ⟨xb,3,none⟩ c).heap[xb]?=some (.cells #[a,ev,b,c,c2,frv] TSt (0,0)):=fun a b c=>aD (hb2 a b) 3 c;have d4:∀(o:Obj)(a b c:Value),((((w.setCell ⟨xb,0,none⟩ a).setCell ⟨xb,2,none⟩ b).setCell ⟨xb,3,none⟩ c).alloc o).cell? ⟨xb,4,none⟩=some c2:=fun o a b c=>aA (hA _ o _ (hb3 a b c)) 4;have g4:∀(o:Obj)(a b c:Value),((((w.setCell ⟨xb,0,none⟩ a).setCell ⟨xb,2,none⟩ b).setCell ⟨xb,3,none⟩ c).alloc o).frozen? ⟨xb,4,none⟩=false:=fun o a b c=>aF (hA _ o _ (hb3 a b c)) 4;have HB4:Hid (∀(o:Obj)(a b c d:Value),(((((w.setCell ⟨xb,0,none⟩ a).setCell ⟨xb,2,none⟩ b).setCell ⟨xb,3,none⟩ c).setCell ⟨xb,4,none⟩ d).alloc o).heap[xb]?=some (.cells #[a,ev,b,c,d,frv] TSt (0,0))):=fun o a b c d=>hA _ o _ (aD (hb3 a b c) 4 d);clear hA hb1 hb2 hb3 hb;unfold bT byV;go_enter func88,ntmps88;go_wp2_with fail
 go_end0
 refine⟨rfl,?_,HB4.out _ _ _ _ _⟩;exact aC (aC (aC (aC (aE _ _ _ _) (aE _ _ _ _)) (aE _ _ _ _)) (aE _ _ _ _)) (aQ _ ((Below.refl _ _).alloc (Nat.le_refl _) _))
theorem xR(w:World)(xb:Nat)(fv ev c0 c1 c2 frv:Value)(po ao:Option Addr)(n cap:Nat)(hb:w.heap[xb]?=some (.cells #[fv,ev,c0,c1,c2,frv] TSt (0,0))) :Calls prog 91 #[.pointer (some ⟨xb,0,none⟩),.pointer po,.slice ao n cap] w fun e w'=>e=.returned (.tuple #[])/\w.grownBy w' (some xb)/\w'.heap[xb]?=some (.cells #[.pointer po,.slice ao n cap,c0,c1,c2,frv] TSt (0,0)):=by
 have d0:w.cell? ⟨xb,0,none⟩=some fv:=aA hb 0;have g0:w.frozen? ⟨xb,0,none⟩=false:=aF hb 0;have hb1:∀(a:Value),(w.setCell ⟨xb,0,none⟩ a).heap[xb]?=some (.cells #[a,ev,c0,c1,c2,frv] TSt (0,0)):=fun a=>aD hb 0 a;have d1:∀(a:Value),(w.setCell ⟨xb,0,none⟩ a).cell? ⟨xb,1,none⟩=some ev:=fun a=>aA (hb1 a) 1;have g1:∀(a:Value),(w.setCell ⟨xb,0,none⟩ a).frozen? ⟨xb,1,none⟩=false:=fun a=>aF (hb1 a) 1;have HB2:Hid (∀(a b:Value),((w.setCell ⟨xb,0,none⟩ a).setCell ⟨xb,1,none⟩ b).heap[xb]?=some (.cells #[a,b,c0,c1,c2,frv] TSt (0,0))):=fun a b=>aD (hb1 a) 1 b;clear hb1 hb;go_enter func91,ntmps91;go_wp2_with fail
 go_end0
 exact⟨rfl,aC (aE _ _ _ _) (aE _ _ _ _),HB2.out _ _⟩
theorem uD(M:Nat->Prop)(w:World)(xb:Nat)(S:PS)(h:RS M w xb S) :Calls prog 53 #[.pointer (some ⟨xb,0,none⟩)] w fun e w'=>e=.returned (.bool S.ended)/\w=w':=by
 obtain⟨fv,ev,c0,c1,c2,frv,hb,h1,h2,h3⟩:=h;have d0:w.cell? ⟨xb,0,none⟩=some fv:=aA hb 0;have d5:w.cell? ⟨xb,5,none⟩=some frv:=aA hb 5;clear hb h2
 cases hf:S.form with
 | some f =>
  have HE:Hid (S.ended=false):=by simp [Hid,Pl.PS.ended,hf]
  simp only [StV,hf] at h1;obtain⟨n,hn⟩:=h1
  cases n with
  | zero=>exact hn.elim
  | succ n =>obtain⟨k,nm,d,pv,ks,ns⟩:=f;obtain⟨b,dv,kv,nv,x0,x1,x2,us,rfl,_⟩:=hn;clear hf h3;go_enter func53,ntmps53;go_wp2_with fail;go_ret;exact⟨by rw [HE.out];rfl,rfl⟩
 | none =>
  simp only [StV,hf] at h1;obtain⟨rfl,_⟩:=h1
  cases hr:S.frames with
  | nil =>
   have HE:Hid (S.ended=true):=by simp [Hid,Pl.PS.ended,hf,hr]
   rw [hr] at h3;have h3:frv=.pointer none:=h3;subst h3;clear hf hr;go_enter func53,ntmps53;go_wp2_with fail;go_ret;exact⟨by rw [HE.out];rfl,rfl⟩
  | cons a r =>
   have HE:Hid (S.ended=false):=by simp [Hid,Pl.PS.ended,hf,hr]
   rw [hr] at h3;obtain⟨b,_,_,_,_,rfl,_⟩:=h3;clear hf hr;go_enter func53,ntmps53;go_wp2_with fail;go_ret;exact⟨by rw [HE.out];rfl,rfl⟩
theorem lI(M:Nat->Prop)(w:World)(xb:Nat)(fv ev c0 c1 c2 frv:Value)(fs:List PFr)(po ga ea uo:Option Addr)(gn gc en ec:Nat)(pos n0:Int)(hb:w.heap[xb]?=some (.cells #[fv,ev,c0,c1,c2,frv] TSt (0,0)))(hf:FrAt M w frv fs)(hl:fs.length<=1000000000) :Calls prog 90 #[.pointer (some ⟨xb,0,none⟩),.agg #[.pointer po,.slice ga gn gc,.int .i64 pos,.slice ea en ec,.pointer uo,.int .i64 n0]] w fun e w'=>e=.returned (.tuple #[])/\w.grownBy w' (some xb) /\
   w'.heap[xb]?=some (.cells #[fv,ev,c0,c1,c2,.pointer (some ⟨w.heap.size,0,none⟩)] TSt (0,0))/\w'.heap[w.heap.size]?=some (.cells #[.pointer po,.slice ga gn gc,.int .i64 pos,.slice ea en ec,frv,.int .i64 (fs.length+1:Nat)] TFr (0,0)):=by
 have hlt:=aB hb;have hA:∀(X:World)(o:Obj)(cur:Array Value)(T:TypeId)(k:Nat),X.heap[k]?=some (.cells cur T (0,0))->(X.alloc o).heap[k]?=some (.cells cur T (0,0)):=fun X o cur T k h=>(Below.heap_alloc X o k (aB h)).trans h;have d5:∀o:Obj,(w.alloc o).cell? ⟨xb,5,none⟩=some frv:=fun o=>aA (hA w o _ _ _ hb) 5;have g5:∀o:Obj,(w.alloc o).frozen? ⟨xb,5,none⟩=false:=fun o=>aF (hA w o _ _ _ hb) 5;have HB1:Hid (∀(o:Obj)(a:Value),((w.setCell ⟨xb,5,none⟩ a).alloc o).heap[xb]?=some (.cells #[fv,ev,c0,c1,c2,a] TSt (0,0))):=fun o a=>hA _ o _ _ _ (aD hb 5 a)
 have HB2:Hid (∀(cs:Array Value)(a:Value),((w.setCell ⟨xb,5,none⟩ a).alloc (.cells cs 176)).heap[w.heap.size]?=some (.cells cs TFr (0,0))):=by
  intro cs a;have:=heap_alloc_new (w.setCell ⟨xb,5,none⟩ a) (.cells cs 176)
  rwa [show(w.setCell ⟨xb,5,none⟩ a).heap.size=w.heap.size from by simp [World.setCell]] at this
 have HG:Hid (∀(o:Obj)(a:Value),w.grownBy ((w.setCell ⟨xb,5,none⟩ a).alloc o) (some xb)):=fun o a=>aC (aE _ _ _ _) (aQ _ ((Below.refl _ _).alloc (Nat.le_refl _) _))
 cases fs with
 | nil =>
  have hf:frv=.pointer none:=hf;subst hf;clear hA hb;go_enter func90,ntmps90;go_wp2_with fail
  go_end0
  exact⟨rfl,HG.out _ _,HB1.out _ _,HB2.out _ _⟩
 | cons f r =>
  obtain⟨b,fv1,gv1,ev1,up1,rfl,hb1,_⟩:=hf;have z5:∀o:Obj,(w.alloc o).cell? ⟨b,5,none⟩=some (.int .i64 (r.length+1:Nat)):=fun o=>aA (hA w o _ _ _ hb1) 5;have hbl:=aB hb1;simp only [List.length_cons] at hl ⊢;clear hA hb hb1;go_enter func90,ntmps90;go_wp2_with fail
  go_end0
  refine⟨rfl,HG.out _ _,HB1.out _ _,?_⟩;have:=HB2.out;rw [this]
  congr
  try go_num
  try omega
theorem cT(w:World)(b:Bool) :Calls prog 195 #[.bool b] w fun e w'=>e=.returned (bT (.truth b))/\Below w.heap.size w w':=by
 have hB:∀o1 o2:Obj,Below w.heap.size w ((w.alloc o1).alloc o2):=fun o1 o2=>((Below.refl _ _).alloc (Nat.le_refl _) _).alloc (by simp) _;have HB:Hid (∀o1 o2:Obj,Below w.heap.size w ((w.alloc o1).alloc o2)):=hB;clear hB
 cases b with
 | false =>
  go_enter func195,ntmps195
  go_wp2_with fail
  (try simp only [Exit.inBlock,Exit.then])
  refine bodyPost_ret (v:=bT (.truth false)) ?_ rfl ?_
  ·rw [aO rfl];simp only [bT,byV,vK,vN,vS,kTr]
   go_simp
   try rfl
  ·exact⟨rfl,HB.out _ _⟩
 | true =>
  go_enter func195,ntmps195
  go_wp2_with fail
  (try simp only [Exit.inBlock,Exit.then])
  refine bodyPost_ret (v:=bT (.truth true)) ?_ rfl ?_
  ·rw [aO rfl];simp only [bT,byV,vK,vN,vS,kTr]
   go_simp
   try rfl
  ·exact⟨rfl,HB.out _ _⟩
theorem dP(p:Int)(h:p.natAbs<=1099511627776):wrap64 p=p:=IntWalk.wrap64_in p (by omega)
theorem aAF(x y:Nat)(hx:0<x):(1099511627776 / x<y)↔¬(x*y<=1099511627776):=by rw [Nat.div_lt_iff_lt_mul hx,Nat.mul_comm y x];omega
theorem jB(a b y:Int)(ha:0<a)(hy:y=(b.natAbs:Int)):1099511627776 / a<y↔¬(a*b).natAbs<=1099511627776:=by
 subst hy;obtain⟨n,rfl⟩:∃n:Nat,a=(n:Int):=⟨a.natAbs,by omega⟩
 rw [Int.natAbs_mul,show((n:Int)).natAbs=n from rfl];have:=aAF n b.natAbs (by omega);rw [<- this];rw [show(1099511627776:Int) / (n:Int)=((1099511627776 / n:Nat):Int) from rfl];omega
theorem lP(a b y:Int)(ha:a<0)(hy:y=(b.natAbs:Int)):wrap64 (-Int.tdiv 1099511627776 a)<y↔¬(a*b).natAbs<=1099511627776:=by
 have h:=jB (-a) b y (by omega) hy;have h1 : -Int.tdiv 1099511627776 a=1099511627776 / (-a):=by rw [<- Int.tdiv_neg,Int.tdiv_eq_ediv_of_nonneg (by decide)]
 have h2:1099511627776 / (-a)<=1099511627776:=Int.ediv_le_self _ (by decide);have h3:0<=1099511627776 / (-a):=Int.ediv_nonneg (by decide) (by omega);rw [h1,IntWalk.wrap64_in _ (by omega),h,show(-a*b).natAbs=(a*b).natAbs from by rw [Int.neg_mul,Int.natAbs_neg]]
theorem i7(w:World)(a b r:Int)(ok:Bool)(ha:a.natAbs<=1099511627776)(hb:b.natAbs<=1099511627776)(hr:Hid (r=if(a*b).natAbs<=1099511627776 then a*b else 0))(hok:Hid (ok=decide ((a*b).natAbs<=1099511627776))) :Calls prog 212 #[.int .i64 a,.int .i64 b] w fun e w'=>e=.returned (.tuple #[.int .i64 r,.bool ok])/\w=w':=by
 by_cases ha0:a<0
 ·by_cases hb0:b<0
  ·go_enter func212,ntmps212
   go_wp2_with fail
   ·have h:=(lP a b (-b) ha0 (by omega)).1 (by assumption);go_ret2;exact⟨by rw [hr.out,hok.out,if_neg h,decide_eq_false h];rfl,rfl⟩
   ·have h:(a*b).natAbs<=1099511627776:=Decidable.byContradiction fun h=>by have:=(lP a b (-b) ha0 (by omega)).2 h;omega
    go_ret2;exact⟨by rw [hr.out,hok.out,if_pos h,decide_eq_true h];simp only [dP _ h];rfl,rfl⟩
  ·go_enter func212,ntmps212
   go_wp2_with fail
   ·have h:=(lP a b b ha0 (by omega)).1 (by assumption);go_ret2;exact⟨by rw [hr.out,hok.out,if_neg h,decide_eq_false h];rfl,rfl⟩
   ·have h:(a*b).natAbs<=1099511627776:=Decidable.byContradiction fun h=>by have:=(lP a b b ha0 (by omega)).2 h;omega
    go_ret2;exact⟨by rw [hr.out,hok.out,if_pos h,decide_eq_true h];simp only [dP _ h];rfl,rfl⟩
 ·by_cases hb0:b<0
  ·by_cases hz:0<a
   ·go_enter func212,ntmps212
    go_wp2_with fail
    ·have h:=(jB a b (-b) hz (by omega)).1 (by assumption);go_ret2;exact⟨by rw [hr.out,hok.out,if_neg h,decide_eq_false h];rfl,rfl⟩
    ·have h:(a*b).natAbs<=1099511627776:=Decidable.byContradiction fun h=>by have:=(jB a b (-b) hz (by omega)).2 h;omega
     go_ret2;exact⟨by rw [hr.out,hok.out,if_pos h,decide_eq_true h];simp only [dP _ h];rfl,rfl⟩
   ·go_enter func212,ntmps212
    go_wp2_with fail
    have h:(a*b).natAbs<=1099511627776:=by rw [show a=0 from by omega];simp
    go_ret2;exact⟨by rw [hr.out,hok.out,if_pos h,decide_eq_true h];simp only [dP _ h];rfl,rfl⟩
  ·by_cases hz:0<a
   ·go_enter func212,ntmps212
    go_wp2_with fail
    ·have h:=(jB a b b hz (by omega)).1 (by assumption);go_ret2;exact⟨by rw [hr.out,hok.out,if_neg h,decide_eq_false h];rfl,rfl⟩
    ·have h:(a*b).natAbs<=1099511627776:=Decidable.byContradiction fun h=>by have:=(jB a b b hz (by omega)).2 h;omega
     go_ret2;exact⟨by rw [hr.out,hok.out,if_pos h,decide_eq_true h];simp only [dP _ h];rfl,rfl⟩
   ·go_enter func212,ntmps212
    go_wp2_with fail
    have h:(a*b).natAbs<=1099511627776:=by rw [show a=0 from by omega];simp
    go_ret2;exact⟨by rw [hr.out,hok.out,if_pos h,decide_eq_true h];simp only [dP _ h];rfl,rfl⟩
def Res(M:Nat->Prop)(w:World)(wb xb:Nat)(r:SR)(e:Ending)(w':World):Prop :=e=.returned (.int .i64 (r.e:Int))/\∃M',RW w' wb M' r.W/\Stp (Mx M xb) w (Mx M' xb) w'/\(r.e=0->RS M' w' xb r.S)
theorem RS.grown{S S':PS}{fv ev c0 c1 c2 frv:Value}(hg:w.grownBy w' (some xb))(hx:w.heap[xb]?=some (.cells cx TSt (0,0)))(hb:w'.heap[xb]?=some (.cells #[fv,ev,c0,c1,c2,frv] TSt (0,0)))
  (h1:StV w S' fv c0 c1 c2) (h2:EnvAt M w ev S'.env) (h3:FrAt M w frv S'.frames) (_h:S=S'):RS M w' xb S' :=
 have hk:Kp M w M w':=eV hg hx eC.2.2.2.2.2.2 (by decide) (by decide)
 ⟨fv,ev,c0,c1,c2,frv,hb,h1.keep hk.im,h2.kp hk (.inl rfl),FrAt.kp hk _ _ h3⟩
theorem aT(w:World)(wb xb:Nat)(M:Nat->Prop)(W:PW)(S:PS)(x:PV)(hW:RW w wb M W)(hS:RS M w xb S) :Calls prog 88 #[.pointer (some ⟨xb,0,none⟩),bT x] w fun e w'=>e=.returned (.tuple #[])/\RW w' wb M W/\RS M w' xb (S.give x)/\Stp (Mx M xb) w (Mx M xb) w':=by obtain⟨fv,ev,c0,c1,c2,frv,hb,h1,h2,h3⟩:=hS;refine(xX w xb fv ev c0 c1 c2 frv x hb).mono ?_;rintro e w' ⟨rfl,hg,hb'⟩;exact⟨rfl,hW.grown hg hb eC,RS.grown (S':=S.give x) hg hb hb' ⟨rfl,rfl⟩ h2 h3 rfl,bV hg⟩
theorem cP(w:World)(wb xb:Nat)(M:Nat->Prop)(W:PW)(S:PS)(f:PF)(env:Env)(fv ev:Value)(hW:RW w wb M W)(hS:RS M w xb S)(hf:RF w fv f)(he:EnvAt M w ev env) :Calls prog 91 #[.pointer (some ⟨xb,0,none⟩),fv,ev] w fun e w'=>e=.returned (.tuple #[])/\RW w' wb M W/\RS M w' xb (S.work (some f) env)/\Stp (Mx M xb) w (Mx M xb) w':=by
 obtain⟨fv0,ev0,c0,c1,c2,frv,hb,h1,h2,h3⟩:=hS;have hf':=hf;obtain⟨n,hn⟩:=hf
 cases n with
 | zero=>exact hn.elim
 | succ n =>obtain⟨k,nm,d,pv,ks,ns⟩:=f;obtain⟨b,dv,kv,nv,x0,x1,x2,us,rfl,_⟩:=hn;obtain⟨ao,cap,rfl,_⟩:=he.shape;refine(xR w xb fv0 ev0 c0 c1 c2 frv _ _ _ _ hb).mono ?_;rintro e w' ⟨rfl,hg,hb'⟩;exact⟨rfl,hW.grown hg hb eC,RS.grown (S':=S.work (some _) env) hg hb hb' hf' he h3 rfl,bV hg⟩
theorem got2{x y:PV}(h:GotAt M w v [x,y]):∃g off cap,v=.slice (some ⟨g,off,none⟩) 2 cap/\2<=cap/\g<w.heap.size/\¬M g/\w.cell? ⟨g,off,none⟩=some (.string ⟨(vK x).toArray⟩)/\w.cell? ⟨g,off+1,none⟩=some (.int .i64 (vN x))/\w.cell? ⟨g,off+2,none⟩=some (.string ⟨(vS x).toArray⟩) /\
  w.cell? ⟨g,off+3,none⟩=some (.string ⟨(vK y).toArray⟩)/\w.cell? ⟨g,off+3+1,none⟩=some (.int .i64 (vN y))/\w.cell? ⟨g,off+3+2,none⟩=some (.string ⟨(vS y).toArray⟩):=by
 obtain⟨ao,cap,rfl,hc⟩:=h.shape;obtain⟨g,off,rfl,hg,hm,hcell⟩:=Sl.cell h (by simp);exact⟨g,off,cap,rfl,hc,hg,hm,hcell 0 _ rfl,hcell 1 _ rfl,hcell 2 _ rfl,hcell 3 _ rfl,hcell 4 _ rfl,hcell 5 _ rfl⟩
theorem aAD{x:PV}(h:GotAt M w v [x]):∃g off cap,v=.slice (some ⟨g,off,none⟩) 1 cap/\1<=cap/\g<w.heap.size/\¬M g/\w.cell? ⟨g,off,none⟩=some (.string ⟨(vK x).toArray⟩)/\w.cell? ⟨g,off+1,none⟩=some (.int .i64 (vN x))/\w.cell? ⟨g,off+2,none⟩=some (.string ⟨(vS x).toArray⟩):=by obtain⟨ao,cap,rfl,hc⟩:=h.shape;obtain⟨g,off,rfl,hg,hm,hcell⟩:=Sl.cell h (by simp);exact⟨g,off,cap,rfl,hc,hg,hm,hcell 0 _ rfl,hcell 1 _ rfl,hcell 2 _ rfl⟩
theorem notNum(x:PV)(h:∀n,x≠.num n):(vK x==[110,117,109,98,101,114])=false/\(vK x !=[110,117,109,98,101,114])=true:=by
 cases x with
 | num n=>exact absurd rfl (h n)
 | _=>exact⟨rfl,rfl⟩
theorem tZ(W:PW)(S:PS)(a b:Int):Pl.reckon W S [43] (.num a) (.num b)=if(a+b).natAbs<=1099511627776 then⟨0,W,S.give (.num (a+b))⟩ else⟨11,W,S⟩:=rfl
theorem qF(W:PW)(S:PS)(a b:Int):Pl.reckon W S [45] (.num a) (.num b)=if(a-b).natAbs<=1099511627776 then⟨0,W,S.give (.num (a-b))⟩ else⟨11,W,S⟩:=rfl
theorem qE(W:PW)(S:PS)(a b:Int):Pl.reckon W S [42] (.num a) (.num b)=if(a*b).natAbs<=1099511627776 then⟨0,W,S.give (.num (a*b))⟩ else⟨11,W,S⟩:=rfl
theorem dO(w:World)(wb xb:Nat)(M M2:Nat->Prop)(W:PW)(S:PS)(s:Byt)(av:Value)(x y:PV)(hs:s=plusW\/s=minusW\/s=timesW\/s=lessW\/s=eqW)(hW:RW w wb M W)(hS:RS M w xb S)(ha:GotAt M2 w av [x,y])(hx:WfV W x)(hy:WfV W y) :Calls prog 196 #[.pointer (some ⟨wb,0,none⟩),.pointer (some ⟨xb,0,none⟩),.string ⟨s.toArray⟩,av] w fun e w'=>Res M w wb xb (Pl.reckon W S s x y) e w':=by
 have HW:Hid (RW w wb M W):=hW;have HS:Hid (RS M w xb S):=hS;obtain⟨g,off,cap,rfl,hcap,hgl,_,k0,n0,_,k1,n1,_⟩:=got2 ha;clear hW hS ha;by_cases hx1:∃a,x=.num a
 ·by_cases hy1:∃b,y=.num b
  ·obtain⟨a,rfl⟩:=hx1;obtain⟨b,rfl⟩:=hy1;have hxa:a.natAbs<=1099511627776:=hx;have hyb:b.natAbs<=1099511627776:=hy;have k0':w.cell? ⟨g,off,none⟩=some (.string ⟨#[110,117,109,98,101,114]⟩):=k0;have k1':w.cell? ⟨g,off+3,none⟩=some (.string ⟨#[110,117,109,98,101,114]⟩):=k1;have n0':w.cell? ⟨g,off+1,none⟩=some (.int .i64 a):=n0;have n1':w.cell? ⟨g,off+3+1,none⟩=some (.int .i64 b):=n1;clear k0 k1 n0 n1 hx hy;rcases hs with rfl | rfl | rfl | rfl | rfl
   ·unfold plusW;by_cases hf:(a+b).natAbs<=1099511627776
    ·have HR:Hid (Pl.reckon W S [43] (.num a) (.num b)=⟨0,W,S.give (.num (a+b))⟩):=show Pl.reckon W S [43] (.num a) (.num b)=_ from by
      rw [tZ,if_pos hf]
     have b1:decide ((1099511627776:Int)<a+b)=false:=by simp;omega
     have b2:decide (a+b<(-1099511627776:Int))=false:=by simp;omega
     go_enter func196,ntmps196
     go_wp2_with fail
     refine(aT _ wb xb M W S (.num (a+b)) HW.out HS.out).mono ?_;rintro e w2 ⟨rfl,h1,h2,h3⟩;have H1:Hid _:=h1;have H2:Hid _:=h2;have H3:Hid _:=h3;clear h1 h2 h3;go_wp2_with fail;go_ret;rw [HR.out];exact⟨rfl,M,H1.out,H3.out,fun _=>H2.out⟩
    ·have HR:Hid (Pl.reckon W S [43] (.num a) (.num b)=⟨11,W,S⟩):=show Pl.reckon W S [43] (.num a) (.num b)=_ from by
      rw [tZ,if_neg hf]
     by_cases hd:(1099511627776:Int)<a+b
     ·go_enter func196,ntmps196
      go_wp2_with fail
      go_ret;rw [HR.out];exact⟨rfl,M,HW.out,Stp.refl _ _,fun h=>by simp at h⟩
     ·have b2:a+b<(-1099511627776:Int):=by omega
      go_enter func196,ntmps196
      go_wp2_with fail
      go_ret;rw [HR.out];exact⟨rfl,M,HW.out,Stp.refl _ _,fun h=>by simp at h⟩
   ·unfold minusW;by_cases hf:(a-b).natAbs<=1099511627776
    ·have HR:Hid (Pl.reckon W S [45] (.num a) (.num b)=⟨0,W,S.give (.num (a-b))⟩):=show Pl.reckon W S [45] (.num a) (.num b)=_ from by
      rw [qF,if_pos hf]
     have b1:decide ((1099511627776:Int)<a-b)=false:=by simp;omega
     have b2:decide (a-b<(-1099511627776:Int))=false:=by simp;omega
     go_enter func196,ntmps196
     go_wp2_with fail
     refine(aT _ wb xb M W S (.num (a-b)) HW.out HS.out).mono ?_;rintro e w2 ⟨rfl,h1,h2,h3⟩;have H1:Hid _:=h1;have H2:Hid _:=h2;have H3:Hid _:=h3;clear h1 h2 h3;go_wp2_with fail;go_ret;rw [HR.out];exact⟨rfl,M,H1.out,H3.out,fun _=>H2.out⟩
    ·have HR:Hid (Pl.reckon W S [45] (.num a) (.num b)=⟨11,W,S⟩):=show Pl.reckon W S [45] (.num a) (.num b)=_ from by
      rw [qF,if_neg hf]
     by_cases hd:(1099511627776:Int)<a-b
     ·go_enter func196,ntmps196
      go_wp2_with fail
      go_ret;rw [HR.out];exact⟨rfl,M,HW.out,Stp.refl _ _,fun h=>by simp at h⟩
     ·have b2:a-b<(-1099511627776:Int):=by omega
      go_enter func196,ntmps196
      go_wp2_with fail
      go_ret;rw [HR.out];exact⟨rfl,M,HW.out,Stp.refl _ _,fun h=>by simp at h⟩
   ·unfold timesW;by_cases hf:(a*b).natAbs<=1099511627776
    ·have HR:Hid (Pl.reckon W S [42] (.num a) (.num b)=⟨0,W,S.give (.num (a*b))⟩):=show Pl.reckon W S [42] (.num a) (.num b)=_ from by
      rw [qE,if_pos hf]
     have hp1:Hid (a*b=if(a*b).natAbs<=1099511627776 then a*b else 0):=show _=_ from by rw [if_pos hf]
     have hp2:Hid (true=decide ((a*b).natAbs<=1099511627776)):=show true=decide _ from by rw [decide_eq_true hf]
     generalize hpp:a*b=p at hf HR hp1;have HP:Hid (a*b=p):=hpp;clear hpp;have b1:decide ((1099511627776:Int)<p)=false:=by simp;omega
     have b2:decide (p<(-1099511627776:Int))=false:=by simp;omega
     go_enter func196,ntmps196
     go_wp2_with fail
     refine(i7 w a b p true hxa hyb (by rw [HP.out];exact hp1) hp2).mono ?_;rintro e w' ⟨rfl,rfl⟩;go_wp2_with fail;refine(aT _ wb xb M W S (.num p) HW.out HS.out).mono ?_;rintro e w2 ⟨rfl,h1,h2,h3⟩;have H1:Hid _:=h1;have H2:Hid _:=h2;have H3:Hid _:=h3;clear h1 h2 h3;go_wp2_with fail;go_ret;rw [HR.out];exact⟨rfl,M,H1.out,H3.out,fun _=>H2.out⟩
    ·have HR:Hid (Pl.reckon W S [42] (.num a) (.num b)=⟨11,W,S⟩):=show Pl.reckon W S [42] (.num a) (.num b)=_ from by
      rw [qE,if_neg hf]
     have hp1:Hid ((0:Int)=if(a*b).natAbs<=1099511627776 then a*b else 0):=show _=_ from by rw [if_neg hf]
     have hp2:Hid (false=decide ((a*b).natAbs<=1099511627776)):=show false=decide _ from by rw [decide_eq_false hf]
     clear hf;go_enter func196,ntmps196;go_wp2_with fail;refine(i7 w a b 0 false hxa hyb hp1 hp2).mono ?_;rintro e w' ⟨rfl,rfl⟩;go_wp2_with fail;go_ret;rw [HR.out];exact⟨rfl,M,HW.out,Stp.refl _ _,fun h=>by simp at h⟩
   ·unfold lessW;go_enter func196,ntmps196;go_wp2_with fail;refine(cT _ _).mono ?_;rintro e w1 ⟨rfl,hB⟩;have HW1:Hid (RW w1 wb M W):=HW.out.later hB;have HS1:Hid (RS M w1 xb S):=HS.out.later HW.out hB;have HB:Hid (Below w.heap.size w w1):=hB;clear hB;go_wp2_with fail;refine(aT _ wb xb M W S _ HW1.out HS1.out).mono ?_;rintro e w2 ⟨rfl,h1,h2,h3⟩;have H1:Hid _:=h1;have H2:Hid _:=h2;have H3:Hid _:=h3;clear h1 h2 h3;go_wp2_with fail;go_ret;exact⟨rfl,M,H1.out,((Stp.of_below HB.out).mx xb).trans H3.out,fun _=>H2.out⟩
   ·unfold eqW;go_enter func196,ntmps196;go_wp2_with fail;refine(cT _ _).mono ?_;rintro e w1 ⟨rfl,hB⟩;have HW1:Hid (RW w1 wb M W):=HW.out.later hB;have HS1:Hid (RS M w1 xb S):=HS.out.later HW.out hB;have HB:Hid (Below w.heap.size w w1):=hB;clear hB;go_wp2_with fail;refine(aT _ wb xb M W S _ HW1.out HS1.out).mono ?_;rintro e w2 ⟨rfl,h1,h2,h3⟩;have H1:Hid _:=h1;have H2:Hid _:=h2;have H3:Hid _:=h3;clear h1 h2 h3;go_wp2_with fail;go_ret;exact⟨rfl,M,H1.out,((Stp.of_below HB.out).mx xb).trans H3.out,fun _=>H2.out⟩
  ·obtain⟨a,rfl⟩:=hx1;obtain⟨e2,e3⟩:=notNum y (fun n h=>hy1 ⟨n,h⟩);have k0':w.cell? ⟨g,off,none⟩=some (.string ⟨#[110,117,109,98,101,114]⟩):=k0
   have HR:Hid (Pl.reckon W S s (.num a) y=⟨9,W,S⟩):=by
    cases y with
    | num b=>exact absurd ⟨b,rfl⟩ hy1
    | _=>rfl
   clear k0 hs;generalize vK y=kk at *;go_enter func196,ntmps196;go_wp2_with fail;go_ret;rw [HR.out];exact⟨rfl,M,HW.out,Stp.refl _ _,fun h=>by simp at h⟩
 ·obtain⟨e1,e3⟩:=notNum x (fun n h=>hx1 ⟨n,h⟩)
  have HR:Hid (Pl.reckon W S s x y=⟨9,W,S⟩):=by
   cases x with
   | num b=>exact absurd ⟨b,rfl⟩ hx1
   | _=>rfl
  clear hs;generalize vK x=kk at *;go_enter func196,ntmps196;go_wp2_with fail;go_ret;rw [HR.out];exact⟨rfl,M,HW.out,Stp.refl _ _,fun h=>by simp at h⟩
end
end Go.Proofs.YtkgbdddkcjpgfaaGreatDoor
