import Derived.Test.YtbgghmjmcapmlaaGreatDoorF04
namespace Go.Proofs.YtbgghmjmcapmlaaGreatDoor
set_option maxHeartbeats 2000000
set_option maxRecDepth 100000
open Go.Proofs.Tryz
open Pl (PV PW PS PF CW SR AE Env BH A4 BA BW IA)
theorem zF0{P:Prop}(h:P:=by go_ret2;exact⟨by rw [d.out,c.out,if_pos h,decide_eq_true h];simp only [dP _ h];rfl,rfl⟩):P:=h
theorem zF1{P:Prop}(h:P:=by go_enter func84,ntmps84;go_wp2_with fail;refine(cT _ _).mono ?_;rintro e w1 ⟨rfl,v⟩;have B:=h_ (d.later v);have C:=h_ (D.later d v);have O:=h_ v;clear v;go_wp2_with fail;refine(aT _ wb m M W S _ B C).mono ?_;rintro e J ⟨rfl,i,j,k⟩;have q:=h_ i;have r:=h_ j;have t:=h_ k;clear i j k;go_wp2_with fail;go_ret;exact⟨rfl,M,q,((Stp.AA O).mx m).trans t,fun _=>r.out⟩):P:=h
theorem zF2{P:Prop}(h:P:=by go_ret;rw [c.out];exact⟨rfl,M,d,Stp.refl _ _,fun h=>by simp at h⟩):P:=h
theorem zF3{P:Prop}(h:P:=by rintro e J ⟨rfl,i,j,k⟩;have q:=h_ i;have r:=h_ j;have t:=h_ k;clear i j k;go_wp2_with fail;go_ret;rw [c.out];exact⟨rfl,M,q,t,fun _=>r.out⟩):P:=h
theorem zF4{P:Prop}(h:P:=by go_ret2;exact⟨by rw [d.out,c.out,if_neg h,decide_eq_false h];rfl,rfl⟩):P:=h
theorem zF5{P:Prop}(h:P:=by go_enter func27,ntmps27;go_wp2_with fail;go_ret;exact⟨by rw [l.out];rfl,rfl⟩):P:=h
section
open Go.RowKit
variable {w w':World} {M M':Q5} {xb wb:Nat} {S:PS} {W:PW} {T:TypeId} {v:Value} {cx:Array Value}
structure Kp(M:Q5)(w:World)(M':Q5)(w':World):Prop where
 im:IX w w'
 rows:∀(k:Nat)(cur:Array Value)(e:TypeId),e=TB\/e=TV->¬M k->w.heap[k]?=some (.cells cur e (0,0))->w'.heap[k]?=some (.cells cur e (0,0))/\¬M' k
theorem Kp.trans{M1 M2 M3:Q5}{a b c:World}(h:Kp M1 a M2 b)(k:Kp M2 b M3 c):Kp M1 a M3 c :=⟨fun i d e j f=>k.im i d e j (h.im i d e j f),fun i d e g l f=>k.rows i d e g (h.rows i d e g l f).2 (h.rows i d e g l f).1⟩
theorem Stp.kp(h:Stp M w M' w')(c:Mty M w):Kp M w M' w':=⟨h.MD c,fun k _ _ _ b a=>⟨(h.block k (aB a) b).1.trans a,(h.block k (aB a) b).2⟩⟩
theorem Sl.kp{sz:Nat}{n:Nat}{xs:List Value}(h:Kp M w M' w')(d:T=TB\/T=TV)(e:Sl M w T sz v n xs):Sl M' w' T sz v n xs:=by obtain⟨f,i,b,rfl,j,k⟩:=e;refine⟨f,i,b,rfl,j,k.imp id ?_⟩;rintro⟨g,c,a,rfl,l,m,o⟩;obtain⟨p,q⟩:=h.rows g a T d l m;exact⟨g,c,a,rfl,q,p,o⟩
theorem DT.kp(h:Kp M w M' w'):∀(v:Value)(l:List CW),DT M w v l->DT M' w' v l
 | _,[],a=>a
 | _,_::r,a=>by obtain⟨b,d,e,f,c,g,i,j,k,m,n⟩:=a;exact⟨b,d,e,f,c,g,h.im b _ _ (.inr (.inr (.inr (.inr (.inr rfl))))) i,j.keep h.im,k.kp h (.inr rfl),m.kp h (.inl rfl),DT.kp h c r n⟩
theorem eV(f:w.grownBy w' (some xb))(c:w.heap[xb]?=some (.cells cx T (0,0)))(g:¬RH T)(h:T≠TB)(i:T≠TV):Kp M w M w':=by
 refine⟨fun k d e j a=>(f.block k (aB a) ?_).trans a,fun k d e l m a=>⟨(f.block k (aB a) ?_).trans a,m⟩⟩
 ·intro b;have b:k=xb:=by simpa using b
  subst b;exact g ((aK a c).2▸j)
 ·intro b;have b:k=xb:=by simpa using b
  subst b;rcases l with rfl | rfl
  ·exact h (aK a c).2.symm
  ·exact i (aK a c).2.symm
def stT(T:TypeId):Prop:=T≠MG/\T≠VR/\T≠VQ/\T≠RX/\T≠TV/\T≠TB/\¬RH T
theorem eC:stT JL:=by unfold stT RH;decide
theorem RW.grown(h:RW w wb M W)(t:w.grownBy w' (some xb))(D:w.heap[xb]?=some (.cells cx T (0,0)))(l:stT T):RW w' wb M W:=by
 have E:¬M xb:=h.notM D (by obtain⟨O,P,Q,R,S,U,_⟩:=l;rintro(e | e | e | e | e | e)<;>contradiction);obtain⟨m,o,q,r,s,F,G,rfl,h⟩:=h;have x:Kp (CQ wb [m,o,q,r,s]) w (CQ wb [m,o,q,r,s]) w':=eV t D l.2.2.2.2.2.2 l.2.2.2.2.2.1 l.2.2.2.2.1
 have f:∀{T:TypeId} {y:Nat} {v:Value} {n:Nat} {z:List Value},v∈[m,o,q,r,s]->w.ownsRow 0 T y v n z->w'.ownsRow 0 T y v n z:=by
  intro T y v n z H h;refine⟨h.1,?_⟩;rcases h.2 with I | ⟨g,A,B,rfl,J,j,k⟩
  ·exact .inl I
  ·refine .inr ⟨g,A,B,rfl,J,(t.block g (aB j) ?_).trans j,k⟩;intro e;have e:g=xb:=by simpa using e
   subst e;exact E (.inr ⟨_,H,rfl⟩)
 refine⟨m,o,q,r,s,F,G,rfl,⟨(t.block wb (aB h.blk) (fun e=>E (.inl (by simpa using e.symm)))).trans h.blk,f w9 h.pr,f w9 h.pc,?_,f w9 h.cn,?_,f w9 h.pl,f w9 h.gl,h.out⟩⟩
 ·intro i p C;obtain⟨K,L,a,b,c,d,e⟩:=h.pcs i p C;exact⟨K,L,a,b,c.keep x.im,d,e.kp x (.inl rfl)⟩
 ·intro i N C;obtain⟨u,a,b⟩:=h.cns i N C;exact⟨u,a,DT.kp x _ _ b⟩
def JN(w:World)(S:PS)(fv c0 c1 c2:Value):Prop:=match S.form with
 | some f=>RF w fv f
 | none=>fv=.pointer none/\[c0,c1,c2]=cZ S.val
def RS(M:Q5)(w:World)(xb:Nat)(S:PS):Prop:=∃fv ev c0 c1 c2 frv,w.heap[xb]?=some (.cells #[fv,ev,c0,c1,c2,frv] JL (0,0))/\JN w S fv c0 c1 c2/\DF M w ev S.env/\DT M w frv S.AB
theorem JN.keep{fv c0 c1 c2:Value}(h:IX w w')(a:JN w S fv c0 c1 c2):JN w' S fv c0 c1 c2:=by
 unfold JN at a ⊢
 cases b:S.form with
 | some f=>rw [b] at a;exact RF.keep h a
 | none=>rw [b] at a;exact a
theorem RS.kp(h:RS M w xb S)(a:Kp M w M' w')(c:w'.heap[xb]?=w.heap[xb]?):RS M' w' xb S:=by obtain⟨d,e,f,g,i,b,j,k,l,m⟩:=h;exact⟨d,e,f,g,i,b,c.trans j,k.keep a.im,l.kp a (.inl rfl),DT.kp a _ _ m⟩
theorem RS.notM(h:RS M w xb S)(a:RW w wb M W):¬M xb:=by obtain⟨d,e,f,g,i,b,c,_⟩:=h;exact a.notM c w8
theorem RS.AQ(h:RS M w xb S)(a:RW w wb M W)(b:Stp M w M' w'):RS M' w' xb S:=by
 have c:=h.notM a;have d:xb<w.heap.size:=by obtain⟨g,i,j,k,l,e,f,_⟩:=h;exact aB f
 exact h.kp (b.kp a.X5) (b.block xb d c).1
theorem RS.later(h:RS M w xb S)(a:RW w wb M W)(b:Q3 w w'):RS M w' xb S:=h.AQ a (Stp.AA b)
def Mx(M:Q5)(xb:Nat)(k:Nat):Prop:=M k\/k=xb
theorem Stp.mx(h:Stp M w M' w')(b:Nat):Stp (Mx M b) w (Mx M' b) w' :=
 ⟨h.os,h.tape,h.output,h.size,fun k c a=>⟨(h.block k c (fun e=>a (.inl e))).1,by
  rintro(e | e)
  ·exact(h.block k c (fun e=>a (.inl e))).2 e
  ·exact a (.inr e)⟩⟩
theorem bV(h:w.grownBy w' (some xb)):Stp (Mx M xb) w (Mx M xb) w' :=⟨h.os,h.tape,h.output,h.size,fun k b a=>⟨h.block k b (fun e=>a (.inr a6)),a⟩⟩
theorem xX(w:World)(f:Nat)(t ev r q n g:Value)(x:PV)(p:w.heap[f]?=some (.cells #[t,ev,r,q,n,g] JL (0,0))) :Q2 42 #[Q0 f,bT x] w fun e u=>e=.returned (.tuple #[])/\w.grownBy u (some f)/\u.heap[f]?=some (.cells #[.pointer none,ev,AM (vK x),Q1 (vN x),AM (vS x),g] JL (0,0)):=by
 have v:=aB p;have i:∀(X:World)(o:Obj)(m:Array Value),X.heap[f]?=some (.cells m JL (0,0))->(X.alloc o).heap[f]?=some (.cells m JL (0,0)):=fun X o m h=>(Below.heap_alloc X o f (aB h)).trans h;have y:∀o:Obj,(w.alloc o).cell? ⟨f,0,none⟩=some t:=fun o=>aA (i w o _ p) 0;have z:∀o:Obj,(w.alloc o).frozen? ⟨f,0,none⟩=false:=fun o=>aF (i w o _ p) 0;have j:∀(a:Value),(w.setCell ⟨f,0,none⟩ a).heap[f]?=some (.cells #[a,ev,r,q,n,g] JL (0,0)):=fun a=>aD p 0 a;have A:∀(o:Obj)(a:Value),((w.setCell ⟨f,0,none⟩ a).alloc o).cell? ⟨f,2,none⟩=some r:=fun o a=>aA (i _ o _ (j a)) 2;have B:∀(o:Obj)(a:Value),((w.setCell ⟨f,0,none⟩ a).alloc o).frozen? ⟨f,2,none⟩=false:=fun o a=>aF (i _ o _ (j a)) 2;have k:∀(a b:Value),((w.setCell ⟨f,0,none⟩ a).setCell ⟨f,2,none⟩ b).heap[f]?=some (.cells #[a,ev,b,q,n,g] JL (0,0)):=fun a b=>aD (j a) 2 b;have C:∀(o:Obj)(a b:Value),(((w.setCell ⟨f,0,none⟩ a).setCell ⟨f,2,none⟩ b).alloc o).cell? ⟨f,3,none⟩=some q:=fun o a b=>aA (i _ o _ (k a b)) 3;have D:∀(o:Obj)(a b:Value),(((w.setCell ⟨f,0,none⟩ a).setCell ⟨f,2,none⟩ b).alloc o).frozen? ⟨f,3,none⟩=false:=fun o a b=>aF (i _ o _ (k a b)) 3;have l:∀(a b c:Value),(((w.setCell ⟨f,0,none⟩ a).setCell ⟨f,2,none⟩ b).setCell ⟨f,3,none⟩ c).heap[f]?=some (.cells #[a,ev,b,c,n,g] JL (0,0)):=fun a b c=>aD (k a b) 3 c;have E:∀(o:Obj)(a b c:Value),((((w.setCell ⟨f,0,none⟩ a).setCell ⟨f,2,none⟩ b).setCell ⟨f,3,none⟩ c).alloc o).cell? ⟨f,4,none⟩=some n:=fun o a b c=>aA (i _ o _ (l a b c)) 4;have F:∀(o:Obj)(a b c:Value),((((w.setCell ⟨f,0,none⟩ a).setCell ⟨f,2,none⟩ b).setCell ⟨f,3,none⟩ c).alloc o).frozen? ⟨f,4,none⟩=false:=fun o a b c=>aF (i _ o _ (l a b c)) 4;have s:Hid (∀(o:Obj)(a b c d:Value),(((((w.setCell ⟨f,0,none⟩ a).setCell ⟨f,2,none⟩ b).setCell ⟨f,3,none⟩ c).setCell ⟨f,4,none⟩ d).alloc o).heap[f]?=some (.cells #[a,ev,b,c,d,g] JL (0,0))):=fun o a b c d=>i _ o _ (aD (l a b c) 4 d);clear i j k l p;unfold bT AM;go_enter func42,ntmps42;go_wp2_with fail
 go_end0
 refine⟨rfl,?_,s _ _ _ _ _⟩;exact aC (aC (aC (aC (aE _ _ _ _) (aE _ _ _ _)) (aE _ _ _ _)) (aE _ _ _ _)) (aQ _ b_)
theorem xR(w:World)(c:Nat)(m ev h i j d:Value)(o p:Option Addr)(n g:Nat)(k:w.heap[c]?=some (.cells #[m,ev,h,i,j,d] JL (0,0))) :Q2 45 #[Q0 c,.pointer o,.slice p n g] w fun e q=>e=.returned (.tuple #[])/\w.grownBy q (some c)/\q.heap[c]?=some (.cells #[.pointer o,.slice p n g,h,i,j,d] JL (0,0)):=by
 have r:w.cell? ⟨c,0,none⟩=some m:=aA k 0;have s:w.frozen? ⟨c,0,none⟩=false:=aF k 0;have f:∀(a:Value),(w.setCell ⟨c,0,none⟩ a).heap[c]?=some (.cells #[a,ev,h,i,j,d] JL (0,0)):=fun a=>aD k 0 a;have t:∀(a:Value),(w.setCell ⟨c,0,none⟩ a).cell? ⟨c,1,none⟩=some ev:=fun a=>aA (f a) 1;have u:∀(a:Value),(w.setCell ⟨c,0,none⟩ a).frozen? ⟨c,1,none⟩=false:=fun a=>aF (f a) 1;have l:Hid (∀(a b:Value),((w.setCell ⟨c,0,none⟩ a).setCell ⟨c,1,none⟩ b).heap[c]?=some (.cells #[a,b,h,i,j,d] JL (0,0))):=fun a b=>aD (f a) 1 b;clear f k;go_enter func45,ntmps45;go_wp2_with fail
 go_end0
 exact⟨rfl,aC (aE _ _ _ _) (aE _ _ _ _),l _ _⟩
theorem uD(M:Q5)(w:World)(m:Nat)(S:PS)(h:RS M w m S) :Q2 27 #[Q0 m] w fun e s=>e=.returned (.bool S.ended)/\w=s:=by
 obtain⟨t,v,x,y,z,j,p,o,u,g⟩:=h;have A:w.cell? ⟨m,0,none⟩=some t:=aA p 0;have B:w.cell? ⟨m,5,none⟩=some j:=aA p 5;clear p u
 cases c:S.form with
 | some f =>
  have l:Hid (S.ended=false):=by simp [Hid,Pl.PS.ended,c]
  simp only [JN,c] at o;obtain⟨n,q⟩:=o
  cases n with
  | zero=>exact q.elim
  | succ n =>obtain⟨k,C,d,D,E,F⟩:=f;obtain⟨b,G,H,I,J,K,L,N,rfl,_⟩:=q;clear c g;exact zF5
 | none =>
  simp only [JN,c] at o;obtain⟨rfl,_⟩:=o
  cases i:S.AB with
  | nil =>
   have l:Hid (S.ended=true):=by simp [Hid,Pl.PS.ended,c,i]
   rw [i] at g;have g:j=.pointer none:=g;subst g;clear c i;exact zF5
  | cons a r =>
   have l:Hid (S.ended=false):=by simp [Hid,Pl.PS.ended,c,i]
   rw [i] at g;obtain⟨b,_,_,_,_,rfl,_⟩:=g;clear c i;exact zF5
theorem lI(M:Q5)(w:World)(c:Nat)(s ev t u v d:Value)(fs:List CW)(y z A G:Option Addr)(B C D E:Nat)(pos H:Int)(j:w.heap[c]?=some (.cells #[s,ev,t,u,v,d] JL (0,0)))(p:DT M w d fs)(I:fs.length<=1000000000) :Q2 44 #[Q0 c,.agg #[.pointer y,.slice z B C,Q1 pos,.slice A D E,.pointer G,Q1 H]] w fun e x=>e=.returned (.tuple #[])/\w.grownBy x (some c) /\
   x.heap[c]?=some (.cells #[s,ev,t,u,v,Q0 w.heap.size] JL (0,0))/\x.heap[w.heap.size]?=some (.cells #[.pointer y,.slice z B C,Q1 pos,.slice A D E,d,Q1 (fs.length+1:Nat)] TFr (0,0)):=by
 have J:=aB j;have l:∀(X:World)(o:Obj)(g:Array Value)(T:TypeId)(k:Nat),X.heap[k]?=some (.cells g T (0,0))->(X.alloc o).heap[k]?=some (.cells g T (0,0)):=fun X o g T k h=>(Below.heap_alloc X o k (aB h)).trans h;have Q:∀o:Obj,(w.alloc o).cell? ⟨c,5,none⟩=some d:=fun o=>aA (l w o _ _ _ j) 5;have R:∀o:Obj,(w.alloc o).frozen? ⟨c,5,none⟩=false:=fun o=>aF (l w o _ _ _ j) 5;have m:Hid (∀(o:Obj)(a:Value),((w.setCell ⟨c,5,none⟩ a).alloc o).heap[c]?=some (.cells #[s,ev,t,u,v,a] JL (0,0))):=fun o a=>l _ o _ _ _ (aD j 5 a)
 have n:Hid (∀(q:Array Value)(a:Value),((w.setCell ⟨c,5,none⟩ a).alloc (.cells q 135)).heap[w.heap.size]?=some (.cells q TFr (0,0))):=by
  intro q a;have:=heap_alloc_new (w.setCell ⟨c,5,none⟩ a) (.cells q 135)
  rwa [show(w.setCell ⟨c,5,none⟩ a).heap.size=w.heap.size from by simp [World.setCell]] at this
 have F:Hid (∀(o:Obj)(a:Value),w.grownBy ((w.setCell ⟨c,5,none⟩ a).alloc o) (some c)):=fun o a=>aC (aE _ _ _ _) (aQ _ b_)
 cases fs with
 | nil =>
  have p:d=.pointer none:=p;subst p;clear l j;go_enter func44,ntmps44;go_wp2_with fail
  go_end0
  exact⟨rfl,F _ _,m _ _,n _ _⟩
 | cons f r =>
  obtain⟨b,K,L,N,O,rfl,i,_⟩:=p;have S:∀o:Obj,(w.alloc o).cell? ⟨b,5,none⟩=some (Q1 (r.length+1:Nat)):=fun o=>aA (l w o _ _ _ i) 5;have P:=aB i;simp only [c_] at I ⊢;clear l j i;go_enter func44,ntmps44;go_wp2_with fail
  go_end0
  refine⟨rfl,F _ _,m _ _,?_⟩;have:=n.out;rw [this]
  congr
  try go_num
  try omega
theorem cT(w:World)(b:Bool) :Q2 83 #[.bool b] w fun e g=>e=.returned (bT (.AT b))/\Q3 w g:=by
 have a:∀c d:Obj,Q3 w ((w.alloc c).alloc d):=fun c d=>b_.alloc w9 _;have f:=h_ a;clear a
 cases b with
 | false =>
  go_enter func83,ntmps83
  go_wp2_with fail
  (try simp only [Exit.inBlock,Exit.then])
  refine bodyPost_ret (v:=bT (.AT false)) ?_ rfl ?_
  ·rw [aO rfl];simp only [bT,AM,vK,vN,vS,F_]
   go_simp
   try rfl
  ·exact⟨rfl,f _ _⟩
 | true =>
  go_enter func83,ntmps83
  go_wp2_with fail
  (try simp only [Exit.inBlock,Exit.then])
  refine bodyPost_ret (v:=bT (.AT true)) ?_ rfl ?_
  ·rw [aO rfl];simp only [bT,AM,vK,vN,vS,F_]
   go_simp
   try rfl
  ·exact⟨rfl,f _ _⟩
theorem dP(p:Int)(h:p.natAbs<=1099511627776):wrap64 p=p:=IntWalk.wrap64_in p x8
theorem aAF(x y:Nat)(a:0<x):(1099511627776 / x<y)↔¬(x*y<=1099511627776):=by rw [Nat.div_lt_iff_lt_mul a,Nat.mul_comm y x];omega
theorem jB(a b y:Int)(d:0<a)(c:y=(b.natAbs:Int)):1099511627776 / a<y↔¬(a*b).natAbs<=1099511627776:=by
 subst c;obtain⟨n,rfl⟩:∃n:Nat,a=(n:Int):=⟨a.natAbs,x8⟩
 rw [Int.natAbs_mul,show((n:Int)).natAbs=n from rfl];have:=aAF n b.natAbs x8;rw [<- this];rw [show(1099511627776:Int) / (n:Int)=((1099511627776 / n:Nat):Int) from rfl];omega
theorem lP(a b y:Int)(e:a<0)(c:y=(b.natAbs:Int)):wrap64 (-Int.tdiv 1099511627776 a)<y↔¬(a*b).natAbs<=1099511627776:=by
 have h:=jB (-a) b y x8 c;have d : -Int.tdiv 1099511627776 a=1099511627776 / (-a):=by rw [<- Int.tdiv_neg,Int.tdiv_eq_ediv_of_nonneg w8]
 have f:1099511627776 / (-a)<=1099511627776:=Int.ediv_le_self _ w8;have g:0<=1099511627776 / (-a):=Int.ediv_nonneg w8 x8;rw [d,IntWalk.wrap64_in _ x8,h,show(-a*b).natAbs=(a*b).natAbs from by rw [Int.neg_mul,Int.natAbs_neg]]
theorem i7(w:World)(a b r:Int)(ok:Bool)(k:a.natAbs<=1099511627776)(l:b.natAbs<=1099511627776)(d:Hid (r=if(a*b).natAbs<=1099511627776 then a*b else 0))(c:Hid (ok=decide ((a*b).natAbs<=1099511627776))) :Q2 109 #[Q1 a,Q1 b] w fun e j=>e=.returned (.tuple #[Q1 r,.bool ok])/\w=j:=by
 by_cases f:a<0
 ·by_cases i:b<0
  ·go_enter func109,ntmps109
   go_wp2_with fail
   ·have h:=(lP a b (-b) f x8).1 d9;exact zF4
   ·have h:(a*b).natAbs<=1099511627776:=Decidable.byContradiction fun h=>by have:=(lP a b (-b) f x8).2 h;omega
    exact zF0
  ·go_enter func109,ntmps109
   go_wp2_with fail
   ·have h:=(lP a b b f x8).1 d9;exact zF4
   ·have h:(a*b).natAbs<=1099511627776:=Decidable.byContradiction fun h=>by have:=(lP a b b f x8).2 h;omega
    exact zF0
 ·by_cases i:b<0
  ·by_cases g:0<a
   ·go_enter func109,ntmps109
    go_wp2_with fail
    ·have h:=(jB a b (-b) g x8).1 d9;exact zF4
    ·have h:(a*b).natAbs<=1099511627776:=Decidable.byContradiction fun h=>by have:=(jB a b (-b) g x8).2 h;omega
     exact zF0
   ·go_enter func109,ntmps109
    go_wp2_with fail
    have h:(a*b).natAbs<=1099511627776:=by rw [show a=0 from by omega];simp
    exact zF0
  ·by_cases g:0<a
   ·go_enter func109,ntmps109
    go_wp2_with fail
    ·have h:=(jB a b b g x8).1 d9;exact zF4
    ·have h:(a*b).natAbs<=1099511627776:=Decidable.byContradiction fun h=>by have:=(jB a b b g x8).2 h;omega
     exact zF0
   ·go_enter func109,ntmps109
    go_wp2_with fail
    have h:(a*b).natAbs<=1099511627776:=by rw [show a=0 from by omega];simp
    exact zF0
def F9(M:Q5)(w:World)(wb xb:Nat)(r:SR)(e:Ending)(w':World):Prop :=e=.returned (Q1 r.e)/\∃M',RW w' wb M' r.W/\Stp (Mx M xb) w (Mx M' xb) w'/\(r.e=0->RS M' w' xb r.S)
theorem RS.grown{S':PS}{fv ev c0 c1 c2 frv:Value}(b:w.grownBy w' (some xb))(c:w.heap[xb]?=some (.cells cx JL (0,0)))(d:w'.heap[xb]?=some (.cells #[fv,ev,c0,c1,c2,frv] JL (0,0)))
  (e:JN w S' fv c0 c1 c2) (f:DF M w ev S'.env) (g:DT M w frv S'.AB) (_h:S=S'):RS M w' xb S' :=
 have a:Kp M w M w':=eV b c eC.2.2.2.2.2.2 w8 w8
 ⟨fv,ev,c0,c1,c2,frv,d,e.keep a.im,f.kp a (.inl rfl),DT.kp a _ _ g⟩
theorem aT(w:World)(wb a:Nat)(M:Q5)(W:PW)(S:PS)(x:PV)(h:RW w wb M W)(i:RS M w a S) :Q2 42 #[Q0 a,bT x] w fun e b=>e=.returned (.tuple #[])/\RW b wb M W/\RS M b a (S.A1 x)/\Stp (Mx M a) w (Mx M a) b:=by obtain⟨j,k,l,m,n,c,d,q,o,p⟩:=i;refine(xX w a j k l m n c x d).mono ?_;rintro e b ⟨rfl,f,g⟩;exact⟨rfl,h.grown f d eC,RS.grown (S':=S.A1 x) f d g ⟨rfl,rfl⟩ o p rfl,bV f⟩
theorem cP(w:World)(wb a:Nat)(M:Q5)(W:PW)(S:PS)(f:PF)(env:Env)(p ev:Value)(t:RW w wb M W)(u:RS M w a S)(q:RF w p f)(r:DF M w ev env) :Q2 45 #[Q0 a,p,ev] w fun e c=>e=.returned (.tuple #[])/\RW c wb M W/\RS M c a (S.work (some f) env)/\Stp (Mx M a) w (Mx M a) c:=by
 obtain⟨g,h,v,x,y,i,j,B,C,z⟩:=u;have l:=q;obtain⟨n,s⟩:=q
 cases n with
 | zero=>exact s.elim
 | succ n =>obtain⟨k,D,d,E,F,G⟩:=f;obtain⟨b,H,I,J,K,L,N,O,rfl,_⟩:=s;obtain⟨P,A,rfl,_⟩:=r.shape;refine(xR w a g h v x y i _ _ _ _ j).mono ?_;rintro e c ⟨rfl,m,o⟩;exact⟨rfl,t.grown m j eC,RS.grown (S':=S.work (some _) env) m j o l r z rfl,bV m⟩
theorem got2{x y:PV}(h:CO M w v [x,y]):∃g b c,v=.slice (some ⟨g,b,none⟩) 2 c/\2<=c/\g<w.heap.size/\¬M g/\w.cell? ⟨g,b,none⟩=some (.string ⟨(vK x).toArray⟩)/\w.cell? ⟨g,b+1,none⟩=some (Q1 (vN x))/\w.cell? ⟨g,b+2,none⟩=some (.string ⟨(vS x).toArray⟩) /\
  w.cell? ⟨g,b+3,none⟩=some (.string ⟨(vK y).toArray⟩)/\w.cell? ⟨g,b+3+1,none⟩=some (Q1 (vN y))/\w.cell? ⟨g,b+3+2,none⟩=some (.string ⟨(vS y).toArray⟩):=by
 obtain⟨i,c,rfl,d⟩:=h.shape;obtain⟨g,b,rfl,e,f,a⟩:=Sl.cell h w9;exact⟨g,b,c,rfl,d,e,f,a 0 _ rfl,a 1 _ rfl,a 2 _ rfl,a 3 _ rfl,a 4 _ rfl,a 5 _ rfl⟩
theorem ZM{x:PV}(h:CO M w v [x]):∃g b c,v=.slice (some ⟨g,b,none⟩) 1 c/\1<=c/\g<w.heap.size/\¬M g/\w.cell? ⟨g,b,none⟩=some (.string ⟨(vK x).toArray⟩)/\w.cell? ⟨g,b+1,none⟩=some (Q1 (vN x))/\w.cell? ⟨g,b+2,none⟩=some (.string ⟨(vS x).toArray⟩):=by obtain⟨i,c,rfl,d⟩:=h.shape;obtain⟨g,b,rfl,e,f,a⟩:=Sl.cell h w9;exact⟨g,b,c,rfl,d,e,f,a 0 _ rfl,a 1 _ rfl,a 2 _ rfl⟩
theorem UV(x:PV)(h:∀n,x≠.num n):(vK x==[110,117,109,98,101,114])=false/\(vK x !=[110,117,109,98,101,114])=true:=by
 cases x with
 | num n=>exact absurd rfl (h n)
 | _=>exact⟨rfl,rfl⟩
theorem tZ(W:PW)(S:PS)(a b:Int):Pl.reckon W S [43] (.num a) (.num b)=if(a+b).natAbs<=1099511627776 then⟨0,W,S.A1 (.num (a+b))⟩ else⟨11,W,S⟩:=rfl
theorem qF(W:PW)(S:PS)(a b:Int):Pl.reckon W S [45] (.num a) (.num b)=if(a-b).natAbs<=1099511627776 then⟨0,W,S.A1 (.num (a-b))⟩ else⟨11,W,S⟩:=rfl
theorem qE(W:PW)(S:PS)(a b:Int):Pl.reckon W S [42] (.num a) (.num b)=if(a*b).natAbs<=1099511627776 then⟨0,W,S.A1 (.num (a*b))⟩ else⟨11,W,S⟩:=rfl
theorem dO(w:World)(wb m:Nat)(M M2:Q5)(W:PW)(S:PS)(s:AE)(P:Value)(x y:PV)(K:s=BH\/s=A4\/s=BA\/s=BW\/s=IA)(Q:RW w wb M W)(R:RS M w m S)(T:CO M2 w P [x,y])(U:BL W x)(V:BL W y) :Q2 84 #[Q0 wb,Q0 m,.string ⟨s.toArray⟩,P] w fun e L=>F9 M w wb m (Pl.reckon W S s x y) e L:=by
 have d:=h_ Q;have D:=h_ R;obtain⟨g,l,aa,rfl,X,ab,_,H,Y,_,Z,n1,_⟩:=got2 T;clear Q R T;by_cases o:∃a,x=.num a
 ·by_cases z:∃b,y=.num b
  ·obtain⟨a,rfl⟩:=o;obtain⟨b,rfl⟩:=z;have E:a.natAbs<=1099511627776:=U;have F:b.natAbs<=1099511627776:=V;have N:w.cell? ⟨g,l,none⟩=some (.string ⟨#[110,117,109,98,101,114]⟩):=H;have ac:w.cell? ⟨g,l+3,none⟩=some (.string ⟨#[110,117,109,98,101,114]⟩):=Z;have ad:w.cell? ⟨g,l+1,none⟩=some (Q1 a):=Y;have ae:w.cell? ⟨g,l+3+1,none⟩=some (Q1 b):=n1;clear H Z Y n1 U V;rcases K with rfl | rfl | rfl | rfl | rfl
   ·unfold BH;by_cases f:(a+b).natAbs<=1099511627776
    ·have c:Hid (Pl.reckon W S [43] (.num a) (.num b)=⟨0,W,S.A1 (.num (a+b))⟩):=show Pl.reckon W S [43] (.num a) (.num b)=_ from by
      rw [tZ,if_pos f]
     have b1:decide ((1099511627776:Int)<a+b)=false:=by simp;omega
     have I:decide (a+b<(-1099511627776:Int))=false:=by simp;omega
     go_enter func84,ntmps84
     go_wp2_with fail
     refine(aT _ wb m M W S (.num (a+b)) d D).mono ?_;exact zF3
    ·have c:Hid (Pl.reckon W S [43] (.num a) (.num b)=⟨11,W,S⟩):=show Pl.reckon W S [43] (.num a) (.num b)=_ from by
      rw [tZ,if_neg f]
     by_cases hd:(1099511627776:Int)<a+b
     ·go_enter func84,ntmps84
      go_wp2_with fail
      exact zF2
     ·have I:a+b<(-1099511627776:Int):=by omega
      go_enter func84,ntmps84
      go_wp2_with fail
      exact zF2
   ·unfold A4;by_cases f:(a-b).natAbs<=1099511627776
    ·have c:Hid (Pl.reckon W S [45] (.num a) (.num b)=⟨0,W,S.A1 (.num (a-b))⟩):=show Pl.reckon W S [45] (.num a) (.num b)=_ from by
      rw [qF,if_pos f]
     have b1:decide ((1099511627776:Int)<a-b)=false:=by simp;omega
     have I:decide (a-b<(-1099511627776:Int))=false:=by simp;omega
     go_enter func84,ntmps84
     go_wp2_with fail
     refine(aT _ wb m M W S (.num (a-b)) d D).mono ?_;exact zF3
    ·have c:Hid (Pl.reckon W S [45] (.num a) (.num b)=⟨11,W,S⟩):=show Pl.reckon W S [45] (.num a) (.num b)=_ from by
      rw [qF,if_neg f]
     by_cases hd:(1099511627776:Int)<a-b
     ·go_enter func84,ntmps84
      go_wp2_with fail
      exact zF2
     ·have I:a-b<(-1099511627776:Int):=by omega
      go_enter func84,ntmps84
      go_wp2_with fail
      exact zF2
   ·unfold BA;by_cases f:(a*b).natAbs<=1099511627776
    ·have c:Hid (Pl.reckon W S [42] (.num a) (.num b)=⟨0,W,S.A1 (.num (a*b))⟩):=show Pl.reckon W S [42] (.num a) (.num b)=_ from by
      rw [qE,if_pos f]
     have u:Hid (a*b=if(a*b).natAbs<=1099511627776 then a*b else 0):=show _=_ from by rw [if_pos f]
     have A:Hid (true=decide ((a*b).natAbs<=1099511627776)):=show true=decide _ from by rw [decide_eq_true f]
     generalize G:a*b=p at f c u;have HP:=h_ G;clear G;have b1:decide ((1099511627776:Int)<p)=false:=by simp;omega
     have I:decide (p<(-1099511627776:Int))=false:=by simp;omega
     go_enter func84,ntmps84
     go_wp2_with fail
     refine(i7 w a b p true E F (by rw [HP.out];exact u) A).mono ?_;rintro e L ⟨rfl,rfl⟩;go_wp2_with fail;refine(aT _ wb m M W S (.num p) d D).mono ?_;exact zF3
    ·have c:Hid (Pl.reckon W S [42] (.num a) (.num b)=⟨11,W,S⟩):=show Pl.reckon W S [42] (.num a) (.num b)=_ from by
      rw [qE,if_neg f]
     have u:Hid ((0:Int)=if(a*b).natAbs<=1099511627776 then a*b else 0):=show _=_ from by rw [if_neg f]
     have A:Hid (false=decide ((a*b).natAbs<=1099511627776)):=show false=decide _ from by rw [decide_eq_false f]
     clear f;go_enter func84,ntmps84;go_wp2_with fail;refine(i7 w a b 0 false E F u A).mono ?_;rintro e L ⟨rfl,rfl⟩;go_wp2_with fail;exact zF2
   ·unfold BW;exact zF1
   ·unfold IA;exact zF1
  ·obtain⟨a,rfl⟩:=o;obtain⟨e2,e3⟩:=UV y (fun n h=>z ⟨n,h⟩);have N:w.cell? ⟨g,l,none⟩=some (.string ⟨#[110,117,109,98,101,114]⟩):=H
   have c:Hid (Pl.reckon W S s (.num a) y=⟨9,W,S⟩):=by
    cases y with
    | num b=>exact absurd ⟨b,rfl⟩ z
    | _=>rfl
   clear H K;generalize vK y=kk at *;go_enter func84,ntmps84;go_wp2_with fail;exact zF2
 ·obtain⟨e1,e3⟩:=UV x (fun n h=>o ⟨n,h⟩)
  have c:Hid (Pl.reckon W S s x y=⟨9,W,S⟩):=by
   cases x with
   | num b=>exact absurd ⟨b,rfl⟩ o
   | _=>rfl
  clear K;generalize vK x=kk at *;go_enter func84,ntmps84;go_wp2_with fail;exact zF2
end
end Go.Proofs.YtbgghmjmcapmlaaGreatDoor
