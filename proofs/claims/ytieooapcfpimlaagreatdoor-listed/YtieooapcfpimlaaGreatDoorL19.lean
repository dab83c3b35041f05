import Derived.Test.YtieooapcfpimlaaGreatDoorL18
namespace Go.Proofs.YtieooapcfpimlaaGreatDoor
open Pl (PV PW PS PF CW SR AE Env FK A2 B0 AH BH A4)
section
open Go.RowKit
variable {t t':Nat}
structure Le(W W':PW):Prop where
 pre:∃l,W'.pairs=W.pairs++l
 procs:W.procs.length<=W'.procs.length
 AG:W.AG.length<=W'.AG.length
 places:W.places.length<=W'.places.length
theorem VP{α:Type}(l:List α):∃m,l=l++m:=⟨[],(List.append_nil l).symm⟩
theorem Le.pairs{W W':PW}(h:Le W W'):W.pairs.length<=W'.pairs.length:=by obtain⟨l,e⟩:=h.pre;rw [e];simp
theorem Le.refl(W:PW):Le W W:=⟨VP _,n_,n_,n_⟩
theorem Le.trans{a b c:PW}(h:Le a b)(k:Le b c):Le a c:=⟨by
 obtain⟨l,e⟩:=h.pre;obtain⟨m,d⟩:=k.pre
 exact⟨l++m,by rw [d,e,List.append_assoc]⟩,t_ h.procs k.procs,t_ h.AG k.AG,t_ h.places k.places⟩
theorem BL.le{W W':PW}{v:PV}(h:BL W v)(l:Le W W'):BL W' v:=by
 cases v with
 | pair i=>exact l_ h l.pairs
 | proc i=>exact l_ h l.procs
 | cont i=>exact l_ h l.AG
 | _=>exact h
theorem LG.le{W W':PW}{e:Env}(h:LG W e)(l:Le W W'):LG W' e:=fun b a=>l_ (h b a) l.places
mutual
def IU:PF->Nat
 | .mk _ _ _ _ ks _=>1+OT ks
def OT:List PF->Nat
 | []=>0
 | x::r=>IU x+OT r
end
theorem OL(k:FK)(nm:AE)(d:Pl.A9)(v:PV)(a:List PF)(ns:List AE):IU (.mk k nm d v a ns)=1+OT a:=by simp [IU]
theorem ZL(x:PF)(r:List PF):OT (x::r)=IU x+OT r:=by simp [OT]
theorem aA5:OT []=0:=by simp [OT]
theorem aDP{x:PF}:∀{a:List PF},x∈a->IU x<=OT a
 | y::r,h=>by
  rw [ZL];rcases List.mem_cons.1 h with rfl | h
  ·omega
  ·have:=aDP h;omega
def Pl.dep:Nat->Pl.A9->Prop
 | 0,_=>False
 | n+1,t=>match t with
  | .agg ts=>∀x∈ts,Pl.dep n x
  | _=>True
def TxD(W:PW)(v:PV)(d:Pl.A9):Prop:=(∀l,Pl.NI (W.pairs++l)->Pl.text (W.pairs++l) v=Pl.CC 1000 (Pl.quoted d))/\(Pl.CC 1000 (Pl.quoted d)).length<=400000/\Pl.dep 1000 (Pl.quoted d)/\cL 1000 (Pl.quoted d)
inductive EU (W:PW):PF->Prop
 | mk (k:FK) (nm:AE) (d:Pl.A9) (v:PV) (ks:List PF) (ns:List AE) (h1:k=.const->BL W v) (h2:shape k ks.length) (h3:∀x,x∈ks->EU W x) (h4:ks.length<=300) (h5:ns.length<=300/\nm.length<=300/\∀x∈ns,x.length<=300) (h6:1+OT ks<=1001) (h7:k=.const->TxD W v d) (h8:Pl.Nm k nm d):EU W (.mk k nm d v ks ns)
theorem EU.le{W W':PW}(l:Le W W'){f:PF}(h:EU W f):EU W' f:=by
 induction h with
 | mk k b d v c g i j _ n o p a r s =>refine .mk k b d v c g (fun e=>(i e).le l) j s n o p (fun e=>⟨fun m=>?_,(a e).2⟩) r;obtain⟨q,t⟩:=l.pre;rw [t,List.append_assoc];exact(a e).1 _
theorem EU.val{W:PW}{f:PF}(h:EU W f)(a:f.k=.const):BL W f.v:=by cases h with | mk k c d v e g b=>exact b a
theorem EU.shp{W:PW}{f:PF}(h:EU W f):shape f.k f.ks.length:=by cases h with | mk k b d v c e g a=>exact a
theorem EU.KG{W:PW}{f x:PF}(h:EU W f)(a:x∈f.ks):EU W x:=by cases h with | mk k c d v e g i j b=>exact b x a
theorem EU.kid_at{W:PW}{f x:PF}{i:Nat}(h:EU W f)(a:f.ks[i]?=some x):EU W x:=h.KG (q_ a)
theorem EU.lks{W:PW}{f:PF}(h:EU W f):f.ks.length<=300:=by cases h with | mk k b d v c e g i j a=>exact a
theorem EU.lns{W:PW}{f:PF}(h:EU W f):f.ns.length<=300:=by cases h with | mk k b d v c e g i j l a=>exact a.1
theorem EU.lnm{W:PW}{f:PF}(h:EU W f):f.nm.length<=300:=by cases h with | mk k b d v c e g i j l a=>exact a.2.1
theorem EU.nd{W:PW}{f:PF}(h:EU W f):IU f<=1001:=by cases h with | mk k b d v c e g i j l m a=>rw [OL];exact a
structure O_(W:PW)(t:Nat)(fr:CW):Prop where
 form:EU W fr.form
 env:LG W fr.env
 G1:fr.env.length<=t
 kind:fr.form.k=.iff\/fr.form.k=.set\/fr.form.k=.define\/fr.form.k=.begin\/fr.form.k=.call
 JY:fr.form.k=.begin->fr.pos<fr.form.ks.length
 call:fr.form.k=.call->fr.B8.length+1=fr.pos/\fr.pos<=fr.form.ks.length/\∀v∈fr.B8,BL W v
theorem O_.le{W W':PW}{fr:CW}(h:O_ W t fr)(l:Le W W')(b:t<=t'):O_ W' t' fr :=⟨h.form.le l,h.env.le l,by have:=h.G1;omega,h.kind,h.JY,fun e=>⟨(h.call e).1,(h.call e).2.1,fun v a=>((h.call e).2.2 v a).le l⟩⟩
def OP(W:PW)(t:Nat)(l:List CW):Prop:=(∀fr∈l,O_ W t fr)/\l.length<=t
theorem OP.le{W W':PW}{fs:List CW}(h:OP W t fs)(l:Le W W')(a:t<=t'):OP W' t' fs:=⟨fun b c=>(h.1 b c).le l a,by have:=h.2;omega⟩
structure WW(W:PW)(t:Nat):Prop where
 KV:Pl.NI W.pairs
 CH:∀(i:Nat)(p:PV×PV),W.pairs[i]?=some p->BL W p.1/\BL W p.2
 EX:W.pairs.length<=t
 procs:∀p∈W.procs,EU W p.1/\LG W p.2/\p.2.length<=t/\p.1.k=.lambda
 FU:W.procs.length<=t
 AG:∀l∈W.AG,OP W t l
 GN:W.AG.length<=t
 places:∀v∈W.places,BL W v
 EM:W.places.length<=t
 globals:LG W W.globals
 D1:W.globals.length<=t
structure SW(W:PW)(S:PS)(t:Nat):Prop where
 form:∀f,S.form=some f->EU W f
 env:LG W S.env
 G1:S.env.length<=t
 val:S.form=none->BL W S.val
 AB:OP W t S.AB
theorem WW.later{W:PW}(h:WW W t)(b:t<=t'):WW W t' :=⟨h.KV,h.CH,by have:=h.EX;omega,fun p a=>⟨(h.procs p a).1,(h.procs p a).2.1,by have:=(h.procs p a).2.2.1;omega,(h.procs p a).2.2.2⟩,by have:=h.FU;omega,fun l c=>(h.AG l c).le (Le.refl _) b,by have:=h.GN;omega,h.places,by have:=h.EM;omega,h.globals,by have:=h.D1;omega⟩
theorem SW.le{W W':PW}{S:PS}(h:SW W S t)(l:Le W W')(a:t<=t'):SW W' S t' :=⟨fun f b=>(h.form f b).le l,h.env.le l,by have:=h.G1;omega,fun e=>(h.val e).le l,h.AB.le l a⟩
theorem SW.A1{W:PW}{S:PS}{v:PV}(h:SW W S t)(a:BL W v):SW W (S.A1 v) t:=⟨fun f b=>(by cases b),h.env,h.G1,fun _=>a,h.AB⟩
theorem SW.work{W:PW}{S:PS}{f:PF}{env:Env}(h:SW W S t)(a:EU W f)(b:LG W env)(c:env.length<=t):SW W (S.work (some f) env) t:=⟨fun g d=>(by obtain rfl:=i_ d;exact a),b,c,fun e=>(by cases e),h.AB⟩
theorem SW.push{W:PW}{S:PS}{fr:CW}(h:SW W S t)(b:O_ W t fr):SW W (S.push fr) (t+1):=by
 refine⟨h.form,h.env,by have:=h.G1;show S.env.length<=_;omega,h.val,⟨fun x a=>?_,by have:=h.AB.2;simp only [Pl.PS.push,c_];omega⟩⟩;simp only [Pl.PS.push,List.mem_cons] at a;rcases a with rfl | a
 ·exact b.le (Le.refl _) (by omega)
 ·exact(h.AB.1 x a).le (Le.refl _) (by omega)
theorem SW.QO{W:PW}{S:PS}{fs:List CW}(h:SW W S t)(a:OP W t fs):SW W {S with AB:=fs} t:=⟨h.form,h.env,h.G1,h.val,a⟩
theorem WW.pair{W:PW}(h:WW W t){a b:PV}(g:BL W a)(j:BL W b):WW {W with pairs:=W.pairs++[(a,b)]} (t+1)/\Le W {W with pairs:=W.pairs++[(a,b)]}:=by
 have l:Le W {W with pairs:=W.pairs++[(a,b)]}:=⟨⟨_,rfl⟩,n_,n_,n_⟩
 have k:∀v,BL W v->Pl.B7 v<=W.pairs.length:=fun v e=>by
  cases v with
  | pair i=>exact e
  | _=>exact Nat.zero_le _
 have d:=h.later (Nat.le_succ t);refine⟨⟨?_,?_,by have:=h.EX;simp;omega,fun p c=>⟨(d.procs p c).1.le l,(d.procs p c).2.1.le l,(d.procs p c).2.2⟩,d.FU,fun m f=>(d.AG m f).le l n_,d.GN,fun v e=>(h.places v e).le l,d.EM,h.globals.le l,d.D1⟩,l⟩
 ·intro i p c;rcases dH c with c | ⟨rfl,rfl⟩
  ·exact h.KV i p c
  ·exact⟨k a g,k b j⟩
 ·intro i p c;rcases dH c with c | ⟨rfl,rfl⟩
  ·exact⟨(h.CH i p c).1.le l,(h.CH i p c).2.le l⟩
  ·exact⟨g.le l,j.le l⟩
theorem WW.QI{W:PW}(h:WW W t){vs:List PV}(e:∀v∈vs,BL W v):WW {W with places:=W.places++vs} (t+vs.length)/\Le W {W with places:=W.places++vs}:=by
 have l:Le W {W with places:=W.places++vs}:=⟨VP _,n_,n_,by simp⟩
 have a:=h.later (Nat.le_add_right t vs.length);refine⟨⟨h.KV,fun i p b=>⟨(h.CH i p b).1.le l,(h.CH i p b).2.le l⟩,a.EX,fun p b=>⟨(a.procs p b).1.le l,(a.procs p b).2.1.le l,(a.procs p b).2.2⟩,a.FU,fun f d=>(a.AG f d).le l n_,a.GN,fun v c=>?_,by have:=h.EM;simp;omega,h.globals.le l,a.D1⟩,l⟩;rcases List.mem_append.1 c with c | c
 ·exact(h.places v c).le l
 ·exact(e v c).le l
theorem WW.WT{W:PW}(h:WW W t){v:PV}(d:BL W v)(k:Nat):WW {W with places:=W.places.set k v} t/\Le W {W with places:=W.places.set k v}:=by
 have l:Le W {W with places:=W.places.set k v}:=⟨VP _,n_,n_,by simp⟩
 refine⟨⟨h.KV,fun i p a=>⟨(h.CH i p a).1.le l,(h.CH i p a).2.le l⟩,h.EX,fun p a=>⟨(h.procs p a).1.le l,(h.procs p a).2.1.le l,(h.procs p a).2.2⟩,h.FU,fun e b=>(h.AG e b).le l n_,h.GN,fun x c=>?_,by simpa using h.EM,h.globals.le l,h.D1⟩,l⟩;rcases List.mem_or_eq_of_mem_set c with c | rfl
 ·exact(h.places x c).le l
 ·exact d.le l
theorem WW.proc{W:PW}(h:WW W t){f:PF}{env:Env}(d:EU W f)(e:LG W env)(m:env.length<=t)(g:f.k=.lambda):WW {W with procs:=W.procs++[(f,env)]} (t+1)/\Le W {W with procs:=W.procs++[(f,env)]}:=by
 have l:Le W {W with procs:=W.procs++[(f,env)]}:=⟨VP _,by simp,n_,n_⟩
 have b:=h.later (Nat.le_succ t);refine⟨⟨h.KV,fun i p a=>⟨(h.CH i p a).1.le l,(h.CH i p a).2.le l⟩,b.EX,fun p a=>?_,by have:=h.FU;simp;omega,fun j c=>(b.AG j c).le l n_,b.GN,fun v k=>(h.places v k).le l,b.EM,h.globals.le l,b.D1⟩,l⟩;rcases List.mem_append.1 a with a | a
 ·exact⟨(b.procs p a).1.le l,(b.procs p a).2.1.le l,(b.procs p a).2.2⟩
 ·obtain rfl:p=(f,env):=by simpa using a
  exact⟨d.le l,e.le l,by show env.length<=_;omega,g⟩
theorem WW.E_{W:PW}{S:PS}(h:WW W t)(e:OP W t S.AB):WW (W.keep S) (t+1)/\Le W (W.keep S):=by
 have l:Le W (W.keep S):=⟨VP _,n_,by simp [Pl.PW.keep],n_⟩
 have b:=h.later (Nat.le_succ t);refine⟨⟨h.KV,fun i p c=>⟨(h.CH i p c).1.le l,(h.CH i p c).2.le l⟩,b.EX,fun p c=>⟨(b.procs p c).1.le l,(b.procs p c).2.1.le l,(b.procs p c).2.2⟩,b.FU,fun d a=>?_,by have:=h.GN;simp [Pl.PW.keep];omega,fun v f=>(h.places v f).le l,b.EM,h.globals.le l,b.D1⟩,l⟩;rcases List.mem_append.1 a with a | a
 ·exact(b.AG d a).le l n_
 ·obtain rfl:d=S.AB:=by simpa using a
  exact e.le l (Nat.le_succ t)
theorem WW.out{W:PW}(h:WW W t)(o:AE):WW {W with out:=o} t/\Le W {W with out:=o}:=by
 have l:Le W {W with out:=o}:=⟨VP _,n_,n_,n_⟩
 exact⟨⟨h.KV,fun i p a=>⟨(h.CH i p a).1.le l,(h.CH i p a).2.le l⟩,h.EX,fun p a=>⟨(h.procs p a).1.le l,(h.procs p a).2.1.le l,(h.procs p a).2.2⟩,h.FU,fun c b=>(h.AG c b).le l n_,h.GN,fun v d=>(h.places v d).le l,h.EM,h.globals.le l,h.D1⟩,l⟩
theorem BL.TT{W:PW}{S:PS}{v:PV}(h:BL W v):BL (W.keep S) v:=by
 cases v with
 | cont i=>simp only [BL,Pl.PW.keep,a_] at h ⊢;omega
 | _=>exact h
theorem BL.TO{W:PW}{S:PS}:BL (W.keep S) (.cont W.AG.length):=by simp [BL,Pl.PW.keep]
theorem aDI(l:List AE)(n:Nat):(Pl.C1 l n).length=l.length:=by
 induction l generalizing n with
 | nil=>rfl
 | cons x l a=>simp [Pl.C1,a]
theorem aDX{W:PW}{env:Env}{s:AE}{k:Nat}(d:LG W env)(e:LG W W.globals)(h:Pl.DL W env s=some k):k<W.places.length:=by
 unfold Pl.DL at h
 cases a:Pl.find env s with
 | some j =>rw [a] at h;obtain rfl:=i_ h;obtain⟨b,c,rfl⟩:=mC _ _ _ a;exact d b c
 | none =>rw [a] at h;obtain⟨b,c,rfl⟩:=mC _ _ _ h;exact e b c
def Good(r:SR)(t:Nat):Prop:=r.e≠7/\WW r.W t/\(r.e=0->SW r.W r.S t)
theorem Good.later{r:SR}(h:Good r t)(a:t<=t'):Good r t':=⟨h.1,h.2.1.later a,fun e=>(h.2.2 e).le (Le.refl _) a⟩
theorem z7:(0:Nat)≠7:=by decide
theorem bL{W:PW}{S:PS}{n:Nat}(a:WW W t)(b:n≠7)(c:n≠0):Good ⟨n,W,S⟩ t:=⟨b,a,fun e=>absurd e c⟩
theorem bH{W W':PW}{S:PS}{v:PV}(a:WW W' t')(l:Le W W')(b:t<=t')(c:SW W S t)(d:BL W' v):Good ⟨0,W',S.A1 v⟩ t':=⟨z7,a,fun _=>(c.le l b).A1 d⟩
theorem pR{W:PW}{S:PS}(c:WW W t)(d:SW W S t)(s:AE)(a b:PV):Good (Pl.reckon W S s a b) t:=by
 unfold Pl.reckon;split
 ·split
  ·exact bH c (Le.refl _) n_ d trivial
  ·split
   ·exact bH c (Le.refl _) n_ d trivial
   ·rename_i x y _ _;dsimp only;generalize (if s=BH then x+y else if s=A4 then x-y else x*y)=n;by_cases h:n.natAbs<=Pl.CG
    ·rw [if_pos h];exact bH (v:=.num n) c (Le.refl _) n_ d h
    ·rw [if_neg h];exact bL c (by decide) (by decide)
 ·exact bL c (by decide) (by decide)
theorem tC{W:PW}{S:PS}(b:WW W t)(c:SW W S t)(s:AE)(a:PV):Good (B0 W S s a) t:=by
 unfold B0;split
 ·dsimp only;split
  ·exact bH (b.out _).1 (b.out _).2 n_ c trivial
  ·exact bL b (by decide) (by decide)
 ·split
  ·split
   ·split
    ·rename_i p d;refine bH b (Le.refl _) n_ c ?_;split
     ·exact(b.CH _ p d).2
     ·exact(b.CH _ p d).1
    ·exact bL b (by decide) (by decide)
   ·exact bL b (by decide) (by decide)
  ·split
   ·exact bH b (Le.refl _) n_ c trivial
   ·exact bH b (Le.refl _) n_ c trivial
theorem good_prim2{W:PW}{S:PS}(c:WW W t)(d:SW W S t)(s:AE)(a b:PV)(e:BL W a)(f:BL W b):Good (A2 W S s a b) (t+1):=by
 unfold A2;split
 ·exact bH (c.pair e f).1 (c.pair e f).2 (by omega) d (by show W.pairs.length<_;simp)
 ·split
  ·exact(bH (v:=.AT _) c (Le.refl _) n_ d trivial:Good _ t).later (by omega)
  ·exact(pR c d s a b).later (by omega)
theorem XX(W:PW)(vs:List PV)(ns:List AE)(h:ns.length<=vs.length):LG {W with places:=W.places++vs} (Pl.C1 ns W.places.length):=by
 have c:∀(ns:List AE)(n:Nat),∀b∈Pl.C1 ns n,b.2<n+ns.length:=by
  intro ns
  induction ns with
  | nil=>intro n b a;simp [Pl.C1] at a
  | cons x r d =>
   intro n b a;simp only [Pl.C1,List.mem_cons] at a;rcases a with rfl | a
   ·simp
   ·have:=d (n+1) b a;simp only [c_];omega
 intro b a;have:=c ns _ b a;show b.2<(W.places++vs).length;rw [a_];omega
theorem fL{W:PW}{S:PS}(c:WW W t)(h:SW W S t)(f:PV)(args:List PV)(q:BL W f)(j:∀v∈args,BL W v)(r:args.length<=300):Good (AH W S f args) (t+300):=by
 unfold AH;split
 ·split
  ·rename_i i p s;obtain⟨m,u,z,w⟩:=c.procs p (q_ s);split
   ·exact bL (c.later (by omega)) (by decide) (by decide)
   ·rename_i d;have d:args.length=p.1.ns.length:=by simpa using d
    obtain⟨x,k⟩:=c.QI j;refine⟨z7,x.later (by omega),fun _=>?_⟩;have n:shape p.1.k p.1.ks.length:=m.shp;rw [w] at n;have y:p.1.ks.length=1:=n;have o:p.1.ks[0]?=some (p.1.ks[0]'(by omega)):=g_ (by omega);rw [o];refine SW.work (h.le k (by omega)) ((m.kid_at o).le k) ?_ ?_
    ·intro b e;rcases List.mem_append.1 e with e | e
     ·exact u.le k b e
     ·exact XX W args p.1.ns (by omega) b e
    ·rw [a_,aDI];omega
  ·exact bL (c.later (by omega)) (by decide) (by decide)
 ·rename_i i;split
  ·rename_i a;obtain⟨l,g⟩:∃l,W.AG[i]?=some l:=⟨_,g_ q⟩
   rw [g];refine⟨z7,c.later (by omega),fun _=>?_⟩;exact((h.QO (c.AG l (q_ g))).A1 (j a (by simp))).le (Le.refl _) (by omega)
  ·exact bL (c.later (by omega)) (by decide) (by decide)
 ·split
  ·exact bL (c.later (by omega)) (by decide) (by decide)
  ·split
   ·exact(tC c h _ _).later (by omega)
   ·rename_i a b _;exact(good_prim2 c h _ a b (j a (by simp)) (j b (by simp))).later (by omega)
   ·exact bL (c.later (by omega)) (by decide) (by decide)
 ·exact bL (c.later (by omega)) (by decide) (by decide)
theorem tD{W:PW}{S:PS}(b:WW W t)(c:SW W S t)(f:PV)(args:List PV)(k:BL W f)(h:∀v∈args,BL W v)(d:args.length<=300):Good (Pl.apply W S f args) (t+302):=by
 unfold Pl.apply;split
 ·split
  ·rename_i a;obtain⟨i,j⟩:=b.E_ c.AB;have e:=c.le j (Nat.le_succ t);dsimp only;split
   ·obtain⟨l,m⟩:=i.E_ e.AB;have n:=e.le m (Nat.le_succ _);refine(fL l n _ _ ?_ ?_ (by simp)).later (by omega)
    ·exact BL.TT BL.TO
    ·intro v g;obtain rfl:v=.cont (W.AG.length+1):=by simpa using g
     have:=BL.TO (W:=W.keep S) (S:=S)
     rwa [show(W.keep S).AG.length=W.AG.length+1 from by simp [Pl.PW.keep]] at this
   ·refine(fL i e _ _ ((h a (by simp)).le j) ?_ (by simp)).later (by omega);intro v g;obtain rfl:v=.cont W.AG.length:=by simpa using g
    exact BL.TO
  ·exact bL (b.later (by omega)) (by decide) (by decide)
 ·exact(fL b c f args k h d).later (by omega)
theorem cW{W:PW}{S:PS}{f:PF}{env:Env}{o:Option PF}(a:WW W t)(b:SW W S t)(c:o=some f)(d:EU W f)(e:LG W env)(g:env.length<=t):Good ⟨0,W,S.work o env⟩ t:=by subst c;exact⟨z7,a,fun _=>b.work d e g⟩
theorem eW{W:PW}{f:PF}{i:Nat}(a:EU W f)(hi:i<f.ks.length):∃x,f.ks[i]?=some x/\EU W x:=⟨_,g_ hi,a.KG (List.getElem_mem hi)⟩
theorem jR{W:PW}(e:WW W t)(s:AE)(v:PV)(g:BL W v):WW (Pl.bind W s v) (t+1)/\Le W (Pl.bind W s v):=by
 unfold Pl.bind;split
 ·exact⟨(e.WT g _).1.later (by omega),(e.WT g _).2⟩
 ·obtain⟨a,k⟩:=e.QI (vs:=[v]) (fun x h=>(by simpa using h:x=v)▸g);have c:Le {W with places:=W.places++[v]} {W with places:=W.places++[v],globals:=W.globals++[(s,W.places.length)]}:=⟨VP _,n_,n_,n_⟩
  refine⟨⟨a.KV,fun i p d=>⟨(a.CH i p d).1.le c,(a.CH i p d).2.le c⟩,a.EX,fun p d=>⟨(a.procs p d).1.le c,(a.procs p d).2.1.le c,(a.procs p d).2.2⟩,a.FU,fun l j=>(a.AG l j).le c n_,a.GN,fun x h=>(a.places x h).le c,a.EM,?_,by have:=e.D1;simp;omega⟩,k.trans c⟩;intro b f;rcases List.mem_append.1 f with f | f
  ·exact e.globals.le (k.trans c) b f
  ·obtain rfl:b=(s,W.places.length):=by simpa using f
   show W.places.length<(W.places++[v]).length;simp
theorem tA{W:PW}{S:PS}(j:WW W t)(q:SW W S t)(F:S.form=none):Good (Pl.taken W S) (t+310):=by
 unfold Pl.taken;split
 ·exact bL (j.later (by omega)) (by decide) (by decide)
 ·rename_i d r z;have a:=q.AB.1 d (by rw [z];simp);have n:OP W t r:=⟨fun x l=>q.AB.1 x (by rw [z];exact List.mem_cons_of_mem _ l),by have:=q.AB.2;rw [z] at this;simp at this;omega⟩
  have b:=q.QO n;have s:=q.val F;have o:=a.G1;have u:=a.form.shp;dsimp only;split
  ·rename_i y;rw [y] at u;have B:d.form.ks.length=3:=u;split
   ·obtain⟨x,l,c⟩:=eW a.form (i:=2) (by omega);exact(cW j b l c a.env o).later (by omega)
   ·obtain⟨x,l,c⟩:=eW a.form (i:=1) (by omega);exact(cW j b l c a.env o).later (by omega)
  ·split
   ·exact(bH (v:=.nothing) (j.WT s _).1 (j.WT s _).2 n_ b trivial:Good _ t).later (by omega)
   ·exact bL (j.later (by omega)) (by decide) (by decide)
  ·exact(bH (v:=.nothing) (jR j _ _ s).1 (jR j _ _ s).2 (by omega) b trivial:Good _ (t+1)).later (by omega)
  ·rename_i y;have C:=a.JY y;obtain⟨x,l,c⟩:=eW a.form C;split
   ·rename_i A;have k:O_ W t {d with B8:=[],pos:=d.pos+1}:=⟨a.form,a.env,a.G1,a.kind,fun _=>A,fun e=>(by rw [show d.form.k=.begin from y] at e;cases e)⟩
    exact(cW (j.later (Nat.le_succ t)) (b.push k) l c a.env (by omega)).later (by omega)
   ·exact(cW j b l c a.env o).later (by omega)
  ·rename_i G H B I
   have w:d.form.k=.call:=by
    rcases a.kind with h | h | h | h | h
    ·exact absurd h G
    ·exact absurd h H
    ·exact absurd h B
    ·exact absurd h I
    ·exact h
   obtain⟨L,M,J⟩:=a.call w
   have f:∀v∈d.B8++[S.val],BL W v:=fun v p=>by
    rcases List.mem_append.1 p with p | p
    ·exact J v p
    ·obtain rfl:v=S.val:=by simpa using p
     exact s
   split
   ·split
    ·exact bL (j.later (by omega)) (by decide) (by decide)
    ·rename_i g m D;have E:m.length=d.B8.length:=by have:=congrArg List.length D;simp at this;omega
     have K:=a.form.lks;rw [D] at f;exact(tD j b g m (f g (by simp)) (fun v p=>f v (List.mem_cons_of_mem _ p)) (by omega)).later (by omega)
   ·rename_i C;obtain⟨x,l,c⟩:=eW a.form (i:=d.pos) (by omega);have k:O_ W t {d with B8:=d.B8++[S.val],pos:=d.pos+1}:=⟨a.form,a.env,a.G1,a.kind,fun e=>(by rw [show d.form.k=.call from w] at e;cases e),fun _=>⟨by simp;omega,by show d.pos+1<=d.form.ks.length;omega,f⟩⟩
    exact(cW (j.later (Nat.le_succ t)) (b.push k) l c a.env (by omega)).later (by omega)
theorem jQ{W:PW}{S:PS}(j:WW W t)(b:SW W S t):Good (Pl.step W S) (t+310):=by
 unfold Pl.step;split
 ·rename_i q;exact tA j b q
 ·rename_i f q;have g:=b.form f q;have a:=g.shp;have r:=b.G1;have h:∀(d:f.k=.iff\/f.k=.set\/f.k=.define\/f.k=.begin\/f.k=.call)(w:f.k=.begin->1<f.ks.length)(m:1<=f.ks.length),O_ W t ⟨f,[],1,S.env⟩:=fun d w m=>⟨g,b.env,b.G1,d,w,fun _=>⟨rfl,m,fun v z=>by simp at z⟩⟩
  split
  ·rename_i d;exact(bH j (Le.refl _) n_ b (g.val d):Good _ t).later (by omega)
  ·split
   ·rename_i k s;have n:=aDX b.env j.globals s;refine(bH j (Le.refl _) n_ b ?_:Good _ t).later (by omega);rw [g_ n];exact j.places _ (List.getElem_mem n)
   ·exact bL (j.later (by omega)) (by decide) (by decide)
  ·rename_i d;obtain⟨A,B⟩:=j.proc g b.env b.G1 d;exact(bH A B (by omega) b (by show W.procs.length<_;simp):Good _ (t+1)).later (by omega)
  ·rename_i d;rw [d] at a;have m:1<=f.ks.length:=a;obtain⟨x,o,l⟩:=eW g (i:=0) (by omega);split
   ·rename_i p;exact(cW (j.later (Nat.le_succ t)) (b.push (h (.inr (.inr (.inr (.inl d)))) (fun _=>p) m)) o l b.env (by omega)).later (by omega)
   ·exact(cW j b o l b.env r).later (by omega)
  ·rename_i m p y u
   have d:f.k=.iff\/f.k=.set\/f.k=.define\/f.k=.begin\/f.k=.call:=by
    cases d:f.k with
    | const=>exact absurd d m
    | name=>exact absurd d p
    | lambda=>exact absurd d y
    | begin=>exact absurd d u
    | iff=>simp
    | set=>simp
    | define=>simp
    | call=>simp
   have C:1<=f.ks.length:=by
    cases c:f.k with
    | const=>exact absurd c m
    | name=>exact absurd c p
    | lambda=>exact absurd c y
    | begin=>exact absurd c u
    | iff=>rw [c] at a;have:f.ks.length=3:=a;omega
    | set=>rw [c] at a;have:f.ks.length=1:=a;omega
    | define=>rw [c] at a;have:f.ks.length=1:=a;omega
    | call=>rw [c] at a;exact a
   obtain⟨x,o,l⟩:=eW g (i:=0) (by omega);exact(cW (j.later (Nat.le_succ t)) (b.push (h d (fun e=>absurd e u) C)) o l b.env (by omega)).later (by omega)
end
open Go.Proofs.Tryz
section
open Go.RowKit Go.Lib Go.Maps
variable {w w' w1:World} {M:Nat->Prop} {k gb rb tb mb sb i:Nat} {v:Value} {e:Ending}
def OutB(M:Nat->Prop)(w:World)(sb rb:Nat)(out:AE):Prop:=∃fv ev gv kv ov,C0 M w sb rb fv ev gv kv ov/\DS M w ov out
def LP(w:World)(s t:Sg):Prop:=∀b∈t.pb,b∈s.pb\/w.heap.size<=b
theorem LP.refl(w:World)(s:Sg):LP w s s:=fun _ h=>.inl h
theorem LP.trans{s t u:Sg}(h:LP w s t)(k:LP w1 t u)(a:w.heap.size<=w1.heap.size):LP w s u:=fun b c=>(k b c).elim (h b) (fun x=>.inr (t_ a x))
def EG(w:World)(s t:Sg):Prop:=t.ns=s.ns/\LP w s t
theorem EG.refl(w:World)(s:Sg):EG w s s:=⟨rfl,LP.refl w s⟩
theorem EG.same{s t:Sg}(a:t.ns=s.ns)(b:t.pb=s.pb):EG w s t:=⟨a,fun _ h=>.inl (b▸h)⟩
theorem EG.trans{s t u:Sg}(h:EG w s t)(k:EG w1 t u)(a:w.heap.size<=w1.heap.size):EG w s u:=⟨k.1.trans h.1,h.2.trans k.2 a⟩
theorem EG.back{s t:Sg}(k:EG w1 s t)(a:w.heap.size<=w1.heap.size):EG w s t:=(EG.refl w s).trans k a
def AS(M:Nat->Prop)(w:World)(s:Sg)(tb mb sb gb rb:Nat)(r:SR)(e:Ending)(w':World):Prop :=
 ∃M' s',Stp M w M' w'/\(Sg.Le s s'/\EG w s s')/\Wd M' w' s' tb mb sb gb r.W /\
  ((r.e=0/\e=.returned .nilIface/\LO M' w' s' sb rb r.S r.W.out)\/(∃es,r.e≠0/\e=.returned (aY es (r.e:Nat))/\OutB M' w' sb rb r.W.out))
theorem AS.one{s:Sg}{r:SR}(h:AS M w s tb mb sb gb rb r e w'):∃v,e=.returned v:=by
 obtain⟨_,_,_,_,_,⟨_,h,_⟩ | ⟨a,_,h,_⟩⟩:=h
 ·exact⟨_,h⟩
 ·exact⟨_,h⟩
theorem AS.after{s:Sg}{r:SR}(h:AS M w1 s tb mb sb gb rb r e w')(a:Stp M w M w1):AS M w s tb mb sb gb rb r e w':=by obtain⟨c,d,f,b,g⟩:=h;exact⟨c,d,a.trans f,⟨b.1,b.2.back a.size⟩,g⟩
theorem AS.M7{M1:Nat->Prop}{s a:Sg}{r:SR}(h:AS M1 w1 a tb mb sb gb rb r e w')(b:Stp M w M1 w1)(l:Sg.Le s a)(d:EG w s a):AS M w s tb mb sb gb rb r e w':=by obtain⟨f,g,i,c,j⟩:=h;exact⟨f,g,b.trans i,⟨l.trans c.1,d.trans c.2 b.size⟩,j⟩
theorem DS.keep{M':Nat->Prop}{l:AE}(h:DS M w v l)(e:∀g a f,M g->w.heap[g]?=some (.cells a JM f)->w'.heap[g]?=w.heap[g]? /\ M' g):DS M' w' v l:=by
 have c:∀g,v.ownBlock=some g->w'.heap[g]?=w.heap[g]? /\ M' g:=fun g b=>by
  rcases h.1.2 with⟨rfl,_⟩ | ⟨d,i,a,rfl,_,j,_⟩
  ·cases b
  ·obtain rfl:d=g:=by simpa [Value.ownBlock] using b
   exact e d a _ (h.2 d rfl) j
 exact⟨gA h.1 (fun g b=>(c g b).1),fun g b=>(c g b).2⟩
theorem DS.ch{cs cs0:Array Value}{l:AE}(h:DS M w v l)(b:AI w rb cs w')(c:w.heap[rb]?=some (.cells cs0 BT (0,0))):DS M w' v l :=
 h.keep (fun g d i f a=>⟨b.other g (aB a) (fun e=>by
  subst e;rw [c] at a;simp only [o_,Obj.cells.injEq] at a
  exact absurd a.2.1 (by decide)),f⟩)
theorem DS.below{l:AE}(h:DS M w v l)(a:Below w.heap.size w w'):DS M w' v l:=h.keep (fun g _ _ b c=>⟨a.block g (aB c),b⟩)
theorem LO.below{s:Sg}{S:PS}{b:AE}(h:LO M w s sb rb S b)(c:Below w.heap.size w w'):LO M w' s sb rb S b:=by
 obtain⟨g,i,j,k,l,d,a,m,n⟩:=h.ex;refine⟨g,i,j,k,l,⟨(c.block rb (aB d.blk)).trans d.blk,d.JK⟩,?_,m.go (Stp.AA c) (Sg.Le.refl _),n.below c⟩;unfold FE at a ⊢;split
 ·rename_i e;rw [e] at a;exact a
 ·rename_i f e;rw [e] at a;exact⟨a.1.go (Stp.AA c) (Sg.Le.refl _),a.2.go (Stp.AA c) (Sg.Le.refl _)⟩
theorem eH{w2:World}{s:Sg}{W:PW}{S':PS}{c0 c1 c2 c3 c4 c5 fv ev gv kv ov:Value}(e:Wd M w s tb mb sb gb W)(c:w.heap[rb]?=some (.cells #[c0,c1,c2,c3,c4,c5] BT (0,0)))(d:M rb)(b:AI w rb #[.pointer (some ⟨sb,0,none⟩),fv,ev,gv,kv,ov] w2)
  (f:Stp M w M w2->FE M w2 s fv ev gv S') (g:Stp M w M w2->GW M w2 s kv S'.AB) (h:DS M w ov W.out):AS M w s tb mb sb gb rb ⟨0,W,S'⟩ (.returned .nilIface) w2:=by
 have a:=b.mv c d;exact⟨M,s,a.AQ,⟨Sg.Le.refl _,EG.refl _ _⟩,e.mv a,.inl ⟨rfl,rfl,⟨fv,ev,gv,kv,ov,⟨b.blk,d⟩,f a.AQ,g a.AQ,h.ch b c⟩⟩⟩
theorem tK(w:World):(zeroValue 88).run prog w=.ok .nilIface w:=by kernel_rfl
def MH:Nat:=9223372036854775807
def CT(s:Sg):Prop:=s.ns.length<=MH
theorem TQ(h:k<=MH):keyOf prog 3 (.int .i64 (k:Int))=some (.int .i64 (k:Int)):=keyOf_int_mk underlying3 (WalkArith.wf_i64 (by unfold MH at h;omega))
theorem IW.nsok{s:Sg}(h:IW w tb mb s.ns):CT s:=by
 obtain⟨D,⟨a,c,_,F,_,rfl⟩,b⟩:=h.map;have d:=b.size;have e:Maps.size (DataW.map ((a.toList.map (WideElems.rg prog 9 (plainElem prog 3))).foldr DataW.insert []):DataW Unit)=a.size:=length_read (P:=prog) (k:=9) (R0:=plainElem prog 3) a;have f:=F.size;have g:s.ns.length<=maxLen:=by rw [<- d,e];exact f
 exact g
theorem rE{s:Sg}{W:PW}(h:GV w gb s W){nm:AE}(j:CT s)(g:s.ns[k]?=some nm)(l:Pl.find W.globals nm=some i):∃v p,W.places[i]?=some p/\RV s v p/\∀a,a.heap[gb]?=w.heap[gb]? -> (Instr.lookup 58 (.map (some gb)) (.int .i64 (k:Int)) true).run prog a=.ok (.tuple #[v,.bool true]) a:=by
 obtain⟨D,⟨m,c,n,o⟩,q⟩:=h;obtain⟨r,v,p,t,u,e⟩:=q.yes k nm i g l;refine⟨v,p,u,e,fun a x=>?_⟩;have b:a.ownsMap prog 3 heldE gb W.globals.length D:=⟨m,c,x.trans n,o⟩
 obtain⟨y,z,d,f⟩:=b.look_ok aKS underlying58 (tK a) (zd:=.held .nilIface) (zp:=[]) rfl (TQ (k:=k) (by have:=(s_ g).1;unfold CT at j;omega));rw [t] at f;simp only [heldE,o_,Prod.mk.injEq,DataW.held.injEq] at f;rw [d,r,f.1]
theorem pS{s:Sg}{W:PW}(h:GV w gb s W){nm:AE}(i:CT s)(f:s.ns[k]?=some nm)(j:Pl.find W.globals nm=none):∀a,a.heap[gb]?=w.heap[gb]? -> (Instr.lookup 58 (.map (some gb)) (.int .i64 (k:Int)) true).run prog a=.ok (.tuple #[.nilIface,.bool false]) a:=by
 obtain⟨D,⟨l,c,m,n⟩,o⟩:=h;have g:=o.no k nm f j;intro a p;have b:a.ownsMap prog 3 heldE gb W.globals.length D:=⟨l,c,p.trans m,n⟩
 obtain⟨q,r,d,e⟩:=b.look_ok aKS underlying58 (tK a) (zd:=.held .nilIface) (zp:=[]) rfl (TQ (k:=k) (by have:=(s_ f).1;unfold CT at i;omega));rw [atKey_of_not_has g] at e;simp only [heldE,o_,Prod.mk.injEq,DataW.held.injEq] at e;rw [d,g,e.1]
theorem eM(g:Env)(nm x:AE)(n:Nat):Pl.find (g++[(nm,n)]) x=if nm=x then some n else Pl.find g x:=by
 rw [Pl.FJ];simp only [Pl.find];split
 ·rename_i k a;by_cases e:nm=x
  ·rw [if_pos e] at a ⊢;exact a.symm
  ·rw [if_neg e] at a;cases a
 ·rename_i a;by_cases e:nm=x
  ·rw [if_pos e] at a;cases a
  ·rw [if_neg e]
def Sg.FO(s:Sg):Sg:={s with lp:=s.lp++[none]}
theorem Sg.FC(s:Sg):Sg.Le s s.FO:=⟨rfl,rfl,List.prefix_refl _,List.prefix_refl _,List.prefix_refl _,List.prefix_append _ _,List.prefix_refl _⟩
theorem aLI{s:Sg}(b:s.ns.Nodup){j:Nat}{a:AE}(c:s.ns[k]?=some a)(d:s.ns[j]?=some a):k=j:=by have e:=cV b c;have f:=cV b d;omega
theorem eK{j:Nat}(h:k≠j):(Lit.int .i64 (k:Int))≠.int .i64 (j:Int):=fun e=>by simp only [Lit.int.injEq,true_and] at e;omega
theorem AC.setG{D:DataW Value}{s:Sg}{W:PW}(h:AC D s W)(l:s.ns.Nodup){nm:AE}{q:PV}(f:s.ns[k]?=some nm)(g:Pl.find W.globals nm=some i)(n:RV s v q)(o:i<W.places.length):AC (D.put (.int .i64 (k:Int)) (.held v)) s {W with places:=W.places.set i q}:=by
 have c:WideAt.IsKeyLit (.int .i64 (k:Int)):=trivial;refine⟨h.tidy.put c _,?_,?_,?_,h.names,h.inj⟩
 ·intro j a m b d;by_cases e:j=k
  ·subst e;obtain rfl:a=nm:=i_ (b.symm.trans f);obtain rfl:m=i:=i_ (d.symm.trans g);exact⟨has_put_same h.tidy.isMap c _,v,q,fun z=>atKey_put_same h.tidy.isMap c _ z,by simp [o],n⟩
  ·obtain⟨r,u,p,t,w,x⟩:=h.yes j a m b d;refine⟨by rw [has_put_other (eK e)];exact r,u,p,fun z=>by rw [atKey_put_other (eK e)];exact t z,?_,x⟩;show(W.places.set i q)[m]?=some p;rw [List.getElem?_set_ne (fun y=>e (by subst y;exact aLI l b (by rw [h.inj a nm i d g];exact f)))];exact w
 ·intro j a b d
  have e:j≠k:=fun e=>by
   subst e;obtain rfl:a=nm:=i_ (b.symm.trans f);rw [show Pl.find W.globals a=none from d] at g
   cases g
  rw [has_put_other (eK e)];exact h.no j a b d
 ·intro j b;by_cases e:j=k
  ·subst e;exact(s_ f).1
  ·rw [has_put_other (eK e)] at b;exact h.keys j b
theorem AC.newG{D:DataW Value}{s:Sg}{W:PW}(h:AC D s W)(A:s.ns.Nodup){nm:AE}{q:PV}(r:s.ns[k]?=some nm)(J:Pl.find W.globals nm=none)(B:RV s v q)(C:s.lp.length=W.places.length)(E:LG W W.globals) :AC (D.put (.int .i64 (k:Int)) (.held v)) s.FO {W with places:=W.places++[q],globals:=W.globals++[(nm,W.places.length)]}:=by
 have l:WideAt.IsKeyLit (.int .i64 (k:Int)):=trivial;have n:∀a m,Pl.find W.globals a=some m->m<W.places.length:=fun a m o=>by have:=(s_ (h.names a m o).2).1;omega
 have _:=E;refine⟨h.tidy.put l _,?_,?_,?_,?_,?_⟩
 ·intro j a m i o;have c:(if nm=a then some W.places.length else Pl.find W.globals a)=some m:=by rw [<- eM];exact o
  by_cases e:j=k
  ·subst e;obtain rfl:a=nm:=i_ (i.symm.trans r);rw [if_pos rfl] at c;obtain rfl:=i_ c;exact⟨has_put_same h.tidy.isMap l _,v,q,fun z=>atKey_put_same h.tidy.isMap l _ z,by simp,B.le s.FC⟩
  ·have w:nm≠a:=fun d=>e (aLI A i (by rw [<- d];exact r));rw [if_neg w] at c;obtain⟨x,u,p,y,F,G⟩:=h.yes j a m i c;refine⟨by rw [has_put_other (eK e)];exact x,u,p,fun z=>by rw [atKey_put_other (eK e)];exact y z,?_,G.le s.FC⟩;show(W.places++[q])[m]?=some p;rw [List.getElem?_append_left (n a m c)];exact F
 ·intro j a i o;have c:(if nm=a then some W.places.length else Pl.find W.globals a)=none:=by rw [<- eM];exact o
  by_cases d:nm=a
  ·rw [if_pos d] at c;cases c
  ·rw [if_neg d] at c;have e:j≠k:=fun e=>by subst e;exact d (i_ (r.symm.trans i))
   rw [has_put_other (eK e)];exact h.no j a i c
 ·intro j i;by_cases e:j=k
  ·subst e;exact(s_ r).1
  ·rw [has_put_other (eK e)] at i;exact h.keys j i
 ·intro a m o;have c:(if nm=a then some W.places.length else Pl.find W.globals a)=some m:=by rw [<- eM];exact o
  by_cases d:nm=a
  ·rw [if_pos d] at c;obtain rfl:=i_ c;subst d;refine⟨q_ r,?_⟩;show(s.lp++[none])[W.places.length]?=some none;rw [<- C];simp
  ·rw [if_neg d] at c;obtain⟨x,y⟩:=h.names a m c;exact⟨x,bS (List.prefix_append _ _) y⟩
 ·intro a b m H I;have f:(if nm=a then some W.places.length else Pl.find W.globals a)=some m:=by rw [<- eM];exact H
  have g:(if nm=b then some W.places.length else Pl.find W.globals b)=some m:=by rw [<- eM];exact I
  by_cases d:nm=a
  ·by_cases t:nm=b
   ·exact d.symm.trans t
   ·rw [if_pos d] at f;rw [if_neg t] at g;obtain rfl:=i_ f;exact absurd (n b _ g) (Nat.lt_irrefl _)
  ·by_cases t:nm=b
   ·rw [if_pos t] at g;rw [if_neg d] at f;obtain rfl:=i_ g;exact absurd (n a _ f) (Nat.lt_irrefl _)
   ·rw [if_neg d] at f;rw [if_neg t] at g;exact h.inj a b m f g
theorem CM.setO{s:Sg}{b:List PV}(h:CM M w s b)(hi:s.lp[i]?=some none)(q:PV):CM M w s (b.set i q) :=
 ⟨by rw [List.length_set];exact h.len,h.inj,fun j g o p a c=>by
  rw [List.getElem?_set_ne (fun e=>by subst e;rw [hi] at a;simp at a)] at c
  exact h.at_ j g o p a c⟩
theorem CM.newO{s:Sg}{l:List PV}(h:CM M w s l)(q:PV):CM M w s.FO (l++[q]):=by
 have a:∀i (c:Nat×Nat),s.FO.lp[i]?=some (some c)->s.lp[i]?=some (some c):=fun i c b=>by
  rcases p5 b with e | ⟨_,f⟩
  ·exact e
  ·cases f
 refine⟨by simp [Sg.FO,h.len],fun i j c b n=>h.inj i j c (a i c b) (a j c n),fun i g o p b m=>?_⟩;have d:=a i _ b;have r:=(s_ d).1;rw [List.getElem?_append_left (by rw [<- h.len];exact r)] at m;obtain⟨e,k,v,f,t,u⟩:=h.at_ i g o p d m;exact⟨e,k,v,f,t,u.le s.FC⟩
end
end Go.Proofs.YtieooapcfpimlaaGreatDoor
