import Derived.Test.YtbgghmjmcapmlaaGreatDoorF12
import Derived.Test.YtbgghmjmcapmlaaGreatDoorF08
import Derived.Test.YtbgghmjmcapmlaaGreatDoorF13
import Derived.Lib.AppendZerosOnto
namespace Go.Proofs.YtbgghmjmcapmlaaGreatDoor
set_option maxHeartbeats 1000000
set_option maxRecDepth 100000
open Pl (PV PW PS PF CW SR AE Env FK A2 B0 AH BH A4)
theorem zG9{P:Prop}(h:P:=by exact bL (c.later x8) w8 w8):P:=h
theorem zH0{P:Prop}(h:P:=by
 have d:=hp.2 y k;unfold Pl.BI at c;split at c
 ·rename_i a b
  cases n with
  | zero=>exact d.elim
  | succ m =>have:=d.2 b w9;exact⟨aDQ m (m+1) b this x8,aDQ m (m+2) b this x8⟩
 ·cases c):P:=h
theorem zH1{P:Prop}(h:P:=by simp only [List.map_cons,List.map_nil,List.sum_cons,List.sum_nil];omega):P:=h
theorem zH2{P:Prop}(h:P:=by clear i c j a;go_enter func31,ntmps31;go_wp2_with (go_at_call 47;refine(bJ _ _ _).mono ?_;rintro e o ⟨rfl,rfl⟩);go_ret2;exact⟨_,_,rfl,.inl ⟨h,⟨_,rfl⟩,f⟩⟩):P:=h
theorem zH3{P:Prop}(h:P:=by exact bL (j.later x8) w8 w8):P:=h
theorem zH4{P:Prop}(h:P:=by
 split at c
 ·simp only [Option.map_eq_some_iff] at c;obtain⟨l,d,rfl⟩:=c;have j:=aBF g r l d e;unfold BN;rw [i,OL];omega
 ·cases c):P:=h
theorem zH5{P:Prop}(h:P:=by
 cases j:l.length with
 | zero=>rw [j] at b;simp [Pl.pd] at b
 | succ m=>exact⟨m,rfl⟩):P:=h
theorem zH6{P:Prop}(h:P:=by exact(cW (j.later (Nat.le_succ t)) (b.push k) l c a.env x8).later x8):P:=h
section
open Go.RowKit
variable {W W':PW} {t t':Nat} {S:PS} {f x:PF} {v:PV} {env:Env}
structure Le(W W':PW):Prop where
 pre:∃l,W'.pairs=W.pairs++l
 procs:W.procs.length<=W'.procs.length
 AG:W.AG.length<=W'.AG.length
 places:W.places.length<=W'.places.length
theorem VP{α:Type}(l:List α):∃m,l=l++m:=⟨[],(List.append_nil l).symm⟩
theorem Le.pairs(h:Le W W'):W.pairs.length<=W'.pairs.length:=by obtain⟨l,e⟩:=h.pre;rw [e];simp
theorem Le.refl(W:PW):Le W W:=⟨VP _,n_,n_,n_⟩
theorem Le.trans{a b c:PW}(h:Le a b)(k:Le b c):Le a c:=⟨by
 obtain⟨l,e⟩:=h.pre;obtain⟨m,d⟩:=k.pre
 exact⟨l++m,by rw [d,e,List.append_assoc]⟩,t_ h.procs k.procs,t_ h.AG k.AG,t_ h.places k.places⟩
theorem BL.le(h:BL W v)(l:Le W W'):BL W' v:=by
 cases v with
 | pair i=>exact l_ h l.pairs
 | proc i=>exact l_ h l.procs
 | cont i=>exact l_ h l.AG
 | _=>exact h
theorem LG.le{e:Env}(h:LG W e)(l:Le W W'):LG W' e:=fun b a=>l_ (h b a) l.places
mutual
def IU:PF->Nat
 | .mk _ _ _ _ ks _=>1+OT ks
def OT:List PF->Nat
 | []=>0
 | x::r=>IU x+OT r
end
theorem OL(k:FK)(nm:AE)(d:Pl.A9)(v:PV)(a:List PF)(ns:List AE):IU (.mk k nm d v a ns)=1+OT a:=by simp [IU]
theorem ZL(x:PF)(r:List PF):OT (x::r)=IU x+OT r:=by simp [OT]
theorem aA5:OT []=0:=by simp [OT]
theorem aDP:∀{a:List PF},x∈a->IU x<=OT a
 | y::r,h=>by
  rw [ZL];rcases List.mem_cons.1 h with rfl | h
  ·omega
  ·have:=aDP h;omega
def Pl.dep:Nat->Pl.A9->Prop
 | 0,_=>False
 | n+1,t=>match t with
  | .agg ts=>∀x∈ts,Pl.dep n x
  | _=>True
def TxD(W:PW)(v:PV)(d:Pl.A9):Prop:=(∀l,Pl.NI (W.pairs++l)->Pl.text (W.pairs++l) v=Pl.CC 1000 (Pl.quoted d))/\(Pl.CC 1000 (Pl.quoted d)).length<=400000/\Pl.dep 1000 (Pl.quoted d)/\cL 1000 (Pl.quoted d)
inductive EU (W:PW):PF->Prop
 | mk (k:FK) (nm:AE) (d:Pl.A9) (v:PV) (ks:List PF) (ns:List AE) (h1:k=.const->BL W v) (h2:shape k ks.length) (h3:∀x,x∈ks->EU W x) (h4:ks.length<=300) (h5:ns.length<=300/\nm.length<=300/\∀x∈ns,x.length<=300) (h6:1+OT ks<=1001) (h7:k=.const->TxD W v d) (h8:Pl.Nm k nm d):EU W (.mk k nm d v ks ns)
theorem EU.le(l:Le W W')(h:EU W f):EU W' f:=by
 induction h with
 | mk k b d v c g i j _ n o p a r s =>refine .mk k b d v c g (fun e=>(i e).le l) j s n o p (fun e=>⟨fun m=>?_,(a e).2⟩) r;obtain⟨q,t⟩:=l.pre;rw [t,List.append_assoc];exact(a e).1 _
theorem EU.val(h:EU W f)(a:f.k=.const):BL W f.v:=by cases h with | mk k c d v e g b=>exact b a
theorem EU.shp(h:EU W f):shape f.k f.ks.length:=by cases h with | mk k b d v c e g a=>exact a
theorem EU.KG(h:EU W f)(a:x∈f.ks):EU W x:=by cases h with | mk k c d v e g i j b=>exact b x a
theorem EU.kid_at{i:Nat}(h:EU W f)(a:f.ks[i]?=some x):EU W x:=h.KG (q_ a)
theorem EU.lks(h:EU W f):f.ks.length<=300:=by cases h with | mk k b d v c e g i j a=>exact a
theorem EU.lns(h:EU W f):f.ns.length<=300:=by cases h with | mk k b d v c e g i j l a=>exact a.1
theorem EU.lnm(h:EU W f):f.nm.length<=300:=by cases h with | mk k b d v c e g i j l a=>exact a.2.1
theorem EU.nd(h:EU W f):IU f<=1001:=by cases h with | mk k b d v c e g i j l m a=>rw [OL];exact a
structure O_(W:PW)(t:Nat)(fr:CW):Prop where
 form:EU W fr.form
 env:LG W fr.env
 G1:fr.env.length<=t
 kind:fr.form.k=.iff\/fr.form.k=.set\/fr.form.k=.define\/fr.form.k=.begin\/fr.form.k=.call
 JY:fr.form.k=.begin->fr.pos<fr.form.ks.length
 call:fr.form.k=.call->fr.B8.length+1=fr.pos/\fr.pos<=fr.form.ks.length/\∀v∈fr.B8,BL W v
theorem O_.le{fr:CW}(h:O_ W t fr)(l:Le W W')(b:t<=t'):O_ W' t' fr :=⟨h.form.le l,h.env.le l,by have:=h.G1;omega,h.kind,h.JY,fun e=>⟨(h.call e).1,(h.call e).2.1,fun v a=>((h.call e).2.2 v a).le l⟩⟩
def OP(W:PW)(t:Nat)(l:List CW):Prop:=(∀fr∈l,O_ W t fr)/\l.length<=t
theorem OP.le{fs:List CW}(h:OP W t fs)(l:Le W W')(a:t<=t'):OP W' t' fs:=⟨fun b c=>(h.1 b c).le l a,by have:=h.2;omega⟩
structure WW(W:PW)(t:Nat):Prop where
 KV:Pl.NI W.pairs
 CH:∀(i:Nat)(p:PV×PV),W.pairs[i]?=some p->BL W p.1/\BL W p.2
 EX:W.pairs.length<=t
 procs:∀p∈W.procs,EU W p.1/\LG W p.2/\p.2.length<=t/\p.1.k=.lambda
 FU:W.procs.length<=t
 AG:∀l∈W.AG,OP W t l
 GN:W.AG.length<=t
 places:∀v∈W.places,BL W v
 EM:W.places.length<=t
 globals:LG W W.globals
 D1:W.globals.length<=t
structure SW(W:PW)(S:PS)(t:Nat):Prop where
 form:∀f,S.form=some f->EU W f
 env:LG W S.env
 G1:S.env.length<=t
 val:S.form=none->BL W S.val
 AB:OP W t S.AB
theorem WW.later(h:WW W t)(b:t<=t'):WW W t' :=⟨h.KV,h.CH,by have:=h.EX;omega,fun p a=>⟨(h.procs p a).1,(h.procs p a).2.1,by have:=(h.procs p a).2.2.1;omega,(h.procs p a).2.2.2⟩,by have:=h.FU;omega,fun l c=>(h.AG l c).le (Le.refl _) b,by have:=h.GN;omega,h.places,by have:=h.EM;omega,h.globals,by have:=h.D1;omega⟩
theorem SW.le(h:SW W S t)(l:Le W W')(a:t<=t'):SW W' S t' :=⟨fun f b=>(h.form f b).le l,h.env.le l,by have:=h.G1;omega,fun e=>(h.val e).le l,h.AB.le l a⟩
theorem SW.A1(h:SW W S t)(a:BL W v):SW W (S.A1 v) t:=⟨fun f b=>(by cases b),h.env,h.G1,fun _=>a,h.AB⟩
theorem SW.work(h:SW W S t)(a:EU W f)(b:LG W env)(c:env.length<=t):SW W (S.work (some f) env) t:=⟨fun g d=>(by obtain rfl:=i_ d;exact a),b,c,fun e=>a8,h.AB⟩
theorem SW.push{fr:CW}(h:SW W S t)(b:O_ W t fr):SW W (S.push fr) (t+1):=by
 refine⟨h.form,h.env,by have:=h.G1;show S.env.length<=_;omega,h.val,⟨fun x a=>?_,by have:=h.AB.2;simp only [Pl.PS.push,c_];omega⟩⟩;simp only [Pl.PS.push,List.mem_cons] at a;rcases a with rfl | a
 ·exact b.le (Le.refl _) x8
 ·exact(h.AB.1 x a).le (Le.refl _) x8
theorem SW.QO{fs:List CW}(h:SW W S t)(a:OP W t fs):SW W {S with AB:=fs} t:=⟨h.form,h.env,h.G1,h.val,a⟩
theorem WW.pair(h:WW W t){a b:PV}(g:BL W a)(j:BL W b):WW {W with pairs:=W.pairs++[(a,b)]} (t+1)/\Le W {W with pairs:=W.pairs++[(a,b)]}:=by
 have l:Le W {W with pairs:=W.pairs++[(a,b)]}:=⟨⟨_,rfl⟩,n_,n_,n_⟩
 have k:∀v,BL W v->Pl.B7 v<=W.pairs.length:=fun v e=>by
  cases v with
  | pair i=>exact e
  | _=>exact Nat.zero_le _
 have d:=h.later (Nat.le_succ t);refine⟨⟨?_,?_,by have:=h.EX;simp;omega,fun p c=>⟨(d.procs p c).1.le l,(d.procs p c).2.1.le l,(d.procs p c).2.2⟩,d.FU,fun m f=>(d.AG m f).le l n_,d.GN,fun v e=>(h.places v e).le l,d.EM,h.globals.le l,d.D1⟩,l⟩
 ·intro i p c;rcases dH c with c | ⟨rfl,rfl⟩
  ·exact h.KV i p c
  ·exact⟨k a g,k b j⟩
 ·intro i p c;rcases dH c with c | ⟨rfl,rfl⟩
  ·exact⟨(h.CH i p c).1.le l,(h.CH i p c).2.le l⟩
  ·exact⟨g.le l,j.le l⟩
theorem WW.QI(h:WW W t){vs:List PV}(e:∀v∈vs,BL W v):WW {W with places:=W.places++vs} (t+vs.length)/\Le W {W with places:=W.places++vs}:=by
 have l:Le W {W with places:=W.places++vs}:=⟨VP _,n_,n_,w9⟩
 have a:=h.later (Nat.le_add_right t vs.length);refine⟨⟨h.KV,fun i p b=>⟨(h.CH i p b).1.le l,(h.CH i p b).2.le l⟩,a.EX,fun p b=>⟨(a.procs p b).1.le l,(a.procs p b).2.1.le l,(a.procs p b).2.2⟩,a.FU,fun f d=>(a.AG f d).le l n_,a.GN,fun v c=>?_,by have:=h.EM;simp;omega,h.globals.le l,a.D1⟩,l⟩;rcases List.mem_append.1 c with c | c
 ·exact(h.places v c).le l
 ·exact(e v c).le l
theorem WW.WT(h:WW W t)(d:BL W v)(k:Nat):WW {W with places:=W.places.set k v} t/\Le W {W with places:=W.places.set k v}:=by
 have l:Le W {W with places:=W.places.set k v}:=⟨VP _,n_,n_,w9⟩
 refine⟨⟨h.KV,fun i p a=>⟨(h.CH i p a).1.le l,(h.CH i p a).2.le l⟩,h.EX,fun p a=>⟨(h.procs p a).1.le l,(h.procs p a).2.1.le l,(h.procs p a).2.2⟩,h.FU,fun e b=>(h.AG e b).le l n_,h.GN,fun x c=>?_,by simpa using h.EM,h.globals.le l,h.D1⟩,l⟩;rcases List.mem_or_eq_of_mem_set c with c | rfl
 ·exact(h.places x c).le l
 ·exact d.le l
theorem WW.proc(h:WW W t)(d:EU W f)(e:LG W env)(m:env.length<=t)(g:f.k=.lambda):WW {W with procs:=W.procs++[(f,env)]} (t+1)/\Le W {W with procs:=W.procs++[(f,env)]}:=by
 have l:Le W {W with procs:=W.procs++[(f,env)]}:=⟨VP _,w9,n_,n_⟩
 have b:=h.later (Nat.le_succ t);refine⟨⟨h.KV,fun i p a=>⟨(h.CH i p a).1.le l,(h.CH i p a).2.le l⟩,b.EX,fun p a=>?_,by have:=h.FU;simp;omega,fun j c=>(b.AG j c).le l n_,b.GN,fun v k=>(h.places v k).le l,b.EM,h.globals.le l,b.D1⟩,l⟩;rcases List.mem_append.1 a with a | a
 ·exact⟨(b.procs p a).1.le l,(b.procs p a).2.1.le l,(b.procs p a).2.2⟩
 ·obtain rfl:p=(f,env):=by simpa using a
  exact⟨d.le l,e.le l,by show env.length<=_;omega,g⟩
theorem WW.E_(h:WW W t)(e:OP W t S.AB):WW (W.keep S) (t+1)/\Le W (W.keep S):=by
 have l:Le W (W.keep S):=⟨VP _,n_,by simp [Pl.PW.keep],n_⟩
 have b:=h.later (Nat.le_succ t);refine⟨⟨h.KV,fun i p c=>⟨(h.CH i p c).1.le l,(h.CH i p c).2.le l⟩,b.EX,fun p c=>⟨(b.procs p c).1.le l,(b.procs p c).2.1.le l,(b.procs p c).2.2⟩,b.FU,fun d a=>?_,by have:=h.GN;simp [Pl.PW.keep];omega,fun v f=>(h.places v f).le l,b.EM,h.globals.le l,b.D1⟩,l⟩;rcases List.mem_append.1 a with a | a
 ·exact(b.AG d a).le l n_
 ·obtain rfl:d=S.AB:=by simpa using a
  exact e.le l (Nat.le_succ t)
theorem WW.out(h:WW W t)(o:AE):WW {W with out:=o} t/\Le W {W with out:=o}:=by
 have l:Le W {W with out:=o}:=⟨VP _,n_,n_,n_⟩
 exact⟨⟨h.KV,fun i p a=>⟨(h.CH i p a).1.le l,(h.CH i p a).2.le l⟩,h.EX,fun p a=>⟨(h.procs p a).1.le l,(h.procs p a).2.1.le l,(h.procs p a).2.2⟩,h.FU,fun c b=>(h.AG c b).le l n_,h.GN,fun v d=>(h.places v d).le l,h.EM,h.globals.le l,h.D1⟩,l⟩
theorem BL.TT(h:BL W v):BL (W.keep S) v:=by
 cases v with
 | cont i=>simp only [BL,Pl.PW.keep,a_] at h ⊢;omega
 | _=>exact h
theorem BL.TO:BL (W.keep S) (.cont W.AG.length):=by simp [BL,Pl.PW.keep]
theorem aDI(l:List AE)(n:Nat):(Pl.C1 l n).length=l.length:=by
 induction l generalizing n with
 | nil=>rfl
 | cons x l a=>simp [Pl.C1,a]
theorem aDX{s:AE}{k:Nat}(d:LG W env)(e:LG W W.globals)(h:Pl.DL W env s=some k):k<W.places.length:=by
 unfold Pl.DL at h
 cases a:Pl.find env s with
 | some j =>rw [a] at h;obtain rfl:=i_ h;obtain⟨b,c,rfl⟩:=mC _ _ _ a;exact d b c
 | none =>rw [a] at h;obtain⟨b,c,rfl⟩:=mC _ _ _ h;exact e b c
def Good(r:SR)(t:Nat):Prop:=r.e≠7/\WW r.W t/\(r.e=0->SW r.W r.S t)
theorem Good.later{r:SR}(h:Good r t)(a:t<=t'):Good r t':=⟨h.1,h.2.1.later a,fun e=>(h.2.2 e).le (Le.refl _) a⟩
theorem z7:(0:Nat)≠7:=by decide
theorem bL{n:Nat}(a:WW W t)(b:n≠7)(c:n≠0):Good ⟨n,W,S⟩ t:=⟨b,a,fun e=>absurd e c⟩
theorem bH(a:WW W' t')(l:Le W W')(b:t<=t')(c:SW W S t)(d:BL W' v):Good ⟨0,W',S.A1 v⟩ t':=⟨z7,a,fun _=>(c.le l b).A1 d⟩
theorem pR(c:WW W t)(d:SW W S t)(s:AE)(a b:PV):Good (Pl.reckon W S s a b) t:=by
 unfold Pl.reckon;split
 ·split
  ·exact bH c (Le.refl _) n_ d trivial
  ·split
   ·exact bH c (Le.refl _) n_ d trivial
   ·rename_i x y _ _;dsimp only;generalize (if s=BH then x+y else if s=A4 then x-y else x*y)=n;by_cases h:n.natAbs<=Pl.CG
    ·rw [if_pos h];exact bH (v:=.num n) c (Le.refl _) n_ d h
    ·rw [if_neg h];exact bL c w8 w8
 ·exact bL c w8 w8
theorem tC(b:WW W t)(c:SW W S t)(s:AE)(a:PV):Good (B0 W S s a) t:=by
 unfold B0;split
 ·dsimp only;split
  ·exact bH (b.out _).1 (b.out _).2 n_ c trivial
  ·exact bL b w8 w8
 ·split
  ·split
   ·split
    ·rename_i p d;refine bH b (Le.refl _) n_ c ?_;split
     ·exact(b.CH _ p d).2
     ·exact(b.CH _ p d).1
    ·exact bL b w8 w8
   ·exact bL b w8 w8
  ·split
   ·exact bH b (Le.refl _) n_ c trivial
   ·exact bH b (Le.refl _) n_ c trivial
theorem tB(c:WW W t)(d:SW W S t)(s:AE)(a b:PV)(e:BL W a)(f:BL W b):Good (A2 W S s a b) (t+1):=by
 unfold A2;split
 ·exact bH (c.pair e f).1 (c.pair e f).2 x8 d (by show W.pairs.length<_;simp)
 ·split
  ·exact(bH (v:=.AT _) c (Le.refl _) n_ d trivial:Good _ t).later x8
  ·exact(pR c d s a b).later x8
theorem XX(W:PW)(vs:List PV)(ns:List AE)(h:ns.length<=vs.length):LG {W with places:=W.places++vs} (Pl.C1 ns W.places.length):=by
 have c:∀(ns:List AE)(n:Nat),∀b∈Pl.C1 ns n,b.2<n+ns.length:=by
  intro ns
  induction ns with
  | nil=>intro n b a;simp [Pl.C1] at a
  | cons x r d =>
   intro n b a;simp only [Pl.C1,List.mem_cons] at a;rcases a with rfl | a
   ·simp
   ·have:=d (n+1) b a;simp only [c_];omega
 intro b a;have:=c ns _ b a;show b.2<(W.places++vs).length;rw [a_];omega
theorem fL(c:WW W t)(h:SW W S t)(f:PV)(args:List PV)(q:BL W f)(j:∀v∈args,BL W v)(r:args.length<=300):Good (AH W S f args) (t+300):=by
 unfold AH;split
 ·split
  ·rename_i i p s;obtain⟨m,u,z,w⟩:=c.procs p (q_ s);split
   ·exact zG9
   ·rename_i d;have d:args.length=p.1.ns.length:=by simpa using d
    obtain⟨x,k⟩:=c.QI j;refine⟨z7,x.later x8,fun _=>?_⟩;have n:shape p.1.k p.1.ks.length:=m.shp;rw [w] at n;have y:p.1.ks.length=1:=n;have o:p.1.ks[0]?=some (p.1.ks[0]' x8):=g_ x8;rw [o];refine SW.work (h.le k x8) ((m.kid_at o).le k) ?_ ?_
    ·intro b e;rcases List.mem_append.1 e with e | e
     ·exact u.le k b e
     ·exact XX W args p.1.ns x8 b e
    ·rw [a_,aDI];omega
  ·exact zG9
 ·rename_i i;split
  ·rename_i a;obtain⟨l,g⟩:∃l,W.AG[i]?=some l:=⟨_,g_ q⟩
   rw [g];refine⟨z7,c.later x8,fun _=>?_⟩;exact((h.QO (c.AG l (q_ g))).A1 (j a w9)).le (Le.refl _) x8
  ·exact zG9
 ·split
  ·exact zG9
  ·split
   ·exact(tC c h _ _).later x8
   ·rename_i a b _;exact(tB c h _ a b (j a w9) (j b w9)).later x8
   ·exact zG9
 ·exact zG9
theorem tD(b:WW W t)(c:SW W S t)(f:PV)(args:List PV)(k:BL W f)(h:∀v∈args,BL W v)(d:args.length<=300):Good (Pl.apply W S f args) (t+302):=by
 unfold Pl.apply;split
 ·split
  ·rename_i a;obtain⟨i,j⟩:=b.E_ c.AB;have e:=c.le j (Nat.le_succ t);dsimp only;split
   ·obtain⟨l,m⟩:=i.E_ e.AB;have n:=e.le m (Nat.le_succ _);refine(fL l n _ _ ?_ ?_ w9).later x8
    ·exact BL.TT BL.TO
    ·intro v g;obtain rfl:v=.cont (W.AG.length+1):=by simpa using g
     have:=BL.TO (W:=W.keep S) (S:=S)
     rwa [show(W.keep S).AG.length=W.AG.length+1 from by simp [Pl.PW.keep]] at this
   ·refine(fL i e _ _ ((h a w9).le j) ?_ w9).later x8;intro v g;obtain rfl:v=.cont W.AG.length:=by simpa using g
    exact BL.TO
  ·exact bL (b.later x8) w8 w8
 ·exact(fL b c f args k h d).later x8
theorem cW{o:Option PF}(a:WW W t)(b:SW W S t)(c:o=some f)(d:EU W f)(e:LG W env)(g:env.length<=t):Good ⟨0,W,S.work o env⟩ t:=by subst c;exact⟨z7,a,fun _=>b.work d e g⟩
theorem eW{i:Nat}(a:EU W f)(hi:i<f.ks.length):∃x,f.ks[i]?=some x/\EU W x:=⟨_,g_ hi,a.KG (List.getElem_mem hi)⟩
theorem jR(e:WW W t)(s:AE)(v:PV)(g:BL W v):WW (Pl.bind W s v) (t+1)/\Le W (Pl.bind W s v):=by
 unfold Pl.bind;split
 ·exact⟨(e.WT g _).1.later x8,(e.WT g _).2⟩
 ·obtain⟨a,k⟩:=e.QI (vs:=[v]) (fun x h=>(by simpa using h:x=v)▸g);have c:Le {W with places:=W.places++[v]} {W with places:=W.places++[v],globals:=W.globals++[(s,W.places.length)]}:=⟨VP _,n_,n_,n_⟩
  refine⟨⟨a.KV,fun i p d=>⟨(a.CH i p d).1.le c,(a.CH i p d).2.le c⟩,a.EX,fun p d=>⟨(a.procs p d).1.le c,(a.procs p d).2.1.le c,(a.procs p d).2.2⟩,a.FU,fun l j=>(a.AG l j).le c n_,a.GN,fun x h=>(a.places x h).le c,a.EM,?_,by have:=e.D1;simp;omega⟩,k.trans c⟩;intro b f;rcases List.mem_append.1 f with f | f
  ·exact e.globals.le (k.trans c) b f
  ·obtain rfl:b=(s,W.places.length):=by simpa using f
   show W.places.length<(W.places++[v]).length;simp
theorem tA(j:WW W t)(q:SW W S t)(F:S.form=none):Good (Pl.taken W S) (t+310):=by
 unfold Pl.taken;split
 ·exact zH3
 ·rename_i d r z;have a:=q.AB.1 d (by rw [z];simp);have n:OP W t r:=⟨fun x l=>q.AB.1 x (by rw [z];exact List.mem_cons_of_mem _ l),by have:=q.AB.2;rw [z] at this;simp at this;omega⟩
  have b:=q.QO n;have s:=q.val F;have o:=a.G1;have u:=a.form.shp;dsimp only;split
  ·rename_i y;rw [y] at u;have B:d.form.ks.length=3:=u;split
   ·obtain⟨x,l,c⟩:=eW a.form (i:=2) x8;exact(cW j b l c a.env o).later x8
   ·obtain⟨x,l,c⟩:=eW a.form (i:=1) x8;exact(cW j b l c a.env o).later x8
  ·split
   ·exact(bH (v:=.nothing) (j.WT s _).1 (j.WT s _).2 n_ b trivial:Good _ t).later x8
   ·exact zH3
  ·exact(bH (v:=.nothing) (jR j _ _ s).1 (jR j _ _ s).2 x8 b trivial:Good _ (t+1)).later x8
  ·rename_i y;have C:=a.JY y;obtain⟨x,l,c⟩:=eW a.form C;split
   ·rename_i A;have k:O_ W t {d with B8:=[],pos:=d.pos+1}:=⟨a.form,a.env,a.G1,a.kind,fun _=>A,fun e=>(by rw [show d.form.k=.begin from y] at e;cases e)⟩
    exact zH6
   ·exact(cW j b l c a.env o).later x8
  ·rename_i G H B I
   have w:d.form.k=.call:=by
    rcases a.kind with h | h | h | h | h
    ·exact absurd h G
    ·exact absurd h H
    ·exact absurd h B
    ·exact absurd h I
    ·exact h
   obtain⟨L,M,J⟩:=a.call w
   have f:∀v∈d.B8++[S.val],BL W v:=fun v p=>by
    rcases List.mem_append.1 p with p | p
    ·exact J v p
    ·obtain rfl:v=S.val:=by simpa using p
     exact s
   split
   ·split
    ·exact zH3
    ·rename_i g m D;have E:m.length=d.B8.length:=by have:=congrArg List.length D;simp at this;omega
     have K:=a.form.lks;rw [D] at f;exact(tD j b g m (f g w9) (fun v p=>f v (List.mem_cons_of_mem _ p)) x8).later x8
   ·rename_i C;obtain⟨x,l,c⟩:=eW a.form (i:=d.pos) x8;have k:O_ W t {d with B8:=d.B8++[S.val],pos:=d.pos+1}:=⟨a.form,a.env,a.G1,a.kind,fun e=>(by rw [show d.form.k=.call from w] at e;cases e),fun _=>⟨r7,by show d.pos+1<=d.form.ks.length;omega,f⟩⟩
    exact zH6
theorem jQ(j:WW W t)(b:SW W S t):Good (Pl.step W S) (t+310):=by
 unfold Pl.step;split
 ·rename_i q;exact tA j b q
 ·rename_i f q;have g:=b.form f q;have a:=g.shp;have r:=b.G1;have h:∀(d:f.k=.iff\/f.k=.set\/f.k=.define\/f.k=.begin\/f.k=.call)(w:f.k=.begin->1<f.ks.length)(m:1<=f.ks.length),O_ W t ⟨f,[],1,S.env⟩:=fun d w m=>⟨g,b.env,b.G1,d,w,fun _=>⟨rfl,m,fun v z=>by simp at z⟩⟩
  split
  ·rename_i d;exact(bH j (Le.refl _) n_ b (g.val d):Good _ t).later x8
  ·split
   ·rename_i k s;have n:=aDX b.env j.globals s;refine(bH j (Le.refl _) n_ b ?_:Good _ t).later x8;rw [g_ n];exact j.places _ (List.getElem_mem n)
   ·exact zH3
  ·rename_i d;obtain⟨A,B⟩:=j.proc g b.env b.G1 d;exact(bH A B x8 b (by show W.procs.length<_;simp):Good _ (t+1)).later x8
  ·rename_i d;rw [d] at a;have m:1<=f.ks.length:=a;obtain⟨x,o,l⟩:=eW g (i:=0) x8;split
   ·rename_i p;exact(cW (j.later (Nat.le_succ t)) (b.push (h (.inr (.inr (.inr (.inl d)))) (fun _=>p) m)) o l b.env x8).later x8
   ·exact(cW j b o l b.env r).later x8
  ·rename_i m p y u
   have d:f.k=.iff\/f.k=.set\/f.k=.define\/f.k=.begin\/f.k=.call:=by
    cases d:f.k with
    | const=>exact absurd d m
    | name=>exact absurd d p
    | lambda=>exact absurd d y
    | begin=>exact absurd d u
    | iff=>simp
    | set=>simp
    | define=>simp
    | call=>simp
   have C:1<=f.ks.length:=by
    cases c:f.k with
    | const=>exact absurd c m
    | name=>exact absurd c p
    | lambda=>exact absurd c y
    | begin=>exact absurd c u
    | iff=>rw [c] at a;have:f.ks.length=3:=a;omega
    | set=>rw [c] at a;have:f.ks.length=1:=a;omega
    | define=>rw [c] at a;have:f.ks.length=1:=a;omega
    | call=>rw [c] at a;exact a
   obtain⟨x,o,l⟩:=eW g (i:=0) x8;exact(cW (j.later (Nat.le_succ t)) (b.push (h d (fun e=>absurd e u) C)) o l b.env x8).later x8
def QC(n:Nat)(W:PW)(S:PS):Prop:=∃t,t+310*n<=100000000/\WW W t/\SW W S t
end
open Go.Proofs.Tryz
section
open Go.RowKit Go.Lib Go.Maps
variable {k:Nat}
def PbN(w:World)(s t:Sg):Prop:=∀b∈t.pb,b∈s.pb\/w.heap.size<=b
def MH:Nat:=9223372036854775807
def CT(s:Sg):Prop:=s.ns.length<=MH
theorem TQ(h:k<=MH):keyOf prog 3 (.int .i64 (k:Int))=some (.int .i64 (k:Int)):=keyOf_int_mk underlying3 (WalkArith.wf_i64 (by unfold MH at h;omega))
theorem IW.nsok{w:World}{tb mb:Nat}{s:Sg}(h:IW w tb mb s.ns):CT s:=by
 obtain⟨D,⟨a,c,_,F,_,rfl⟩,b⟩:=h.map;have d:=b.size;have e:Maps.size (DataW.map ((a.toList.map (WideElems.rg prog 9 (plainElem prog 3))).foldr DataW.insert []):DataW Unit)=a.size:=length_read (P:=prog) (k:=9) (R0:=plainElem prog 3) a;have f:=F.size;have g:s.ns.length<=maxLen:=by rw [<- d,e];exact f
 exact g
theorem S8{s:Sg}(b:s.ns.Nodup){j:Nat}{a:AE}(c:s.ns[k]?=some a)(d:s.ns[j]?=some a):k=j:=by have e:=cV b c;have f:=cV b d;omega
theorem eK{j:Nat}(h:k≠j):(Lit.int .i64 (k:Int))≠.int .i64 (j:Int):=fun e=>by simp only [Lit.int.injEq,true_and] at e;omega
def FZ:TypeId:=46
end
open Pl (AD BN EE AL A8)
section
open Go.RowKit
variable {n m t:Nat} {f:PF} {W:PW} {S:PS} {h:Q7} {bs:AE}
def CF:Nat->Pl.A9->Nat
 | 0,_=>0
 | n+1,t=>match t with
  | .agg ts=>ts.length+(ts.map (CF n)).sum
  | _=>0
def bN(W:PW)(l:List (PV×PV)):PW:={W with pairs:=W.pairs++l}
theorem fN(W:PW):bN W []=W:=by simp [bN]
theorem tL(W:PW)(a b:List (PV×PV)):bN (bN W a) b=bN W (a++b):=by simp [bN]
theorem iO(W:PW)(a:List (PV×PV)):(bN W a).pairs.length=W.pairs.length+a.length:=by simp [bN]
def ND(W:PW)(t:Nat)(r:PV×List (PV×PV)):Prop:=WW (bN W r.2) (t+r.2.length)/\Le W (bN W r.2)/\BL (bN W r.2) r.1
theorem madeL_ok(n:Nat)(d:∀(b:Pl.A9)(W:PW)(t:Nat),WW W t->cL n b->ND W t (Pl.made n W.pairs.length b)/\(Pl.made n W.pairs.length b).2.length<=CF n b):∀(a:List Pl.A9)(W:PW)(t:Nat),WW W t->(∀x∈a,cL n x)->ND W t (AL (Pl.made n) W.pairs.length a)/\(AL (Pl.made n) W.pairs.length a).2.length<=a.length+(a.map (CF n)).sum
 | [],W,t,h,_=>by refine⟨?_,by simp [AL]⟩;show WW (bN W []) (t+0)/\Le W (bN W [])/\BL (bN W []) .empty;rw [fN];exact⟨h,Le.refl _,trivial⟩
 | x::r,W,t,h,f=>by
  obtain⟨⟨k,l,m⟩,u⟩:=madeL_ok n d r W t h (fun y o=>f y (List.mem_cons_of_mem _ o));obtain⟨⟨g,c,i⟩,p⟩:=d x (bN W (AL (Pl.made n) W.pairs.length r).2) _ k (f x w9);rw [iO] at g c i p;obtain⟨q,s⟩:=g.pair i (m.le c);have e:AL (Pl.made n) W.pairs.length (x::r)=((.pair (W.pairs.length+(AL (Pl.made n) W.pairs.length r).2.length+(Pl.made n (W.pairs.length+(AL (Pl.made n) W.pairs.length r).2.length) x).2.length)),(AL (Pl.made n) W.pairs.length r).2++(Pl.made n (W.pairs.length+(AL (Pl.made n) W.pairs.length r).2.length) x).2++[((Pl.made n (W.pairs.length+(AL (Pl.made n) W.pairs.length r).2.length) x).1,(AL (Pl.made n) W.pairs.length r).1)]):=rfl;rw [e];generalize AL (Pl.made n) W.pairs.length r=R at *;generalize Pl.made n (W.pairs.length+R.2.length) x=X at *;have j:bN W (R.2++X.2++[(X.1,R.1)])={bN (bN W R.2) X.2 with pairs:=(bN (bN W R.2) X.2).pairs++[(X.1,R.1)]}:=by simp [bN]
  refine⟨⟨?_,?_,?_⟩,?_⟩
  ·show WW (bN W (R.2++X.2++[(X.1,R.1)])) (t+(R.2++X.2++[(X.1,R.1)]).length);rw [j,show t+(R.2++X.2++[(X.1,R.1)]).length=t+R.2.length+X.2.length+1 from by simp;omega];exact q
  ·show Le W (bN W (R.2++X.2++[(X.1,R.1)]));rw [j];exact(l.trans c).trans s
  ·show W.pairs.length+R.2.length+X.2.length<(bN W (R.2++X.2++[(X.1,R.1)])).pairs.length;rw [iO];simp;omega
  ·simp only [a_,c_,z_,List.map_cons,List.sum_cons];omega
theorem vU:∀(n:Nat)(c:Pl.A9)(W:PW)(t:Nat),WW W t->cL n c->ND W t (Pl.made n W.pairs.length c)/\(Pl.made n W.pairs.length c).2.length<=CF n c
 | 0,_,W,t,h,_=>⟨by show WW (bN W []) (t+0)/\Le W (bN W [])/\BL (bN W []) .nothing;rw [fN];exact⟨h,Le.refl _,trivial⟩,n_⟩
 | n+1,c,W,t,h,d=>by
  have a:∀v,BL W v->ND W t (v,[]):=fun v e=>by show WW (bN W []) (t+0)/\Le W (bN W [])/\BL (bN W []) v;rw [fN];exact⟨h,Le.refl _,e⟩
  cases c with
  | agg f=>exact madeL_ok n (vU n) f W t h d
  | lit x =>
   cases x with
   | int k m =>refine⟨a (.num m) ?_,Nat.zero_le _⟩;have:gW m:=d;unfold gW at this;show m.natAbs<=Pl.CG;omega
   | bool b=>exact⟨a (.AT b) trivial,Nat.zero_le _⟩
   | string s =>refine⟨a (.name s) ?_,Nat.zero_le _⟩;have:s.length<=300:=d;first | (show s.length<=_;omega) | exact this
   | _=>exact⟨a .nothing trivial,Nat.zero_le _⟩
  | _=>exact⟨a .nothing trivial,Nat.zero_le _⟩
theorem aBM(n:Nat)(d:∀(ps:List (PV×PV)) (t:Pl.A9) (l:List (PV×PV)),Pl.NI (ps++(Pl.made n ps.length t).2++l)->Pl.text (ps++(Pl.made n ps.length t).2++l) (Pl.made n ps.length t).1=Pl.CC n t)(ps:List (PV×PV)):∀(a:List Pl.A9) (l:List (PV×PV)),Pl.NI (ps++(AL (Pl.made n) ps.length a).2++l)->Pl.text (ps++(AL (Pl.made n) ps.length a).2++l) (AL (Pl.made n) ps.length a).1=Pl.AP (a.map (Pl.CC n))/\Pl.tl (ps++(AL (Pl.made n) ps.length a).2++l) (AL (Pl.made n) ps.length a).1=(a.map (Pl.CC n)).flatMap (fun t=>32::t)++[41]
 | [],l,_=>⟨rfl,rfl⟩
 | x::r,l,b=>by
  have e:AL (Pl.made n) ps.length (x::r)=((.pair (ps.length+(AL (Pl.made n) ps.length r).2.length+(Pl.made n (ps.length+(AL (Pl.made n) ps.length r).2.length) x).2.length)),(AL (Pl.made n) ps.length r).2++(Pl.made n (ps.length+(AL (Pl.made n) ps.length r).2.length) x).2++[((Pl.made n (ps.length+(AL (Pl.made n) ps.length r).2.length) x).1,(AL (Pl.made n) ps.length r).1)]):=rfl;have k:=aBM n d ps r;have f:=d (ps++(AL (Pl.made n) ps.length r).2) x;rw [a_] at f;rw [e] at b ⊢;generalize AL (Pl.made n) ps.length r=R at *;generalize Pl.made n (ps.length+R.2.length) x=X at *;dsimp only at b ⊢;have g:ps++(R.2++X.2++[(X.1,R.1)])++l=ps++R.2++(X.2++[(X.1,R.1)]++l):=by simp
  have c:ps++(R.2++X.2++[(X.1,R.1)])++l=ps++R.2++X.2++([(X.1,R.1)]++l):=by simp
  have h:=(k (X.2++[(X.1,R.1)]++l) (g▸b)).2;have i:=f ([(X.1,R.1)]++l) (c▸b);rw [<- g] at h;rw [<- c] at i;have j:(ps++(R.2++X.2++[(X.1,R.1)])++l)[ps.length+R.2.length+X.2.length]?=some (X.1,R.1):=by rw [c,List.getElem?_append_right r7];rw [show ps.length+R.2.length+X.2.length-(ps++R.2++X.2).length=0 from by simp;omega];rfl
  rw [Pl.JO b j,Pl.MK b j];dsimp only;rw [h,i];refine⟨?_,?_⟩
  ·rw [List.map_cons];unfold Pl.AP;rw [Pl.I0,List.append_assoc]
  ·simp
theorem aBL:∀(n:Nat) (a:List (PV×PV)) (t:Pl.A9) (l:List (PV×PV)),Pl.NI (a++(Pl.made n a.length t).2++l)->Pl.text (a++(Pl.made n a.length t).2++l) (Pl.made n a.length t).1=Pl.CC n t
 | 0,_,_,_,_=>rfl
 | n+1,a,t,l,b=>by
  cases t with
  | agg c=>exact(aBM n (aBL n) a c l b).1
  | lit x=>cases x<;>rfl
  | _=>rfl
theorem aDK(ps:List (PV×PV))(n:Nat)(t:Pl.A9)(l:List (PV×PV)):Pl.NI (ps++(Pl.made n ps.length t).2++l)->Pl.text (ps++(Pl.made n ps.length t).2++l) (Pl.made n ps.length t).1=Pl.CC n t:=aBL n ps t l
inductive MI (n:Nat):PF->Prop
 | mk (k:FK) (nm:AE) (d:Pl.A9) (v:PV) (ks:List PF) (ns:List AE) (h1:k=.const->cL 1000 (Pl.quoted d)/\Pl.dep 1000 (Pl.quoted d)) (h2:shape k ks.length) (h3:∀x,x∈ks->MI n x) (h4:ks.length<=300) (h5:ns.length<=300/\nm.length<=300/\∀x∈ns,x.length<=300) (h6:Pl.Nm k nm d):MI n (.mk k nm d v ks ns)
mutual
def gH:PF->Nat
 | .mk k _ d _ ks _=>(if k=.const then CF 1000 (Pl.quoted d) else 0)+gY ks
def gY:List PF->Nat
 | []=>0
 | x::r=>gH x+gY r
end
def L_(W:PW)(t:Nat)(r:PF×List (PV×PV)):Prop:=WW (bN W r.2) (t+r.2.length)/\Le W (bN W r.2)/\EU (bN W r.2) r.1
theorem kP{n:Nat}:∀(a:List PF),(∀x∈a,∀(W:PW)(t:Nat),WW W t->L_ W t (Pl.settle x W.pairs.length)/\(Pl.settle x W.pairs.length).2.length<=gH x)->∀(W:PW)(t:Nat),WW W t ->
  (WW (bN W (Pl.AK a W.pairs.length).2) (t+(Pl.AK a W.pairs.length).2.length)/\Le W (bN W (Pl.AK a W.pairs.length).2)/\(∀x∈(Pl.AK a W.pairs.length).1,EU (bN W (Pl.AK a W.pairs.length).2) x))/\(Pl.AK a W.pairs.length).2.length<=gY a
 | [],_,W,t,h=>by rw [Pl.BV];refine⟨?_,Nat.zero_le _⟩;show WW (bN W []) (t+0)/\Le W (bN W [])/\∀x∈[],_;rw [fN];exact⟨h,Le.refl _,fun x b=>by simp at b⟩
 | y::r,f,W,t,h=>by
  obtain⟨⟨g,i,j⟩,l⟩:=f y w9 W t h;obtain⟨⟨d,c,e⟩,k⟩:=kP (n:=n) r (fun x b=>f x (List.mem_cons_of_mem _ b)) _ _ g;rw [iO] at d c e k;rw [Pl.BO];generalize Pl.settle y W.pairs.length=Y at *;generalize Pl.AK r (W.pairs.length+Y.2.length)=R at *;rw [tL] at d c e;refine⟨⟨?_,i.trans c,fun x b=>?_⟩,?_⟩
  ·show WW (bN W (Y.2++R.2)) (t+(Y.2++R.2).length);rw [a_,<-Nat.add_assoc];exact d
  ·rcases List.mem_cons.1 b with rfl | b
   ·exact j.le c
   ·exact e x b
  ·show(Y.2++R.2).length<=gH y+gY r;rw [a_];omega
theorem aA6:∀(a:List PF),(∀x∈a,∀b,IU (Pl.settle x b).1=IU x)->∀b,OT (Pl.AK a b).1=OT a
 | [],_,b=>by rw [Pl.BV]
 | y::r,h,b=>by rw [Pl.BO];show OT (_::_)=_;rw [ZL,ZL,h y w9 b,aA6 r (fun x c=>h x (List.mem_cons_of_mem _ c))]
theorem aC7(c:MI n f):∀b,IU (Pl.settle f b).1=IU f:=by
 induction c with
 | mk k h d v e i j l _ m o p g =>
  intro b;by_cases a:k=.const
  ·subst a;rw [Pl.CI];show IU (.mk _ _ _ _ _ _)=_;rw [OL,OL]
  ·rw [Pl.BC _ _ _ _ _ _ _ a];show IU (.mk _ _ _ _ _ _)=_;rw [OL,OL,aA6 e g]
theorem aEQ{x:PF}:∀{a:List PF},x∈a->gH x<=gY a
 | y::r,h=>by
  rw [show gY (y::r)=gH y+gY r by simp [gY]];rcases List.mem_cons.1 h with rfl | h
  ·omega
  ·have:=aEQ h;omega
theorem aD6:∀(a:List AE),(Pl.CZ a).length<=(a.map fun t=>t.length+1).sum
 | []=>by simp [Pl.CZ]
 | [x]=>by simp [Pl.CZ]
 | x::y::r=>by have b:=aD6 (y::r);show(x++32::Pl.CZ (y::r)).length<=_;rw [a_,c_,List.map_cons,List.sum_cons];omega
theorem aFO:∀(n:Nat)(t:Pl.A9),cL n t->(Pl.CC n t).length<=302+303*CF n t
 | 0,_,_=>by simp [Pl.CC]
 | n+1,t,h=>by
  cases t with
  | agg c =>
   have j:((c.map (Pl.CC n)).map fun t=>t.length+1).sum<=303*c.length+303*(c.map (CF n)).sum:=by
    have d:∀x∈c,cL n x:=h;clear h
    induction c with
    | nil=>simp
    | cons x r f =>have a:=aFO n x (d x w9);have b:=f (fun y g=>d y (List.mem_cons_of_mem _ g));simp only [List.map_cons,List.sum_cons,c_];omega
   have l:=aD6 (c.map (Pl.CC n));show(Pl.AP (c.map (Pl.CC n))).length<=302+303*(c.length+(c.map (CF n)).sum);unfold Pl.AP;rw [c_,a_,c_,z_];omega
  | lit x =>
   cases x with
   | int k m =>have i:gW m:=h;unfold gW at i;have e:Pl.CG=1099511627776:=rfl;have:=Lib.itoa_length_le m x8 x8;show(Lib.itoa m).length<=_;omega
   | bool b=>cases b<;>(simp only [Pl.CC,Bool.false_eq_true,if_false,if_true,c_,z_];omega)
   | string s =>have:s.length<=300:=h;show s.length<=_;omega
   | _=>simp [Pl.CC]
  | _=>simp [Pl.CC]
theorem mQ(y:MI n f):gH f<=1000->IU f<=1001->∀(W:PW)(t:Nat),WW W t->L_ W t (Pl.settle f W.pairs.length)/\(Pl.settle f W.pairs.length).2.length<=gH f:=by
 induction y with
 | mk k C d v i D j m z r s u A =>
  intro g a W t h;rw [OL] at a;by_cases c:k=.const
  ·subst c;rw [Pl.CI];obtain⟨⟨o,p,q⟩,B⟩:=vU 1000 (Pl.quoted d) W t h (j rfl).1;obtain rfl:i=[]:=e_ m;exact⟨⟨o,p,.mk _ _ _ _ _ _ (fun _=>q) m (fun x b=>by simp at b) r s a (fun _=>⟨fun l=>aDK W.pairs 1000 (Pl.quoted d) l,by have:=aFO 1000 (Pl.quoted d) (j rfl).1;simp only [gH,gY,if_pos] at g;omega,(j rfl).2,(j rfl).1⟩) u⟩,by simp only [gH,gY,if_pos];omega⟩
  ·rw [Pl.BC _ _ _ _ _ _ _ c];obtain⟨⟨o,p,q⟩,B⟩:=kP (n:=n) i (fun x b=>A x b (by have:=aEQ b;simp only [gH,if_neg c] at g;omega) (by have:=aDP b;omega)) W t h;have w:=Pl.G9 i W.pairs.length;exact⟨⟨o,p,.mk _ _ _ _ _ _ (fun e=>absurd e c) (by rw [w];exact m) q (by rw [w];exact r) s (by rw [aA6 i (fun x b=>aC7 (z x b))];exact a) (fun e=>absurd e c) u⟩,by simp only [gH,if_neg c];omega⟩
theorem rI(d:MI n f)(c:gH f<=1000/\IU f<=1001)(h:WW W t):WW (Pl.AR W f) (t+1000)/\SW (Pl.AR W f) (Pl.AV W f) (t+1000):=by have i:WW {W with out:=[]} t:=(h.out []).1;obtain⟨⟨j,o,k⟩,p⟩:=mQ d c.1 c.2 {W with out:=[]} t i;refine⟨j.later x8,⟨fun g l=>?_,fun b m=>by simp [Pl.AV] at m,by simp [Pl.AV],fun e=>by simp [Pl.AV] at e,⟨fun q a=>by simp [Pl.AV] at a,by simp [Pl.AV]⟩⟩⟩;obtain rfl:=i_ l;exact k
def dT:Nat->Pl.A9->Prop
 | 0,_=>False
 | n+1,t=>match t with
  | .lit (.int _ m)=>gW m
  | .lit (.string s)=>0<s.length/\s.length<=300
  | .agg ts=>ts.length<=298/\∀x∈ts,dT n x
  | _=>True
theorem dT.CG:∀(n m:Nat)(t:Pl.A9),dT n t->cL m t
 | 0,_,_,h=>h.elim
 | _+1,0,_,_=>trivial
 | n+1,m+1,t,h=>by
  cases t with
  | agg b=>exact fun x a=>dT.CG n m x (h.2 x a)
  | lit x=>cases x<;>first | trivial | exact h | exact h.2
  | _=>trivial
theorem aFQ:∀(n m:Nat)(t:Pl.A9),dT n t->n<=m->Pl.dep m t
 | 0,_,_,h,_=>h.elim
 | _+1,0,_,_,h=>by omega
 | n+1,m+1,t,h,b=>by
  cases t with
  | agg c=>exact fun x a=>aFQ n m x (h.2 x a) x8
  | _=>trivial
theorem aBX:∀{n:Nat} {t:Pl.A9},dT n t->(Pl.strOf t).length<=300
 | 0,_,h=>h.elim
 | n+1,t,h=>by
  cases t with
  | lit x=>cases x<;>first | exact h.2 | exact Nat.zero_le _
  | _=>exact Nat.zero_le _
theorem gI:∀(n m:Nat)(t:Pl.A9),dT n t->n<=m->CF m t=CF n t
 | 0,_,_,h,_=>h.elim
 | _+1,0,_,_,h=>by omega
 | n+1,m+1,t,h,c=>by
  cases t with
  | agg a =>show a.length+(a.map (CF m)).sum=a.length+(a.map (CF n)).sum;rw [List.map_congr_left (fun x b=>gI n m x (h.2 x b) x8)]
  | _=>rfl
theorem aDQ:∀(n m:Nat)(t:Pl.A9),dT n t->n<=m->dT m t
 | 0,_,_,h,_=>h.elim
 | _+1,0,_,_,h=>by omega
 | n+1,m+1,t,h,b=>by
  cases t with
  | agg c=>exact⟨h.1,fun x a=>aDQ n m x (h.2 x a) x8⟩
  | lit x=>cases x<;>first | trivial | exact h
  | _=>trivial
theorem jY(g:∀t f,AD n t=some f->dT n t->MI 0 f/\gH f<=CF n t):∀(d:List Pl.A9)(b:List PF),Pl.B1 (AD n) d=some b->(∀x∈d,dT n x)->(∀f∈b,MI 0 f)/\gY b<=(d.map (CF n)).sum/\b.length=d.length
 | [],b,h,_=>by obtain rfl:=i_ h;exact⟨fun f c=>by simp at c,n_,rfl⟩
 | y::r,b,h,i=>by
  unfold Pl.B1 at h
  cases e:AD n y with
  | none=>rw [e] at h;simp at h
  | some a =>
   rw [e] at h;simp only [Option.bind_some,Option.map_eq_some_iff] at h;obtain⟨q,j,rfl⟩:=h;obtain⟨k,p⟩:=g y a e (i y w9);obtain⟨l,s,m⟩:=jY g r q j (fun x o=>i x (List.mem_cons_of_mem _ o));refine⟨fun f c=>?_,?_,by simp [m]⟩
   ·rcases List.mem_cons.1 c with rfl | c
    ·exact k
    ·exact l f c
   ·simp only [gY,List.map_cons,List.sum_cons];omega
theorem rA(c:∀t f,AD n t=some f->dT n t->MI 0 f/\gH f<=CF n t){ns bd:Pl.A9}(h:Pl.EA (AD n) ns bd=some f)(b:∀l,ns=.agg l->l.length<=298/\∀x∈l,(Pl.strOf x).length<=300)(d:dT n bd):MI 0 f/\gH f<=CF n bd:=by
 unfold Pl.EA at h;split at h
 ·rename_i l;split at h
  ·simp only [Option.map_eq_some_iff] at h;obtain⟨g,i,rfl⟩:=h;obtain⟨j,k⟩:=c bd g i d;exact⟨.mk _ _ _ _ _ _ (fun e=>by cases e) rfl (fun x a=>by simp at a;subst a;exact j) w9 ⟨by have:=(b l rfl).1;simp;omega,w9,fun x a=>by obtain⟨y,m,rfl⟩:=List.mem_map.1 a;exact(b l rfl).2 y m⟩ (Pl.Nm.not w9 w9),by simp [BN,gH,gY];exact k⟩
  ·cases h
 ·cases h
theorem rJ(i:∀t f,AD n t=some f->dT n t->MI 0 f/\gH f<=CF n t){k:FK}(b:k=.set\/k=.define){r:List Pl.A9}(h:Pl.E6 k (AD n) r=some f)(c:∀x∈r,dT n x):MI 0 f/\gH f<=(r.map (CF n)).sum:=by
 unfold Pl.E6 at h;split at h
 ·rename_i a e;split at h
  ·simp only [Option.map_eq_some_iff] at h;obtain⟨g,j,rfl⟩:=h;obtain⟨l,m⟩:=i e g j (c e w9);refine⟨.mk _ _ _ _ _ _ (fun e=>by rcases b with rfl | rfl<;>cases e) (by rcases b with rfl | rfl<;>rfl) (fun x d=>by simp at d;subst d;exact l) w9 ⟨w9,aBX (c a w9),w9⟩ (by rcases b with rfl | rfl<;>exact Pl.Nm.not w9 w9),?_⟩;have:k≠.const:=by rcases b with rfl | rfl<;>simp
   simp only [BN,gH,gY,if_neg this,List.map_cons,List.map_nil,List.sum_cons,List.sum_nil];omega
  ·cases h
 ·cases h
theorem tS{n:Nat}:∀(l:List Pl.A9),l.all Pl.BI=true->((l.map Pl.BU).map (CF n)).sum<=(l.map (CF (n+1))).sum
 | [],_=>n_
 | x::r,h=>by
  simp only [List.all_cons,Bool.and_eq_true] at h;have:=tS (n:=n) r h.2;have c:=h.1;unfold Pl.BI at c;split at c
  ·rename_i a b;simp only [List.map_cons,List.sum_cons,Pl.BU];have:CF (n+1) (.agg [a,b])=2+(CF n a+(CF n b+0)):=rfl;omega
  ·cases c
theorem zX(s:∀t f,AD (n+1) t=some f->dT (n+1) t->MI 0 f/\gH f<=CF (n+1) t){ps bd:Pl.A9}(h:Pl.D5 (AD (n+1)) ps bd=some f)(hp:dT (n+1) ps)(u:dT (n+1) bd):MI 0 f/\gH f<=CF (n+1) ps+CF (n+1) bd:=by
 unfold Pl.D5 at h;split at h
 ·rename_i l;split at h
  ·rename_i j;rw [Option.bind_eq_some_iff] at h;obtain⟨g,v,h⟩:=h;simp only [Option.map_eq_some_iff] at h;obtain⟨q,w,rfl⟩:=h
   obtain⟨z,H⟩:=rA s v (fun I e=>by
    rw [DataW.agg.injEq] at e;subst e;refine⟨by simpa using hp.1,fun x i=>?_⟩;obtain⟨y,k,rfl⟩:=List.mem_map.1 i;have c:=List.all_eq_true.1 j y k;have d:=hp.2 y k;unfold Pl.BI at c;split at c
    ·rename_i a b
     cases n with
     | zero=>exact d.elim
     | succ m=>exact aBX (d.2 a w9)
    ·cases c) u
   have o:∀x∈l.map Pl.BU,dT n x/\dT (n+1) x:=fun x i=>by
    obtain⟨y,k,rfl⟩:=List.mem_map.1 i;have c:=List.all_eq_true.1 j y k;exact zH0
   obtain⟨A,B,C⟩:=jY s _ q w (fun x i=>(o x i).2);have J:=hp.1;have D:((l.map Pl.BU).map (CF (n+1)))=(l.map Pl.BU).map (CF n):=List.map_congr_left (fun x i=>gI n (n+1) x (o x i).1 x8);have p:CF (n+1) (.agg l)=l.length+(l.map (CF n)).sum:=rfl
   have E:((l.map Pl.BU).map (CF n)).sum<=(l.map (CF n)).sum:=by
    cases n with
    | zero =>
     cases l with
     | nil=>exact n_
     | cons y r=>exact(hp.2 y w9).elim
    | succ m =>
     have F:=tS (n:=m) l j
     have G:((l.map Pl.BU).map (CF (m+1)))=(l.map Pl.BU).map (CF m):=List.map_congr_left (fun x i=>by
      obtain⟨y,k,rfl⟩:=List.mem_map.1 i;have c:=List.all_eq_true.1 j y k;have d:=hp.2 y k;unfold Pl.BI at c;split at c
      ·rename_i a b;exact gI m (m+1) b (d.2 b w9) x8
      ·cases c)
     rw [G];exact F
   rw [D] at B;refine⟨.mk _ _ _ _ _ _ (fun e=>by cases e) (by show 1<=_;simp) (fun x i=>?_) (by simp [C];omega) ⟨w9,w9,w9⟩ (Pl.Nm.not w9 w9),?_⟩
   ·rcases List.mem_cons.1 i with rfl | i
    ·exact z
    ·exact A x i
   ·rw [p];simp only [BN,gH,gY];rw [if_neg w9];omega
  ·cases h
 ·cases h
theorem Pl.RI{k:Pl.A9}{r:List Pl.A9}(e:Pl.BJ (k::r)=some h):k=.lit (.string h):=by
 unfold Pl.BJ at e;split at e
 ·rename_i b q a;obtain⟨rfl,rfl⟩:=List.cons.inj a;split at e
  ·rw [i_ e]
  ·cases e
 ·cases e
theorem aAA(F:n+1<=1000)(q:∀t f,AD n t=some f->dT n t->MI 0 f/\gH f<=CF n t){k:Pl.A9}{r:List Pl.A9}(w:k=.lit (.string h))(c:Pl.IN (AD n) (.agg (k::r)) h r=some f)(A:dT (n+1) (.agg (k::r))):MI 0 f/\gH f<=CF (n+1) (.agg (k::r)):=by
 have g:∀x∈r,dT n x:=fun x i=>A.2 x (List.mem_cons_of_mem _ i);have G:r.length<=297:=by have:=A.1;simp at this;omega
 have o:CF (n+1) (.agg (k::r))=(r.length+1)+(CF n k+(r.map (CF n)).sum):=rfl;unfold Pl.IN at c;split at c
 ·rename_i z;split at c
  ·rename_i s;obtain rfl:=i_ c
   obtain⟨x,rfl⟩:∃x,r=[x]:=by
    match r,s with
    | [x],_=>exact⟨x,rfl⟩
   have i:=g x w9;refine⟨.mk _ _ _ _ _ _ (fun _=>⟨dT.CG n 1000 x i,aFQ n 1000 x i x8⟩) rfl (fun y C=>by simp at C) w9 ⟨w9,w9,w9⟩ ⟨(fun e=>by cases e),fun _=>⟨x,by rw [w,z]⟩⟩,?_⟩;have H:CF 1000 x=CF n x:=gI n 1000 x i x8;rw [o];simp only [BN,gH,gY,Pl.quoted,if_pos,List.map_cons,List.map_nil,List.sum_cons,List.sum_nil];omega
  ·cases c
 split at c
 ·split at c
  ·rename_i s;simp only [Option.map_eq_some_iff] at c;obtain⟨u,j,rfl⟩:=c;obtain⟨d,v,B⟩:=jY q r u j g;refine⟨.mk _ _ _ _ _ _ (fun e=>by cases e) (by show u.length=3;simpa [B] using s) d x8 ⟨w9,w9,w9⟩ (Pl.Nm.not w9 w9),?_⟩;rw [o];simp only [BN,gH];rw [if_neg w9];omega
  ·cases c
 split at c
 ·split at c
  ·rename_i s;simp only [Option.map_eq_some_iff] at c;obtain⟨u,j,rfl⟩:=c;obtain⟨d,v,B⟩:=jY q r u j g
   refine⟨.mk _ _ _ _ _ _ (fun e=>by cases e) (by
    show 1<=u.length;have:r.length≠0:=fun D=>by have:=e_ D;subst this;simp at s
    omega) d x8 ⟨w9,w9,w9⟩ (Pl.Nm.not w9 w9),?_⟩
   rw [o];simp only [BN,gH];rw [if_neg w9];omega
  ·cases c
 split at c
 ·obtain⟨d,v⟩:=rJ q (.inl rfl) c g;exact⟨d,by rw [o];omega⟩
 split at c
 ·unfold Pl.J9 at c;split at c
  ·rename_i a b;have p:=g a w9
   obtain⟨d,v⟩:=rA q c (fun l e=>by
    subst e
    cases n with
    | zero=>exact p.elim
    | succ m=>exact⟨p.1,fun x i=>aBX (p.2 x i)⟩) (g b w9)
   refine⟨d,?_⟩;rw [o];exact zH1
  ·cases c
 split at c
 ·unfold Pl.J8 at c;split at c
  ·rename_i a b;have p:=g a w9;have E:=g b w9
   cases n with
   | zero=>exact p.elim
   | succ m =>obtain⟨d,v⟩:=zX q c p E;refine⟨d,?_⟩;rw [o];exact zH1
  ·cases c
 ·cases c
theorem gG:∀(n:Nat),n<=1000->∀(t:Pl.A9)(f:PF),AD n t=some f->dT n t->MI 0 f/\gH f<=CF n t
 | 0,_,_,_,h,_=>by cases h
 | n+1,d,t,f,h,c=>by
  have p:=gG n x8;have a:Pl.quoted t=t->Pl.QD t->f=BN .const [] t [] []->MI 0 f/\gH f<=CF (n+1) t:=fun q g w=>by subst w;refine⟨.mk _ _ _ _ _ _ (fun _=>by rw [q];exact⟨dT.CG (n+1) 1000 t c,aFQ (n+1) 1000 t c d⟩) rfl (fun y i=>by simp at i) w9 ⟨w9,w9,w9⟩ ⟨(fun e=>by cases e),fun _=>g⟩,?_⟩;have B:CF 1000 t=CF (n+1) t:=gI (n+1) 1000 t c d;simp only [BN,gH,gY,q,if_pos];omega
  match t,h,c,a with
  | .lit (.int k m),h,c,a=>exact a rfl trivial (i_ h).symm
  | .lit (.bool b),h,c,a=>exact a rfl trivial (i_ h).symm
  | .lit (.string s),h,c,_ =>
   have h:(if EE s then none else some (BN .name s .nil [] []))=some f:=h;split at h
   ·cases h
   ·obtain rfl:=i_ h;exact⟨.mk _ _ _ _ _ _ (fun e=>by cases e) rfl (fun y i=>by simp at i) w9 ⟨w9,c.2,w9⟩ ⟨fun _ e=>by have:=c.1;rw [e] at this;simp at this,(fun e=>by cases e)⟩,by simp [BN,gH,gY]⟩
  | .agg [],h,_,_=>cases h
  | .agg (k::r),h,c,_ =>
   have h:(match Pl.BJ (k::r) with | some u=>Pl.IN (AD n) (.agg (k::r)) u r | none=>(Pl.B1 (AD n) (k::r)).map fun l=>BN .call [] .nil l [])=some f:=h;split at h
   ·rename_i u j;exact aAA d p (Pl.RI j) h c
   ·simp only [Option.map_eq_some_iff] at h;obtain⟨v,o,rfl⟩:=h;obtain⟨x,C,z⟩:=jY p (k::r) v o c.2;have D:=c.1;refine⟨.mk _ _ _ _ _ _ (fun e=>by cases e) (by show 1<=v.length;rw [z];simp) x x8 ⟨w9,w9,w9⟩ (Pl.Nm.not w9 w9),?_⟩;have A:CF (n+1) (.agg (k::r))=(k::r).length+((k::r).map (CF n)).sum:=rfl;rw [A];simp only [BN,gH];rw [if_neg w9];omega
theorem wW(b:n+1<=1000){t:Pl.A9}(h:Pl.BZ n t=some f)(a:dT (n+1) t):MI 0 f/\gH f<=CF (n+1) t:=by
 unfold Pl.BZ at h;split at h
 ·rename_i c r;split at h
  ·obtain⟨d,i⟩:=rJ (gG n x8) (.inr rfl) h (fun x e=>a.2 x (List.mem_cons_of_mem _ e));refine⟨d,?_⟩;have g:CF (n+1) (.agg (.lit (.string c)::r))=(r.length+1)+(CF n (.lit (.string c))+(r.map (CF n)).sum):=rfl;rw [g];omega
  ·exact gG (n+1) b _ _ h a
 ·exact gG (n+1) b _ _ h a
theorem pls_d(n:Nat)(m:∀l p,Pl.pd n l=some p->p.gr=false->(∀t∈l,0<t.length/\t.length<=300)->l.length<=300->dT n p.t/\CF n p.t+1+2*p.q.length<=2*l.length):∀(k:Nat)(l:List Pl.Tok)(p:Pl.PL),Pl.IG (Pl.pd n) k l=some p->p.gr=false->(∀t∈l,0<t.length/\t.length<=300)->l.length<=300->(p.ts.length+p.q.length+1<=l.length/\(∀x∈p.ts,dT n x)/\p.ts.length+(p.ts.map (CF n)).sum+2*p.q.length+2<=2*l.length):=by
 intro k
 induction k with
 | zero=>intro l p h;simp [Pl.IG] at h
 | succ k b =>
  intro l p h c f o
  cases l with
  | nil=>simp [Pl.IG] at h
  | cons t r =>
   rw [Pl.I9] at h;split at h
   ·obtain rfl:=i_ h;simp;omega
   ·cases a:Pl.pd n (t::r) with
    | none=>rw [a] at h;simp at h
    | some g =>
     rw [a] at h;dsimp only at h;have i:=Pl.DA _ _ _ a
     cases d:Pl.IG (Pl.pd n) k g.q with
     | none=>rw [d] at h;simp at h
     | some z =>
      rw [d] at h;simp only [Option.map_some,o_] at h;subst h;simp only [Bool.or_eq_false_iff] at c;have q:g.q.length<(t::r).length:=i.2;have j:=m _ _ a c.1 f o;have s:=b _ _ d c.2 (fun y u=>f y (i.1.mem u)) x8;obtain⟨A,v,B⟩:=s;have w:=j.2;simp only [c_] at q w;refine⟨?_,fun x e=>?_,?_⟩
      ·simp only [c_];omega
      ·rcases List.mem_cons.1 e with rfl | e
       ·exact j.1
       ·exact v x e
      ·simp only [c_,List.map_cons,List.sum_cons];omega
theorem W8:∀(n:Nat)(l:List Pl.Tok)(p:Pl.PR),Pl.pd n l=some p->p.gr=false->(∀t∈l,0<t.length/\t.length<=300)->l.length<=300->dT n p.t/\CF n p.t+1+2*p.q.length<=2*l.length
 | 0,_,_,h,_,_,_=>by simp [Pl.pd] at h
 | n+1,[],_,h,_,_,_=>by simp [Pl.pd] at h
 | n+1,t::r,p,h,e,d,f=>by
  have j:=(Pl.NP _ _ _ h).CG e (fun y c=>(d y c).2);have g:=(d t w9).1;unfold Pl.pd at h;split at h
  ·simp at h
  split at h
  ·obtain rfl:=i_ h;exact⟨trivial,zQ3⟩
  split at h
  ·obtain rfl:=i_ h;exact⟨trivial,zQ3⟩
  split at h
  ·simp only [Option.map_eq_some_iff] at h;obtain⟨b,a,rfl⟩:=h;obtain⟨k,o⟩:=W8 n r b a e (fun y c=>d y (List.mem_cons_of_mem _ c)) (by simp at f;omega)
   cases n with
   | zero=>simp [Pl.pd] at a
   | succ m =>
    refine⟨⟨w9,fun x i=>?_⟩,?_⟩
    ·rcases List.mem_cons.1 i with rfl | i
     ·show 0<Pl.CB.length/\Pl.CB.length<=300;decide
     ·obtain rfl:x=b.t:=by simpa using i
      exact k
    ·show 2+(0+(CF (m+1) b.t+0))+1+2*b.q.length<=2*(t::r).length;simp only [c_];omega
  split at h
  ·simp only [Option.map_eq_some_iff] at h;obtain⟨b,a,rfl⟩:=h;obtain⟨k,o,q⟩:=pls_d n (fun l p=>W8 n l p) _ _ _ a e (fun y c=>d y (List.mem_cons_of_mem _ c)) (by simp at f;omega);simp only [c_] at f;refine⟨⟨x8,o⟩,?_⟩;show b.ts.length+(b.ts.map (CF n)).sum+1+2*b.q.length<=2*(t::r).length;simp only [c_];omega
  ·simp only [Option.map_eq_some_iff] at h;obtain⟨b,a,rfl⟩:=h;unfold Pl.pw at a;split at a
   ·obtain rfl:=i_ a;exact⟨j,zQ3⟩
   ·split at a
    ·obtain rfl:=i_ a;exact⟨⟨g,j⟩,zQ3⟩
    ·simp at a
theorem aBT(a:Pl.check bs=0)(h:Pl.BQ bs=some f):MI 0 f/\gH f<=1000:=by
 unfold Pl.check at a;split at a
 ·cases a
 ·rename_i q;unfold Pl.BQ at h
  cases d:Pl.BX bs with
  | none=>rw [d] at h;cases h
  | some l =>
   rw [d] at h a;dsimp only at h a;split at a
   ·cases a
   ·cases b:Pl.pd l.length l with
    | none=>rw [b] at h;cases h
    | some p =>
     rw [b] at h a;dsimp only at h a;split at a
     ·cases a
     split at a
     ·cases a
     split at a
     ·cases a
     ·rename_i e;have g:=Pl.HY d;have i:l.length<=300:=by omega
      obtain⟨k,n⟩:=W8 _ _ _ b a6 (fun t h=>by have:=g.2 t h;omega) i
      have c:∃m,l.length=m+1:=by
       exact zH5
      obtain⟨m,j⟩:=c;rw [j] at k n h;rw [Nat.add_sub_cancel] at h;obtain⟨o,r⟩:=wW x8 h k;exact⟨o,x8⟩
theorem aBF(e:∀t f,AD n t=some f->dT n t->IU f<=CF n t+1):∀(b:List Pl.A9)(c:List PF),Pl.B1 (AD n) b=some c->(∀x∈b,dT n x)->OT c<=(b.map (CF n)).sum+b.length
 | [],c,h,_=>by obtain rfl:=i_ h;rw [aA5];exact Nat.zero_le _
 | y::r,c,h,g=>by
  unfold Pl.B1 at h
  cases d:AD n y with
  | none=>rw [d] at h;simp at h
  | some a =>rw [d] at h;simp only [Option.bind_some,Option.map_eq_some_iff] at h;obtain⟨q,i,rfl⟩:=h;have k:=e y a d (g y w9);have l:=aBF e r q i (fun x j=>g x (List.mem_cons_of_mem _ j));simp only [ZL,List.map_cons,List.sum_cons,c_];omega
theorem aDM(a:∀t f,AD n t=some f->dT n t->IU f<=CF n t+1){ns bd:Pl.A9}(h:Pl.EA (AD n) ns bd=some f)(b:dT n bd):IU f<=CF n bd+2:=by
 unfold Pl.EA at h;split at h
 ·split at h
  ·simp only [Option.map_eq_some_iff] at h;obtain⟨g,c,rfl⟩:=h;have:=a bd g c b;unfold BN;rw [OL,ZL,aA5];omega
  ·cases h
 ·cases h
theorem aDU(b:∀t f,AD n t=some f->dT n t->IU f<=CF n t+1){k:FK}{r:List Pl.A9}(h:Pl.E6 k (AD n) r=some f)(c:∀x∈r,dT n x):IU f<=(r.map (CF n)).sum+2:=by
 unfold Pl.E6 at h;split at h
 ·rename_i a e;split at h
  ·simp only [Option.map_eq_some_iff] at h;obtain⟨g,d,rfl⟩:=h;have:=b e g d (c e w9);unfold BN;rw [OL,ZL,aA5];exact zH1
  ·cases h
 ·cases h
theorem YA(p:∀t f,AD (n+1) t=some f->dT (n+1) t->IU f<=CF (n+1) t+1){ps bd:Pl.A9}(h:Pl.D5 (AD (n+1)) ps bd=some f)(hp:dT (n+1) ps)(s:dT (n+1) bd):IU f<=CF (n+1) ps+CF (n+1) bd+3:=by
 unfold Pl.D5 at h;split at h
 ·rename_i l;split at h
  ·rename_i e;rw [Option.bind_eq_some_iff] at h;obtain⟨g,u,h⟩:=h;simp only [Option.map_eq_some_iff] at h;obtain⟨q,v,rfl⟩:=h;have D:=aDM p u s
   have j:∀x∈l.map Pl.BU,dT n x/\dT (n+1) x:=fun x i=>by
    obtain⟨y,k,rfl⟩:=List.mem_map.1 i;have c:=List.all_eq_true.1 e y k;exact zH0
   have w:=aBF p _ q v (fun x i=>(j x i).2);have z:((l.map Pl.BU).map (CF (n+1)))=(l.map Pl.BU).map (CF n):=List.map_congr_left (fun x i=>gI n (n+1) x (j x i).1 x8);have o:CF (n+1) (.agg l)=l.length+(l.map (CF n)).sum:=rfl
   have A:((l.map Pl.BU).map (CF n)).sum<=(l.map (CF n)).sum:=by
    cases n with
    | zero =>
     cases l with
     | nil=>exact n_
     | cons y r=>exact(hp.2 y w9).elim
    | succ m =>
     have B:=tS (n:=m) l e
     have C:((l.map Pl.BU).map (CF (m+1)))=(l.map Pl.BU).map (CF m):=List.map_congr_left (fun x i=>by
      obtain⟨y,k,rfl⟩:=List.mem_map.1 i;have c:=List.all_eq_true.1 e y k;have d:=hp.2 y k;unfold Pl.BI at c;split at c
      ·rename_i a b;exact gI m (m+1) b (d.2 b w9) x8
      ·cases c)
     rw [C];exact B
   rw [z,List.length_map] at w;rw [o];unfold BN;rw [OL,ZL];omega
  ·cases h
 ·cases h
theorem YE(g:∀t f,AD n t=some f->dT n t->IU f<=CF n t+1){k:Pl.A9}{r:List Pl.A9}(c:Pl.IN (AD n) (.agg (k::r)) h r=some f)(p:dT (n+1) (.agg (k::r))):IU f<=CF (n+1) (.agg (k::r))+1:=by
 have e:∀x∈r,dT n x:=fun x q=>p.2 x (List.mem_cons_of_mem _ q);have i:CF (n+1) (.agg (k::r))=(r.length+1)+(CF n k+(r.map (CF n)).sum):=rfl;unfold Pl.IN at c;split at c
 ·split at c
  ·obtain rfl:=i_ c;unfold BN;rw [OL,aA5];omega
  ·cases c
 split at c
 ·exact zH4
 split at c
 ·exact zH4
 split at c
 ·have j:=aDU g c e;rw [i];omega
 split at c
 ·unfold Pl.J9 at c;split at c
  ·rename_i a b;have j:=aDM g c (e b w9);rw [i];exact zH1
  ·cases c
 split at c
 ·unfold Pl.J8 at c;split at c
  ·rename_i a b;have o:=e a w9;have s:=e b w9
   cases n with
   | zero=>exact o.elim
   | succ m =>have j:=YA g c o s;rw [i];simp only [List.map_cons,List.map_nil,List.sum_cons,List.sum_nil,c_,z_];omega
  ·cases c
 ·cases c
theorem aA4:∀(n:Nat)(t:Pl.A9)(f:PF),AD n t=some f->dT n t->IU f<=CF n t+1
 | 0,_,_,h,_=>by cases h
 | n+1,t,f,h,c=>by
  have g:=aA4 n;have a:∀(k:FK)(s:AE)(d:Pl.A9)(i:List AE),f=BN k s d [] i->IU f<=CF (n+1) t+1:=fun k s d i j=>by subst j;unfold BN;rw [OL,aA5];omega
  match t,h,c,a with
  | .lit (.int k m),h,c,a=>exact a _ _ _ _ (i_ h).symm
  | .lit (.bool b),h,c,a=>exact a _ _ _ _ (i_ h).symm
  | .lit (.string s),h,c,a =>
   have h:(if EE s then none else some (BN .name s .nil [] []))=some f:=h;split at h
   ·cases h
   ·exact a _ _ _ _ (i_ h).symm
  | .agg [],h,_,_=>cases h
  | .agg (k::r),h,c,_ =>
   have h:(match Pl.BJ (k::r) with | some o=>Pl.IN (AD n) (.agg (k::r)) o r | none=>(Pl.B1 (AD n) (k::r)).map fun l=>BN .call [] .nil l [])=some f:=h;split at h
   ·exact YE g h c
   ·simp only [Option.map_eq_some_iff] at h;obtain⟨p,e,rfl⟩:=h;have u:=aBF g (k::r) p e c.2;have q:CF (n+1) (.agg (k::r))=(k::r).length+((k::r).map (CF n)).sum:=rfl;unfold BN;rw [q,OL];omega
theorem aDW{t:Pl.A9}(h:Pl.BZ n t=some f)(a:dT (n+1) t):IU f<=CF (n+1) t+1:=by
 unfold Pl.BZ at h;split at h
 ·rename_i b r;split at h
  ·have e:=aDU (aA4 n) h (fun x c=>a.2 x (List.mem_cons_of_mem _ c));have d:CF (n+1) (.agg (.lit (.string b)::r))=(r.length+1)+(CF n (.lit (.string b))+(r.map (CF n)).sum):=rfl;rw [d];omega
  ·exact aA4 (n+1) _ _ h a
 ·exact aA4 (n+1) _ _ h a
theorem aDY(a:Pl.check bs=0)(h:Pl.BQ bs=some f):IU f<=1001:=by
 unfold Pl.check at a;split at a
 ·cases a
 ·rename_i o;unfold Pl.BQ at h
  cases d:Pl.BX bs with
  | none=>rw [d] at h;cases h
  | some l =>
   rw [d] at h a;dsimp only at h a;split at a
   ·cases a
   ·cases b:Pl.pd l.length l with
    | none=>rw [b] at h;cases h
    | some p =>
     rw [b] at h a;dsimp only at h a;split at a
     ·cases a
     split at a
     ·cases a
     split at a
     ·cases a
     ·rename_i e;have g:=Pl.HY d;have i:l.length<=300:=by omega
      obtain⟨k,n⟩:=W8 _ _ _ b a6 (fun t h=>by have:=g.2 t h;omega) i
      have c:∃m,l.length=m+1:=by
       exact zH5
      obtain⟨m,j⟩:=c;rw [j] at k n h;rw [Nat.add_sub_cancel] at h;have:=aDW h k;omega
theorem lN(a:Pl.check bs=0)(h:Pl.BQ bs=some f):MI 0 f/\(gH f<=1000/\IU f<=1001):=⟨(aBT a h).1,(aBT a h).2,aDY a h⟩
theorem aAJ(W:PW)(S:PS)(s:AE)(a b:PV):(Pl.reckon W S s a b).e<=12:=by
 unfold Pl.reckon;split
 ·split
  ·simp
  ·split
   ·simp
   ·rename_i x y _ _;dsimp only;generalize (if s=BH then x+y else if s=A4 then x-y else x*y)=n;by_cases h:n.natAbs<=Pl.CG
    ·rw [if_pos h];simp
    ·rw [if_neg h];simp
 ·simp
theorem Y7(W:PW)(S:PS)(s:AE)(a:PV):(B0 W S s a).e<=12:=by
 unfold B0;split
 ·dsimp only;split<;>simp
 ·split
  ·split
   ·split<;>simp
   ·simp
  ·split<;>simp
theorem Y6(W:PW)(S:PS)(s:AE)(a b:PV):(A2 W S s a b).e<=12:=by
 unfold A2;split
 ·simp
 ·split
  ·simp
  ·exact aAJ W S s a b
theorem rG(W:PW)(S:PS)(f:PV)(args:List PV):(AH W S f args).e<=12:=by
 unfold AH;split
 ·split
  ·split<;>simp
  ·simp
 ·split<;>simp
 ·split
  ·simp
  ·split
   ·exact Y7 _ _ _ _
   ·exact Y6 _ _ _ _ _
   ·simp
 ·simp
theorem Y8(W:PW)(S:PS)(f:PV)(args:List PV):(Pl.apply W S f args).e<=12:=by
 unfold Pl.apply;split
 ·split
  ·dsimp only;split<;>exact rG _ _ _ _
  ·simp
 ·exact rG _ _ _ _
theorem Y5(W:PW)(S:PS):(Pl.taken W S).e<=12:=by
 unfold Pl.taken;split
 ·simp
 ·dsimp only;split
  ·simp
  ·split<;>simp
  ·simp
  ·simp
  ·split
   ·split
    ·simp
    ·exact Y8 _ _ _ _
   ·simp
theorem e_step(W:PW)(S:PS):(Pl.step W S).e<=12:=by
 unfold Pl.step;split
 ·exact Y5 W S
 ·split
  ·simp
  ·split<;>simp
  ·simp
  ·simp
  ·simp
theorem eY(h:S.ended=true):S.form=none:=by unfold Pl.PS.ended at h;simp at h;exact h.1
theorem mA:∀(n:Nat)(W:PW)(S:PS)(t:Nat),WW W t->SW W S t->(A8 n W S).e<=12/\WW (A8 n W S).W (t+310*n)/\((A8 n W S).e=0->(A8 n W S).S.form=none/\BL (A8 n W S).W (A8 n W S).S.val)
 | 0,W,S,t,a,c=>by
  unfold A8;split
  ·rename_i b;exact⟨Nat.zero_le _,a,fun _=>⟨eY b,c.val (eY b)⟩⟩
  ·exact⟨w9,a,fun e=>by cases e⟩
 | n+1,W,S,t,a,c=>by
  unfold A8;split
  ·rename_i b;exact⟨Nat.zero_le _,a.later x8,fun _=>⟨eY b,c.val (eY b)⟩⟩
  ·have d:=jQ a c;dsimp only;split
   ·rename_i f;obtain⟨g,h,i⟩:=mA n _ _ (t+310) d.2.1 (d.2.2 f);exact⟨g,h.later x8,i⟩
   ·rename_i f;exact⟨e_step W S,d.2.1.later x8,fun e=>absurd e f⟩
structure OV(W:PW)(m:Nat):Prop where
 pairs:W.pairs.length<=m
 globals:W.globals.length<=m
 AG:∀l∈W.AG,l.length<=m
structure Sm(W:PW)(S:PS)(m:Nat):Prop where
 w:OV W m
 AB:S.AB.length<=m
theorem OV.mono{k:Nat}(h:OV W m)(a:m<=k):OV W k:=⟨t_ h.pairs a,t_ h.globals a,fun l b=>t_ (h.AG l b) a⟩
theorem Sm.mono{k:Nat}(h:Sm W S m)(a:m<=k):Sm W S k:=⟨h.w.mono a,t_ h.AB a⟩
theorem Sm.up(h:Sm W S m):Sm W S (m+1):=h.mono (Nat.le_succ _)
theorem Sm.A1(h:Sm W S m)(v:PV):Sm W (S.A1 v) m:=⟨h.w,h.AB⟩
def K_(r:SR)(m:Nat):Prop:=Sm r.W r.S m
theorem RD(W:PW)(S:PS)(s:AE)(a b:PV)(h:Sm W S m):K_ (Pl.reckon W S s a b) m:=by
 unfold Pl.reckon;split
 ·split
  ·exact h.A1 _
  ·split
   ·exact h.A1 _
   ·rename_i x y _ _;dsimp only;generalize (if s=BH then x+y else if s=A4 then x-y else x*y)=n;by_cases c:n.natAbs<=Pl.CG
    ·rw [if_pos c];exact h.A1 _
    ·rw [if_neg c];exact h
 ·exact h
theorem aAR(W:PW)(S:PS)(s:AE)(a:PV)(h:Sm W S m):K_ (B0 W S s a) m:=by
 unfold B0;split
 ·dsimp only;split
  ·exact⟨⟨h.w.pairs,h.w.globals,h.w.AG⟩,h.AB⟩
  ·exact h
 ·split
  ·split
   ·split
    ·exact h.A1 _
    ·exact h
   ·exact h
  ·split
   ·exact h.A1 _
   ·exact h.A1 _
theorem SQ(W:PW)(S:PS)(s:AE)(a b:PV)(h:Sm W S m):K_ (A2 W S s a b) (m+1):=by
 unfold A2;split
 ·exact⟨⟨by show(W.pairs++[(a,b)]).length<=_;have:=h.w.pairs;simp;omega,(h.up).w.globals,(h.up).w.AG⟩,h.up.AB⟩
 ·split
  ·exact h.up.A1 _
  ·exact Sm.up (RD W S s a b h)
theorem JP(W:PW)(S:PS)(f:PV)(args:List PV)(h:Sm W S m):K_ (AH W S f args) (m+1):=by
 unfold AH;split
 ·split
  ·split
   ·exact h.up
   ·exact⟨⟨h.up.w.pairs,h.up.w.globals,h.up.w.AG⟩,h.up.AB⟩
  ·exact h.up
 ·rename_i i;split
  ·refine⟨h.up.w,?_⟩;show(W.AG[i]?.getD []).length<=_
   cases a:W.AG[i]? with
   | none=>exact Nat.zero_le _
   | some l=>exact h.up.w.AG l (q_ a)
  ·exact h.up
 ·split
  ·exact h.up
  ·split
   ·exact Sm.up (aAR W S _ _ h)
   ·exact SQ W S _ _ _ h
   ·exact h.up
 ·exact h.up
theorem Sm.keep(h:Sm W S m):Sm (W.keep S) S m :=
 ⟨⟨h.w.pairs,h.w.globals,fun l a=>by
  rcases List.mem_append.1 (show l∈W.AG++[S.AB] from a) with a | a
  ·exact h.w.AG l a
  ·rw [List.mem_singleton.1 a];exact h.AB⟩,h.AB⟩
theorem aAS(W:PW)(S:PS)(f:PV)(args:List PV)(h:Sm W S m):K_ (Pl.apply W S f args) (m+1):=by
 unfold Pl.apply;split
 ·split
  ·dsimp only;split
   ·exact JP _ _ _ _ h.keep.keep
   ·exact JP _ _ _ _ h.keep
  ·exact h.up
 ·exact JP W S f args h
theorem WS(W:PW)(s:AE)(v:PV)(h:OV W m):OV (Pl.bind W s v) (m+1):=by
 unfold Pl.bind;split
 ·exact⟨Nat.le_succ_of_le h.pairs,Nat.le_succ_of_le h.globals,fun l a=>Nat.le_succ_of_le (h.AG l a)⟩
 ·exact⟨Nat.le_succ_of_le h.pairs,by show(W.globals++[(s,W.places.length)]).length<=_;have:=h.globals;simp;omega,fun l a=>Nat.le_succ_of_le (h.AG l a)⟩
theorem SP(W:PW)(S:PS)(h:Sm W S m):K_ (Pl.taken W S) (m+1):=by
 unfold Pl.taken;split
 ·exact h.up
 ·rename_i d a c;have e:a.length+1<=m:=by have:=h.AB;rw [c] at this;simpa using this
  have b:Sm W {S with AB:=a} m:=⟨h.w,by show a.length<=m;omega⟩
  dsimp only;split
  ·exact⟨b.up.w,b.up.AB⟩
  ·split
   ·exact⟨⟨b.up.w.pairs,b.up.w.globals,b.up.w.AG⟩,b.up.AB⟩
   ·exact b.up
  ·exact⟨WS W _ _ h.w,b.up.AB⟩
  ·split
   ·exact⟨h.up.w,by show(_::a).length<=_;simp;omega⟩
   ·exact⟨b.up.w,b.up.AB⟩
  ·split
   ·split
    ·exact b.up
    ·exact aAS _ _ _ _ b
   ·exact⟨h.up.w,by show(_::a).length<=_;simp;omega⟩
theorem ML(W:PW)(S:PS)(h:Sm W S m):K_ (Pl.step W S) (m+1):=by
 have a:=h.AB;unfold Pl.step;split
 ·exact SP W S h
 ·split
  ·exact h.up.A1 _
  ·split
   ·exact h.up.A1 _
   ·exact h.up
  ·exact⟨⟨h.up.w.pairs,h.up.w.globals,h.up.w.AG⟩,h.up.AB⟩
  ·split
   ·exact⟨h.up.w,by show(_::S.AB).length<=_;simp;omega⟩
   ·exact⟨h.up.w,h.up.AB⟩
  ·exact⟨h.up.w,by show(_::S.AB).length<=_;simp;omega⟩
theorem QH:∀(n:Nat)(W:PW)(S:PS)(m:Nat),Sm W S m->K_ (A8 n W S) (m+n)
 | 0,W,S,m,h=>by
  unfold A8;split
  ·exact h
  ·exact h
 | n+1,W,S,m,h=>by
  have a:=ML W S h;unfold A8;split
  ·exact h.mono (Nat.le_add_right _ _)
  ·dsimp only;split
   ·have:=QH n _ _ (m+1) a
    rwa [show m+1+n=m+(n+1) from by omega] at this
   ·exact Sm.mono a x8
theorem aC2(h:WW W t):OU W:=⟨h.KV,h.CH⟩
theorem NM{i:AE}(b:WW W t)(h:OV W m)(c:Pl.check i=0)(d:Pl.BQ i=some f):Sm (Pl.AR W f) (Pl.AV W f) (m+1000):=by obtain⟨e,a⟩:=lN c d;have:=(mQ e a.1 a.2 W t b).2;refine⟨⟨?_,t_ h.globals x8,fun l g=>t_ (h.AG l g) x8⟩,Nat.zero_le _⟩;show(W.pairs++(Pl.settle f W.pairs.length).2).length<=_;have:=h.pairs;rw [a_];omega
theorem ans_sm(i:AE×Int)(a:WW W t)(h:OV W m):∃e,WW (Pl.answer W i).1 e/\OV (Pl.answer W i).1 (m+1001000):=by
 unfold Pl.answer;split
 ·exact⟨t,a,h.mono x8⟩
 ·rename_i c;split
  ·exact⟨t,a,h.mono x8⟩
  ·rename_i g;split
   ·exact⟨t,a,h.mono x8⟩
   ·rename_i f d;have b:Pl.check i.1=0:=by simpa using g
    obtain⟨j,k⟩:=lN b d;obtain⟨l,n⟩:=rI j k a;have o:=QH i.2.toNat _ _ _ (NM a h b d);have p:i.2.toNat<=1000000:=by unfold Pl.over at c;simp at c;omega
    exact⟨_,(mA _ _ _ _ l n).2.1,OV.mono (Sm.w o) x8⟩
theorem zM(W:PW)(S:PS)(s:AE)(a b:PV):(Pl.reckon W S s a b).W.out=W.out:=by
 unfold Pl.reckon;split
 ·split
  ·rfl
  ·split
   ·rfl
   ·rename_i x y _ _;dsimp only;generalize (if s=BH then x+y else if s=A4 then x-y else x*y)=n;by_cases h:n.natAbs<=Pl.CG
    ·rw [if_pos h]
    ·rw [if_neg h]
 ·rfl
theorem XU(W:PW)(S:PS)(s:AE)(a b:PV):(A2 W S s a b).W.out=W.out:=by
 unfold A2;split
 ·rfl
 ·split
  ·rfl
  ·exact zM W S s a b
theorem XV(W:PW)(S:PS)(s:AE)(a:PV)(h:W.out.length<=1000):(B0 W S s a).W.out.length<=1000:=by
 unfold B0;split
 ·dsimp only;split
  ·rename_i b;simpa using b
  ·exact h
 ·split
  ·split
   ·split<;>exact h
   ·exact h
  ·split<;>exact h
theorem l6(W:PW)(S:PS)(f:PV)(args:List PV)(h:W.out.length<=1000):(AH W S f args).W.out.length<=1000:=by
 unfold AH;split
 ·split
  ·split<;>exact h
  ·exact h
 ·split<;>exact h
 ·split
  ·exact h
  ·split
   ·exact XV W S _ _ h
   ·rw [XU];exact h
   ·exact h
 ·exact h
theorem XW(W:PW)(S:PS)(f:PV)(args:List PV)(h:W.out.length<=1000):(Pl.apply W S f args).W.out.length<=1000:=by
 unfold Pl.apply;split
 ·split
  ·dsimp only;split
   ·exact l6 _ _ _ _ h
   ·exact l6 _ _ _ _ h
  ·exact h
 ·exact l6 W S f args h
theorem o_bind(W:PW)(s:AE)(v:PV):(Pl.bind W s v).out=W.out:=by unfold Pl.bind;split<;>rfl
theorem XT(W:PW)(S:PS)(h:W.out.length<=1000):(Pl.taken W S).W.out.length<=1000:=by
 unfold Pl.taken;split
 ·exact h
 ·dsimp only;split
  ·exact h
  ·split<;>exact h
  ·rw [o_bind];exact h
  ·exact h
  ·split
   ·split
    ·exact h
    ·exact XW _ _ _ _ h
   ·exact h
theorem aDH(W:PW)(S:PS)(h:W.out.length<=1000):(Pl.step W S).W.out.length<=1000:=by
 unfold Pl.step;split
 ·exact XT W S h
 ·split
  ·exact h
  ·split<;>exact h
  ·exact h
  ·exact h
  ·exact h
def J2(n:Nat)(W:PW)(S:PS):Prop:=W.out.length<=1000/\∃t,WW W t/\SW W S t/\∃m,Sm W S m/\m+n<=6500000000000000000
theorem wF(h:J2 (n+1) W S):(Pl.step W S).e≠7/\(Pl.step W S).W.out.length<=1000/\((Pl.step W S).e=0->(Pl.step W S).S.ended=true\/J2 n (Pl.step W S).W (Pl.step W S).S):=by obtain⟨b,t,c,d,m,f,g⟩:=h;have a:=jQ c d;exact⟨a.1,aDH W S b,fun e=>.inr ⟨aDH W S b,_,a.2.1,a.2.2 e,m+1,ML W S f,x8⟩⟩
theorem aDO(h:J2 (n+1) W S)(e:(Pl.step W S).e=0):J2 n (Pl.step W S).W (Pl.step W S).S:=by obtain⟨b,t,c,d,m,f,g⟩:=h;have a:=jQ c d;exact⟨aDH W S b,_,a.2.1,a.2.2 e,m+1,ML W S f,x8⟩
theorem aAU{n:Int}(h:Pl.over n=false):n.toNat<=1000000:=by unfold Pl.over at h;simp at h;omega
theorem invZ_of{i:AE×Int}(a:WW W t)(g:OV W m)(p:m+1001000<=6500000000000000000)(f:PF)(h:Pl.over i.2=false)(b:Pl.check i.1=0)(c:Pl.BQ i.1=some f):J2 i.2.toNat (Pl.AR W f) (Pl.AV W f)/\OU (A8 i.2.toNat (Pl.AR W f) (Pl.AV W f)).W/\((A8 i.2.toNat (Pl.AR W f) (Pl.AV W f)).e=0->(A8 i.2.toNat (Pl.AR W f) (Pl.AV W f)).S.form=none/\BL (A8 i.2.toNat (Pl.AR W f) (Pl.AV W f)).W (A8 i.2.toNat (Pl.AR W f) (Pl.AV W f)).S.val):=by obtain⟨j,k⟩:=lN b c;obtain⟨d,e⟩:=rI j k a;have l:=NM a g b c;have q:=aAU h;obtain⟨_,n,o⟩:=mA i.2.toNat _ _ _ d e;exact⟨⟨Nat.zero_le _,_,d,e,_,l,x8⟩,aC2 n,o⟩
end
open Pl (arity)
section
open Go.RowKit Go.Lib Go.Maps
theorem R3.after{M:Q5}{w w1:World}{s:Sg}{tb mb:Nat}{ps:List (PV×PV)}{bs:AE}{v ev:Value}{w':World}(h:R3 M w1 s tb mb ps bs v ev w')(a:Q3 w w1):R3 M w s tb mb ps bs v ev w':=by obtain⟨b,c⟩:=h;exact⟨aM (aI a) b,c⟩
theorem yJ(b:Q8)(n:Int)(M:Q5)(w:World)(s:Sg)(tb mb:Nat)(ps:List (PV×PV))(i:BM M w s tb mb ps)(c:GE w)(j:s.ns.length+300<=BS) :Q2 31 #[.agg #[.string b,Q1 n],Q0 tb] w fun e k=>∃v d,e=.returned (.tuple #[v,d])/\((Pl.over n=true/\(∃r,d=aY r 6)/\Q3 w k)\/(Pl.over n=false/\R3 M w s tb mb ps b.data.toList v d k)):=by
 have a:Q3 w (w.alloc (.cells #[.string b,Q1 n] 29)):=b_;have f:=h_ a;by_cases m:n<0
 ·have l:decide (n<0)=true:=by simpa using m
  have h:Hid (Pl.over n=true):=show Pl.over n=true from by unfold Pl.over;rw [l];rfl
  exact zH2
 ·have l:decide (n<0)=false:=by simpa using m
  by_cases p:(1000000:Int)<n
  ·have g:decide ((1000000:Int)<n)=true:=by simpa using p
   have h:Hid (Pl.over n=true):=show Pl.over n=true from by unfold Pl.over;rw [l,g];rfl
   exact zH2
  ·have g:decide ((1000000:Int)<n)=false:=by simpa using p
   have h:Hid (Pl.over n=false):=show Pl.over n=false from by unfold Pl.over;rw [l,g];rfl
   have t:Hid (Q2 48 #[.string b,Q0 tb] (w.alloc (.cells #[.string b,Q1 n] 29)) fun e k=>∃v d,e=.returned (.tuple #[v,d])/\R3 M (w.alloc (.cells #[.string b,Q1 n] 29)) s tb mb ps b.data.toList v d k):=XC b M _ s tb mb ps (i.below a) (by
    obtain⟨v,q,u⟩:=c
    exact⟨v,(a.cell (World.block_lt_of_cell? _ _ q)).trans q,u⟩) j
   clear i c j a;go_enter func31,ntmps31;go_wp2_with (go_at_call 48;refine Calls.mono t ?_;rintro e o ⟨v,d,rfl,x⟩);go_ret2;exact⟨_,_,rfl,.inr ⟨h,x.after f⟩⟩
def RdN(M:Q5)(w:World)(s:Sg)(tb mb:Nat)(ps:List (PV×PV))(bs:AE)(v ev:Value)(w':World):Prop :=
 w.grownBy w' (some mb)/\∃t,(DK s t/\PbN w s t)/\t.ns.length<=s.ns.length+300 /\
  ((∃c es,Pl.check bs=c/\0<c/\c<=5/\ev=aY es c/\t.pb=s.pb/\BM M w' t tb mb ps) \/
   (∃f,Pl.check bs=0/\Pl.BQ bs=some f/\ev=.nilIface/\BM M w' t tb mb (ps++(Pl.settle f ps.length).2)/\CP M w' t v (Pl.settle f ps.length).1))
theorem aB0(b:Q8)(n:Int)(M:Q5)(w:World)(s:Sg)(tb mb:Nat)(ps:List (PV×PV))(d:BM M w s tb mb ps)(g:GE w)(R:s.ns.length+300<=BS) :Q2 31 #[.agg #[.string b,Q1 n],Q0 tb] w fun e l=>∃v j,e=.returned (.tuple #[v,j])/\((Pl.over n=true/\(∃o,j=aY o 6)/\Q3 w l)\/(Pl.over n=false/\RdN M w s tb mb ps b.data.toList v j l)):=by
 let C:Q5:=fun k=>M k\/(k<w.heap.size/\k∉s.pb/\∃c O,w.heap[k]?=some (.cells c E0 O))
 have D:BM C w s tb mb ps:=by
  refine⟨d.B3,⟨d.pairs.len,d.pairs.nodup,fun i b p q S=>?_⟩,.inl d.FV,?_,?_⟩
  ·obtain⟨r,u⟩:=d.pairs.at_ i b p q S;exact⟨fun x=>x.elim r (fun y=>y.2.1 (q_ q)),u⟩
  ·rintro(x | ⟨_,_,c,O,x⟩)
   ·exact d.JJ x
   ·rw [d.B3.blk] at x;simp only [o_,Obj.cells.injEq] at x;exact absurd x.2.1 (by unfold WF E0;decide)
  ·rintro k (x | x)
   ·exact d.mlt k x
   ·exact x.1
 refine(yJ b n C w s tb mb ps D g R).mono (fun e l T=>?_);obtain⟨v,j,rfl,h | ⟨U,P,t,r,u,V⟩⟩:=T
 ·exact⟨v,j,rfl,.inl h⟩
 ·have a:∀{E},BM C l t tb mb E->BM M l t tb mb E/\PbN w s t:=fun {E} k=>by
   refine⟨⟨k.B3,k.pairs.weaken (fun _ x=>.inl x),d.FV,d.JJ,fun i z=>k.mlt i (.inl z)⟩,fun b q=>?_⟩;obtain⟨i,z⟩:=List.getElem?_of_mem q;have F:=(s_ z).1;obtain⟨W,x,y,G,_⟩:=k.pairs.at_ i b _ z (g_ (by rw [<- k.pairs.len];exact F));rcases Nat.lt_or_ge b w.heap.size with m | g
   ·by_cases A:b∈s.pb
    ·exact .inl A
    ·obtain⟨o,c,H⟩:=k.B3.F6;have I:b≠mb:=fun e=>by rw [e,H] at G;cases G
     exact absurd (Or.inr ⟨m,A,_,_,(P.block b m (fun e=>I (i_ e))).symm.trans G⟩) W
   ·exact .inr g
  refine⟨v,j,rfl,.inr ⟨U,P,t,?_⟩⟩;rcases V with⟨c,o,J,K,L,B,N,Q⟩ | ⟨f,J,K,L,B,N⟩
  ·exact⟨⟨r,(a Q).2⟩,u,.inl ⟨c,o,J,K,L,B,N,(a Q).1⟩⟩
  ·exact⟨⟨r,(a B).2⟩,u,.inr ⟨f,J,K,L,(a B).1,N.go ⟨rfl,rfl,rfl,n_,fun k _ A=>⟨rfl,fun x=>A (.inl x)⟩⟩ (Sg.Le.refl _)⟩⟩
def Sg.JE(s:Sg)(b:Nat):Sg:={s with qb:=s.qb++[b]}
def Sg.IJ(s:Sg)(b:Nat):Sg:={s with cb:=s.cb++[b]}
theorem Sg.LA(s:Sg)(b:Nat):Sg.Le s (s.JE b):=⟨rfl,rfl,List.prefix_refl _,List.prefix_append _ _,List.prefix_refl _,List.prefix_refl _,List.prefix_refl _⟩
theorem Sg.LD(s:Sg)(b:Nat):Sg.Le s (s.IJ b):=⟨rfl,rfl,List.prefix_refl _,List.prefix_refl _,List.prefix_append _ _,List.prefix_refl _,List.prefix_refl _⟩
theorem OW.lt{α:Type}{R:Nat->α->Prop}{bs:List Nat}{l:List α}(h:OW R bs l){n:Nat}(a:∀b x,R b x->b<n):∀b∈bs,b<n:=fun b c=>by obtain⟨i,d⟩:=List.getElem?_of_mem c;obtain⟨x,_,e⟩:=h.get d;exact a b x e
theorem Tryz.VX(v:Value)(w:World):(Instr.typeAssert (.iface 149 v) 113 146 true).run prog w=.ok (.tuple #[.agg #[],.bool false]) w:=by kernel_rfl
theorem Tryz.R_(v:Value)(w:World):(Instr.typeAssert (.iface 237 v) 113 146 true).run prog w=.ok (.tuple #[.agg #[],.bool false]) w:=by kernel_rfl
theorem Tryz.SA(v:Value)(w:World):(Instr.typeAssert (.iface 239 v) 113 146 true).run prog w=.ok (.tuple #[.agg #[],.bool false]) w:=by kernel_rfl
theorem Tryz.VZ(v:Value)(w:World):(Instr.typeAssert (.iface 240 v) 113 146 true).run prog w=.ok (.tuple #[.agg #[],.bool false]) w:=by kernel_rfl
theorem Tryz.SB(v:Value)(w:World):(Instr.typeAssert (.iface 271 v) 113 146 true).run prog w=.ok (.tuple #[.agg #[],.bool false]) w:=by kernel_rfl
theorem Tryz.OZ(v:Value)(w:World):(Instr.typeAssert (.iface 242 v) 113 146 true).run prog w=.ok (.tuple #[.agg #[],.bool false]) w:=by kernel_rfl
theorem Tryz.VY(v:Value)(w:World):(Instr.typeAssert (.iface 272 v) 113 146 true).run prog w=.ok (.tuple #[.agg #[],.bool false]) w:=by kernel_rfl
theorem Tryz.Q_(v:Value)(w:World):(Instr.typeAssert (.iface 237 v) 113 149 true).run prog w=.ok (.tuple #[Q1 0,.bool false]) w:=by kernel_rfl
theorem Tryz.R8(v:Value)(w:World):(Instr.typeAssert (.iface 239 v) 113 149 true).run prog w=.ok (.tuple #[Q1 0,.bool false]) w:=by kernel_rfl
theorem Tryz.VW(v:Value)(w:World):(Instr.typeAssert (.iface 240 v) 113 149 true).run prog w=.ok (.tuple #[Q1 0,.bool false]) w:=by kernel_rfl
theorem Tryz.R9(v:Value)(w:World):(Instr.typeAssert (.iface 271 v) 113 149 true).run prog w=.ok (.tuple #[Q1 0,.bool false]) w:=by kernel_rfl
theorem Tryz.OY(v:Value)(w:World):(Instr.typeAssert (.iface 242 v) 113 149 true).run prog w=.ok (.tuple #[Q1 0,.bool false]) w:=by kernel_rfl
theorem Tryz.VV(v:Value)(w:World):(Instr.typeAssert (.iface 272 v) 113 149 true).run prog w=.ok (.tuple #[Q1 0,.bool false]) w:=by kernel_rfl
theorem Tryz.vk_k(v:Value)(w:World):(Instr.typeAssert (.iface 146 v) 113 146 true).run prog w=.ok (.tuple #[v,.bool true]) w:=by kernel_rfl
theorem Tryz.vp_p(v:Value)(w:World):(Instr.typeAssert (.iface 149 v) 113 149 true).run prog w=.ok (.tuple #[v,.bool true]) w:=by kernel_rfl
theorem fM(W:PW)(S:PS)(nm:AE)(a b:PV)(h:arity nm=2):AH W S (.AZ nm) [a,b]=A2 W S nm a b:=by show(if([a,b]:List PV).length≠arity nm then _ else _)=_;rw [if_neg (fun c=>c zQ5)]
theorem jX(W:PW)(S:PS)(nm:AE)(a:PV)(h:arity nm=1):AH W S (.AZ nm) [a]=B0 W S nm a:=by show(if([a]:List PV).length≠arity nm then _ else _)=_;rw [if_neg (fun b=>b zQ5)]
end
section
open Go.RowKit Go.Lib
theorem Tryz.YJ:(prog.info? 113).map (fun i=>(i.zero,i.size,i.bytes))=some (some .nilIface,1,16):=by kernel_rfl
theorem rD:∃i,prog.info? B9=some i/\i.zero=some .nilIface/\i.size=1/\i.bytes=16:=by obtain⟨i,b,a⟩:=m_ Tryz.YJ;simp only [Prod.mk.injEq] at a;exact⟨i,b,a.1,a.2.1,a.2.2⟩
theorem dC{P:Program}(w:World){b:Array Oper}{rest:List Oper}{o:Oper}{a:Act}{Q:Exit->Act->World->Prop}(c:o.guard=none)(sl x:Operand)(t u:TypeId)
  (f:o.op=.call {callee:=.builtin .append,args:=#[sl,x],argTypes:=#[t,u]}) (v:Value) (g:a.eval sl=v) (y:Value) (i:a.eval x=y) {v':Value} {w':World} (e:TypeId) (d:o.type=e) (j:(Builtin.append_ #[t,u] e #[v,y]).run P w=.ok v' w') (h:wpList P b Q rest (a.put o.dst v') w'):wpList P b Q (o::rest) a w:=by
 refine wpList_plain c fun K k=>?_;unfold Oper.wp execOp;simp only [f,resolve,invoke,builtin,Sem.run_bind,Sem.run_pure,Result.andThen_ok,List.map_toArray,List.map_cons,List.map_nil,g,i,d,j];exact k _ _ h
end
section
open Go.RowKit
variable {W W0:PW} {S S0:PS} {z k:Nat}
inductive Gos (W0:PW) (S0:PS) (z:Nat):Nat->PW->PS->Prop
 | nil:Gos W0 S0 z 0 W0 S0
 | snoc (k:Nat) (W W':PW) (S S':PS) (h:Gos W0 S0 z k W S) (hn:S.ended=false) (hs:Pl.step W S=⟨0,W',S'⟩) (ho:z<=k->W'.out=W.out):Gos W0 S0 z (k+1) W' S'
theorem aLR{n:Nat}{W':PW}{S':PS}(a:S.ended=false)(b:Pl.step W S=⟨0,W',S'⟩):A8 (n+1) W S=A8 n W' S':=by simp [A8,a,b]
theorem Gos.on(h:Gos W0 S0 z k W S):k<=z->A8 z W0 S0=A8 (z-k) W S:=by
 induction h with
 | nil=>intro _;rfl
 | snoc k W d S e h a b f c =>intro g;rw [c x8,show z-k=(z-(k+1))+1 from by omega];exact aLR a b
theorem Gos.off(h:Gos W0 S0 z k W S):z<k->∃a b,A8 z W0 S0=⟨7,a,b⟩/\a.out=W.out:=by
 induction h with
 | nil=>intro h;omega
 | snoc k W l S m h e n c f =>
  intro o;rcases Nat.lt_or_ge z k with d | d
  ·obtain⟨a,b,g,i⟩:=f d;exact⟨a,b,g,i.trans (c x8).symm⟩
  ·have j:k=z:=by omega
   subst j;refine⟨W,S,?_,(c n_).symm⟩;rw [h.on n_,Nat.sub_self];simp [A8,e]
theorem Gos.spent(h:Gos W0 S0 z k W S)(c:S.ended=false)(f:z<=k):∃a d,A8 z W0 S0=⟨7,a,d⟩/\a.out=W.out:=by
 rcases Nat.lt_or_ge z k with b | b
 ·exact h.off b
 ·have e:k=z:=by omega
  subst e;refine⟨W,S,?_,rfl⟩;rw [h.on n_,Nat.sub_self];simp [A8,c]
theorem Gos.done(h:Gos W0 S0 z k W S)(a:S.ended=true)(b:k<=z):A8 z W0 S0=⟨0,W,S⟩:=by
 rw [h.on b]
 cases z-k<;>simp [A8,a]
theorem Gos.err(h:Gos W0 S0 z k W S)(a:S.ended=false)(b:(Pl.step W S).e≠0)(c:k<z):A8 z W0 S0=Pl.step W S:=by rw [h.on x8,show z-k=(z-k-1)+1 from by omega];simp [A8,a,b]
structure At(W0:PW)(S0:PS)(z T k:Nat)(W:PW)(S:PS):Prop where
 go:Gos W0 S0 z k W S
 inv:J2 (T-k) W S
 le:k<=T
theorem At.next{W':PW}{S':PS}{T:Nat}(h:At W0 S0 z T k W S)(c:S.ended=false)(a:Pl.step W S=⟨0,W',S'⟩)(d:z<=k->W'.out=W.out)(e:k<T):At W0 S0 z T (k+1) W' S':=by refine⟨.snoc k W W' S S' h.go c a d,?_,e⟩;have b:=h.inv;rw [show T-k=(T-(k+1))+1 from by omega] at b;have:=aDO b (by rw [a]);rw [a] at this;exact this
end
section
theorem aM0{W:PW}{t m T:Nat}{i:AE×Int}(n:T=i.2.toNat+5000)(a:WW W t)(e:OV W m)(o:m+1011000<=6500000000000000000)(f:PF)(g:Pl.over i.2=false)(b:Pl.check i.1=0)(c:Pl.BQ i.1=some f):J2 T (Pl.AR W f) (Pl.AV W f)/\i.2.toNat<=1000000/\IU (Pl.settle f W.pairs.length).1<=1001:=by obtain⟨h,j⟩:=lN b c;obtain⟨k,d⟩:=rI h j a;have l:=NM a e b c;have p:=aAU g;refine⟨⟨Nat.zero_le _,_,k,d,_,l,?_⟩,?_,(d.form _ rfl).nd⟩<;>omega
end
end Go.Proofs.YtbgghmjmcapmlaaGreatDoor
