import Derived.Test.YtkgbdddkcjpgfaaGreatDoorC13
import Derived.Test.YtkgbdddkcjpgfaaGreatDoorC14
import Derived.Test.YtkgbdddkcjpgfaaGreatDoorC03
namespace Go.Proofs.YtkgbdddkcjpgfaaGreatDoor
open Pl (PV PW PS PF PFr SR Byt Env FK prim2 prim1 applyB plusW minusW)
section
open Go.RowKit
variable {t t':Nat}
structure Le(W W':PW):Prop where
 pre:∃l,W'.pairs=W.pairs++l
 procs:W.procs.length<=W'.procs.length
 conts:W.conts.length<=W'.conts.length
 places:W.places.length<=W'.places.length
theorem aDV{α:Type}(l:List α):∃m,l=l++m:=⟨[],(List.append_nil l).symm⟩
theorem Le.pairs{W W':PW}(h:Le W W'):W.pairs.length<=W'.pairs.length:=by obtain⟨l,e⟩:=h.pre;rw [e];simp
theorem Le.refl(W:PW):Le W W:=⟨aDV _,Nat.le_refl _,Nat.le_refl _,Nat.le_refl _⟩
theorem Le.trans{a b c:PW}(h:Le a b)(k:Le b c):Le a c:=⟨by
 obtain⟨l,e⟩:=h.pre;obtain⟨m,e2⟩:=k.pre
 exact⟨l++m,by rw [e2,e,List.append_assoc]⟩,Nat.le_trans h.procs k.procs,Nat.le_trans h.conts k.conts,Nat.le_trans h.places k.places⟩
theorem WfV.le{W W':PW}{v:PV}(h:WfV W v)(l:Le W W'):WfV W' v:=by
 cases v with
 | pair i=>exact Nat.lt_of_lt_of_le h l.pairs
 | proc i=>exact Nat.lt_of_lt_of_le h l.procs
 | cont i=>exact Nat.lt_of_lt_of_le h l.conts
 | _=>exact h
theorem WfE.le{W W':PW}{e:Env}(h:WfE W e)(l:Le W W'):WfE W' e:=fun b hb=>Nat.lt_of_lt_of_le (h b hb) l.places
mutual
def fnd:PF->Nat
 | .mk _ _ _ _ ks _=>1+aB5 ks
def aB5:List PF->Nat
 | []=>0
 | x::r=>fnd x+aB5 r
end
theorem aAZ(k:FK)(nm:Byt)(d:Pl.Tre)(v:PV)(ks:List PF)(ns:List Byt):fnd (.mk k nm d v ks ns)=1+aB5 ks:=by simp [fnd]
theorem aAY(x:PF)(r:List PF):aB5 (x::r)=fnd x+aB5 r:=by simp [aB5]
theorem aA5:aB5 []=0:=by simp [aB5]
theorem aDP{x:PF}:∀{ks:List PF},x∈ks->fnd x<=aB5 ks
 | y::r,h=>by
  rw [aAY];rcases List.mem_cons.1 h with rfl | h
  ·omega
  ·have:=aDP h;omega
inductive WfF (W:PW):PF->Prop
 | mk (k:FK) (nm:Byt) (d:Pl.Tre) (v:PV) (ks:List PF) (ns:List Byt) (h1:k=.const->WfV W v) (h2:shape k ks.length) (h3:∀x,x∈ks->WfF W x) (h4:ks.length<=300) (h5:ns.length<=300/\nm.length<=300/\∀x∈ns,x.length<=300) (h6:1+aB5 ks<=1001) (h7:k=.const->∀l,Pl.Acy (W.pairs++l)->Pl.text (W.pairs++l) v=Pl.datT 1000 (Pl.quoted d)) (h8:Pl.Nm k nm d):WfF W (.mk k nm d v ks ns)
theorem WfF.le{W W':PW}(l:Le W W'){f:PF}(h:WfF W f):WfF W' f:=by
 induction h with
 | mk k nm d v ks ns h1 h2 _ h4 h5 h6 h7 h8 ih =>refine .mk k nm d v ks ns (fun e=>(h1 e).le l) h2 ih h4 h5 h6 (fun e m=>?_) h8;obtain⟨q,hq⟩:=l.pre;rw [hq,List.append_assoc];exact h7 e _
theorem WfF.val{W:PW}{f:PF}(h:WfF W f)(hk:f.k=.const):WfV W f.v:=by cases h with | mk k nm d v ks ns h1=>exact h1 hk
theorem WfF.shp{W:PW}{f:PF}(h:WfF W f):shape f.k f.ks.length:=by cases h with | mk k nm d v ks ns h1 h2=>exact h2
theorem WfF.kid{W:PW}{f x:PF}(h:WfF W f)(hx:x∈f.ks):WfF W x:=by cases h with | mk k nm d v ks ns h1 h2 h3=>exact h3 x hx
theorem WfF.kid_at{W:PW}{f x:PF}{i:Nat}(h:WfF W f)(hx:f.ks[i]?=some x):WfF W x:=h.kid (List.mem_of_getElem? hx)
theorem WfF.lks{W:PW}{f:PF}(h:WfF W f):f.ks.length<=300:=by cases h with | mk k nm d v ks ns h1 h2 h3 h4=>exact h4
theorem WfF.lnm{W:PW}{f:PF}(h:WfF W f):f.nm.length<=300:=by cases h with | mk k nm d v ks ns h1 h2 h3 h4 h5=>exact h5.2.1
theorem WfF.lnx{W:PW}{f:PF}(h:WfF W f):∀x∈f.ns,x.length<=300:=by cases h with | mk k nm d v ks ns h1 h2 h3 h4 h5=>exact h5.2.2
theorem WfF.nd{W:PW}{f:PF}(h:WfF W f):fnd f<=1001:=by cases h with | mk k nm d v ks ns h1 h2 h3 h4 h5 h6=>rw [aAZ];exact h6
structure FrW(W:PW)(t:Nat)(fr:PFr):Prop where
 form:WfF W fr.form
 env:WfE W fr.env
 envL:fr.env.length<=t
 kind:fr.form.k=.iff\/fr.form.k=.set\/fr.form.k=.define\/fr.form.k=.begin\/fr.form.k=.call
 begin_:fr.form.k=.begin->fr.pos<fr.form.ks.length
 call:fr.form.k=.call->fr.got.length+1=fr.pos/\fr.pos<=fr.form.ks.length/\∀v∈fr.got,WfV W v
theorem FrW.le{W W':PW}{fr:PFr}(h:FrW W t fr)(l:Le W W')(ht:t<=t'):FrW W' t' fr :=⟨h.form.le l,h.env.le l,by have:=h.envL;omega,h.kind,h.begin_,fun e=>⟨(h.call e).1,(h.call e).2.1,fun v hv=>((h.call e).2.2 v hv).le l⟩⟩
def FrsW(W:PW)(t:Nat)(l:List PFr):Prop:=(∀fr∈l,FrW W t fr)/\l.length<=t
theorem FrsW.le{W W':PW}{fs:List PFr}(h:FrsW W t fs)(l:Le W W')(ht:t<=t'):FrsW W' t' fs:=⟨fun fr hf=>(h.1 fr hf).le l ht,by have:=h.2;omega⟩
structure WW(W:PW)(t:Nat):Prop where
 acy:Pl.Acy W.pairs
 vals:∀(i:Nat)(p:PV×PV),W.pairs[i]?=some p->WfV W p.1/\WfV W p.2
 pairsL:W.pairs.length<=t
 procs:∀p∈W.procs,WfF W p.1/\WfE W p.2/\p.2.length<=t/\p.1.k=.lambda
 procsL:W.procs.length<=t
 conts:∀l∈W.conts,FrsW W t l
 contsL:W.conts.length<=t
 places:∀v∈W.places,WfV W v
 placesL:W.places.length<=t
 globals:WfE W W.globals
 globalsL:W.globals.length<=t
structure SW(W:PW)(S:PS)(t:Nat):Prop where
 form:∀f,S.form=some f->WfF W f
 env:WfE W S.env
 envL:S.env.length<=t
 val:S.form=none->WfV W S.val
 frames:FrsW W t S.frames
theorem WW.later{W:PW}(h:WW W t)(ht:t<=t'):WW W t' :=⟨h.acy,h.vals,by have:=h.pairsL;omega,fun p hp=>⟨(h.procs p hp).1,(h.procs p hp).2.1,by have:=(h.procs p hp).2.2.1;omega,(h.procs p hp).2.2.2⟩,by have:=h.procsL;omega,fun l hl=>(h.conts l hl).le (Le.refl _) ht,by have:=h.contsL;omega,h.places,by have:=h.placesL;omega,h.globals,by have:=h.globalsL;omega⟩
theorem SW.le{W W':PW}{S:PS}(h:SW W S t)(l:Le W W')(ht:t<=t'):SW W' S t' :=⟨fun f hf=>(h.form f hf).le l,h.env.le l,by have:=h.envL;omega,fun e=>(h.val e).le l,h.frames.le l ht⟩
theorem SW.give{W:PW}{S:PS}{v:PV}(h:SW W S t)(hv:WfV W v):SW W (S.give v) t:=⟨fun f hf=>(by cases hf),h.env,h.envL,fun _=>hv,h.frames⟩
theorem SW.work{W:PW}{S:PS}{f:PF}{env:Env}(h:SW W S t)(hf:WfF W f)(he:WfE W env)(hl:env.length<=t):SW W (S.work (some f) env) t:=⟨fun g hg=>(by obtain rfl:=Option.some.inj hg;exact hf),he,hl,fun e=>(by cases e),h.frames⟩
theorem SW.push{W:PW}{S:PS}{fr:PFr}(h:SW W S t)(hf:FrW W t fr):SW W (S.push fr) (t+1):=by
 refine⟨h.form,h.env,by have:=h.envL;show S.env.length<=_;omega,h.val,⟨fun x hx=>?_,by have:=h.frames.2;simp only [Pl.PS.push,List.length_cons];omega⟩⟩;simp only [Pl.PS.push,List.mem_cons] at hx;rcases hx with rfl | hx
 ·exact hf.le (Le.refl _) (by omega)
 ·exact(h.frames.1 x hx).le (Le.refl _) (by omega)
theorem SW.frames_{W:PW}{S:PS}{fs:List PFr}(h:SW W S t)(hf:FrsW W t fs):SW W {S with frames:=fs} t:=⟨h.form,h.env,h.envL,h.val,hf⟩
theorem WW.pair{W:PW}(h:WW W t){a b:PV}(ha:WfV W a)(hb:WfV W b):WW {W with pairs:=W.pairs++[(a,b)]} (t+1)/\Le W {W with pairs:=W.pairs++[(a,b)]}:=by
 have l:Le W {W with pairs:=W.pairs++[(a,b)]}:=⟨⟨_,rfl⟩,Nat.le_refl _,Nat.le_refl _,Nat.le_refl _⟩
 have hr:∀v,WfV W v->Pl.rank v<=W.pairs.length:=fun v hv=>by
  cases v with
  | pair i=>exact hv
  | _=>exact Nat.zero_le _
 have h':=h.later (Nat.le_succ t);refine⟨⟨?_,?_,by have:=h.pairsL;simp;omega,fun p hp=>⟨(h'.procs p hp).1.le l,(h'.procs p hp).2.1.le l,(h'.procs p hp).2.2⟩,h'.procsL,fun fs hfs=>(h'.conts fs hfs).le l (Nat.le_refl _),h'.contsL,fun v hv=>(h.places v hv).le l,h'.placesL,h.globals.le l,h'.globalsL⟩,l⟩
 ·intro i p hp;rcases dH hp with hp | ⟨rfl,rfl⟩
  ·exact h.acy i p hp
  ·exact⟨hr a ha,hr b hb⟩
 ·intro i p hp;rcases dH hp with hp | ⟨rfl,rfl⟩
  ·exact⟨(h.vals i p hp).1.le l,(h.vals i p hp).2.le l⟩
  ·exact⟨ha.le l,hb.le l⟩
theorem WW.places_{W:PW}(h:WW W t){vs:List PV}(hv:∀v∈vs,WfV W v):WW {W with places:=W.places++vs} (t+vs.length)/\Le W {W with places:=W.places++vs}:=by
 have l:Le W {W with places:=W.places++vs}:=⟨aDV _,Nat.le_refl _,Nat.le_refl _,by simp⟩
 have h':=h.later (Nat.le_add_right t vs.length);refine⟨⟨h.acy,fun i p hp=>⟨(h.vals i p hp).1.le l,(h.vals i p hp).2.le l⟩,h'.pairsL,fun p hp=>⟨(h'.procs p hp).1.le l,(h'.procs p hp).2.1.le l,(h'.procs p hp).2.2⟩,h'.procsL,fun fs hfs=>(h'.conts fs hfs).le l (Nat.le_refl _),h'.contsL,fun v hm=>?_,by have:=h.placesL;simp;omega,h.globals.le l,h'.globalsL⟩,l⟩;rcases List.mem_append.1 hm with hm | hm
 ·exact(h.places v hm).le l
 ·exact(hv v hm).le l
theorem WW.set_{W:PW}(h:WW W t){v:PV}(hv:WfV W v)(k:Nat):WW {W with places:=W.places.set k v} t/\Le W {W with places:=W.places.set k v}:=by
 have l:Le W {W with places:=W.places.set k v}:=⟨aDV _,Nat.le_refl _,Nat.le_refl _,by simp⟩
 refine⟨⟨h.acy,fun i p hp=>⟨(h.vals i p hp).1.le l,(h.vals i p hp).2.le l⟩,h.pairsL,fun p hp=>⟨(h.procs p hp).1.le l,(h.procs p hp).2.1.le l,(h.procs p hp).2.2⟩,h.procsL,fun fs hfs=>(h.conts fs hfs).le l (Nat.le_refl _),h.contsL,fun x hm=>?_,by simpa using h.placesL,h.globals.le l,h.globalsL⟩,l⟩;rcases List.mem_or_eq_of_mem_set hm with hm | rfl
 ·exact(h.places x hm).le l
 ·exact hv.le l
theorem WW.proc{W:PW}(h:WW W t){f:PF}{env:Env}(hf:WfF W f)(he:WfE W env)(hl:env.length<=t)(hk:f.k=.lambda):WW {W with procs:=W.procs++[(f,env)]} (t+1)/\Le W {W with procs:=W.procs++[(f,env)]}:=by
 have l:Le W {W with procs:=W.procs++[(f,env)]}:=⟨aDV _,by simp,Nat.le_refl _,Nat.le_refl _⟩
 have h':=h.later (Nat.le_succ t);refine⟨⟨h.acy,fun i p hp=>⟨(h.vals i p hp).1.le l,(h.vals i p hp).2.le l⟩,h'.pairsL,fun p hp=>?_,by have:=h.procsL;simp;omega,fun fs hfs=>(h'.conts fs hfs).le l (Nat.le_refl _),h'.contsL,fun v hm=>(h.places v hm).le l,h'.placesL,h.globals.le l,h'.globalsL⟩,l⟩;rcases List.mem_append.1 hp with hp | hp
 ·exact⟨(h'.procs p hp).1.le l,(h'.procs p hp).2.1.le l,(h'.procs p hp).2.2⟩
 ·obtain rfl:p=(f,env):=by simpa using hp
  exact⟨hf.le l,he.le l,by show env.length<=_;omega,hk⟩
theorem WW.keep_{W:PW}{S:PS}(h:WW W t)(hs:FrsW W t S.frames):WW (W.keep S) (t+1)/\Le W (W.keep S):=by
 have l:Le W (W.keep S):=⟨aDV _,Nat.le_refl _,by simp [Pl.PW.keep],Nat.le_refl _⟩
 have h':=h.later (Nat.le_succ t);refine⟨⟨h.acy,fun i p hp=>⟨(h.vals i p hp).1.le l,(h.vals i p hp).2.le l⟩,h'.pairsL,fun p hp=>⟨(h'.procs p hp).1.le l,(h'.procs p hp).2.1.le l,(h'.procs p hp).2.2⟩,h'.procsL,fun fs hfs=>?_,by have:=h.contsL;simp [Pl.PW.keep];omega,fun v hm=>(h.places v hm).le l,h'.placesL,h.globals.le l,h'.globalsL⟩,l⟩;rcases List.mem_append.1 hfs with hfs | hfs
 ·exact(h'.conts fs hfs).le l (Nat.le_refl _)
 ·obtain rfl:fs=S.frames:=by simpa using hfs
  exact hs.le l (Nat.le_succ t)
theorem WW.out{W:PW}(h:WW W t)(o:Byt):WW {W with out:=o} t/\Le W {W with out:=o}:=by
 have l:Le W {W with out:=o}:=⟨aDV _,Nat.le_refl _,Nat.le_refl _,Nat.le_refl _⟩
 exact⟨⟨h.acy,fun i p hp=>⟨(h.vals i p hp).1.le l,(h.vals i p hp).2.le l⟩,h.pairsL,fun p hp=>⟨(h.procs p hp).1.le l,(h.procs p hp).2.1.le l,(h.procs p hp).2.2⟩,h.procsL,fun fs hfs=>(h.conts fs hfs).le l (Nat.le_refl _),h.contsL,fun v hm=>(h.places v hm).le l,h.placesL,h.globals.le l,h.globalsL⟩,l⟩
theorem WfV.keepP{W:PW}{S:PS}{v:PV}(h:WfV W v):WfV (W.keep S) v:=by
 cases v with
 | cont i=>simp only [WfV,Pl.PW.keep,List.length_append] at h ⊢;omega
 | _=>exact h
theorem WfV.lastP{W:PW}{S:PS}:WfV (W.keep S) (.cont W.conts.length):=by simp [WfV,Pl.PW.keep]
theorem aDI(l:List Byt)(n:Nat):(Pl.numb l n).length=l.length:=by
 induction l generalizing n with
 | nil=>rfl
 | cons x l ih=>simp [Pl.numb,ih]
theorem aDX{W:PW}{env:Env}{s:Byt}{k:Nat}(h1:WfE W env)(h2:WfE W W.globals)(h:Pl.seek W env s=some k):k<W.places.length:=by
 unfold Pl.seek at h
 cases hf:Pl.find env s with
 | some j =>rw [hf] at h;obtain rfl:=Option.some.inj h;obtain⟨b,hb,rfl⟩:=find_mem _ _ _ hf;exact h1 b hb
 | none =>rw [hf] at h;obtain⟨b,hb,rfl⟩:=find_mem _ _ _ h;exact h2 b hb
def Good(r:SR)(t:Nat):Prop:=r.e≠7/\WW r.W t/\(r.e=0->SW r.W r.S t)
theorem Good.later{r:SR}(h:Good r t)(ht:t<=t'):Good r t':=⟨h.1,h.2.1.later ht,fun e=>(h.2.2 e).le (Le.refl _) ht⟩
theorem z7:(0:Nat)≠7:=by decide
theorem bL{W:PW}{S:PS}{n:Nat}(hW:WW W t)(h7:n≠7)(h0:n≠0):Good ⟨n,W,S⟩ t:=⟨h7,hW,fun e=>absurd e h0⟩
theorem bH{W W':PW}{S:PS}{v:PV}(hW:WW W' t')(l:Le W W')(ht:t<=t')(hS:SW W S t)(hv:WfV W' v):Good ⟨0,W',S.give v⟩ t':=⟨z7,hW,fun _=>(hS.le l ht).give hv⟩
theorem pR{W:PW}{S:PS}(hW:WW W t)(hS:SW W S t)(s:Byt)(a b:PV):Good (Pl.reckon W S s a b) t:=by
 unfold Pl.reckon;split
 ·split
  ·exact bH hW (Le.refl _) (Nat.le_refl _) hS trivial
  ·split
   ·exact bH hW (Le.refl _) (Nat.le_refl _) hS trivial
   ·rename_i x y _ _;dsimp only;generalize (if s=plusW then x+y else if s=minusW then x-y else x*y)=n;by_cases h:n.natAbs<=Pl.big
    ·rw [if_pos h];exact bH (v:=.num n) hW (Le.refl _) (Nat.le_refl _) hS h
    ·rw [if_neg h];exact bL hW (by decide) (by decide)
 ·exact bL hW (by decide) (by decide)
theorem tC{W:PW}{S:PS}(hW:WW W t)(hS:SW W S t)(s:Byt)(a:PV):Good (prim1 W S s a) t:=by
 unfold prim1;split
 ·dsimp only;split
  ·exact bH (hW.out _).1 (hW.out _).2 (Nat.le_refl _) hS trivial
  ·exact bL hW (by decide) (by decide)
 ·split
  ·split
   ·split
    ·rename_i p hp;refine bH hW (Le.refl _) (Nat.le_refl _) hS ?_;split
     ·exact(hW.vals _ p hp).2
     ·exact(hW.vals _ p hp).1
    ·exact bL hW (by decide) (by decide)
   ·exact bL hW (by decide) (by decide)
  ·split
   ·exact bH hW (Le.refl _) (Nat.le_refl _) hS trivial
   ·exact bH hW (Le.refl _) (Nat.le_refl _) hS trivial
theorem tB{W:PW}{S:PS}(hW:WW W t)(hS:SW W S t)(s:Byt)(a b:PV)(ha:WfV W a)(hb:WfV W b):Good (prim2 W S s a b) (t+1):=by
 unfold prim2;split
 ·exact bH (hW.pair ha hb).1 (hW.pair ha hb).2 (by omega) hS (by show W.pairs.length<_;simp)
 ·split
  ·exact(bH (v:=.truth _) hW (Le.refl _) (Nat.le_refl _) hS trivial:Good _ t).later (by omega)
  ·exact(pR hW hS s a b).later (by omega)
theorem numb_wf(W:PW)(vs:List PV)(ns:List Byt)(h:ns.length<=vs.length):WfE {W with places:=W.places++vs} (Pl.numb ns W.places.length):=by
 have key:∀(ns:List Byt)(n:Nat),∀b∈Pl.numb ns n,b.2<n+ns.length:=by
  intro ns
  induction ns with
  | nil=>intro n b hb;simp [Pl.numb] at hb
  | cons x r ih =>
   intro n b hb;simp only [Pl.numb,List.mem_cons] at hb;rcases hb with rfl | hb
   ·simp
   ·have:=ih (n+1) b hb;simp only [List.length_cons];omega
 intro b hb;have:=key ns _ b hb;show b.2<(W.places++vs).length;rw [List.length_append];omega
theorem fL{W:PW}{S:PS}(hW:WW W t)(hS:SW W S t)(f:PV)(args:List PV)(hf:WfV W f)(ha:∀v∈args,WfV W v)(hal:args.length<=300):Good (applyB W S f args) (t+300):=by
 unfold applyB;split
 ·split
  ·rename_i i p hp;obtain⟨h1,h2,h3,h4⟩:=hW.procs p (List.mem_of_getElem? hp);split
   ·exact bL (hW.later (by omega)) (by decide) (by decide)
   ·rename_i hlen;have hlen:args.length=p.1.ns.length:=by simpa using hlen
    obtain⟨w1,l1⟩:=hW.places_ ha;refine⟨z7,w1.later (by omega),fun _=>?_⟩;have hk:shape p.1.k p.1.ks.length:=h1.shp;rw [h4] at hk;have hk1:p.1.ks.length=1:=hk;have hx:p.1.ks[0]?=some (p.1.ks[0]'(by omega)):=List.getElem?_eq_getElem (by omega);rw [hx];refine SW.work (hS.le l1 (by omega)) ((h1.kid_at hx).le l1) ?_ ?_
    ·intro b hb;rcases List.mem_append.1 hb with hb | hb
     ·exact h2.le l1 b hb
     ·exact numb_wf W args p.1.ns (by omega) b hb
    ·rw [List.length_append,aDI];omega
  ·exact bL (hW.later (by omega)) (by decide) (by decide)
 ·rename_i i;split
  ·rename_i a;obtain⟨fs,hfs⟩:∃fs,W.conts[i]?=some fs:=⟨_,List.getElem?_eq_getElem hf⟩
   rw [hfs];refine⟨z7,hW.later (by omega),fun _=>?_⟩;exact((hS.frames_ (hW.conts fs (List.mem_of_getElem? hfs))).give (ha a (by simp))).le (Le.refl _) (by omega)
  ·exact bL (hW.later (by omega)) (by decide) (by decide)
 ·split
  ·exact bL (hW.later (by omega)) (by decide) (by decide)
  ·split
   ·exact(tC hW hS _ _).later (by omega)
   ·rename_i a b _;exact(tB hW hS _ a b (ha a (by simp)) (ha b (by simp))).later (by omega)
   ·exact bL (hW.later (by omega)) (by decide) (by decide)
 ·exact bL (hW.later (by omega)) (by decide) (by decide)
theorem tD{W:PW}{S:PS}(hW:WW W t)(hS:SW W S t)(f:PV)(args:List PV)(hf:WfV W f)(ha:∀v∈args,WfV W v)(hal:args.length<=300):Good (Pl.apply W S f args) (t+302):=by
 unfold Pl.apply;split
 ·split
  ·rename_i a;obtain⟨w1,l1⟩:=hW.keep_ hS.frames;have s1:=hS.le l1 (Nat.le_succ t);dsimp only;split
   ·obtain⟨w2,l2⟩:=w1.keep_ s1.frames;have s2:=s1.le l2 (Nat.le_succ _);refine(fL w2 s2 _ _ ?_ ?_ (by simp)).later (by omega)
    ·exact WfV.keepP WfV.lastP
    ·intro v hv;obtain rfl:v=.cont (W.conts.length+1):=by simpa using hv
     have:=WfV.lastP (W:=W.keep S) (S:=S)
     rwa [show(W.keep S).conts.length=W.conts.length+1 from by simp [Pl.PW.keep]] at this
   ·refine(fL w1 s1 _ _ ((ha a (by simp)).le l1) ?_ (by simp)).later (by omega);intro v hv;obtain rfl:v=.cont W.conts.length:=by simpa using hv
    exact WfV.lastP
  ·exact bL (hW.later (by omega)) (by decide) (by decide)
 ·exact(fL hW hS f args hf ha hal).later (by omega)
theorem cW{W:PW}{S:PS}{f:PF}{env:Env}{o:Option PF}(hW:WW W t)(hS:SW W S t)(ho:o=some f)(hf:WfF W f)(he:WfE W env)(hl:env.length<=t):Good ⟨0,W,S.work o env⟩ t:=by subst ho;exact⟨z7,hW,fun _=>hS.work hf he hl⟩
theorem eW{W:PW}{f:PF}{i:Nat}(hf:WfF W f)(hi:i<f.ks.length):∃x,f.ks[i]?=some x/\WfF W x:=⟨_,List.getElem?_eq_getElem hi,hf.kid (List.getElem_mem hi)⟩
theorem jR{W:PW}(hW:WW W t)(s:Byt)(v:PV)(hv:WfV W v):WW (Pl.bind W s v) (t+1)/\Le W (Pl.bind W s v):=by
 unfold Pl.bind;split
 ·exact⟨(hW.set_ hv _).1.later (by omega),(hW.set_ hv _).2⟩
 ·obtain⟨w1,l1⟩:=hW.places_ (vs:=[v]) (fun x hx=>(by simpa using hx:x=v)▸hv);have l2:Le {W with places:=W.places++[v]} {W with places:=W.places++[v],globals:=W.globals++[(s,W.places.length)]}:=⟨aDV _,Nat.le_refl _,Nat.le_refl _,Nat.le_refl _⟩
  refine⟨⟨w1.acy,fun i p hp=>⟨(w1.vals i p hp).1.le l2,(w1.vals i p hp).2.le l2⟩,w1.pairsL,fun p hp=>⟨(w1.procs p hp).1.le l2,(w1.procs p hp).2.1.le l2,(w1.procs p hp).2.2⟩,w1.procsL,fun fs hfs=>(w1.conts fs hfs).le l2 (Nat.le_refl _),w1.contsL,fun x hx=>(w1.places x hx).le l2,w1.placesL,?_,by have:=hW.globalsL;simp;omega⟩,l1.trans l2⟩;intro b hb;rcases List.mem_append.1 hb with hb | hb
  ·exact hW.globals.le (l1.trans l2) b hb
  ·obtain rfl:b=(s,W.places.length):=by simpa using hb
   show W.places.length<(W.places++[v]).length;simp
theorem tA{W:PW}{S:PS}(hW:WW W t)(hS:SW W S t)(hf:S.form=none):Good (Pl.taken W S) (t+310):=by
 unfold Pl.taken;split
 ·exact bL (hW.later (by omega)) (by decide) (by decide)
 ·rename_i fr rest hr;have hfr:=hS.frames.1 fr (by rw [hr];simp);have hrest:FrsW W t rest:=⟨fun x hx=>hS.frames.1 x (by rw [hr];exact List.mem_cons_of_mem _ hx),by have:=hS.frames.2;rw [hr] at this;simp at this;omega⟩
  have hS1:=hS.frames_ hrest;have hv:=hS.val hf;have hel:=hfr.envL;have hsh:=hfr.form.shp;dsimp only;split
  ·rename_i hk;rw [hk] at hsh;have h3:fr.form.ks.length=3:=hsh;split
   ·obtain⟨x,hx,hxf⟩:=eW hfr.form (i:=2) (by omega);exact(cW hW hS1 hx hxf hfr.env hel).later (by omega)
   ·obtain⟨x,hx,hxf⟩:=eW hfr.form (i:=1) (by omega);exact(cW hW hS1 hx hxf hfr.env hel).later (by omega)
  ·split
   ·exact(bH (v:=.nothing) (hW.set_ hv _).1 (hW.set_ hv _).2 (Nat.le_refl _) hS1 trivial:Good _ t).later (by omega)
   ·exact bL (hW.later (by omega)) (by decide) (by decide)
  ·exact(bH (v:=.nothing) (jR hW _ _ hv).1 (jR hW _ _ hv).2 (by omega) hS1 trivial:Good _ (t+1)).later (by omega)
  ·rename_i hk;have hp:=hfr.begin_ hk;obtain⟨x,hx,hxf⟩:=eW hfr.form hp;split
   ·rename_i hp1;have hfr2:FrW W t {fr with got:=[],pos:=fr.pos+1}:=⟨hfr.form,hfr.env,hfr.envL,hfr.kind,fun _=>hp1,fun e=>(by rw [show fr.form.k=.begin from hk] at e;cases e)⟩
    exact(cW (hW.later (Nat.le_succ t)) (hS1.push hfr2) hx hxf hfr.env (by omega)).later (by omega)
   ·exact(cW hW hS1 hx hxf hfr.env hel).later (by omega)
  ·rename_i h1 h2 h3 h4
   have hkc:fr.form.k=.call:=by
    rcases hfr.kind with h | h | h | h | h
    ·exact absurd h h1
    ·exact absurd h h2
    ·exact absurd h h3
    ·exact absurd h h4
    ·exact h
   obtain⟨c1,c2,c3⟩:=hfr.call hkc
   have hall:∀v∈fr.got++[S.val],WfV W v:=fun v hm=>by
    rcases List.mem_append.1 hm with hm | hm
    ·exact c3 v hm
    ·obtain rfl:v=S.val:=by simpa using hm
     exact hv
   split
   ·split
    ·exact bL (hW.later (by omega)) (by decide) (by decide)
    ·rename_i g args hl;have hlen:args.length=fr.got.length:=by have:=congrArg List.length hl;simp at this;omega
     have hlk:=hfr.form.lks;rw [hl] at hall;exact(tD hW hS1 g args (hall g (by simp)) (fun v hm=>hall v (List.mem_cons_of_mem _ hm)) (by omega)).later (by omega)
   ·rename_i hp;obtain⟨x,hx,hxf⟩:=eW hfr.form (i:=fr.pos) (by omega);have hfr2:FrW W t {fr with got:=fr.got++[S.val],pos:=fr.pos+1}:=⟨hfr.form,hfr.env,hfr.envL,hfr.kind,fun e=>(by rw [show fr.form.k=.call from hkc] at e;cases e),fun _=>⟨by simp;omega,by show fr.pos+1<=fr.form.ks.length;omega,hall⟩⟩
    exact(cW (hW.later (Nat.le_succ t)) (hS1.push hfr2) hx hxf hfr.env (by omega)).later (by omega)
theorem jQ{W:PW}{S:PS}(hW:WW W t)(hS:SW W S t):Good (Pl.step W S) (t+310):=by
 unfold Pl.step;split
 ·rename_i hf;exact tA hW hS hf
 ·rename_i f hf;have hfw:=hS.form f hf;have hsh:=hfw.shp;have hel:=hS.envL;have hpush:∀(hk:f.k=.iff\/f.k=.set\/f.k=.define\/f.k=.begin\/f.k=.call)(hp:f.k=.begin->1<f.ks.length)(h1:1<=f.ks.length),FrW W t ⟨f,[],1,S.env⟩:=fun hk hp h1=>⟨hfw,hS.env,hS.envL,hk,hp,fun _=>⟨rfl,h1,fun v hv=>by simp at hv⟩⟩
  split
  ·rename_i hk;exact(bH hW (Le.refl _) (Nat.le_refl _) hS (hfw.val hk):Good _ t).later (by omega)
  ·split
   ·rename_i k hsk;have hlt:=aDX hS.env hW.globals hsk;refine(bH hW (Le.refl _) (Nat.le_refl _) hS ?_:Good _ t).later (by omega);rw [List.getElem?_eq_getElem hlt];exact hW.places _ (List.getElem_mem hlt)
   ·exact bL (hW.later (by omega)) (by decide) (by decide)
  ·rename_i hk;obtain⟨w1,l1⟩:=hW.proc hfw hS.env hS.envL hk;exact(bH w1 l1 (by omega) hS (by show W.procs.length<_;simp):Good _ (t+1)).later (by omega)
  ·rename_i hk;rw [hk] at hsh;have h1:1<=f.ks.length:=hsh;obtain⟨x,hx,hxf⟩:=eW hfw (i:=0) (by omega);split
   ·rename_i h2;exact(cW (hW.later (Nat.le_succ t)) (hS.push (hpush (.inr (.inr (.inr (.inl hk)))) (fun _=>h2) h1)) hx hxf hS.env (by omega)).later (by omega)
   ·exact(cW hW hS hx hxf hS.env hel).later (by omega)
  ·rename_i h1 h2 h3 h4
   have hk:f.k=.iff\/f.k=.set\/f.k=.define\/f.k=.begin\/f.k=.call:=by
    cases hk:f.k with
    | const=>exact absurd hk h1
    | name=>exact absurd hk h2
    | lambda=>exact absurd hk h3
    | begin=>exact absurd hk h4
    | iff=>simp
    | set=>simp
    | define=>simp
    | call=>simp
   have hn:1<=f.ks.length:=by
    cases hk2:f.k with
    | const=>exact absurd hk2 h1
    | name=>exact absurd hk2 h2
    | lambda=>exact absurd hk2 h3
    | begin=>exact absurd hk2 h4
    | iff=>rw [hk2] at hsh;have:f.ks.length=3:=hsh;omega
    | set=>rw [hk2] at hsh;have:f.ks.length=1:=hsh;omega
    | define=>rw [hk2] at hsh;have:f.ks.length=1:=hsh;omega
    | call=>rw [hk2] at hsh;exact hsh
   obtain⟨x,hx,hxf⟩:=eW hfw (i:=0) (by omega);exact(cW (hW.later (Nat.le_succ t)) (hS.push (hpush hk (fun e=>absurd e h4) hn)) hx hxf hS.env (by omega)).later (by omega)
end
end Go.Proofs.YtkgbdddkcjpgfaaGreatDoor
