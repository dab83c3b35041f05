import Derived.Test.YtbgghmjmcapmlaaGreatDoorF35
import Derived.Test.YtbgghmjmcapmlaaGreatDoorF25
namespace Go.Proofs.YtbgghmjmcapmlaaGreatDoor
set_option maxHeartbeats 4000000
set_option maxRecDepth 100000
theorem zL3{P:Prop}(h:P:=by obtain⟨_,l,G,_,g,_⟩:=d;exact(g.block _ x8 (C _ (Nat.le_succ _))).1.trans Y):P:=h
section
variable {b:Pl.AE} {n:Int} {W:Pl.PW}
namespace Pl
def aJR(i:AE×Int):PO:=if over i.2 then⟨6,[],[]⟩ else if check i.1≠0 then⟨check i.1,[],[]⟩ else⟨7,[],[]⟩
def fans(X:PW×Bool)(i:AE×Int):(PW×Bool)×PO:=if X.2 then(X,aJR i) else(((answer X.1 i).1,decide ((answer X.1 i).2.code=7)),(answer X.1 i).2)
def fses:PW×Bool->List (AE×Int)->(PW×Bool)×List PO
 | X,[]=>(X,[])
 | X,i::r=>((fses (fans X i).1 r).1,(fans X i).2::(fses (fans X i).1 r).2)
theorem fses_snoc:∀(l:List (AE×Int)) (X:PW×Bool) (i:AE×Int),fses X (l++[i])=((fans (fses X l).1 i).1,(fses X l).2++[(fans (fses X l).1 i).2])
 | [],_,_=>rfl
 | x::l,X,i=>by simp only [List.cons_append,fses,fses_snoc l]
theorem fses_len:∀(l:List (AE×Int)) (X:PW×Bool),(fses X l).2.length=l.length
 | [],_=>rfl
 | x::l,X=>by simp [fses,fses_len l]
theorem fses_append:∀(l m:List (AE×Int)) (X:PW×Bool),fses X (l++m)=((fses (fses X l).1 m).1,(fses X l).2++(fses (fses X l).1 m).2)
 | [],_,_=>rfl
 | x::l,m,X=>by simp only [List.cons_append,fses,fses_append l]
theorem aM8(a:AE):check a≠7:=by
 unfold check
 repeat' split
 all_goals decide
theorem fans_over{X:PW×Bool}(h:over n=true):fans X (b,n)=(X,⟨6,[],[]⟩):=by
 obtain⟨W,a⟩:=X
 cases a
 ·simp [fans,answer,h]
 ·simp [fans,aJR,h]
theorem fans_check{X:PW×Bool}(h:over n=false)(a:check b≠0):fans X (b,n)=(X,⟨check b,[],[]⟩):=by
 obtain⟨W,c⟩:=X;have d:=aM8 b
 cases c
 ·simp [fans,answer,h,a,d]
 ·simp [fans,aJR,h,a]
theorem fans_spent(h:over n=false)(a:check b=0):fans (W,true) (b,n)=((W,true),⟨7,[],[]⟩):=by simp [fans,aJR,h,a]
theorem aM6{f:PF}(h:over n=false)(a:check b=0)(c:BQ b=some f):fans (W,false) (b,n)=(((A8 n.toNat (AR W f) (AV W f)).W,decide ((A8 n.toNat (AR W f) (AV W f)).e=7)),told (A8 n.toNat (AR W f) (AV W f))):=by
 have e:answer W (b,n)=((A8 n.toNat (AR W f) (AV W f)).W,told (A8 n.toNat (AR W f) (AV W f))):=by unfold answer;dsimp only;rw [if_neg (by simp [h]),if_neg (by simp [a]),c]
 unfold fans;rw [if_neg w9];dsimp only;rw [e];rfl
theorem fans_runN{k:Nat}{f:PF}(h:over (k:Int)=false)(a:check b=0)(c:BQ b=some f):fans (W,false) (b,(k:Int))=(((A8 k (AR W f) (AV W f)).W,decide ((A8 k (AR W f) (AV W f)).e=7)),told (A8 k (AR W f) (AV W f))):=aM6 h a c
end Pl
theorem n_up{N d k:Nat}(a:d<=1001)(b:k<=1000000):N+d+(k+5000)<=N+1010000:=by rw [Nat.add_assoc];exact Nat.add_le_add_left (t_ (Nat.add_le_add a (Nat.add_le_add_right b 5000)) w8) N
theorem fans_sm{X:Pl.PW×Bool}{t m:Nat}(i:Pl.AE×Int)(a:WW X.1 t)(h:OV X.1 m):∃b,WW (Pl.fans X i).1.1 b/\OV (Pl.fans X i).1.1 (m+1001000):=by
 unfold Pl.fans;split
 ·exact⟨t,a,h.mono x8⟩
 ·exact ans_sm i a h
theorem fses_sm(l:List (Pl.AE×Int)):∀(X:Pl.PW×Bool)(t m:Nat),WW X.1 t->OV X.1 m->∃a,WW (Pl.fses X l).1.1 a/\OV (Pl.fses X l).1.1 (m+1001000*l.length):=by
 induction l with
 | nil=>exact fun X t m b h=>⟨t,b,h⟩
 | cons i r c =>intro X t m b h;obtain⟨d,e,f⟩:=fans_sm i b h;obtain⟨a,g,j⟩:=c _ d _ e f;refine⟨a,g,j.mono ?_⟩;rw [c_,Nat.mul_succ];omega
end
open Go.Proofs.Tryz
open Pl (PV PW AE PO A8)
section
open Go.RowKit Go.Maps Go.Lib
variable {w w':World} {M:Q5} {L:Lo} {F:Fg} {N eb R:Nat} {W:PW} {sv:Value} {c:Array Value}
def Lo.with(L:Lo)(n:Nat):Lo:={L with nn:=n}
theorem FW.read{t:Sg}{ps:List (PV×PV)}(h:FW L M (fun _=>False) w F N W)(A:w.grownBy w' (some L.mb))(S:DK F.s t)(X:BM M w' t L.tb L.mb ps):FW (L.with t.ns.length) M (fun _=>False) w' {F with s:=t} N {W with pairs:=ps}:=by
 have r:Stp M w M w':=eL A h.CY.FV;obtain⟨B,c1,C⟩:=h.CY.B3.F6;obtain⟨es,c,E⟩:=h.map.F6;have G:=S.le;have l:Fg.Le F {F with s:=t}:=⟨G,fun _ _ x=>x,List.prefix_refl _,List.prefix_refl _⟩
 have d:∀{j:Nat} {f:Array Value} {T:TypeId},w.heap[j]?=some (.cells f T (0,0))->w'.heap[j]?=some (.cells f T (0,0)):=fun {j} {f} {T} H=>(A.block j (aB H) (fun e=>aGN C H (i_ e))).trans H;obtain⟨a,m,rfl⟩:=S;have n:∀{k:Nat} {y:AE},F.s.ns[k]?=some y->(F.s.ns++m)[k]?=some y:=fun z=>bS (List.prefix_append _ _) z;refine⟨X,h.NN.go r,h.TH,h.UE,?_,h.gn,fun k g z=>?_,h.ginj,fun y i Y=>?_,h.gpl,fun Z I=>?_,h.sn1,h.sn2,h.sgl,h.pql,h.pqi,fun i b q a1 a2 a3=>(h.pqa i b q a1 a2 a3).go r l,h.AG.mono (fun b x hx=>hx.go r l),⟨h.places.len,h.places.inj,fun i g o p hi hp=>?_⟩,fun k z=>z.elim,h.pr,h.gs.AQ r,h.JQ.AQ h.gs r,(bY h.gs r kT).trans h.gt,?_,h.tq,h.tc,rfl⟩
 ·obtain⟨D,h1,J⟩:=h.map.keep (A.block L.gb (aB E) (fun e=>h.UE (i_ e)));exact⟨D,h1,J.tidy,J.yes,J.no⟩
 ·obtain⟨K,v,c,y,O,P,q4,q5⟩:=h.gat k g z;refine⟨K,v,c,y,n O,d P,q4,q5.imp id ?_⟩;rintro⟨i,p,x1,x2,x3⟩;exact⟨i,p,x1,x2,x3.le G⟩
 ·obtain⟨⟨k,g,K,O⟩,P⟩:=h.gall y i Y;exact⟨⟨k,g,n K,O⟩,P⟩
 ·have q:=h.sit Z I;obtain⟨us,mv,gv,c',e,B,U,V,_⟩:=q.ex;exact q.go r q.mb q.sb ((d B).trans B.symm) ((d U).trans U.symm) ((d V).trans V.symm)
 ·obtain⟨Q,f,v,R,k3,k4⟩:=h.places.at_ i g o p hi hp;exact⟨Q,f,v,d R,k3,k4.le G⟩
 ·obtain⟨u,Q,R⟩:=h.ge;exact⟨u,(bY h.gs r kU).trans Q,R⟩
theorem FeAt.read{t:Sg}{ps:List (PV×PV)}(h:FeAt L M w F N W eb sv)(a:w.grownBy w' (some L.mb))(b:DK F.s t)(c:BM M w' t L.tb L.mb ps):FeAt (L.with t.ns.length) M w' {F with s:=t} N {W with pairs:=ps} eb sv :=⟨h.fw.read a b c,(a.block eb (aB h.blk) (fun e=>h.nm ((i_ e)▸h.fw.CY.FV))).trans h.blk,h.nm,h.lo⟩
theorem FeAt.out0(h:FeAt L M w F N W eb sv)(o:AE):FeAt L M w F N {W with out:=o} eb sv:=⟨h.fw.outW o,h.blk,h.nm,h.lo⟩
theorem FeAt.up{N':Nat}(h:FeAt L M w F N W eb sv)(a:N<=N'):FeAt L M w F N' W eb sv:=⟨h.fw.up a,h.blk,h.nm,h.lo⟩
theorem FeAt.sty(h:FeAt L M w F N W eb sv)(a:Sty w w')(b:w'.heap[eb]?=w.heap[eb]?):FeAt L M w' F N W eb sv:=⟨h.fw.sty a,b.trans h.blk,h.nm,h.lo⟩
def FI(L:Lo)(M:Q5)(w:World)(F:Fg)(N:Nat)(X:PW×Bool)(eb:Nat):Prop:=(X.2=false/\FeAt L M w F N X.1 eb .nilIface)\/(X.2=true/\∃W' es,FeAt L M w F N W' eb (aHH es))
theorem FI.any{X:PW×Bool}(h:FI L M w F N X eb):∃a b,FeAt L M w F N a eb b:=by
 rcases h with⟨_,h⟩ | ⟨_,a,c,h⟩
 ·exact⟨_,_,h⟩
 ·exact⟨_,_,h⟩
theorem Tryz.runMF(b:Nat)(w:World):(Go.method 534 33 (Q0 b) "Run").run prog w=.ok (176,(Q0 b)) w:=by kernel_rfl
theorem Tryz.runNF(b:Nat)(w:World):(Go.nilAhead 534 33 (Q0 b) "Run").run prog w=.ok (some false) w:=by kernel_rfl
theorem Tryz.ent_runF:Enters 176:=enters_of func176 t8 rfl
theorem aHZ(w:World)(eb:Nat)(tb:Value)(b:Q8)(n:Int)(o t:Q8)(c:Nat)(A:Value->World->Prop)(y:World->Prop)(B:∃o,tb=.pointer o)
  (l:Q2 31 #[.agg #[.string b,Q1 n],tb] (oE w b n) fun e a=>∃d,e=.returned (.tuple #[d,.nilIface])/\A d a)
  (m:∀d a,A d a->(∃T x,d=.iface T x)/\a.heap[w.heap.size]?=some (.cells #[.string b,Q1 n] TIn (0,0)))
  (f:∀d g,A d g->Q2 176 #[Q0 eb,d,Q1 n] g fun e a=>∃j,e=.returned (.tuple #[.string o,.string t,j])/\(Q2 32 #[j] a fun e h=>e=.returned (Q1 c)/\Q3 a h)/\y a)
  (G:∀a,y a->a.heap[w.heap.size+1]?=some (.cells #[Q1 0,.string ⟨#[]⟩,.string ⟨#[]⟩] FZ (0,0))) :
  Q2 17 #[.iface 33 (Q0 eb),.agg #[.string b,Q1 n],tb] w fun e a=>∃k z,e=.returned (.agg #[Q1 c,.string o,.string t])/\y k/\Q3 k z/\a=U8 z (w.heap.size+1) c o t:=by
 have C:=h_ l;have H:=h_ G;have D:=h_ m;have p:=h_ f;have K:=Tryz.runMF eb;have I:=Tryz.runNF eb;have E:=Tryz.ent_runF;unfold Enters at E;obtain⟨L,rfl⟩:=B;clear l G m f;go_enter func17,ntmps17
 go_upto_region 2 with(go_at_call 31;refine Calls.mono C ?_;rintro e g ⟨d,rfl,q⟩)
 obtain⟨⟨T,x,rfl⟩,r⟩:=D.out d g q;have M:g.cell? ⟨w.heap.size,1,none⟩=some (Q1 n):=aA r 1;have J:Hid (Q2 176 #[Q0 eb,.iface T x,Q1 n] g fun e a=>∃j,e=.returned (.tuple #[.string o,.string t,j])/\Hid (Q2 32 #[j] a fun e h=>e=.returned (Q1 c)/\Hid (Q3 a h))/\Hid (y a)):=p.out _ g q;clear r
 go_wp2_with (first
  | (go_at_call 176;refine Calls.mono J ?_;rintro e k ⟨j,rfl,F,s⟩)
  | (go_at_call 32;refine Calls.mono F ?_;rintro e z ⟨rfl,u⟩;have i:=H.out k s;obtain⟨N,O,P,Q,R,S,U,V,W⟩:=FA ((u.block _ (aB i)).trans i);clear i))
 (try simp only [Exit.inBlock,Exit.then])
 refine bodyPost_ret (v:=.agg #[Q1 c,.string o,.string t]) ?_ rfl ?_
 ·rw [aO rfl]
  go_simp
  try rfl
 exact⟨k,z,rfl,s,u,rfl⟩
theorem Sty.grown(g:w.grownBy w' (some R))(b:w.heap[R]?=some (.cells c FZ (0,0)))(j:8<=R):Sty w w':=by
 have a:∀k,k<w.heap.size->k≠R->w'.heap[k]?=w.heap[k]? := fun k d f=>g.block k d (fun e=>f (i_ e));have l:=aB b;refine⟨g.size,fun {k m T} h i=>?_,fun {k o n} h=>?_,fun k d=>a k x8 x8⟩
 ·exact(a k (aB h) (fun e=>by
   subst e;rw [b] at h;simp only [o_,Obj.cells.injEq] at h
   exact i (.inl h.2.1.symm))).trans h
 ·exact(a k (aB h) (fun e=>by subst e;rw [b] at h;cases h)).trans h
theorem nEng:TEng≠FZ:=by unfold TEng FZ;decide
theorem FeAt.styO(q:FeAt L M w F N W eb sv)(g:w.grownBy w' (some R))(a:w.heap[R]?=some (.cells c FZ (0,0)))(b:8<=R):FeAt L M w' F N W eb sv:=q.sty (Sty.grown g a b) (g.block eb (aB q.blk) (fun e=>by
  obtain rfl:=i_ e;have:=q.blk;rw [a] at this;simp only [o_,Obj.cells.injEq] at this
  exact nEng this.2.1.symm))
theorem FI.sty{X:PW×Bool}(h:FI L M w F N X eb)(g:w.grownBy w' (some R))(a:w.heap[R]?=some (.cells c FZ (0,0)))(b:8<=R):FI L M w' F N X eb:=by
 rcases h with⟨e,q⟩ | ⟨e,d,f,q⟩
 ·exact .inl ⟨e,q.styO g a b⟩
 ·exact .inr ⟨e,d,f,q.styO g a b⟩
theorem FI.below{X:PW×Bool}(h:FI L M w F N X eb)(a:Q3 w w'):FI L M w' F N X eb:=by
 rcases h with⟨e,q⟩ | ⟨e,b,c,q⟩
 ·exact .inl ⟨e,q.below a⟩
 ·exact .inr ⟨e,b,c,q.below a⟩
theorem FI.up{N':Nat}{X:PW×Bool}(h:FI L M w F N X eb)(a:N<=N'):FI L M w F N' X eb:=by
 rcases h with⟨e,q⟩ | ⟨e,b,c,q⟩
 ·exact .inl ⟨e,q.up a⟩
 ·exact .inr ⟨e,b,c,q.up a⟩
def AnsF(L:Lo)(M:Q5)(w:World)(N eb:Nat)(r:(PW×Bool)×PO)(e:Ending)(w':World):Prop :=e=.returned (oH r.2.code r.2.out r.2.val)/\∃n M' G,n<=L.nn+300/\Stp (Mn M (Xe eb)) w (Mn M' (Xe eb)) w'/\FI (L.with n) M' w' G (N+1010000) r.1 eb
theorem aHG(w:World)(R:Nat)(c:Int)(o t:Q8):w.grownBy (U8 w R c o t) (some R):=aC (aC (aE w R 0 _) (aE _ R 1 _)) (aE _ R 2 _)
theorem aJ6{M':Q5}{w3 w4:World}(d:Stp (Mn M (Xe eb)) w (Mn M' (Xe eb)) w3)(l:w.heap.size<=R)(f:Q3 w3 w4)(c:Int)(o t:Q8):Stp (Mn M (Xe eb)) w (Mn M' (Xe eb)) (U8 w4 R c o t):=by have g:=aHG w4 R c o t;have a:=d.trans (Stp.AA f);refine⟨g.os.trans a.os,g.tape.trans a.tape,g.output.trans a.output,t_ a.size g.size,fun k b h=>?_⟩;obtain⟨i,j⟩:=a.block k b h;exact⟨(g.block k (l_ b a.size) (fun e=>by have:=i_ e;omega)).trans i,j⟩
theorem aIS{M':Q5}{w3 w4:World}{X:PW×Bool}{cs:Array Value}(h:FI L M' w3 F N X eb)(d:Stp (Mn M (Xe eb)) w (Mn M' (Xe eb)) w3)(b:w3.heap[R]?=some (.cells cs FZ (0,0)))(e:w.heap.size<=R)(f:8<=w.heap.size)(a:Q3 w3 w4)(c:Int)(o t:Q8):FI L M' (U8 w4 R c o t) F N X eb/\Stp (Mn M (Xe eb)) w (Mn M' (Xe eb)) (U8 w4 R c o t) :=⟨(h.below a).sty (aHG w4 R c o t) ((a.block R (aB b)).trans b) x8,aJ6 d e a c o t⟩
theorem aLF(L:Lo)(M:Q5)(w:World)(F:Fg)(N eb t m:Nat)(X:PW×Bool)(b:Q8)(n:Int)(hF:FI L M w F N X eb)(ag:WW X.1 t)(ah:OV X.1 m)(ht:m+1011000<=6500000000000000000)(hz:L.nn+300<=BS)(hN:N+1010000<=9000000000000000000) :Q2 17 #[.iface 33 (Q0 eb),.agg #[.string b,Q1 n],Q0 L.tb] w fun e a=>AnsF L M w N eb (Pl.fans X (b.data.toList,n)) e a:=by
 obtain⟨a1,Y,a3,Z⟩:=ZF w b n;have an:=hF.below Z;obtain⟨Wn,sv,z⟩:=hF.any
 have C:∀j,w.heap.size<=j->¬Mn M (Xe eb) j:=fun j hj hm=>by
  rcases hm with hm | hm
  ·have:=z.fw.mlt j hm;omega
  ·have:=aB z.blk;have:j=eb:=hm;omega
 have ab:=z.fw.gs.size;have V:Stp (Mn M (Xe eb)) w (Mn M (Xe eb)) (oE w b n):=Stp.AA Z;have J:Mn M (Xe eb) L.mb:=.inl z.fw.CY.FV
 cases h:Pl.over n with
 | true =>
  rw [Pl.fans_over h];have y:=z.below Z;have A:=aB0 b n M (oE w b n) F.s L.tb L.mb Wn.pairs y.fw.CY y.fw.ge (by rw [z.fw.nl];exact hz);refine(gS w _ _ b n 6 (fun a=>Below (oE w b n).heap.size (oE w b n) a) ⟨_,_,rfl⟩ ⟨_,rfl⟩ (A.mono (fun e a d=>?_)) (fun a K=>?_)).mono (fun e a d=>?_)
  ·obtain⟨v,ev,rfl,⟨_,⟨o,rfl⟩,q⟩ | ⟨g,_⟩⟩:=d
   ·exact⟨v,o,rfl,q⟩
   ·rw [h] at g;cases g
  ·exact⟨(y.below K).fw.gt,(K.block _ x8).trans Y⟩
  ·obtain⟨R,w4,rfl,K,B,rfl⟩:=d;obtain⟨z1,z2⟩:=aIS (an.below K) (V.trans (Stp.AA K)) ((K.block _ x8).trans Y) x8 ab B (6:Nat) ⟨#[]⟩ ⟨#[]⟩;exact⟨rfl,L.nn,M,F,x8,z2,z1.up x8⟩
 | false =>
  by_cases hc:Pl.check b.data.toList=0
  ·cases S:Pl.BQ b.data.toList with
   | none =>
    have y:=z.below Z;have A:=aB0 b n M (oE w b n) F.s L.tb L.mb Wn.pairs y.fw.CY y.fw.ge (by rw [z.fw.nl];exact hz);refine(gS w _ _ b n 5 (fun _=>False) ⟨_,_,rfl⟩ ⟨_,rfl⟩ (A.mono (fun e a d=>?_)) (fun a K=>K.elim)).mono (fun e a d=>?_)
    ·obtain⟨v,ev,rfl,⟨g,_⟩ | ⟨_,_,u,_,_,⟨c,o,g,p,_⟩ | ⟨f,_,p,_⟩⟩⟩:=d
     ·rw [h] at g;cases g
     ·omega
     ·rw [S] at p;cases p
    ·obtain⟨R,w4,_,K,_⟩:=d;exact K.elim
   | some f =>
    have ao:0<=n/\n<=1000000:=by unfold Pl.over at h;simp at h;omega
    obtain⟨k,rfl⟩:∃k:Nat,n=(k:Int):=⟨n.toNat,x8⟩
    obtain⟨W,sp⟩:=X;rcases hF with⟨E,H⟩ | ⟨E,W',o,H⟩
    ·obtain rfl:sp=false:=E;rw [Pl.fans_runN h hc S];obtain⟨_,hP,hV⟩:=invZ_of (i:=(b.data.toList,(k:Int))) ag ah x8 f h hc S;obtain⟨hI,ac,ad⟩:=aM0 (i:=(b.data.toList,(k:Int))) rfl ag ah ht f h hc S;have y:=H.below Z;have A:=aB0 b (k:Int) M (oE w b (k:Int)) F.s L.tb L.mb W.pairs y.fw.CY y.fw.ge zQ4;simp only [Int.toNat_natCast] at hI hP hV ac;dsimp only at ad;have aa:=n_up (N:=N) ad ac
     have ai:∀Q D u,DK F.s u->FeAt (L.with u.ns.length) M D {F with s:=u} N (Pl.AR W f) eb .nilIface->CP M D u Q (Pl.settle f W.pairs.length).1->Q2 176 #[Q0 eb,Q,Q1 k] D fun e a=>FeQ (L.with u.ns.length) (A8 k (Pl.AR W f) (Pl.AV W f)) (N+1010000) M D {F with s:=u} eb e a:=fun Q D u q I O=>by
      refine p_feRun I O.iface ((p_fsRun rfl I.fw rfl O hI ac (t_ ad w8) (t_ aa hN) hP (fun e=>(hV e).2)).mono (fun e a hr=>?_));obtain⟨l,G,q1,q2,q3⟩:=hr;refine⟨l,G,q1,q2,?_⟩;have ae:∀{aj:PW},FW (L.with u.ns.length) l (fun _=>False) a G (N+IU (Pl.settle f W.pairs.length).1+(k+5000)) aj->FW (L.with u.ns.length) l (fun _=>False) a G (N+1010000) aj:=fun x=>x.up aa
      cases q3 with
      | val he S=>exact .val he (ae S)
      | err o x he hx h7 S=>exact .err o x he hx h7 (ae S)
      | spent o W' he S=>exact .spent o W' he (ae S)
     clear hI hP hV;generalize A8 k (Pl.AR W f) (Pl.AV W f)=r at *
     refine(aHZ w eb _ b (k:Int) ⟨r.W.out.toArray⟩ ⟨(Pl.told r).val.toArray⟩ r.e
      (fun Q D=>∃u,DK F.s u/\u.ns.length<=F.s.ns.length+300/\Stp (Mn M (Xe eb)) (oE w b (k:Int)) (Mn M (Xe eb)) D/\FeAt (L.with u.ns.length) M D {F with s:=u} N (Pl.AR W f) eb .nilIface/\CP M D u Q (Pl.settle f W.pairs.length).1)
      (fun R=>∃n l G,n<=L.nn+300/\Stp (Mn M (Xe eb)) (oE w b (k:Int)) (Mn l (Xe eb)) R/\FI (L.with n) l R G (N+1010000) (r.W,decide (r.e=7)) eb) ⟨_,rfl⟩ (A.mono (fun e a d=>?_)) (fun Q a d=>?_) (fun Q D d=>?_) (fun a d=>?_)).mono (fun e a d=>?_)
     ·obtain⟨v,ev,rfl,⟨g,_⟩ | ⟨_,P,u,U,hl,⟨c,o,g,p,_⟩ | ⟨f1,_,p,rfl,I,O⟩⟩⟩:=d
      ·rw [h] at g;cases g
      ·omega
      ·obtain rfl:f=f1:=by rw [S] at p;exact i_ p
       exact⟨v,rfl,u,U.1,hl,eL P J,(y.read P U.1 I).out0 [],O⟩
     ·obtain⟨u,_,_,q,_,O⟩:=d;exact⟨O.iface,(q.block _ x8 (C _ n_)).1.trans a1⟩
     ·obtain⟨u,g,p,q,I,O⟩:=d;refine(ai Q D u g I O).mono (fun e a af=>?_);obtain⟨l,G,q1,q2,q3⟩:=af;have hn:u.ns.length<=L.nn+300:=by rw [<- H.fw.nl];exact p
      rcases q3 with⟨E,q4,rfl⟩ | ⟨o,x,E,hx,h7,q4,rfl⟩ | ⟨o,W',E,q4,rfl⟩
      ·refine⟨.nilIface,?_,?_,_,l,G,hn,q.trans q1,.inl ⟨decide_eq_false x8,q4⟩⟩
       ·unfold Pl.told;rw [if_pos E]
       ·have:=sL a;rw [E];exact this
      ·subst E;refine⟨aY o (r.e:Nat),?_,aCA o _ a q4.fw.gt,_,l,G,hn,q.trans q1,.inl ⟨decide_eq_false h7,q4⟩⟩;unfold Pl.told;rw [if_neg hx]
      ·refine⟨aY o (7:Nat),?_,?_,_,l,G,hn,q.trans q1,.inr ⟨decide_eq_true E,W',o,q4⟩⟩
       ·unfold Pl.told;rw [if_neg x8];rfl
       ·rw [E];exact aCA o 7 a q4.fw.gt
     ·exact zL3
     ·obtain⟨R,w4,rfl,⟨n,l,G,g,p,q⟩,B,rfl⟩:=d;obtain⟨z1,z2⟩:=aIS q (V.trans p) ((p.block _ x8 (C _ (Nat.le_succ _))).1.trans Y) x8 ab B (r.e:Nat) ⟨r.W.out.toArray⟩ ⟨(Pl.told r).val.toArray⟩;exact⟨rfl,n,l,G,g,z2,z1⟩
    ·obtain rfl:sp=true:=E;rw [Pl.fans_spent h hc];have y:=H.below Z;have A:=aB0 b (k:Int) M (oE w b (k:Int)) F.s L.tb L.mb W'.pairs y.fw.CY y.fw.ge zQ4
     refine(aHZ w eb _ b (k:Int) ⟨#[]⟩ ⟨#[]⟩ 7
      (fun Q D=>(∃T x,Q=.iface T x)/\∃u W2,u.ns.length<=F.s.ns.length+300/\Stp (Mn M (Xe eb)) (oE w b (k:Int)) (Mn M (Xe eb)) D/\FeAt (L.with u.ns.length) M D {F with s:=u} N W2 eb (aHH o))
      (fun R=>∃n l G,n<=L.nn+300/\Stp (Mn M (Xe eb)) (oE w b (k:Int)) (Mn l (Xe eb)) R/\FI (L.with n) l R G (N+1010000) (W,true) eb) ⟨_,rfl⟩ (A.mono (fun e a d=>?_)) (fun Q a d=>?_) (fun Q D d=>?_) (fun a d=>?_)).mono (fun e a d=>?_)
     ·obtain⟨v,ev,rfl,⟨g,_⟩ | ⟨_,P,u,U,hl,⟨c,o,g,p,_⟩ | ⟨f1,_,p,rfl,I,O⟩⟩⟩:=d
      ·rw [h] at g;cases g
      ·omega
      ·exact⟨v,rfl,O.iface,u,_,hl,eL P J,y.read P U.1 I⟩
     ·obtain⟨h0,u,_,_,q,_⟩:=d;exact⟨h0,(q.block _ x8 (C _ n_)).1.trans a1⟩
     ·obtain⟨⟨T,x,rfl⟩,u,W2,p,q,I⟩:=d;have hn:u.ns.length<=L.nn+300:=by rw [<- H.fw.nl];exact p
      refine(aK7 D eb _ (k:Int) T x o I.blk).mono (fun e a af=>?_);obtain⟨rfl,K⟩:=af;have O:=I.below K;exact⟨aHH o,rfl,p_code2 aIR o 7 a O.fw.gt,_,M,_,hn,q.trans (Stp.AA K),.inr ⟨rfl,W2,o,O.up x8⟩⟩
     ·exact zL3
     ·obtain⟨R,w4,rfl,⟨n,l,G,g,p,q⟩,B,rfl⟩:=d;obtain⟨z1,z2⟩:=aIS q (V.trans p) ((p.block _ x8 (C _ (Nat.le_succ _))).1.trans Y) x8 ab B (7:Nat) ⟨#[]⟩ ⟨#[]⟩;exact⟨rfl,n,l,G,g,z2,z1⟩
  ·rw [Pl.fans_check h hc];have y:=z.below Z
   have ak:∀{W0:PW} {sv:Value},FeAt L M w F N W0 eb sv->Q2 17 #[.iface 33 (Q0 eb),.agg #[.string b,Q1 n],Q0 L.tb] w fun e a=>e=.returned (oH (Pl.check b.data.toList) [] [])/\∃n l G,n<=L.nn+300/\Stp (Mn M (Xe eb)) w (Mn l (Xe eb)) a/\FeAt (L.with n) l a G (N+1010000) W0 eb sv:=fun {W0 sv} H=>by
    have y:=H.below Z;have A:=aB0 b n M (oE w b n) F.s L.tb L.mb W0.pairs y.fw.CY y.fw.ge zQ4;refine(gS w _ _ b n (Pl.check b.data.toList) (fun a=>∃u,DK F.s u/\u.ns.length<=F.s.ns.length+300/\(oE w b n).grownBy a (some L.mb)/\BM M a u L.tb L.mb W0.pairs) ⟨_,_,rfl⟩ ⟨_,rfl⟩ (A.mono (fun e a d=>?_)) (fun a d=>?_)).mono (fun e a d=>?_)
    ·obtain⟨v,ev,rfl,⟨g,_⟩ | ⟨_,P,u,U,hl,⟨c,o,g,p,_,rfl,_,h6⟩ | ⟨f1,g,_⟩⟩⟩:=d
     ·rw [h] at g;cases g
     ·exact⟨v,o,by rw [g],u,U.1,hl,P,h6⟩
     ·exact absurd g hc
    ·obtain⟨u,U,hl,P,hR⟩:=d;exact⟨(y.read P U hR).fw.gt,((eL P J).block _ x8 (C _ (Nat.le_succ _))).1.trans Y⟩
    ·obtain⟨R,w4,rfl,⟨u,U,hl,P,hR⟩,B,rfl⟩:=d;have al:Stp (Mn M (Xe eb)) (oE w b n) (Mn M (Xe eb)) R:=eL P J;have hn:u.ns.length<=L.nn+300:=by rw [<- H.fw.nl];exact hl
     have q:=y.read P U hR;have am:=(al.block _ x8 (C _ (Nat.le_succ _))).1.trans Y;exact⟨rfl,_,M,_,hn,aJ6 (V.trans al) x8 B _ _ _,((q.below B).styO (aHG w4 _ _ _ _) ((B.block _ (aB am)).trans am) x8).up x8⟩
   rcases hF with⟨E,H⟩ | ⟨E,W',o,H⟩
   ·refine(ak H).mono (fun e a d=>?_);obtain⟨g,n,l,G,p,q,I⟩:=d;exact⟨g,n,l,G,p,q,.inl ⟨E,I⟩⟩
   ·refine(ak H).mono (fun e a d=>?_);obtain⟨g,n,l,G,p,q,I⟩:=d;exact⟨g,n,l,G,p,q,.inr ⟨E,W',o,I⟩⟩
end
open Pl (AW)
section
def fsX(ins:List (Q8×Int))(k:Nat):(PW×Bool)×List PO:=Pl.fses (AW,false) ((ins.take k).map B5)
theorem aM2{ins:List (Q8×Int)}{k:Nat}{i:Q8×Int}(h:ins[k]?=some i):fsX ins (k+1)=((Pl.fans (fsX ins k).1 (B5 i)).1,(fsX ins k).2++[(Pl.fans (fsX ins k).1 (B5 i)).2]):=by unfold fsX;rw [List.take_add_one,h,Option.toList_some,List.map_append,List.map_cons,List.map_nil,Pl.fses_snoc]
theorem aN6(ins:List (Q8×Int)){k:Nat}(a:k<=ins.length):(fsX ins k).2.length=k:=by unfold fsX;rw [Pl.fses_len,List.length_map,List.length_take];omega
end
section
open Go.RowKit Go.Lib Go.Maps
variable {k n:Nat}
theorem fsX_ww(ins:List (Q8×Int))(b:k<=ins.length):∃t,WW (fsX ins k).1.1 t/\OV (fsX ins k).1.1 (13+1001000*k):=by have:=fses_sm ((ins.take k).map B5) (AW,false) 13 13 vP ⟨w8,w8,fun l a=>by have e:Pl.AW.AG=[]:=rfl;rw [e] at a;cases a⟩;rw [List.length_map,List.length_take,Nat.min_eq_left b] at this;exact this
structure RfI(L:Lo)(M0:Q5)(w0 wr:World)(M:Q5)(n:Nat)(F:Fg)(eb g:Nat)(ins:List (Q8×Int))(k:Nat):Prop where
 fi:FI (L.with n) M wr F (13+1010000*k) (fsX ins k).1 eb
 AQ:Stp (Mn M0 (Xe eb)) w0 (Mn M (Xe eb)) wr
 ns:n<=313+300*k
 ng:¬Mn M (Xe eb) g
 gw:w0.heap.size<=g
 row:∃cur,wr.heap[g]?=some (.cells cur FZ (0,0))/\cur.size=ins.length*3/\∀(j:Nat)(o:PO),(fsX ins k).2[j]?=some o->cur[j*3]?=some (Q1 o.code)/\cur[j*3+1]?=some (.string ⟨o.out.toArray⟩)/\cur[j*3+2]?=some (.string ⟨o.val.toArray⟩)
theorem RfI.next{L:Lo}{M0 M M2:Q5}{w0 wr w2:World}{n2:Nat}{F F2:Fg}{eb g:Nat}{ins:List (Q8×Int)}{i:Q8×Int}{o1:Obj}(h:RfI L M0 w0 wr M n F eb g ins k)(hi:ins[k]?=some i)(B:8<=w0.heap.size)
  (y:Stp (Mn M (Xe eb)) (wr.alloc o1) (Mn M2 (Xe eb)) w2) (C:n2<=n+300) (D:FI (L.with n2) M2 w2 F2 (13+1010000*k+1010000) (Pl.fans (fsX ins k).1 (B5 i)).1 eb) :
  RfI L M0 w0 (RE w2 g (k*3) (Pl.fans (fsX ins k).1 (B5 i)).2) M2 n2 F2 eb g ins (k+1):=by
 have t:n2<=313+300*(k+1):=t_ C (t_ (Nat.add_le_add_right h.ns 300) (Nat.le_of_eq (by rw [Nat.mul_succ,Nat.add_assoc])));obtain⟨E,z,G,H⟩:=h.row;have u:=aB z;have v:=(s_ hi).1;have A:Q3 wr (wr.alloc o1):=b_;obtain⟨I,J⟩:=((Stp.AA (M:=Mn M (Xe eb)) A).trans y).block g u h.ng;have p:=I.trans z;have d:=aN6 ins (Nat.le_of_lt v);have c:=aM2 hi;generalize K:(Pl.fans (fsX ins k).1 (B5 i)).2=f at *;have m:w2.grownBy (RE w2 g (k*3) f) (some g):=aC (aC (aE w2 g _ _) (aE _ g _ _)) (aE _ g _ _);have a:=h.AQ.trans ((Stp.AA (M:=Mn M (Xe eb)) A).trans y);have w:=h.gw;have q:∀j,j<w0.heap.size->j<w2.heap.size:=fun j l=>l_ l a.size;have r:Stp (Mn M0 (Xe eb)) w0 (Mn M2 (Xe eb)) (RE w2 g (k*3) f):=by refine⟨m.os.trans a.os,m.tape.trans a.tape,m.output.trans a.output,t_ a.size m.size,fun j l N=>?_⟩;obtain⟨O,P⟩:=a.block j l N;exact⟨(m.block j (q j l) (fun e=>by have:=i_ e;omega)).trans O,P⟩
 have s:=aD (aD (aD p (k*3) (.int .i64 (f.code:Int))) (k*3+1) (.string ⟨f.out.toArray⟩)) (k*3+2) (.string ⟨f.val.toArray⟩);refine⟨?_,r,t,J,w,_,s,by simpa using G,fun j o l=>?_⟩
 ·rw [c,show 13+1010000*(k+1)=13+1010000*k+1010000 from by rw [Nat.mul_succ,Nat.add_assoc]];exact D.sty m p x8
 ·rw [c] at l;have b:((fsX ins k).2++[f])[j]?=some o:=l;simp only [Array.getElem?_setIfInBounds,Array.size_setIfInBounds];rcases Nat.lt_trichotomy j k with x | rfl | x
  ·rw [List.getElem?_append_left x8] at b;obtain⟨Q,R,S⟩:=H j o b;refine⟨?_,?_,?_⟩
   ·rw [if_neg x8,if_neg x8,if_neg x8];exact Q
   ·rw [if_neg x8,if_neg x8,if_neg x8];exact R
   ·rw [if_neg x8,if_neg x8,if_neg x8];exact S
  ·rw [List.getElem?_append_right x8,d,Nat.sub_self] at b;obtain rfl:f=o:=i_ b;refine⟨?_,?_,?_⟩
   ·rw [if_neg x8,if_neg x8,if_pos rfl,if_pos x8]
   ·rw [if_neg x8,if_pos rfl,if_pos x8]
   ·rw [if_pos rfl,if_pos x8]
  ·rw [List.getElem?_append_right x8,d,List.getElem?_eq_none r7] at b
   cases b
theorem RfI.out{L:Lo}{M0 M:Q5}{w0 wr:World}{F:Fg}{eb g:Nat}{ins:List (Q8×Int)}(h:RfI L M0 w0 wr M n F eb g ins ins.length):KB wr (.slice (some ⟨g,0,none⟩) ins.length ins.length) (Pl.fses (AW,false) (ins.map B5)).2:=by
 obtain⟨d,a,_,b⟩:=h.row;have e:(fsX ins ins.length)=Pl.fses (AW,false) (ins.map B5):=by unfold fsX;rw [List.take_length]
 rw [e] at b;have c:(Pl.fses (AW,false) (ins.map B5)).2.length=ins.length:=by rw [Pl.fses_len,List.length_map]
 refine⟨some ⟨g,0,none⟩,ins.length,by rw [c],by rw [c];exact n_,fun k o f=>?_⟩;obtain⟨i,j,l⟩:=b k o f;exact⟨g,rfl,aB a,(aA a _).trans i,(aA a _).trans j,(aA a _).trans l⟩
theorem aLT(b:k<=n)(a:n<=GK):13+1001000*k+1011000<=6500000000000000000/\13+1010000*k+1010000<=9000000000000000000:=by unfold GK at a;omega
theorem p_runF(L:Lo)(l:Q5)(w:World)(R:Fg)(eb:Nat)(v:Value)(ins:List (Q8×Int))(X:FI L l w R 13 (AW,false) eb)(F:L.nn<=313)(hS:JF w v ins)(G:ins≠[]->∀g a n c,v=.slice (some ⟨g,a,none⟩) n c->¬Mn l (Xe eb) g)(Y:ins.length<=GK) :Q2 8 #[.iface 33 (Q0 eb),v,Q0 L.tb] w fun e S=>∃Z M' n F',e=.returned Z/\RfI L l w S M' n F' eb w.heap.size ins ins.length/\KB S Z (Pl.fses (AW,false) (ins.map B5)).2/\Z=.slice (some ⟨w.heap.size,0,none⟩) ins.length ins.length:=by
 obtain⟨i0,aa,ab,ac,ad⟩:=info_parts Tryz.YL;have HW:Hid (FI L l w R 13 (AW,false) eb/\L.nn<=313):=⟨X,F⟩
 have H:Hid (8<=w.heap.size/\¬Mn l (Xe eb) w.heap.size):=by obtain⟨W',sv,h⟩:=X.any;exact⟨h.fw.gs.size,fun hm=>hm.elim (fun x=>Nat.lt_irrefl _ (h.fw.mlt _ x)) (fun x=>by have:=aB h.blk;have:w.heap.size=eb:=x;omega)⟩
 obtain⟨ao,aq,rfl,al,m⟩:=hS
 have HC:=(show Hid (∀(k:Nat)(i:Q8×Int),ins[k]?=some i->∃g a,ao=some ⟨g,a,none⟩/\g<w.heap.size/\¬Mn l (Xe eb) g/\w.cell? ⟨g,a+k*2,none⟩=some (.string i.1)/\w.cell? ⟨g,a+k*2+1,none⟩=some (Q1 i.2)) from fun k i A=>by
  obtain⟨g,a,e,I,h2,h3⟩:=m k i A
  exact⟨g,a,e,I,G (fun e0=>by rw [e0] at A;cases A) g a _ _ (by rw [e]),h2,h3⟩)
 have am:¬((ins.length:Int)<0):=by omega
 have HL:=h_ Y;have hL:ins.length<=5870000000000:=Y;have p:∃T,L.tb=T:=⟨_,rfl⟩
 obtain⟨T,p⟩:=p;rw [p];have ae:=h_ p;clear X m G F Y p;go_enter func8,ntmps8;go_wp2_with (first | (at_make;refine wpList_make_full _ rfl _ _ 24 rfl w.heap.size 46 i0 (.agg #[Q1 0,.string ⟨#[]⟩,.string ⟨#[]⟩]) 3 underlying24 aa ab ac .i64 .i64 (ins.length:Int) (ins.length:Int) ins.length rfl rfl rfl rfl (by rw [ad];omega) o6 n_ ?_;intro w1 q f))
 have B:Hid (RfI L l w w1 l L.nn R eb w.heap.size ins 0):=by
  have J:Q3 w w1:=cS f;refine⟨HW.1.below J,Stp.AA J,HW.2,H.2,n_,?_⟩;rcases q.2 with⟨U,_⟩ | ⟨g,an,d,U,_,hg,_,_,af,_⟩
  ·cases U
  ·simp only [Value.slice.injEq,o_,Addr.mk.injEq,true_and,and_true] at U;obtain⟨e1,e2⟩:=U;subst e1;subst e2;exact⟨d,hg,af,fun j o hj=>by simp [fsX,Pl.fses] at hj⟩
 clear q f
 go_loopw [15] (fun i wr=>∃(k:Nat)(y:Q5)(z:Nat)(K:Fg),k<=ins.length/\i=.int .i64 (k:Int)/\Hid (RfI L l w wr y z K eb w.heap.size ins k)) (fun i _=>ins.length-(RowKit.intOf i).toNat)
 case atStart=>exact⟨0,l,L.nn,R,Nat.zero_le _,rfl,B⟩
 case round =>
  obtain⟨k,y,z,K,V,rfl,u⟩:=hrel;by_cases ag:k<ins.length
  ·obtain⟨i,A⟩:∃i,ins[k]?=some i:=⟨ins[k],g_ ag⟩
   obtain⟨g,a,rfl,hg,ah,N,O⟩:=HC.out k i A;have C:=(u.AQ.block g hg ah).1;have c0:wr.cell? ⟨g,a+k*2,none⟩=some (.string i.1):=(World.cell?_of_block (w:=w) C).trans N;have c1:wr.cell? ⟨g,a+k*2+1,none⟩=some (Q1 i.2):=(World.cell?_of_block (w:=w) C).trans O;have HX:=h_ A
   have P:=(show Hid (∀o:Obj,Q2 17 #[.iface 33 (Q0 eb),.agg #[.string i.1,Q1 i.2],Q0 T] (wr.alloc o) fun e S=>AnsF (L.with z) y (wr.alloc o) (13+1010000*k) eb (Pl.fans (fsX ins k).1 (B5 i)) e S) from fun o=>by
    obtain⟨t,ai,aj⟩:=fsX_ww ins V;have:=aLF (L.with z) y (wr.alloc o) K (13+1010000*k) eb t _ _ i.1 i.2 (u.fi.below b_) ai aj (aLT V HL).1 (XZ u.ns V HL) (aLT V HL).2;rw [show(L.with z).tb=T from ae.out] at this
    exact this)
   have HN:Hid (∀(o:Obj)(r:World)(s:Q5)(D:Nat)(E:Fg),Stp (Mn y (Xe eb)) (wr.alloc o) (Mn s (Xe eb)) r->D<=z+300->FI (L.with D) s r E (13+1010000*k+1010000) (Pl.fans (fsX ins k).1 (B5 i)).1 eb->RfI L l w (RE r w.heap.size (k*3) (Pl.fans (fsX ins k).1 (B5 i)).2) s D E eb w.heap.size ins (k+1)):=fun o r s D E I h2 h3=>u.next HX H.1 I h2 h3
   have HB:=(show Hid (∀(o:Obj)(r:World)(s:Q5),Stp (Mn y (Xe eb)) (wr.alloc o) (Mn s (Xe eb)) r->∃d,r.heap[w.heap.size]?=some (.cells d FZ (0,0))/\k*3+2<d.size) from fun o r s I=>by
    obtain⟨d,Q,W,_⟩:=u.row;have hB:Q3 wr (wr.alloc o):=b_
    exact⟨d,(((Stp.AA (M:=Mn y (Xe eb)) hB).trans I).block _ (aB Q) u.ng).1.trans Q,by rw [W];omega⟩)
   have ap:(k:Int)<(ins.length:Int):=by omega
   obtain⟨b,n⟩:=i;dsimp only at c0 c1 P;clear A N O C u B;go_wp2_with (go_at_call 17;refine(P _).mono ?_;rintro e r ⟨rfl,D,s,E,k1,k3,k4⟩;obtain⟨d,Q,W⟩:=HB.out _ r s k3;obtain⟨x0,x1,x2,t0,u0,r1,r2⟩:=set3at Q W;have ak:=(show Hid (RfI _ _ _ _ _ _ _ _ _ _ _) from HN.out _ r s D E k3 k1 k4);clear k1 k3 k4 Q W HN;generalize (Pl.fans (fsX ins k).1 (B5 (b,n))).2=po at *;unfold oH)
   go_roundw
   case rel=>exact⟨k+1,s,D,E,x8,k7,ak⟩
   case measure=>simp [RowKit.intOf];omega
  ·obtain rfl:k=ins.length:=by omega
   have HO:=(show Hid (KB wr (.slice (some ⟨w.heap.size,0,none⟩) ins.length ins.length) (Pl.fses (AW,false) (ins.map B5)).2/\RfI L l w wr y z K eb w.heap.size ins ins.length) from⟨u.out.out,u⟩)
   clear u B;go_wp2_with fail;go_ret;exact⟨_,y,z,K,rfl,HO.2,HO.1,rfl⟩
theorem p_fast2(w:World)(v:Value)(ins:List (Q8×Int))(H:F8 w v ins)(I:ins.length<=GK)(l:8<=w.heap.size)(i:Lib.TabIs prog w oS .u64 Lib.pow10Tab)(hp:EH w)(r:GT w)(s:GE w) :Q2 5 #[v] w fun e b=>∃c,e=.returned c/\Q3 w b/\KB b c (Pl.fses (AW,false) (ins.map B5)).2/\∃g,w.heap.size<=g/\c=.slice (some ⟨g,0,none⟩) ins.length ins.length:=by
 have m:Gs w (fun _=>False):=⟨l,fun _ _ h=>h,i⟩
 have N:=h_ (sE w);have O:Hid (∀d,Q3 w d/\IW d (w.heap.size+1) w.heap.size []->Q2 9 #[Q0 (w.heap.size+1)] d fun e b=>∃f,e=.returned (Q0 f)/\Hid (∃L M F,L.tb=w.heap.size+1/\L.nn<=313/\FI L M b F 13 (AW,false) f/\Stp (fun _=>False) w (Mn M (Xe f)) b)):=fun d ⟨A,B⟩=>by refine(p_newFE d _ (fun J o=>J=d.heap.size+1/\NwQ d (w.heap.size+1) w.heap.size [] o) ((p_newFS d _ _ [] w9 List.nodup_nil B (t_ l A.size) (fun b P=>hp.AQ m ((Stp.AA A).trans (Stp.AA P)))).mono (fun e o p=>⟨_,p.1,rfl,p.2⟩))).mono (fun e b p=>?_);obtain⟨J,o,rfl,rfl,rfl,p⟩:=p;obtain⟨gl,Q,j⟩:=new_fs A m hp r s n_ x8 B.lt.1 B.lt.2 p;have C:Q3 o (o.alloc (.cells #[pt (d.heap.size+1),.nilIface] TEng)):=b_;have a:=j.trans (Stp.AA C);refine⟨_,rfl,_,_,_,rfl,t_ (aBB [] 13) w8,.inl ⟨rfl,FeAt.new Q⟩,⟨a.os,a.tape,a.output,a.size,fun k u z=>⟨(a.block k u z).1,fun x=>x.elim (a.block k u z).2 (fun y=>?_)⟩⟩⟩;have:=j.size;have:k=o.heap.size:=y;omega
 have R:Hid (∀f q,(∃L M F,L.tb=w.heap.size+1/\L.nn<=313/\FI L M q F 13 (AW,false) f/\Stp (fun _=>False) w (Mn M (Xe f)) q)->Q2 8 #[.iface 33 (Q0 f),v,Q0 (w.heap.size+1)] q fun e b=>∃c,e=.returned c/\Hid (Q3 w b/\KB b c (Pl.fses (AW,false) (ins.map B5)).2/\∃g,w.heap.size<=g/\c=.slice (some ⟨g,0,none⟩) ins.length ins.length)):=fun f q ⟨L,M,F,S,z,T,D⟩=>by obtain⟨U,V⟩:=WV (scr_in H) D (fun _ h=>h);have K:=p_runF L M q F f v ins T z U V I;rw [S] at K;refine K.mono (fun e b W=>?_);obtain⟨c,M',n,F',X,Y,Z,e4⟩:=W;have j:=D.trans Y.AQ;exact⟨c,X,⟨j.os,j.tape,j.output,j.size,fun k u=>(j.block k u (fun h=>h)).1⟩,Z,_,D.size,e4⟩
 obtain⟨ao,aa,rfl,_,_⟩:=H;clear l i hp r s m I;go_enter func5,ntmps5
 go_wp2_with (first
  | (go_at_call 7;refine Calls.mono N ?_;rintro e d ⟨rfl,E⟩)
  | (go_at_call 9;refine Calls.mono (O _ E) ?_;rintro e q ⟨f,rfl,G⟩)
  | (go_at_call 8;refine Calls.mono (R _ _ G) ?_;rintro e w4 ⟨c,rfl,t⟩))
 go_ret;exact⟨c,rfl,t.1,t.2⟩
theorem p_fast(w:World)(v:Value)(ins:List (Q8×Int))(h:F8 w v ins)(i:ins.length<=GK)(c:8<=w.heap.size)(a:Lib.TabIs prog w oS .u64 Lib.pow10Tab)(hp:EH w)(d:GT w)(f:GE w) :Q2 5 #[v] w fun e g=>∃b,e=.returned b/\Q3 w g/\KB g b (Pl.fses (AW,false) (ins.map B5)).2:=(p_fast2 w v ins h i c a hp d f).mono (fun _ _ ⟨b,j,k,l,_⟩=>⟨b,j,k,l⟩)
end
end Go.Proofs.YtbgghmjmcapmlaaGreatDoor
