import Derived.Test.YtieooapcfpimlaaGreatDoorL36
namespace Go.Proofs.YtieooapcfpimlaaGreatDoor
set_option maxHeartbeats 4000000
set_option maxRecDepth 100000
open Go.Proofs.Tryz
open Pl (PV PW PS PF CW AE AO AU)
section
open Go.RowKit Go.Maps Go.Lib
variable {w w':World} {M O P M':Nat->Prop} {N k g gb:Nat} {v av:Value}
def Cr(M:Nat->Prop)(w:World)(F:Fg)(k:Nat):Prop:=M k/\(∃cur T,w.heap[k]?=some (.cells cur T (0,0))/\((T=TCod\/T=TInt)\/T=TFMc))/\∀st∈F.cs,st.mb≠k/\st.sb≠k
theorem tCs{T:TypeId}(h:(T=TCod\/T=TInt)\/T=TFMc):B9≠T/\TGlb≠T:=by rcases h with(rfl | rfl) | rfl<;>decide
theorem FW.codeSet{L:Lo}{F:Fg}{W:PW}(h:FW L M O w F N W)(I:Cr M w F k)(o:Nat)(v:Value) :FW L M O (w.setCell ⟨k,o,none⟩ v) F N W/\Stp M w M (w.setCell ⟨k,o,none⟩ v)/\∀b,b≠k->(w.setCell ⟨k,o,none⟩ v).heap[b]?=w.heap[b]? := by
 obtain⟨C,⟨J,T,r,K⟩,z⟩:=I;obtain⟨D,E⟩:=tCs K;have a:=Och.set r o v;have l:=a.AQ C;obtain⟨es,n,A⟩:=h.map.F6;obtain⟨P,n2,s⟩:=h.CY.B3.F6;have B:=Fg.Le.refl F;refine⟨⟨h.CY.och a C (aGN s r),h.NN.go l,h.TH,h.UE,h.map.keep (a.other _ (fun e=>aGN A r e.symm)),h.gn,fun j G Q=>?_,h.ginj,h.gall,h.gpl,fun u d=>?_,h.sn1,h.sn2,h.sgl,h.pql,h.pqi,fun i b q t m y=>(h.pqa i b q t m y).go l B,h.AG.mono (fun b x R=>R.go l B),⟨h.places.len,h.places.inj,fun i g S p U V=>?_⟩,fun j X=>?_,h.pr,h.gs.AQ l,h.JQ.AQ h.gs l,(bY h.gs l kT).trans h.gt,?_,h.tq,h.tc,h.nl⟩,l,fun b Y=>a.other b Y⟩
 ·obtain⟨t,Z,c,nm,m,y,h4⟩:=h.gat j G Q;exact⟨t,Z,c,nm,m,(a.other G (aGF y r E)).trans y,h4⟩
 ·obtain⟨us,mv,gv,c,e,e1,e2,e3,_⟩:=(h.sit u d).ex;exact(h.sit u d).go l (h.sit u d).mb (h.sit u d).sb (a.other _ (z u d).1) (a.other _ (z u d).2) (a.other _ (aGF e3 r E))
 ·obtain⟨k1,f,v2,H,k3⟩:=h.places.at_ i g S p U V;exact⟨k1,f,v2,(a.other g (aGF H r D)).trans H,k3⟩
 ·obtain⟨t,⟨f,m⟩,y⟩:=h.oth j X;exact⟨t,⟨f,(a.other j (aGF m r D)).trans m⟩,y⟩
 ·obtain⟨v,t,m⟩:=h.ge;exact⟨v,(bY h.gs l kU).trans t,m⟩
def Ms(M:Nat->Prop)(k j:Nat):Prop:=M j/\j≠k
theorem Stp.shut(M:Nat->Prop)(k:Nat)(w:World):Stp M w (Ms M k) w:=⟨rfl,rfl,rfl,n_,fun _ _ a=>⟨rfl,fun x=>a x.1⟩⟩
theorem FW.codeEnd{L:Lo}{F:Fg}{W:PW}(h:FW L M O w F N W)(v:Cr M w F k):FW L (Ms M k) O w F N W:=by
 obtain⟨hm,⟨m,T,n,H⟩,r⟩:=v;obtain⟨C,I⟩:=tCs H;have f:=Stp.shut M k w;have D:=Fg.Le.refl F;obtain⟨es,nn,s⟩:=h.map.F6;obtain⟨J,n2,d⟩:=h.CY.B3.F6;refine⟨⟨h.CY.B3,h.CY.pairs.AQ f,⟨h.CY.FV,(aGN d n).symm⟩,fun x=>h.CY.JJ x.1,fun k v=>h.CY.mlt k v.1⟩,h.NN.go f,⟨h.TH,(aGN s n).symm⟩,h.UE,h.map,h.gn,fun j g y=>?_,h.ginj,h.gall,h.gpl,fun l a=>?_,h.sn1,h.sn2,h.sgl,h.pql,h.pqi,fun i b q z A u=>(h.pqa i b q z A u).go f D,h.AG.mono (fun b x K=>K.go f D),⟨h.places.len,h.places.inj,fun i g o p B P=>?_⟩,fun j y=>?_,h.pr,h.gs.AQ f,h.JQ,h.gt,h.ge,h.tq,h.tc,h.nl⟩
 ·obtain⟨z,Q,c,R,A,u,S⟩:=h.gat j g y;exact⟨⟨z,aGF u n I⟩,Q,c,R,A,u,S⟩
 ·obtain⟨us,mv,gv,c,e,e1,e2,e3,_⟩:=(h.sit l a).ex;exact(h.sit l a).go f ⟨(h.sit l a).mb,(r l a).1⟩ ⟨(h.sit l a).sb,(r l a).2⟩ rfl rfl rfl
 ·obtain⟨U,m,x,E,V,X⟩:=h.places.at_ i g o p B P;exact⟨⟨U,aGF E n C⟩,m,x,E,V,X⟩
 ·obtain⟨Y,⟨t,G⟩,Z⟩:=h.oth j y;exact⟨⟨Y,aGF G n C⟩,⟨t,G⟩,Z⟩
theorem FW.more{L:Lo}{F:Fg}{W:PW}(h:FW L M O w F N W)(a:Below w.heap.size w w')(X:Nat->Prop)(b:∀k,X k->w.heap.size<=k)(c:∀k,X k->k<w'.heap.size):FW L (Mn M X) O w' F N W/\Stp M w (Mn M X) w':=by have:=Mf.wide (M:=M) X b a c;exact⟨h.mf this,this.AQ⟩
structure Cmp(L:Lo)(M O P:Nat->Prop)(w:World)(F:Fg)(W:PW)(M':Nat->Prop)(w':World)(G:Fg)(N:Nat):Prop where
 AQ:Stp M w M' w'
 le:Fg.Le F G
 s:G.s=F.s
 fw:FW L M' O w' G N W
 oth:∀b,O b->w'.heap[b]?=w.heap[b]?
 row:∀k,P k->w'.heap[k]?=w.heap[k]?
 cr:∀k,P k->Cr M' w' G k
theorem Cmp.refl{L:Lo}{F:Fg}{W:PW}(h:FW L M O w F N W)(hp:∀k,P k->Cr M w F k):Cmp L M O P w F W M w F N:=⟨Stp.refl _ _,Fg.Le.refl _,rfl,h,fun _ _=>rfl,fun _ _=>rfl,hp⟩
theorem Cmp.trans{L:Lo}{M1 M2 M3:Nat->Prop}{a b c:World}{F G H:Fg}{W:PW}{N':Nat}(h:Cmp L M1 O P a F W M2 b G N)(k:Cmp L M2 O P b G W M3 c H N'):Cmp L M1 O P a F W M3 c H N' :=⟨h.AQ.trans k.AQ,h.le.trans k.le,k.s.trans h.s,k.fw,fun b d=>(k.oth b d).trans (h.oth b d),fun i e=>(k.row i e).trans (h.row i e),k.cr⟩
theorem Cmp.up{L:Lo}{F G:Fg}{W:PW}{N':Nat}(h:Cmp L M O P w F W M' w' G N)(a:N<=N'):Cmp L M O P w F W M' w' G N':=⟨h.AQ,h.le,h.s,h.fw.up a,h.oth,h.row,h.cr⟩
theorem Cr.lt{F:Fg}(h:Cr M w F k):k<w.heap.size:=by obtain⟨_,⟨a,_,b,_⟩,_⟩:=h;exact aB b
theorem Cr.below{F:Fg}(h:Cr M w F k)(c:Below w.heap.size w w'):Cr M w' F k:=by obtain⟨d,⟨a,T,b,e⟩,f⟩:=h;exact⟨d,⟨a,T,(c.block k (aB b)).trans b,e⟩,f⟩
theorem Cmp.below{L:Lo}{w2:World}{F G:Fg}{W:PW}(h:Cmp L M O P w F W M' w' G N)(a:Below w'.heap.size w' w2):Cmp L M O P w F W M' w2 G N :=⟨h.AQ.trans (Stp.AA a),h.le,h.s,h.fw.below a,fun b d=>(a.block b (h.fw.olt d)).trans (h.oth b d),fun k c=>(a.block k (h.cr k c).lt).trans (h.row k c),fun k c=>(h.cr k c).below a⟩
theorem zeroGl(w:World):(zeroValue 92).run prog w=.ok (.pointer none) w:=by kernel_rfl
theorem gl_yes{F:Fg}(h:GmAt w gb F)(f:k<=MH)(i:F.gl k=some g):∀a,a.heap[gb]?=w.heap[gb]? -> (Instr.lookup 89 (.map (some gb)) (.int .i64 (k:Int)) true).run prog a=.ok (.tuple #[pt g,.bool true]) a:=by
 obtain⟨D,⟨j,c,l,m⟩,n⟩:=h;obtain⟨o,p⟩:=n.yes k g i;intro a q;have b:a.ownsMap prog 3 heldE gb F.gn D:=⟨j,c,q.trans l,m⟩
 obtain⟨r,s,d,e⟩:=b.look_ok aKS underlying89 (zeroGl a) (zd:=.held (.pointer none)) (zp:=[]) rfl (TQ f);rw [p] at e;simp only [heldE,o_,Prod.mk.injEq,DataW.held.injEq] at e;rw [d,o,e.1]
theorem gl_no{F:Fg}(h:GmAt w gb F)(g:k<=MH)(i:F.gl k=none):∀a,a.heap[gb]?=w.heap[gb]? -> (Instr.lookup 89 (.map (some gb)) (.int .i64 (k:Int)) true).run prog a=.ok (.tuple #[.pointer none,.bool false]) a:=by
 obtain⟨D,⟨j,c,l,m⟩,n⟩:=h;have f:=n.no k i;intro a o;have b:a.ownsMap prog 3 heldE gb F.gn D:=⟨j,c,o.trans l,m⟩
 obtain⟨p,q,d,e⟩:=b.look_ok aKS underlying89 (zeroGl a) (zd:=.held (.pointer none)) (zp:=[]) rfl (TQ g);rw [atKey_of_not_has f] at e;simp only [heldE,o_,Prod.mk.injEq,DataW.held.injEq] at e;rw [d,f,e.1]
def Fg.addG(F:Fg)(k g:Nat):Fg:={F with gl:=fun j=>if j=k then some g else F.gl j,gn:=F.gn+1}
theorem Fg.addG_le{F:Fg}(b:F.gl k=none):Fg.Le F (F.addG k g):=⟨Sg.Le.refl _,fun j x a=>by
 show(if j=k then some g else F.gl j)=some x;rw [if_neg (fun e=>by rw [e,b] at a;cases a)]
 exact a,List.prefix_refl _,List.prefix_refl _⟩
theorem GmD.new{D:DataW Value}{F:Fg}(h:GmD D F):GmD (D.put (.int .i64 (k:Int)) (.held (pt g))) (F.addG k g):=by
 have b:WideAt.IsKeyLit (.int .i64 (k:Int)):=trivial;refine⟨h.tidy.put b _,fun j x c=>?_,fun j c=>?_⟩
 ·have a:(if j=k then some g else F.gl j)=some x:=c;by_cases e:j=k
  ·subst e;rw [if_pos rfl] at a;obtain rfl:=i_ a;exact⟨has_put_same h.tidy.isMap b _,fun z=>atKey_put_same h.tidy.isMap b _ z⟩
  ·rw [if_neg e] at a;obtain⟨d,f⟩:=h.yes j x a;exact⟨by rw [has_put_other (eK e)];exact d,fun z=>by rw [atKey_put_other (eK e)];exact f z⟩
 ·have a:(if j=k then some g else F.gl j)=none:=c;by_cases e:j=k
  ·rw [if_pos e] at a;cases a
  ·rw [if_neg e] at a;rw [has_put_other (eK e)];exact h.no j a
theorem BM.map{s:Sg}{tb mb:Nat}{ps:List (PV×PV)}(h:BM M w s tb mb ps)(a:w.grownBy w' (some gb))(f:M gb)(b:gb≠mb):BM M w' s tb mb ps:=by have d:Stp M w M w':=Stp.DX a (fun k c=>by obtain rfl:=i_ c;exact f);exact⟨h.B3.keep (d.block tb h.B3.lt.1 h.JJ).1 (a.block mb h.B3.lt.2 (fun e=>b (i_ e).symm)),h.pairs.AQ d,h.FV,h.JJ,fun k c=>l_ (h.mlt k c) a.size⟩
theorem FW.newGlob{L:Lo}{F:Fg}{W:PW}(h:FW L M O w F N W)(hP:∀k,P k->Cr M w F k){nm:AE}(Z:F.s.ns[k]?=some nm)(hk:F.gl k=none)(hN:N+1<=9000000000000000000){w1:World}(X:Below w.heap.size w w1)(af:w.heap.size<=g)(hg:w1.heap[g]?=some (.cells #[.nilIface,.int .i64 0] TGlb (0,0))) :∃A,(Instr.mapUpdate 89 (.map (some L.gb)) (.int .i64 (k:Int)) (pt g)).run prog w1=.ok () A/\w1.grownBy A (some L.gb)/\Cmp L M O P w F W (Mn M (fun j=>j=g)) A (F.addG k g) (N+1):=by
 obtain⟨m,s2⟩:=h.more X (fun j=>j=g) (fun j n=>by omega) (fun j n=>by subst n;exact aB hg);obtain⟨D,I,hD⟩:=m.map;have aa:F.s.ns.Nodup:=by obtain⟨D,_,hD⟩:=h.CY.B3.map;exact hD.nodup
 have ab:k<=MH:=by have:=(s_ Z).1;have:=h.CY.B3.nsok;unfold CT at this;omega
 have ag:=h.gn;obtain⟨A,J,B,C⟩:=I.store aKS underlying89 (by unfold maxLen;omega) (TQ ab) (d:=.held (pt g)) (ps:=[]) (val:=pt g) rfl;have Y:=C.grown;obtain⟨es,c,K⟩:=m.map.F6;have z:Stp (Mn M (fun j=>j=g)) w1 (Mn M (fun j=>j=g)) A:=Stp.DX Y (fun j n=>by obtain rfl:=i_ n;exact m.TH);have f:∀{j:Nat} {r:Array Value} {T:TypeId},w1.heap[j]?=some (.cells r T (0,0))->A.heap[j]?=some (.cells r T (0,0)):=fun {j} {r} {T} n=>(Y.block j (aB n) (fun e=>aGN K n (i_ e))).trans n;have l:=Fg.addG_le (g:=g) hk
 have ac:Pl.find W.globals nm=none:=by
  cases hf:Pl.find W.globals nm with
  | none=>rfl
  | some i =>obtain⟨⟨E,Q,G,y⟩,_⟩:=h.gall nm i hf;obtain rfl:E=k:=aLI aa G Z;rw [hk] at y;cases y
 have t:∀{j x:Nat},(F.addG k g).gl j=some x->(j=k/\x=g)\/(j≠k/\F.gl j=some x):=fun {j} {x} n=>by
  have s:(if j=k then some g else F.gl j)=some x:=n;by_cases e:j=k
  ·rw [if_pos e] at s;exact .inl ⟨e,(i_ s).symm⟩
  ·rw [if_neg e] at s;exact .inr ⟨e,s⟩
 have R:∀{j x:Nat},F.gl j=some x->x<w.heap.size:=fun {j} {x} n=>by obtain⟨_,_,_,_,_,q,_⟩:=h.gat j x n;exact aB q
 have ad:FW L (Mn M (fun j=>j=g)) O A (F.addG k g) (N+1) W:=by
  refine⟨m.CY.map Y m.TH m.UE,m.NN.go z,m.TH,m.UE,⟨_,B,hD.new⟩,Nat.succ_le_succ h.gn,fun j x n=>?_,fun a b x ha hb=>?_,fun a i hi=>?_,m.gpl,fun st H=>?_,m.sn1,m.sn2,fun st H=>?_,m.pql,m.pqi,fun i b q a1 a2 a3=>(m.pqa i b q a1 a2 a3).go z l,m.AG.mono (fun b x hx=>hx.go z l),⟨m.places.len,m.places.inj,fun i Q o p hi hp=>?_⟩,fun j n=>?_,m.pr,m.gs.AQ z,m.JQ.AQ m.gs z,(bY m.gs z kT).trans m.gt,?_,m.tq,m.tc,m.nl⟩
  ·rcases t n with⟨rfl,rfl⟩ | ⟨_,s⟩
   ·exact⟨.inr rfl,.nilIface,0,nm,Z,f hg,Nat.zero_le _,.inl ⟨ac,rfl⟩⟩
   ·obtain⟨G,v,c',ae,y,q3,q4,q5⟩:=m.gat j x s;exact⟨G,v,c',ae,y,f q3,by omega,q5⟩
  ·rcases t ha with⟨rfl,rfl⟩ | ⟨_,S⟩<;>rcases t hb with⟨rfl,e⟩ | ⟨_,U⟩
   ·rfl
   ·have:=R U;omega
   ·have:=R S;omega
   ·exact h.ginj a b x S U
  ·obtain⟨⟨E,Q,G,y⟩,q3⟩:=h.gall a i hi;exact⟨⟨E,Q,G,l.gl E Q y⟩,q3⟩
  ·have q:=m.sit st H;obtain⟨us,mv,gv,c',e,e1,e2,e3,_⟩:=q.ex;exact q.go z q.mb q.sb ((f e1).trans e1.symm) ((f e2).trans e2.symm) ((f e3).trans e3.symm)
  ·obtain⟨E,q⟩:=h.sgl st H;exact⟨E,l.gl E _ q⟩
  ·obtain⟨k1,r,x,k2,k3⟩:=m.places.at_ i Q o p hi hp;exact⟨k1,r,x,f k2,k3⟩
  ·obtain⟨a1,⟨V,a2⟩,a3⟩:=m.oth j n;exact⟨a1,⟨V,f a2⟩,a3⟩
  ·obtain⟨u,G,y⟩:=m.ge;exact⟨u,(bY m.gs z kU).trans G,y⟩
 refine⟨A,J,Y,s2.trans z,l,rfl,ad,fun b hb=>?_,fun j n=>?_,fun j n=>?_⟩
 ·obtain⟨_,⟨r,q⟩,_⟩:=h.oth b hb;exact(f ((X.block b (aB q)).trans q)).trans q.symm
 ·obtain⟨_,⟨r,_,q,_⟩,_⟩:=hP j n;exact(f ((X.block j (aB q)).trans q)).trans q.symm
 ·obtain⟨q0,⟨r,T,q,hT⟩,y⟩:=hP j n;exact⟨.inl q0,⟨r,T,f ((X.block j (aB q)).trans q),hT⟩,y⟩
theorem Tryz.fp_q(v:Value)(w:World):(Instr.typeAssert (.iface 345 v) 88 86 true).run prog w=.ok (.tuple #[.int .i64 0,.bool false]) w:=by kernel_rfl
theorem Tryz.fp_c(v:Value)(w:World):(Instr.typeAssert (.iface 357 v) 88 86 true).run prog w=.ok (.tuple #[.int .i64 0,.bool false]) w:=by kernel_rfl
theorem Tryz.fp_cc(v:Value)(w:World):(Instr.typeAssert (.iface 83 v) 88 86 true).run prog w=.ok (.tuple #[.int .i64 0,.bool false]) w:=by kernel_rfl
theorem RV.isPr{s:Sg}{p:PV}(h:RV s v p)(c:s.tq=345)(d:s.tc=357):(∃(a:Nat)(t:AE),AO[a]?=some t/\a<12/\p=.AZ t/\v=.iface TPrm (.int .i64 (a:Int)))\/((∃T x,v=.iface T x/\∀w,(Instr.typeAssert (.iface T x) 88 86 true).run prog w=.ok (.tuple #[.int .i64 0,.bool false]) w)/\(∀x,v≠.iface TPrm x)):=by
 cases h with
 | AZ k t h f=>exact .inl ⟨k,t,h,f,rfl,rfl⟩
 | num n=>exact .inr ⟨⟨_,_,rfl,Tryz.Q_ _⟩,fun x e=>(by cases e)⟩
 | AT b=>exact .inr ⟨⟨_,_,rfl,Tryz.R8 _⟩,fun x e=>(by cases e)⟩
 | name t=>exact .inr ⟨⟨_,_,rfl,Tryz.VW _⟩,fun x e=>(by cases e)⟩
 | empty=>exact .inr ⟨⟨_,_,rfl,Tryz.R9 _⟩,fun x e=>(by cases e)⟩
 | nothing=>exact .inr ⟨⟨_,_,rfl,Tryz.OY _⟩,fun x e=>(by cases e)⟩
 | pair i b h=>exact .inr ⟨⟨_,_,rfl,Tryz.VV _⟩,fun x e=>(by cases e)⟩
 | proc i b h g=>exact .inr ⟨⟨_,_,rfl,by rw [c];exact Tryz.fp_q _⟩,fun x e=>(by simp only [Value.iface.injEq,c] at e;exact absurd e.1 (by decide))⟩
 | cont i b h=>exact .inr ⟨⟨_,_,rfl,by rw [d];exact Tryz.fp_c _⟩,fun x e=>(by simp only [Value.iface.injEq,d] at e;exact absurd e.1 (by decide))⟩
 | EC=>exact .inr ⟨⟨_,_,rfl,Tryz.fp_cc _⟩,fun x e=>(by cases e)⟩
theorem pend_of{c:Cx}{F:Fg}{kv gv:Value}{n:Nat}{W:PW}{g:PV}{us:List Value}{args:List PV}(h:St c M O w F kv n W)(m:RV F.s av g)(o:ArgsAt M O w F.s gv us)(p:BY (RV F.s) us args)(q:PnW W g args) :Pend c M O ((w.setCell ⟨c.rb,2,none⟩ av).setCell ⟨c.rb,3,none⟩ gv) F kv n W [] g args/\Stp M w M ((w.setCell ⟨c.rb,2,none⟩ av).setCell ⟨c.rb,3,none⟩ gv)/\∀b,O b->((w.setCell ⟨c.rb,2,none⟩ av).setCell ⟨c.rb,3,none⟩ gv).heap[b]?=w.heap[b]? := by
 obtain⟨i,r,e,j,d,s,t⟩:=h.mc;have u:=d.mf 2 av;have k:(w.setCell ⟨c.rb,2,none⟩ av).heap[c.rb]?=some (.cells #[kv,i,av,e,.int .i64 (n:Int),.int .i64 (c.z:Int),j] TFMc (0,0)):=aD d.blk 2 av;have a:Mch c M (w.setCell ⟨c.rb,2,none⟩ av) kv i av e n j:=⟨k,d.m⟩
 have f:=u.trans (a.mf 3 gv);refine⟨⟨h.fw.mf f,⟨i,av,gv,j,[],us,⟨aD k 3 gv,d.m⟩,(s.set d 2 av).set a 3 gv,BY.nil _,(t.setF d 2 av).setF a 3 gv,m,o.mf f,p⟩,h.bd,q⟩,f.AQ,fun b v=>?_⟩;obtain⟨x,⟨y,l⟩,_⟩:=h.fw.oth b v;exact(f.same x l (.inl rfl)).2.trans l.symm
theorem aMT{c:Cx}{F:Fg}{kv gv:Value}{K:List CW}{W:PW}{S m:PS}{g:PV}{us:List Value}{args:List PV}(h:St c M O w F kv (k+1) W)(a:c.At k W S)(z:S.ended=false)(b:Pl.step W S=Pl.apply W m g args)(A:m.AB=K)(f:RV F.s av g)(j:ArgsAt M O w F.s gv us)(l:BY (RV F.s) us args)(d:∀v∈g::args,BL W v)(n:args.length<=2000) :Calls prog 208 #[.pointer (some ⟨c.rb,0,none⟩),av,gv] w (Post c M O w F kv K (k+1) 1):=by
 rcases f.isPr h.fw.tq h.fw.tc with⟨B,t,C,D,rfl,rfl⟩ | ⟨⟨T,x,rfl,I⟩,o⟩
 ·have J:Hid (Calls prog 196 #[.pointer (some ⟨c.rb,0,none⟩),.int .i64 (B:Int),gv] w (Post c M O w F kv K (k+1) 1)):=aK3 ⟨h,a,z,b.trans (aJM C D _),A,j.r,l,fun v f=>d v (by simp [f])⟩ B C D;have P:=Tryz.vp_p;obtain⟨L,p,rfl,_⟩:=j;unfold TPrm;clear h a b f l d;go_enter func208,ntmps208;go_wp2_with (go_at_call 196;refine(Calls.mono J ?_);intro e Q q;obtain⟨R,U,rfl⟩:=q.tup;have r:=(show Hid _ from q);clear q);go_ret2;exact r
 ·have s:∀t,g=.AZ t->t=AU:=fun t e=>by
   subst e
   cases f with
   | AZ k _ _ _=>exact absurd rfl (o _)
   | EC=>rfl
  obtain⟨E,G,H⟩:=pend_of h f j l ⟨d,s,n⟩;have N:Hid (Post c M O w F kv K (k+1) 1 (aGG .nilIface .nilIface) ((w.setCell ⟨c.rb,2,none⟩ (.iface T x)).setCell ⟨c.rb,3,none⟩ gv)):=⟨M,F,k,W,S,G,H,Fg.Le.refl _,a,z,by omega,by omega,.pend [] m g args b (by rw [A];rfl) (by simp) E⟩
  obtain⟨V,u,y,X,i,_,_⟩:=h.mc;have Y:w.cell? ⟨c.rb,2,none⟩=some u:=aA i.blk 2;have Z:w.cell? ⟨c.rb,3,none⟩=some y:=aA i.blk 3;have f2:w.frozen? ⟨c.rb,2,none⟩=false:=aF i.blk 2;have f3:w.frozen? ⟨c.rb,3,none⟩=false:=aF i.blk 3;obtain⟨L,p,rfl,_⟩:=j;clear h a b f l d E G H i;go_enter func208,ntmps208;go_wp2_with fail;go_ret2;exact N
theorem aG4(w:World)(j c d:Nat)(a b:Array Value):Calls prog 181 #[.int .i64 (j:Int),fnV c a,fnV d b] w fun e g=>e=.returned (fnV 197 #[pt w.heap.size,pt (w.heap.size+1),pt (w.heap.size+1+1)])/\g=((w.alloc (.cells #[.int .i64 (j:Int)] TInt)).alloc (.cells #[fnV c a] TCod)).alloc (.cells #[fnV d b] TTak):=by have h:∀(f:Fn)(first a:Array Value)(w:World),(Instr.makeFunc f first a).run prog w=.ok (.func f first a) w:=fun _ _ _ _=>rfl;go_enter func181,ntmps181;go_wp2_with fail;go_ret;exact⟨rfl,rfl⟩
theorem Bx.three(d:∀k,M k->k<w.heap.size){a b c:Value}{A B C:TypeId}:Bx M (((w.alloc (.cells #[a] A)).alloc (.cells #[b] B)).alloc (.cells #[c] C)) w.heap.size a A/\Bx M (((w.alloc (.cells #[a] A)).alloc (.cells #[b] B)).alloc (.cells #[c] C)) (w.heap.size+1) b B/\Bx M (((w.alloc (.cells #[a] A)).alloc (.cells #[b] B)).alloc (.cells #[c] C)) (w.heap.size+1+1) c C:=by
 refine⟨⟨fun x=>by have:=d _ x;omega,(k_ (by simp;omega)).trans ((k_ (by simp)).trans (heap_alloc_new w _))⟩,⟨fun x=>by have:=d _ x;omega,(k_ (by simp)).trans (by have:=heap_alloc_new (w.alloc (.cells #[a] A)) (.cells #[b] B);rwa [show(w.alloc (.cells #[a] A)).heap.size=w.heap.size+1 from by simp] at this)⟩,⟨fun x=>by have:=d _ x;omega,?_⟩⟩;have:=heap_alloc_new ((w.alloc (.cells #[a] A)).alloc (.cells #[b] B)) (.cells #[c] C)
 rwa [show((w.alloc (.cells #[a] A)).alloc (.cells #[b] B)).heap.size=w.heap.size+1+1 from by simp] at this
theorem aG3(w:World)(a b c:Obj):Below w.heap.size w (((w.alloc a).alloc b).alloc c):=(b_.alloc (by simp) _).alloc (by simp;omega) _
theorem aLD(w:World)(f h:Nat)(d:Array Value):Calls prog 214 #[.int .i64 (f:Int),fnV h d] w fun e i=>∃g,e=.returned g/\(∃k c,g=fnV k c)/\Below w.heap.size w i/\∀M:Nat->Prop,(∀k,M k->k<w.heap.size)->One M i g f (fnV h d):=by
 have r:∀(o:Fn)(first d:Array Value)(w:World),(Instr.makeFunc o first d).run prog w=.ok (.func o first d) w:=fun _ _ _ _=>rfl;have l:Below w.heap.size w (w.alloc (.cells #[.int .i64 (f:Int)] TPrm)):=b_;have m:(w.alloc (.cells #[.int .i64 (f:Int)] TPrm)).heap.size=w.heap.size+1:=by simp
 have s:Hid (Calls prog 181 #[.int .i64 3,fnV h d,fnV 220 #[pt w.heap.size]] (w.alloc (.cells #[.int .i64 (f:Int)] TPrm)) fun e i=>∃g,e=.returned g/\(∃k c,g=fnV k c)/\Below w.heap.size w i/\∀M:Nat->Prop,(∀k,M k->k<w.heap.size)->One M i g f (fnV h d)):=(aG4 _ 3 h _ d _).mono (fun e i ⟨t,u⟩=>by
  subst u;have j:=aG3 (w.alloc (.cells #[.int .i64 (f:Int)] TPrm)) (.cells #[.int .i64 ((3:Nat):Int)] TInt) (.cells #[fnV h d] TCod) (.cells #[fnV 220 #[pt w.heap.size]] TTak);refine⟨_,t,⟨_,_,rfl⟩,l.trans (j.mono l.size),fun M p=>?_⟩;obtain⟨v,x,z⟩:=Bx.three (M:=M) (w:=w.alloc (.cells #[.int .i64 (f:Int)] TPrm)) (a:=.int .i64 ((3:Nat):Int)) (b:=fnV h d) (c:=fnV 220 #[pt w.heap.size]) (A:=TInt) (B:=TCod) (C:=TTak) (fun k D=>by have:=p k D;omega)
  exact⟨_,_,_,w.heap.size,rfl,v,x,z,fun y=>by have:=p _ y;omega,(j.block _ (by omega)).trans (heap_alloc_new w _)⟩)
 clear l m;go_enter func214,ntmps214;go_wp2_with (go_at_call 181;refine(Calls.mono s ?_);rintro e E ⟨g,rfl,q⟩;have n:=(show Hid _ from q);clear q);go_ret;exact⟨_,rfl,n⟩
theorem aLC(w:World)(g j h:Nat)(f d:Array Value):Calls prog 215 #[.int .i64 (g:Int),fnV j f,fnV h d] w fun e m=>∃i,e=.returned i/\(∃k c,i=fnV k c)/\Below w.heap.size w m/\∀M:Nat->Prop,(∀k,M k->k<w.heap.size)->Two M m i g (fnV j f) (fnV h d):=by
 have t:∀(r:Fn)(first f:Array Value)(w:World),(Instr.makeFunc r first f).run prog w=.ok (.func r first f) w:=fun _ _ _ _=>rfl;have n:Below w.heap.size w ((w.alloc (.cells #[.int .i64 (g:Int)] TPrm)).alloc (.cells #[fnV h d] TCod)):=b_.alloc (by simp) _;have o:((w.alloc (.cells #[.int .i64 (g:Int)] TPrm)).alloc (.cells #[fnV h d] TCod)).heap.size=w.heap.size+1+1:=by simp
 have u:Hid (Calls prog 181 #[.int .i64 3,fnV j f,fnV 221 #[pt (w.heap.size+1),pt w.heap.size]] ((w.alloc (.cells #[.int .i64 (g:Int)] TPrm)).alloc (.cells #[fnV h d] TCod)) fun e m=>∃i,e=.returned i/\(∃k c,i=fnV k c)/\Below w.heap.size w m/\∀M:Nat->Prop,(∀k,M k->k<w.heap.size)->Two M m i g (fnV j f) (fnV h d)):=(aG4 _ 3 j _ f _).mono (fun e m ⟨v,x⟩=>by
  subst x;have l:=aG3 ((w.alloc (.cells #[.int .i64 (g:Int)] TPrm)).alloc (.cells #[fnV h d] TCod)) (.cells #[.int .i64 ((3:Nat):Int)] TInt) (.cells #[fnV j f] TCod) (.cells #[fnV 221 #[pt (w.heap.size+1),pt w.heap.size]] TTak);refine⟨_,v,⟨_,_,rfl⟩,n.trans (l.mono n.size),fun M p=>?_⟩;obtain⟨z,D,E⟩:=Bx.three (M:=M) (w:=(w.alloc (.cells #[.int .i64 (g:Int)] TPrm)).alloc (.cells #[fnV h d] TCod)) (a:=.int .i64 ((3:Nat):Int)) (b:=fnV j f) (c:=fnV 221 #[pt (w.heap.size+1),pt w.heap.size]) (A:=TInt) (B:=TCod) (C:=TTak) (fun k F=>by have:=p k F;omega);refine⟨_,_,_,w.heap.size+1,w.heap.size,rfl,z,D,E,⟨fun y=>by have:=p _ y;omega,(l.block _ (by omega)).trans ?_⟩,⟨fun y=>by have:=p _ y;omega,(l.block _ (by omega)).trans ((k_ (by simp)).trans (heap_alloc_new w _))⟩⟩;have:=heap_alloc_new (w.alloc (.cells #[.int .i64 (g:Int)] TPrm)) (.cells #[fnV h d] TCod)
  rwa [show(w.alloc (.cells #[.int .i64 (g:Int)] TPrm)).heap.size=w.heap.size+1 from by simp] at this)
 clear n o;go_enter func215,ntmps215;go_wp2_with (go_at_call 181;refine(Calls.mono u ?_);rintro e G ⟨i,rfl,s⟩;have q:=(show Hid _ from s);clear s);go_ret;exact⟨_,rfl,q⟩
inductive ScR (M:Nat->Prop) (w:World) (s:Sg):Value->List (List AE)->Prop
 | nil:ScR M w s (.pointer none) []
 | cons (b:Nat) (sl up:Value) (ns:List AE) (sc:List (List AE)) (hb:Bk M w b #[sl,up] TScp) (hn:EI M w s sl ns) (h:ScR M w s up sc):ScR M w s (pt b) (ns::sc)
theorem ScR.go{s t:Sg}(a:Stp M w M' w')(l:Sg.Le s t){sc:List (List AE)}(h:ScR M w s v sc):ScR M' w' t v sc:=by
 induction h with
 | nil=>exact .nil
 | cons b c d e sc f g _ i=>exact .cons b c d e sc (f.go a) (g.go a l) i
theorem ScR.ptr{s:Sg}{sc:List (List AE)}(h:ScR M w s v sc):∃o,v=.pointer o:=by cases h<;>exact⟨_,rfl⟩
def FndQ(sc:List (List AE))(nm:AE)(e:Ending):Prop:=(∃dp ix:Nat,scF sc nm=some (dp,ix)/\dp<=sc.length/\ix<=1000/\e=.returned (.tuple #[.int .i64 (dp:Int),.int .i64 (ix:Int),.bool true]))\/(scF sc nm=none/\e=.returned (.tuple #[.int .i64 0,.int .i64 0,.bool false]))
theorem aJS{a:List (List AE)}{r:List (List AE)}{nm:AE}(h:∀b∈a,nm∉b):scF (a++r) nm=(scF r nm).map (fun p=>(p.1+a.length,p.2)):=by
 induction a with
 | nil=>simp
 | cons b a c =>
  have e:scF (b::(a++r)) nm=(scF (a++r) nm).map (fun p=>(p.1+1,p.2)):=by show(if nm∈b then _ else _)=_;rw [if_neg (h b (by simp))]
  rw [List.cons_append,e,c (fun x d=>h x (by simp [d]))]
  cases scF r nm with
  | none=>rfl
  | some p=>simp [Nat.add_assoc]
theorem aK6(M:Nat->Prop)(w:World)(s:Sg)(v:Value)(sc:List (List AE))(nm:AE)(k:Nat)(hn:s.ns.Nodup)(he:ScR M w s v sc)(hk:s.ns[k]?=some nm)(hl:sc.length<=1100) :Calls prog 176 #[v,.agg #[.string ⟨nm.toArray⟩,.int .i64 (k:Int)]] w fun e w'=>Below w.heap.size w w'/\FndQ sc nm e:=by
 have HN:=h_ hn;have HE:=h_ he;have HK:=h_ hk;have L:Below w.heap.size w (w.alloc (.cells #[.string ⟨nm.toArray⟩,.int .i64 (k:Int)] B6)):=b_;have aa:=h_ L;clear hn he hk L;go_enter func176,ntmps176;go_wp2_with fail
 go_loopw [0,4] (fun v N wr=>∃c r,N=.int .i64 ((List.length c:Nat):Int)/\Hid (c++r=sc/\(∀d∈c,nm∉d)/\ScR M w s v r/\Below w.heap.size w wr/\wr.heap[w.heap.size]?=some (.cells #[.string ⟨nm.toArray⟩,.int .i64 (k:Int)] B6 (0,0)))) (fun _ N _=>sc.length-(RowKit.intOf N).toNat)
 case atStart=>exact⟨[],sc,rfl,rfl,fun _ h=>(by cases h),HE,aa,heap_alloc_new w _⟩
 case round =>
  obtain⟨c,r,rfl,HI⟩:=hrel;obtain⟨o,z,ab,q,u⟩:=HI.out;have ai:c.length<=1100:=by have:=congrArg List.length o;simp at this;omega
  cases ab with
  | nil =>
   have HF:Hid (scF sc nm=none):=by rw [<- o,aJS z];rfl
   have HB:=h_ q;clear o z q u HI;go_wp2_with fail
   go_ret3
   exact⟨HB,.inr ⟨HF,rfl⟩⟩
  | cons b sl up d F hb ac O =>
   obtain⟨⟨ks,P,G⟩,Q,C⟩:=ac;have R:=G;obtain⟨_,H,y,rfl,ad,_⟩:=R;have m:Hid (ScR M w s up F/\c++d::F=sc/\w.heap[b]?=some (.cells #[.slice H d.length y,up] TScp (0,0))/\BY (fun k t=>s.ns[k]?=some t) ks d/\Sl M w B6 2 (.slice H d.length y) d.length (nmRow d ks)/\d.Nodup/\d.length<=1000/\∀d∈c,nm∉d):=⟨O,o,hb.2,P,G,Q,C,z⟩
   have HB:=h_ q;have S:=aB hb.2;have T:=(q.block b S).trans hb.2;have c0:wr.cell? ⟨b,0,none⟩=some (.slice H d.length y):=aA T 0;have ae:=h_ u;clear hb P G Q C z O o q T u HI;go_wp2_with fail
   go_loopw [4,20] (fun N iv wq=>N=.int .i64 ((List.length c:Nat):Int)/\∃i:Nat,iv=.int .i64 (i:Int)/\i<=d.length/\Hid (Below w.heap.size w wq/\wq.heap[w.heap.size]?=some (.cells #[.string ⟨nm.toArray⟩,.int .i64 (k:Int)] B6 (0,0))/\∀j,j<i->d[j]? ≠ some nm)) (fun _ iv _=>d.length-(RowKit.intOf iv).toNat)
   case atStart=>exact⟨rfl,0,rfl,Nat.zero_le _,HB,ae,fun j U=>absurd U (Nat.not_lt_zero _)⟩
   case round =>
    obtain⟨rfl,i,rfl,hi,HQ⟩:=hrel;have aj:=m.2.2.2.2.2.2.1;obtain⟨f,a,g⟩:=HQ.out;by_cases V:i<d.length
    ·obtain⟨t,I⟩:∃t,d[i]?=some t:=⟨_,g_ V⟩
     obtain⟨k2,J,A⟩:=m.2.2.2.1.at_ I;obtain⟨g2,D,rfl,W,_,_,d0,d1⟩:=aLK m.2.2.2.2.1 I J;have ak:=(f.cell (p:=⟨g2,D+i*2,none⟩) W).trans d0;have al:=(f.cell (p:=⟨g2,D+i*2+1,none⟩) W).trans d1;have b0:wr.cell? ⟨w.heap.size,1,none⟩=some (.int .i64 (k:Int)):=aA a 1;have af:w.heap.size<wr.heap.size:=aB a;have E:(i:Int)<(d.length:Int):=by omega
     have h0:(0:Int)<=(i:Int):=by omega
     have n:=h_ f;have l:=h_ a;have ag:=h_ g;by_cases K:k2=k
     ·subst K;have B:t=nm:=by have:=A.symm.trans HK;exact i_ this
      subst B;have HF:Hid (FndQ sc t (.returned (.tuple #[.int .i64 ((c.length:Nat):Int),.int .i64 (i:Int),.bool true]))):=by refine .inl ⟨c.length,i,?_,by rw [<- m.2.1];simp,by omega,rfl⟩;rw [<- m.2.1,aJS m.2.2.2.2.2.2.2];unfold scF;rw [if_pos (q_ I)];have:=cV m.2.2.2.2.2.1 I;simp [this]
      clear f a g d0 d1 I J A HQ;go_wp2_with fail
      go_ret3
      exact⟨(n.alloc n.size _),HF⟩
     ·have am:((k2:Int)==(k:Int))=false:=beq_eq_false_iff_ne.2 (by omega);have B:t≠nm:=fun e=>by subst e;refine K ?_;have h1:=cV HN A;have h2:=cV HN HK;omega
      have HT:Hid (t≠nm/\d[i]?=some t):=⟨B,I⟩
      clear f a g d0 d1 I J A HQ B K;go_wp2_with fail
      go_roundw
      case rel =>
       refine⟨rfl,i+1,by go_num,V,n.alloc n.size _,(k_ af).trans l,fun j U e=>?_⟩;rcases Nat.lt_or_ge j i with X | X
       ·exact ag.out j X e
       ·obtain rfl:j=i:=by omega
        rw [HT.2] at e;exact HT.1 (i_ e)
      case measure=>simp only [RowKit.intOf];omega
    ·have E:i=d.length:=by omega
     subst E;have ah:Hid (nm∉d):=fun Y=>by obtain⟨j,U⟩:=List.getElem?_of_mem Y;exact g j (s_ U).1 U
     have Z:=(f.block b S).trans m.2.2.1;obtain⟨ou,rfl⟩:=m.1.ptr;have c1:wr.cell? ⟨b,1,none⟩=some (.pointer ou):=aA Z 1;have n:=h_ f;have l:=h_ a;clear f a g Z HQ;go_wp2_with fail
     go_roundw
     case rel =>
      refine⟨c++[d],F,by simp,?_,?_,m.1,n,l⟩
      ·rw [<- m.2.1];simp
      ·intro x hx;rcases List.mem_append.1 hx with hx | hx
       ·exact m.2.2.2.2.2.2.2 x hx
       ·rw [List.mem_singleton.1 hx];exact ah
     case measure =>have:=congrArg List.length m.2.1;simp [RowKit.intOf] at this ⊢;omega
def GlbQ(L:Lo)(M O P:Nat->Prop)(w:World)(F:Fg)(W:PW)(N k:Nat)(e:Ending)(w':World):Prop:=∃g M' G,e=.returned (pt g)/\Cmp L M O P w F W M' w' G (N+1)/\G.gl k=some g
theorem aHR{L:Lo}{F:Fg}{W:PW}(h:FW L M O w F N W)(i:∀k,P k->Cr M w F k){nm:AE}(j:F.s.ns[k]?=some nm)(o:N+1<=9000000000000000000) :Calls prog 179 #[.pointer (some ⟨L.sb,0,none⟩),.agg #[.string ⟨nm.toArray⟩,.int .i64 (k:Int)]] w (GlbQ L M O P w F W N k):=by
 have d:k<=MH:=by have:=(s_ j).1;have:=h.CY.B3.nsok;unfold CT at this;omega
 obtain⟨s,t,a⟩:=h.map.F6;have e:=aB a;have p:=aB h.NN.2;have u:w.cell? ⟨L.sb,0,none⟩=some (.map (some L.gb)):=aA h.NN.2 0;have b:Below w.heap.size w (w.alloc (.cells #[.string ⟨nm.toArray⟩,.int .i64 (k:Int)] B6)).drew:=b_.drew
 cases c:F.gl k with
 | some g =>
  have l:=gl_yes h.map d c (w.alloc (.cells #[.string ⟨nm.toArray⟩,.int .i64 (k:Int)] B6)).drew (b.block _ e);have m:Hid (GlbQ L M O P w F W N k (.returned (pt g)) (w.alloc (.cells #[.string ⟨nm.toArray⟩,.int .i64 (k:Int)] B6)).drew):=⟨g,M,F,rfl,((Cmp.refl h i).below b).up (by omega),c⟩
  unfold B6 at l;clear h i j a c b;go_enter func179,ntmps179;go_wp2_with fail
  go_region
  all_goals
   go_wp2_with fail
   go_ret;exact m
 | none =>
  have l:=gl_no h.map d c (w.alloc (.cells #[.string ⟨nm.toArray⟩,.int .i64 (k:Int)] B6)).drew (b.block _ e);have f:Below w.heap.size w (((w.alloc (.cells #[.string ⟨nm.toArray⟩,.int .i64 (k:Int)] B6)).alloc (.cells #[.nilIface,.int .i64 0] TGlb)).drew).drew:=((b_.alloc (by simp) _).drew).drew
  obtain⟨q,r,_,n⟩:=h.newGlob i j c o (g:=w.heap.size+1) f (by omega) (by
   have:=heap_alloc_new (w.alloc (.cells #[.string ⟨nm.toArray⟩,.int .i64 (k:Int)] B6)) (.cells #[.nilIface,.int .i64 0] TGlb)
   rwa [World.size_alloc] at this)
  have m:Hid (GlbQ L M O P w F W N k (.returned (pt (w.heap.size+1))) q):=⟨_,_,_,rfl,n,by show(if k=k then _ else _)=_;rw [if_pos rfl]⟩
  unfold B6 at l;unfold B6 TGlb at r;clear h i j a c b f n;go_enter func179,ntmps179;go_wp2_with fail
  go_region
  all_goals
   go_wp2_with fail
   go_region
   all_goals
    go_wp2_with fail
    go_ret;exact m
def CmpQ(L:Lo)(M O P:Nat->Prop)(w:World)(F:Fg)(W:PW)(f:PF)(sc:List (List AE))(N:Nat)(e:Ending)(w':World):Prop:=∃u M' G,e=.returned u/\Cmp L M O P w F W M' w' G N/\RC M' w' G u f sc
def CmpOk(L:Lo)(O:Nat->Prop)(W:PW)(f:PF):Prop:=∀(M P:Nat->Prop)(w:World)(F:Fg)(N:Nat)(v av:Value) (sc:List (List AE)),FW L M O w F N W->(∀k,P k->Cr M w F k)->CP M w F.s v f->ScR M w F.s av sc->sc.length+IU f<=1100->N+IU f<=9000000000000000000 ->
 Calls prog 160 #[.pointer (some ⟨L.sb,0,none⟩),v,av] w (CmpQ L M O P w F W f sc (N+IU f))
theorem Cmp.mlt{L:Lo}{F G:Fg}{W:PW}(h:Cmp L M O P w F W M' w' G N):∀k,M' k->k<w'.heap.size:=h.fw.CY.mlt
theorem FW.mlt{L:Lo}{F:Fg}{W:PW}(h:FW L M O w F N W):∀k,M k->k<w.heap.size:=h.CY.mlt
theorem FW.nd{L:Lo}{F:Fg}{W:PW}(h:FW L M O w F N W):F.s.ns.Nodup:=by obtain⟨D,_,a⟩:=h.CY.B3.map;exact a.nodup
theorem aGH{b:Nat}{T:TypeId}(a:∀k,M k->k<b)(h:w.heap[b]?=some (.cells #[v] T (0,0))):Bx M w b v T:=⟨fun y=>Nat.lt_irrefl _ (a b y),h⟩
theorem aKE{L:Lo}{F:Fg}{W:PW}(h:FW L M O w F N W)(c:∀k,P k->Cr M w F k){x:Value}{v:PV}(a:RV F.s x v)(nm:AE)(d:Pl.A9)(b:List PF)(ns:List AE)(sc:List (List AE)) :Calls prog 164 #[x] w (CmpQ L M O P w F W (.mk .const nm d v b ns) sc N):=by
 have e:Below w.heap.size w (w.alloc (.cells #[x] B9)):=b_;have f:Hid (CmpQ L M O P w F W (.mk .const nm d v b ns) sc N (.returned (fnV 175 #[pt w.heap.size])) (w.alloc (.cells #[x] B9))):=⟨_,M,F,rfl,(Cmp.refl h c).below e,.const w.heap.size x nm d v b ns sc (aGH h.mlt (heap_alloc_new w _)) a⟩
 obtain⟨T,y,rfl⟩:=a.iface;clear h c a e;go_enter func164,ntmps164;go_wp2_with fail;go_ret;exact f
theorem p_rowMk(w:World)(b:Option Addr)(n a:Nat):Calls prog 167 #[.slice b n a] w fun e c=>e=.returned (fnV 183 #[pt w.heap.size])/\c=w.alloc (.cells #[.slice b n a] TCds):=by
 go_enter func167,ntmps167
 go_wp2_with fail
 go_ret;exact⟨rfl,rfl⟩
theorem aH1(d:∀k,M k->k<w.heap.size)(a b c:Value):Below w.heap.size w (((w.alloc (.cells #[a] TInt)).alloc (.cells #[b] TCod)).alloc (.cells #[c] TTak))/\Bx M (((w.alloc (.cells #[a] TInt)).alloc (.cells #[b] TCod)).alloc (.cells #[c] TTak)) w.heap.size a TInt/\Bx M (((w.alloc (.cells #[a] TInt)).alloc (.cells #[b] TCod)).alloc (.cells #[c] TTak)) (w.heap.size+1) b TCod/\Bx M (((w.alloc (.cells #[a] TInt)).alloc (.cells #[b] TCod)).alloc (.cells #[c] TTak)) (w.heap.size+1+1) c TTak:=⟨aG3 w _ _ _,(Bx.three d).1,(Bx.three d).2.1,(Bx.three d).2.2⟩
theorem aMV{L:Lo}{F:Fg}{W:PW}(h:FW L M O w F N W)(r:∀k,P k->Cr M w F k){u v1 v2:Value}{x y z:PF}{sc:List (List AE)}(j:RC M w F u x sc)(m:RC M w F v1 y sc)(n:RC M w F v2 z sc)(nm:AE)(d:Pl.A9)(v:PV)(ns:List AE) :Calls prog 166 #[u,v1,v2] w (CmpQ L M O P w F W (.mk .iff nm d v [x,y,z] ns) sc N):=by
 obtain⟨s,t,J⟩:=j.func;obtain⟨V,X,K⟩:=m.func;obtain⟨Y,Z,Q⟩:=n.func;obtain⟨a,b⟩:∃a,a=(w.alloc (.cells #[v1] TCod)).alloc (.cells #[v2] TCod):=⟨_,rfl⟩
 have c:Below w.heap.size w a:=by rw [b];exact b_.alloc (by simp) _
 have o:a.heap.size=w.heap.size+1+1:=by rw [b];simp
 have A:Bx M a w.heap.size v1 TCod:=aGH h.mlt (by rw [b];exact(k_ (by simp)).trans (heap_alloc_new w _))
 have B:Bx M a (w.heap.size+1) v2 TCod:=aGH (fun k R=>Nat.lt_succ_of_lt (h.mlt k R)) (by
  rw [b];have:=heap_alloc_new (w.alloc (.cells #[v1] TCod)) (.cells #[v2] TCod)
  rwa [World.size_alloc] at this)
 have f:=(Cmp.refl h r).below c;obtain⟨p,C,D,E⟩:=aH1 (M:=M) (w:=a) f.mlt (.int .i64 1) u (fnV 182 #[pt (w.heap.size+1),pt w.heap.size]);have i:=Stp.AA (M:=M) c;have g:=Stp.AA (M:=M) p;have l:=Fg.Le.refl F;have G:Hid (CmpQ L M O P w F W (.mk .iff nm d v [x,y,z] ns) sc N (.returned (fnV 197 #[pt a.heap.size,pt (a.heap.size+1),pt (a.heap.size+1+1)])) (((a.alloc (.cells #[.int .i64 1] TInt)).alloc (.cells #[u] TCod)).alloc (.cells #[fnV 182 #[pt (w.heap.size+1),pt w.heap.size]] TTak))) :=⟨_,M,F,rfl,f.below p,.iff _ _ _ _ _ u v1 v2 x y z nm d v ns sc C D E (B.go g) (A.go g) ((j.go i l).go g l) ((m.go i l).go g l) ((n.go i l).go g l)⟩
 subst J K Q
 have S:Hid (Calls prog 181 #[.int .i64 1,fnV s t,fnV 182 #[pt (w.heap.size+1),pt w.heap.size]] a fun e H=>CmpQ L M O P w F W (.mk .iff nm d v [x,y,z] ns) sc N e H/\∃x,e=.returned x):=(aG4 a 1 s 182 t _).mono (fun e H ⟨T,U⟩=>by
  subst T U
  exact⟨G,_,rfl⟩)
 subst b;clear h r j m n c o A B f p C D E i g G;go_enter func166,ntmps166;go_wp2_with (go_at_call 181;refine(Calls.mono S ?_);rintro e w3 ⟨I,x9,rfl⟩;have q:=(show Hid _ from I);clear I);go_ret;exact q
theorem aJX{L:Lo}{F:Fg}{W:PW}(h:FW L M O w F N W)(s:∀k,P k->Cr M w F k){nm:AE}(t:F.s.ns[k]?=some nm){sc:List (List AE)}(u:ScR M w F.s av sc)(K:sc.length<=1100)(Q:N+1<=9000000000000000000)(d:Pl.A9)(v:PV)(q:List PF)(ns:List AE) :Calls prog 165 #[.pointer (some ⟨L.sb,0,none⟩),.agg #[.string ⟨nm.toArray⟩,.int .i64 (k:Int)],av] w (CmpQ L M O P w F W (.mk .name nm d v q ns) sc (N+1)):=by
 have i:Below w.heap.size w (w.alloc (.cells #[.string ⟨nm.toArray⟩,.int .i64 (k:Int)] B6)):=b_;have R:=(Cmp.refl h s).below i;have x:Hid (Calls prog 176 #[av,.agg #[.string ⟨nm.toArray⟩,.int .i64 (k:Int)]] (w.alloc (.cells #[.string ⟨nm.toArray⟩,.int .i64 (k:Int)] B6)) fun e f=>(Below w.heap.size w f/\f.heap[w.heap.size]?=some (.cells #[.string ⟨nm.toArray⟩,.int .i64 (k:Int)] B6 (0,0)))/\FndQ sc nm e):=(aK6 M _ F.s av sc nm k h.nd (u.go (Stp.AA i) (Sg.Le.refl _)) t K).mono (fun e f ⟨E,S⟩=>⟨⟨i.trans (E.mono (by simp)),(E.block _ (by simp)).trans (heap_alloc_new w _)⟩,S⟩)
 have z:Hid (∀a,Below w.heap.size w a->∀l n:Nat,scF sc nm=some (l,n)->l<=sc.length->CmpQ L M O P w F W (.mk .name nm d v q ns) sc (N+1) (.returned (fnV 177 #[pt a.heap.size,pt (a.heap.size+1)])) ((a.alloc (.cells #[.int .i64 (l:Int)] TInt)).alloc (.cells #[.int .i64 (n:Int)] TInt))):=fun a b l n o H=>by
  have p:=(Cmp.refl h s).below b;have m:Below a.heap.size a ((a.alloc (.cells #[.int .i64 (l:Int)] TInt)).alloc (.cells #[.int .i64 (n:Int)] TInt)):=b_.alloc (by simp) _;refine⟨_,M,F,rfl,(p.below m).up (by omega),.loc _ _ l n nm d v q ns sc (aGH p.mlt ((k_ (by simp)).trans (heap_alloc_new a _))) (aGH (fun j T=>Nat.lt_succ_of_lt (p.mlt j T)) ?_) o (by omega)⟩;have:=heap_alloc_new (a.alloc (.cells #[.int .i64 (l:Int)] TInt)) (.cells #[.int .i64 (n:Int)] TInt)
  rwa [World.size_alloc] at this
 have A:Hid (∀a,Below w.heap.size w a->a.heap[w.heap.size]?=some (.cells #[.string ⟨nm.toArray⟩,.int .i64 (k:Int)] B6 (0,0))->scF sc nm=none->Calls prog 179 #[.pointer (some ⟨L.sb,0,none⟩),.agg #[.string ⟨nm.toArray⟩,.int .i64 (k:Int)]] ((a.alloc (.cells #[.int .i64 0] TInt)).alloc (.cells #[.int .i64 0] TInt)) fun e f=>∃g,e=.returned (pt g)/\CmpQ L M O P w F W (.mk .name nm d v q ns) sc (N+1) (.returned (fnV 180 #[pt f.heap.size,pt w.heap.size])) (f.alloc (.cells #[pt g] TGlP))):=fun a b c o=>by
  have m:Below a.heap.size a ((a.alloc (.cells #[.int .i64 0] TInt)).alloc (.cells #[.int .i64 0] TInt)):=b_.alloc (by simp) _;have B:=b.trans (m.mono b.size);have p:=(Cmp.refl h s).below B;refine(aHR p.fw p.cr t Q).mono (fun e f U=>?_);obtain⟨g,V,G,rfl,I,X⟩:=U;have r:Below f.heap.size f (f.alloc (.cells #[pt g] TGlP)):=b_;have Y:Bk M ((a.alloc (.cells #[.int .i64 0] TInt)).alloc (.cells #[.int .i64 0] TInt)) w.heap.size #[.string ⟨nm.toArray⟩,.int .i64 (k:Int)] B6:=⟨fun y=>Nat.lt_irrefl _ (h.mlt _ y),(m.block _ (aB c)).trans c⟩
  have C:=p.trans I;exact⟨g,rfl,_,V,G,rfl,C.below r,.DI _ _ g k nm d v q ns sc (aGH C.mlt (heap_alloc_new f _)) ((Y.go I.AQ).go (Stp.AA r)) (bS C.le.s.ns t) X o⟩
 obtain⟨oa,rfl⟩:=u.ptr;clear h s u R i t;go_enter func165,ntmps165
 go_upto_region 2 with(go_at_call 176;refine(Calls.mono x ?_);rintro e a ⟨⟨b,c⟩,⟨l,n,o,H,hi,rfl⟩ | ⟨o,rfl⟩⟩)
 ·have Z:=h_ (z a b l n o H);clear z A x c b;go_wp2_with fail;go_ret;exact Z
 ·have HC:=h_ (A a b c o);have d0:a.cell? ⟨w.heap.size,0,none⟩=some (.string ⟨nm.toArray⟩):=aA c 0;have d1:a.cell? ⟨w.heap.size,1,none⟩=some (.int .i64 (k:Int)):=aA c 1;have dl:=aB c;have aa:w.heap.size<a.heap.size+1:=by omega
  clear z A x c b;go_wp2_with (go_at_call 179;refine(Calls.mono HC ?_);rintro e w3 ⟨g,rfl,J⟩;have D:=(show Hid _ from J);clear J);go_ret;exact D
end
end Go.Proofs.YtieooapcfpimlaaGreatDoor
