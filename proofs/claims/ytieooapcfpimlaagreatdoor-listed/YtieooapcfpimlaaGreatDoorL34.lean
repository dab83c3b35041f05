import Derived.Test.YtieooapcfpimlaaGreatDoorL33
import Derived.Test.YtieooapcfpimlaaGreatDoorL25
namespace Go.Proofs.YtieooapcfpimlaaGreatDoor
set_option maxHeartbeats 1000000
set_option maxRecDepth 100000
open Go.Proofs.Tryz
open Pl (PV PW PS PF CW AE Env)
section
open Go.RowKit Go.Maps
variable {M O M0:Nat->Prop} {w w' w0:World} {kv v:Value} {n b N m b' p:Nat}
theorem aMN{W:PW}{S:PS}{nm:AE}{d:Pl.A9}{v:PV}{a:List PF}{ns:List AE}(h:S.form=some (.mk .const nm d v a ns)):Pl.step W S=⟨0,W,S.A1 v⟩:=by unfold Pl.step;rw [h];rfl
theorem aJC{W:PW}{S:PS}{nm:AE}{d:Pl.A9}{v p:PV}{a:List PF}{ns:List AE}{k:Nat}(h:S.form=some (.mk .name nm d v a ns))(b:Pl.DL W S.env nm=some k)(hp:W.places[k]?=some p):Pl.step W S=⟨0,W,S.A1 p⟩:=by unfold Pl.step;rw [h];simp [Pl.PF.k,Pl.PF.nm,b,hp]
theorem aKC{W:PW}{S:PS}{nm:AE}{d:Pl.A9}{v:PV}{a:List PF}{ns:List AE}(h:S.form=some (.mk .name nm d v a ns))(b:Pl.DL W S.env nm=none):Pl.step W S=⟨8,W,S⟩:=by unfold Pl.step;rw [h];simp [Pl.PF.k,Pl.PF.nm,b]
theorem aI0{W:PW}{S:PS}{f:PF}(h:S.form=some f)(a:f.k=.lambda):Pl.step W S=⟨0,{W with procs:=W.procs++[(f,S.env)]},S.A1 (.proc W.procs.length)⟩:=by unfold Pl.step;rw [h];simp [a]
theorem aIH{W:PW}{S:PS}{f:PF}(h:S.form=some f)(a:f.k=.iff\/f.k=.set\/f.k=.define\/f.k=.call):Pl.step W S=⟨0,W,(S.push ⟨f,[],1,S.env⟩).work f.ks[0]? S.env⟩:=by unfold Pl.step;rw [h];rcases a with a | a | a | a<;>simp [a]
theorem aMO{W:PW}{S:PS}{f:PF}(h:S.form=some f)(a:f.k=.begin):Pl.step W S=⟨0,W,(if 1<f.ks.length then S.push ⟨f,[],1,S.env⟩ else S).work f.ks[0]? S.env⟩:=by unfold Pl.step;rw [h];simp [a]
theorem Post.A1{c:Cx}{M':Nat->Prop}{F G:Fg}{K:List CW}{z:Nat}{W W':PW}{S S':PS}(d:Stp M w M' w')(e:∀b,O b->w'.heap[b]?=w.heap[b]?)(l:Fg.Le F G)(f:c.At n W S)(g:S.ended=false)(a:Pl.step W S=⟨0,W',S'⟩)(i:W'.out=W.out)(j:S'.form=none)(k:S'.AB=K)(o:RV G.s v S'.val)(h:Stt c M' O w' G kv (n+1) m W')(q:1<=z)(p:m<=n+1:=by omega):Post c M O w F kv K (n+1) z (aGG v .nilIface) w' :=⟨M',G,n,W,S,d,e,l,f,g,by omega,by omega,.val v W' S' a (fun _=>i) j k o (h.up p)⟩
theorem Post.fault{c:Cx}{M':Nat->Prop}{F G:Fg}{K:List CW}{z x:Nat}{W:PW}{S:PS}(e:Stp M w M' w')(f:∀b,O b->w'.heap[b]?=w.heap[b]?)(l:Fg.Le F G)(g:c.At n W S)(i:S.ended=false)(d:ByteArray)(j:x≠0)(a:(Pl.step W S).e=x)(k:(Pl.step W S).W=W)(h:Stt c M' O w' G kv (n+1) m W)(p:1<=z)(o:m<=n+1:=by omega):Post c M O w F kv K (n+1) z (aGG .nilIface (aY d (x:Int))) w' :=⟨M',G,n,W,S,e,f,l,g,i,by omega,by omega,.err d x j a k (h.up o)⟩
theorem Fs.ent175:Enters 175:=enters_of func175 (by kernel_rfl) rfl
theorem aKM(c:Cx){j:Fg}{x:Value}(nm:AE)(d:Pl.A9){v:PV}(a:List PF)(ns:List AE)(sc:List (List AE))(e:Bx M0 w0 b x B9)(f:RV j.s x v):CodeUp c M0 w0 j (fnV 175 #[pt b]) (.mk .const nm d v a ns) sc:=by
 refine⟨_,_,rfl,Fs.ent175,?_⟩;intro M O w F u g K n W S i l h k m p z D;show Calls prog 175 #[.pointer (some ⟨c.rb,0,none⟩),g,.pointer (some ⟨b,0,none⟩)] w _;obtain⟨E,_,G⟩:=h.cells;have H:n<=1010000:=by have:=h.bd.2.1;omega
 have I:=(e.go i).cell;obtain⟨T,y,rfl⟩:=f.iface;obtain⟨o,rfl⟩:=k.ptr;obtain⟨r,s,t⟩:=h.tick (n+1);have A:b≠c.rb:=fun q=>by obtain⟨_,_,_,_,B,_⟩:=h.mc;exact(e.go i).1 (by rw [q];exact B.m)
 have C:Hid (Post c M O w F u K (n+1) (2*IU (.mk .const nm d v a ns)-1) (aGG (.iface T y) .nilIface) (w.setCell ⟨c.rb,4,none⟩ (.int .i64 ((n+1:Nat):Int)))) :=Post.A1 s t (Fg.Le.refl _) m (aGE p) (aMN p) rfl rfl z (f.le l.s) r (by have:=aGO (.mk .const nm d v a ns);omega);clear h i r s t k m e f;go_enter func175,ntmps175;go_wp2_with fail;go_ret2;exact C
theorem EnvF.no{s:Sg}{env:Env}{sc:List (List AE)}(h:EnvF M w s v env sc){nm:AE}:scF sc nm=none->Pl.find env nm=none:=by
 induction h with
 | nil=>intro _;rfl
 | cons b k l e a f env sc m d g n _ i =>
  intro c;unfold scF at c;split at c
  ·cases c
  ·rename_i j;rw [Pl.FJ,eN f a nm j];exact i (by simpa using c)
def AtD(w:World):Nat->Value->Nat->Addr->Prop
 | 0,v,ix,a=>∃b ao n cap up,v=.pointer (some ⟨b,0,none⟩)/\w.heap[b]?=some (.cells #[.slice ao n cap,up] TPlc (0,0))/\ix<n/\n<=cap/\∃g off,ao=some ⟨g,off,none⟩/\a=⟨g,off+ix,none⟩
 | d+1,v,ix,a=>∃b sl up,v=.pointer (some ⟨b,0,none⟩)/\w.heap[b]?=some (.cells #[sl,up] TPlc (0,0))/\AtD w d up ix a
theorem idx_get{l:List AE}{x:AE}(h:x∈l):l[l.idxOf x]?=some x:=by have:=List.idxOf_lt_length_of_mem h;rw [g_ this];simp
theorem EnvF.yes{s:Sg}{env:Env}{sc:List (List AE)}(h:EnvF M w s v env sc){nm:AE}:∀{k l:Nat},scF sc nm=some (k,l)->∃i g o,Pl.find env nm=some i/\s.lp[i]?=some (some (g,o))/\AtD w k v l ⟨g,o,none⟩:=by
 induction h with
 | nil=>intro k l a;cases a
 | cons b x A n c e env sc y f q B _ C =>
  intro k l a;unfold scF at a;split at a
  ·rename_i m;simp only [o_,Prod.mk.injEq] at a;obtain⟨rfl,rfl⟩:=a;have z:=List.idxOf_lt_length_of_mem m;obtain⟨g,j,r,t⟩:=B _ z;refine⟨c+e.idxOf nm,g,j+e.idxOf nm,?_,t,b,A,e.length,n,x,rfl,y.2,z,f,g,j,r,rfl⟩;rw [Pl.FJ,n9 e c _ nm q (idx_get m)]
  ·rename_i m
   cases u:scF sc nm with
   | none=>rw [u] at a;cases a
   | some p =>obtain⟨d,E⟩:=p;rw [u] at a;simp only [Option.map_some,o_,Prod.mk.injEq] at a;obtain⟨rfl,rfl⟩:=a;obtain⟨i,g,o,r,t,D⟩:=C u;refine⟨i,g,o,?_,t,b,_,x,rfl,y.2,D⟩;rw [Pl.FJ,eN e c nm m];exact r
theorem p_at(w:World)(v:Value)(c f:Nat)(a:Addr)(h:AtD w c v f a)(x:c<=1100) :Calls prog 178 #[v,.int .i64 (c:Int),.int .i64 (f:Int)] w fun e s=>e=.returned (.pointer (some a))/\w=s:=by
 have k:=h_ h;clear h;go_enter func178,ntmps178;go_wp2_with fail
 go_loopw [0,8] (fun v l wr=>∃j:Nat,l=.int .i64 (j:Int)/\j<=c/\w=wr/\Hid (AtD w (c-j) v f a)) (fun _ l _=>c-(RowKit.intOf l).toNat)
 case atStart=>exact⟨0,rfl,Nat.zero_le _,rfl,k⟩
 case round =>
  obtain⟨j,rfl,y,rfl,m⟩:=hrel;have i:=m.out;by_cases z:j<c
  ·rw [show c-j=(c-(j+1))+1 from by omega] at i;obtain⟨b,A,q,rfl,d,r⟩:=i;have t:=h_ r;have B:w.cell? ⟨b,1,none⟩=some q:=aA d 1;clear d r m k;go_wp2_with fail;exact⟨⟨j+1,rfl,by omega,trivial,t⟩,by simp [RowKit.intOf];omega⟩
  ·rw [show c-j=0 from by omega] at i;obtain⟨b,C,n,o,q,rfl,d,D,E,g,p,rfl,rfl⟩:=i;have F:w.cell? ⟨b,0,none⟩=some (.slice (some ⟨g,p,none⟩) n o):=aA d 0;have u:(f:Int)<(n:Int):=by omega
   clear d m k;go_wp2_with fail;go_ret;exact⟨rfl,rfl⟩
theorem Stt.ne{c:Cx}{F:Fg}{W:PW}(h:Stt c M O w F kv n m W)(a:¬M b):b≠c.rb:=fun q=>by obtain⟨_,_,_,_,d,_⟩:=h.mc;exact a (by rw [q];exact d.m)
theorem Stt.neT{c:Cx}{F:Fg}{W:PW}(h:Stt c M O w F kv n m W){cs:Array Value}{T:TypeId}(a:w.heap[b]?=some (.cells cs T (0,0)))(d:TFMc≠T):b≠c.rb:=fun q=>by obtain⟨_,_,_,_,e,_⟩:=h.mc;subst q;rw [e.blk] at a;simp only [o_,Obj.cells.injEq] at a;exact d a.2.1
theorem FW.plc{L:Lo}{F:Fg}{W:PW}(h:FW L M O w F N W){i g o:Nat}(d:F.s.lp[i]?=some (some (g,o))):∃p v,W.places[i]?=some p/\RV F.s v p/\w.cell? ⟨g,o,none⟩=some v/\M g/\∃a,w.heap[g]?=some (.cells a B9 (0,0)):=by
 have b:=(s_ d).1;obtain⟨p,e⟩:∃p,W.places[i]?=some p:=⟨_,g_ (by rw [<- h.places.len];exact b)⟩
 obtain⟨j,a,v,f,c,k⟩:=h.places.at_ i g o p d e;exact⟨p,v,e,k,(aA f o).trans c,j,a,f⟩
theorem Cx.At.wf{c:Cx}{W:PW}{S:PS}(h:c.At n W S){f:PF}(a:S.form=some f):EU W f:=by obtain⟨_,t,_,b,_⟩:=h.inv;exact b.form f a
theorem Fs.entLoc:Enters 177:=enters_of func177 (by kernel_rfl) rfl
theorem Fs.entGlob:Enters 180:=enters_of func180 (by kernel_rfl) rfl
theorem aM7(c:Cx){H:Fg}{dp ix:Nat}(nm:AE)(d:Pl.A9)(v:PV)(f:List PF)(ns:List AE)(sc:List (List AE))(j:Bx M0 w0 b (.int .i64 (dp:Int)) TInt)(k:Bx M0 w0 b' (.int .i64 (ix:Int)) TInt)(m:scF sc nm=some (dp,ix))(I:dp<=1100):CodeUp c M0 w0 H (fnV 177 #[pt b,pt b']) (.mk .name nm d v f ns) sc:=by
 refine⟨_,_,rfl,Fs.entLoc,?_⟩;intro M O w F J L K n W S a l h q t u N V;show Calls prog 177 #[.pointer (some ⟨c.rb,0,none⟩),L,.pointer (some ⟨b,0,none⟩),.pointer (some ⟨b',0,none⟩)] w _;obtain⟨X,_,Y⟩:=h.cells;have Z:n<=1010000:=by have:=h.bd.2.1;omega
 have cb:=(j.go a).cell;have P:=(k.go a).cell;have n1:=h.ne (j.go a).1;have n2:=h.ne (k.go a).1;obtain⟨z,r,A⟩:=h.tick (n+1);obtain⟨i,g,o,B,C,D⟩:=(q.go r (Sg.Le.refl _)).yes m;obtain⟨p,x,E,s,e6,_,Q,G⟩:=h.fw.plc C;have n3:g≠c.rb:=h.neT G tMc.1;obtain⟨T,y,rfl⟩:=s.iface;have R:=h_ D;have U:Hid (Post c M O w F J K (n+1) (2*IU (.mk .name nm d v f ns)-1) (aGG (.iface T y) .nilIface) (w.setCell ⟨c.rb,4,none⟩ (.int .i64 ((n+1:Nat):Int)))) :=Post.A1 r A (Fg.Le.refl _) t (aGE u) (aJC u (by unfold Pl.DL;rw [B]) E) rfl rfl N s z (by have:=aGO (.mk .name nm d v f ns);omega);obtain⟨ao,rfl⟩:=q.ptr;clear h a z r A q t j k B C D E s G;go_enter func177,ntmps177;go_wp2_with (go_at_call 178;refine(p_at _ _ _ _ _ R I).mono ?_;rintro e w' ⟨rfl,rfl⟩);go_ret2;exact U
theorem aLX(c:Cx){E:Fg}{g k:Nat}(nm:AE)(d:Pl.A9)(v:PV)(o:List PF)(ns:List AE)(sc:List (List AE))(t:Bx M0 w0 b (pt g) TGlP)(u:Bk M0 w0 b' #[.string ⟨nm.toArray⟩,.int .i64 (k:Int)] B6)(Q:E.s.ns[k]?=some nm)(R:E.gl k=some g)(G:scF sc nm=none):CodeUp c M0 w0 E (fnV 180 #[pt b,pt b']) (.mk .name nm d v o ns) sc:=by
 refine⟨_,_,rfl,Fs.entGlob,?_⟩;intro M O w F N U K n W S m l h z q r V hT;show Calls prog 180 #[.pointer (some ⟨c.rb,0,none⟩),U,.pointer (some ⟨b,0,none⟩),.pointer (some ⟨b',0,none⟩)] w _;obtain⟨c4,_,f4⟩:=h.cells;have hn:n<=1010000:=by have:=h.bd.2.1;omega
 have cb:=(t.go m).cell;have X:w.cell? ⟨b',0,none⟩=some (.string ⟨nm.toArray⟩):=aA (u.go m).2 0;have n1:=h.ne (t.go m).1;have n2:=h.ne (u.go m).1;obtain⟨A,B,C⟩:=h.tick (n+1);obtain⟨_,x,ch,a,H,D,_,j⟩:=h.fw.gat k g (l.gl _ _ R);obtain rfl:a=nm:=by have:=H.symm.trans (bS l.s.ns Q);exact i_ this
 have f:=z.no G;have n3:g≠c.rb:=h.neT D tMc.2.1;have cg:w.cell? ⟨g,0,none⟩=some x:=aA D 0;obtain⟨ao,rfl⟩:=z.ptr;have hz:2<=2*IU (.mk .name a d v o ns):=by have:=aGO (.mk .name a d v o ns);omega
 rcases j with⟨j,rfl⟩ | ⟨i,p,j,P,I⟩
 ·have Y:a.length<=300:=(Cx.At.wf q r).lnm;have Z:(⟨a.toArray⟩:ByteArray).size<=300:=by simpa [ByteArray.size] using Y
  have J:Hid (∀L,Post c M O w F N K (n+1) (2*IU (.mk .name a d v o ns)-1) (aGG .nilIface (aY L 8)) (w.setCell ⟨c.rb,4,none⟩ (.int .i64 ((n+1:Nat):Int)))):=fun L=>by have s:=aKC (W:=W) r (by unfold Pl.DL;rw [f];exact j);exact Post.fault (x:=8) B C (Fg.Le.refl _) q (aGE r) L (by decide) (by rw [s]) (by rw [s]) A (by omega)
  clear h m A B C z q t u H D j f;go_enter func180,ntmps180;go_wp2_with (go_at_call 33;refine(bJ _ _ _).mono ?_;rintro e w3 ⟨rfl,rfl⟩);go_ret2;exact J.out _
 ·obtain⟨T,y,rfl⟩:=I.iface;have J:Hid (Post c M O w F N K (n+1) (2*IU (.mk .name a d v o ns)-1) (aGG (.iface T y) .nilIface) (w.setCell ⟨c.rb,4,none⟩ (.int .i64 ((n+1:Nat):Int)))) :=Post.A1 B C (Fg.Le.refl _) q (aGE r) (aJC r (by unfold Pl.DL;rw [f];exact j) P) rfl rfl V I A (by omega);clear h m A B C z q t u H D j P I f;go_enter func180,ntmps180;go_wp2_with fail;go_ret2;exact J
theorem FW.re{L:Lo}{O':Nat->Prop}{F G:Fg}{W W':PW}(h:FW L M O w F N W)(l:Fg.Le F G)(a:G.gl=F.gl)(r:G.gn=F.gn)(d:G.cs=F.cs)(f:G.s.ns=F.s.ns)(u:BM M w G.s L.tb L.mb W'.pairs)(x:W'.globals=W.globals)(y:∀(i:Nat)(p:PV),W.places[i]?=some p->W'.places[i]?=some p)
  (z:G.s.qb.length=W'.procs.length) (A:∀i j b:Nat,G.s.qb[i]?=some b->G.s.qb[j]?=some b->b≠0->i=j) (B:∀(i b:Nat)(q:PF×Env),G.s.qb[i]?=some b->W'.procs[i]?=some q->b≠0->PrF M w G b q) (m:OW (CoF M w G) G.s.cb W'.AG) (e:CM M w G.s W'.places)
  (C:∀k,O' k->M k/\(∃E,w.heap[k]?=some (.cells E B9 (0,0)))/\∀i o:Nat,G.s.lp[i]? ≠ some (some (k,o))) (P:G.pr=W'.procs):FW L M O' w G N W':=by
 refine⟨u,h.NN,h.TH,h.UE,?_,by rw [r];exact h.gn,fun k g J=>?_,by rw [a];exact h.ginj,fun H i K=>?_,by rw [x];exact h.gpl,by rw [d];exact h.sit,by rw [d];exact h.sn1,by rw [d];exact h.sn2,by rw [d,a];exact h.sgl,z,A,B,m,e,C,P,h.gs,h.JQ,h.gt,h.ge,by rw [l.s.tq];exact h.tq,by rw [l.s.tc];exact h.tc,by rw [f];exact h.nl⟩
 ·obtain⟨D,s,n⟩:=h.map;exact⟨D,by rw [r];exact s,n.tidy,by rw [a];exact n.yes,by rw [a];exact n.no⟩
 ·rw [a] at J;obtain⟨s,v,c,H,n,I,Q,t⟩:=h.gat k g J;refine⟨s,v,c,H,by rw [f];exact n,I,Q,?_⟩;rw [x];rcases t with t | ⟨i,p,t,R,S⟩
  ·exact .inl t
  ·exact .inr ⟨i,p,t,y i p R,S.le l.s⟩
 ·rw [x] at K;obtain⟨⟨k,g,s,n⟩,I⟩:=h.gall H i K;exact⟨⟨k,g,by rw [f];exact s,by rw [a];exact n⟩,bS l.s.lp I⟩
theorem Fg.le_s{F:Fg}{t:Sg}{q:List (PF×Env)}(l:Sg.Le F.s t):Fg.Le F {F with s:=t,pr:=F.pr++q}:=⟨l,fun _ _ h=>h,List.prefix_refl _,List.prefix_append _ _⟩
theorem BM.leS{s t:Sg}{tb mb:Nat}{ps:List (PV×PV)}(h:BM M w s tb mb ps)(l:Sg.Le s t)(hp:t.pb=s.pb)(a:t.ns=s.ns):BM M w t tb mb ps:=⟨by rw [a];exact h.B3,h.pairs.le l hp,h.FV,h.JJ,h.mlt⟩
theorem FW.JE{L:Lo}{F:Fg}{W:PW}(h:FW L M O w F N W){q:PF×Env}(k:p≠0->p∉F.s.qb/\PrF M w F p q):FW L M O w {F with s:=F.s.JE p,pr:=F.pr++[q]} N {W with procs:=W.procs++[q]}:=by
 have l:Fg.Le F {F with s:=F.s.JE p,pr:=F.pr++[q]}:=Fg.le_s (F.s.LA p);refine h.re l rfl rfl rfl rfl (h.CY.leS l.s rfl rfl) rfl (fun _ _ x=>x) (by simp [Sg.JE,h.pql]) ?_ ?_ (h.AG.mono (fun b x u=>u.go (Stp.refl _ _) l)) (h.places.le l.s rfl) h.oth (by simp [h.pr])
 ·intro i j b m t a;rcases p5 (show(F.s.qb++[p])[i]?=some b from m) with c | ⟨c,e⟩
  ·rcases p5 (show(F.s.qb++[p])[j]?=some b from t) with f | ⟨f,g⟩
   ·exact h.pqi i j b c f a
   ·rw [g] at c a;exact absurd (q_ c) (k a).1
  ·rcases p5 (show(F.s.qb++[p])[j]?=some b from t) with f | ⟨f,g⟩
   ·rw [e] at f a;exact absurd (q_ f) (k a).1
   ·omega
 ·intro i b n m v a;have d:(W.procs++[q])[i]?=some n:=v;rcases p5 (show(F.s.qb++[p])[i]?=some b from m) with c | ⟨c,e⟩
  ·have o:=(s_ c).1;rw [List.getElem?_append_left (by rw [<- h.pql];exact o)] at d;exact(h.pqa i b n c d a).go (Stp.refl _ _) l
  ·rw [c,h.pql] at d;have r:n=q:=by simpa using d.symm
   rw [r];rw [e] at a ⊢;exact((k a).2).go (Stp.refl _ _) l
theorem FW.qlt{L:Lo}{F:Fg}{W:PW}(h:FW L M O w F N W):∀b∈F.s.qb,b≠0->b<w.heap.size:=fun b d e=>by obtain⟨i,c⟩:=List.getElem?_of_mem d;have a:=(s_ c).1;obtain⟨_,_,_,_,f,_⟩:=h.pqa i b _ c (g_ (by rw [<- h.pql];exact a)) e;exact aB f.2
theorem FW.newProc{L:Lo}{F:Fg}{W:PW}(h:FW L M O w F N W)(e:Below w.heap.size w w')(hp:w.heap.size<=p){u ev:Value}{q:PF×Env}{x:PF}{sc:List (List AE)}(b:w'.heap[p]?=some (.cells #[.int .i64 (q.1.ns.length:Int),u,ev] TFPr (0,0)))(g:q.1.ks=[x])(c:q.1.ns.Nodup)(i:RC M w F u x (q.1.ns::sc))(j:EnvF M w F.s ev q.2 sc) :FW L M O w' {F with s:=F.s.JE p,pr:=F.pr++[q]} N {W with procs:=W.procs++[q]}/\RV (F.s.JE p) (.iface 345 (.pointer (some ⟨p,0,none⟩))) (.proc W.procs.length):=by
 have f:Stp M w M w':=Stp.AA e;have a:=h.gs.size;have k:0<w.heap.size:=l_ (by decide) a;refine⟨(h.below e).JE (fun _=>⟨fun d=>?_,u,ev,x,sc,⟨fun d=>?_,b⟩,g,c,i.go f (Fg.Le.refl _),j.go f (Sg.Le.refl _)⟩),?_⟩
 ·have:=h.qlt p d (by omega);omega
 ·have:=h.CY.mlt p d;omega
 ·rw [<- h.tq];exact .proc _ p (by show(F.s.qb++[p])[W.procs.length]?=some p;rw [<- h.pql];simp) (by omega)
theorem FW.IJ{L:Lo}{F:Fg}{W:PW}(h:FW L M O w F N W)(f:Below w.heap.size w w')(hp:w.heap.size<=p)(c:w'.heap[p]?=some (.cells #[kv] TFCo (0,0)))(fs:List CW)(g:PlF M w F kv fs) :FW L M O w' {F with s:=F.s.IJ p,pr:=F.pr++[]} N {W with AG:=W.AG++[fs]}/\RV (F.s.IJ p) (.iface 357 (.pointer (some ⟨p,0,none⟩))) (.cont W.AG.length):=by
 have j:Stp M w M w':=Stp.AA f;have l:Fg.Le F {F with s:=F.s.IJ p,pr:=F.pr++[]}:=Fg.le_s (F.s.LD p);have a:=h.below f;refine⟨a.re l rfl rfl rfl rfl (a.CY.leS l.s rfl rfl) rfl (fun _ _ x=>x) h.pql h.pqi (fun i b q k m o=>(a.pqa i b q k m o).go (Stp.refl _ _) l) (OW.push (a.AG.mono (fun b x d=>d.go (Stp.refl _ _) l)) ⟨kv,⟨fun e=>?_,c⟩,PlF.go j l _ _ g⟩ ?_) (a.places.le l.s rfl) a.oth (by simp [h.pr]),?_⟩
 ·have:=h.CY.mlt p e;omega
 ·intro e;have:=h.AG.lt (n:=w.heap.size) (fun b x d=>by obtain⟨_,r,_⟩:=d;exact aB r.2) p e;omega
 ·rw [<- h.tc];exact .cont _ p (by show(F.s.cb++[p])[W.AG.length]?=some p;rw [<- h.AG.len];simp)
theorem Fs.entLambda:Enters 190:=enters_of func190 (by kernel_rfl) rfl
theorem Stt.fwd{c:Cx}{F G:Fg}{W W':PW}(h:Stt c M O w F kv n m W)(a:Below w.heap.size w w')(b:FW c.L M O w' G (c.B+m) W')(d:W'.out=W.out):Stt c M O w' G kv n m W':=by obtain⟨e,f,g,i,j,k,l⟩:=(h.below a).mc;exact⟨b,⟨e,f,g,i,j,k,by rw [d];exact l⟩,h.bd⟩
theorem aJL(c:Cx){B:Fg}{u:Value}{x:PF}(nm:AE)(d:Pl.A9)(v:PV)(ns:List AE)(sc:List (List AE))(r:Bx M0 w0 b (.int .i64 (ns.length:Int)) TInt)(s:Bx M0 w0 b' u TCod)(t:ns.Nodup)(y:RC M0 w0 B u x (ns::sc)):CodeUp c M0 w0 B (fnV 190 #[pt b,pt b']) (.mk .lambda nm d v [x] ns) sc:=by
 refine⟨_,_,rfl,Fs.entLambda,?_⟩;intro M O w F H I K n W S f l h z C D J U;show Calls prog 190 #[.pointer (some ⟨c.rb,0,none⟩),I,.pointer (some ⟨b,0,none⟩),.pointer (some ⟨b',0,none⟩)] w _;obtain⟨V,_,X⟩:=h.cells;have Y:n<=1010000:=by have:=h.bd.2.1;omega
 have Z:=(r.go f).cell;have L:=(s.go f).cell;have n1:=h.ne (r.go f).1;have n2:=h.ne (s.go f).1;obtain⟨i,j,E⟩:=h.tick (n+1);obtain⟨m,rfl⟩:=z.ptr;obtain⟨o,a,rfl⟩:=y.func
 have N:Hid (∀A,A=w.setCell ⟨c.rb,4,none⟩ (.int .i64 ((n+1:Nat):Int))->Post c M O w F H K (n+1) (2*IU (.mk .lambda nm d v [x] ns)-1) (aGG (.iface 345 (.pointer (some ⟨w.heap.size,0,none⟩))) .nilIface) (A.alloc (.cells #[.int .i64 (ns.length:Int),fnV o a,.pointer m] TFPr))):=by
  rintro A rfl;have g:(w.setCell ⟨c.rb,4,none⟩ (.int .i64 ((n+1:Nat):Int))).heap.size=w.heap.size:=by simp [World.setCell]
  have e:=heap_alloc_new (w.setCell ⟨c.rb,4,none⟩ (.int .i64 ((n+1:Nat):Int))) (.cells #[.int .i64 (ns.length:Int),fnV o a,.pointer m] TFPr);rw [g] at e;have p:=(Below.refl (w.setCell ⟨c.rb,4,none⟩ (.int .i64 ((n+1:Nat):Int))).heap.size (w.setCell ⟨c.rb,4,none⟩ (.int .i64 ((n+1:Nat):Int)))).alloc n_ (.cells #[.int .i64 (ns.length:Int),fnV o a,.pointer m] TFPr);obtain⟨P,Q⟩:=i.fw.newProc p (Nat.le_of_eq g) (u:=fnV o a) (ev:=.pointer m) (q:=(.mk .lambda nm d v [x] ns,S.env)) (x:=x) (sc:=sc) e rfl t ((y.go f l).go j (Fg.Le.refl _)) (z.go j (Sg.Le.refl _));refine Post.A1 (j.trans (Stp.AA p)) (fun k G=>(p.block k ?_).trans (E k G)) (Fg.le_s (F.s.LA _)) C (aGE D) (aI0 D rfl) rfl rfl J Q (i.fwd p P rfl) (by have:=aGO (.mk .lambda nm d v [x] ns);omega);obtain⟨_,⟨R,T⟩,_⟩:=i.fw.oth k G;exact aB T
 clear h f i j E z C r s y;go_enter func190,ntmps190;go_wp2_with fail;go_ret2;exact N.out _ rfl
end
section
open Go.RowKit Go.Maps Go.Lib
variable {w w':World} {M O:Nat->Prop} {v:Value} {n:Nat} {T:TypeId}
theorem Tryz.infoFrm:(prog.info? TFrm).map (fun i=>(i.zero,i.size,i.bytes))=some (some .nilFunc,1,8):=by kernel_rfl
theorem aM1:∃i,prog.info? TFrm=some i/\i.zero=some .nilFunc/\i.size=1/\i.bytes=8:=by obtain⟨i,b,a⟩:=m_ Tryz.infoFrm;simp only [Prod.mk.injEq] at a;exact⟨i,b,a.1,a.2.1,a.2.2⟩
theorem tLf:TFrm≠B9/\TFrm≠TGlb/\TFrm≠TCod/\TFrm≠TInt/\TFrm≠TFMc/\TFrm≠JM:=by decide
theorem aH0{P:Program}(w:World)(t D e:TypeId)(i:TypeInfo)(z:Value)(d:Nat)(I:P.underlying t=some (.slice e))(hi:P.info? e=some i)(J:i.zero=some z)(b:i.size=1)(p:i.bytes=d)(E:z.cells.size=1)
  (v:Value) (n:Nat) (F:List Value) (h:w.ownsRow 0 e 1 v n F) (a:Addr) (u:Value) (c:Nat) (T:w.cell? a=some u) (U:u.oneCell'=true) (Z:n<=1100000) (K:d<=16) :
  ∃q s,(Builtin.append_ #[t,t] D #[v,.slice (some a) 1 c]).run P w=.ok q s/\s.ownsRow 0 e 1 q (n+1) (F++[u])/\w.grownBy s v.ownBlock/\∀g,q.ownBlock=some g->v.ownBlock=some g\/w.heap.size<=g:=by
 have f:∀(j:Nat)(y:Value),[u][j]?=some y->w.cell? (a.add j)=some y:=fun j y L=>by
  cases j with
  | zero=>simp at L;subst L;simpa [Addr.add] using T
  | succ j=>simp at L
 have m:∀y∈[u],y.oneCell'=true:=fun y R=>by simp at R;subst R;exact U
 have x:(n+1)*d<=140737488355328:=t_ (Nat.mul_le_mul (show n+1<=1100001 from by omega) K) (by decide);have A:n+1<=maxLen:=by unfold maxLen;omega
 rcases h.2 with⟨rfl,rfl⟩ | ⟨g,o,B,rfl,_,M,V,W,N,O⟩
 ·have X:F=[]:=e_ (by simpa using h.1);subst X;obtain⟨q,s,G,H,Q,_⟩:=run_append_own (P:=P) w w.heap.size t D e i z 1 d I hi J b p E (by decide) (.slice none 0 0) 0 [] (World.ownsRow_nil _ _ _ _) a 1 c [u] rfl f m A x n_;exact⟨q,s,G,⟨H.1,H.2.imp id (fun⟨g,o,B,Y,_,r⟩=>⟨g,o,B,Y,Nat.zero_le _,r⟩)⟩,Q,fun g M=>.inr (H.lt g M).1⟩
 ·obtain⟨q,s,G,H,Q,_⟩:=run_append_own (P:=P) w 0 t D e i z 1 d I hi J b p E (by decide) _ n F h a 1 c [u] rfl f m A x (Nat.zero_le _);refine⟨q,s,G,H,Q,fun k S=>?_⟩;by_cases C:n+1<=o
  ·have l:=run_append_room (P:=P) w t D e i I hi g n o B M a 1 c [u] (by rw [b];rfl) f m C (by rw [b];simp at N ⊢;omega);rw [G] at l;simp only [Result.ok.injEq] at l;obtain⟨rfl,_⟩:=l;exact .inl S
  ·have l:=run_append_grow (P:=P) w t D e i z I hi J ⟨g,0,none⟩ n o F (by rw [b];simpa using h.1) (h.cells (g:=g) rfl) a 1 c [u] (by rw [b];rfl) f (by omega) (by unfold maxLen at A;omega) (by rw [p];exact growslice_fits (by omega) x);rw [G] at l;simp only [Result.ok.injEq] at l;obtain⟨rfl,_⟩:=l;simp only [Value.ownBlock,o_] at S;exact .inr (by omega)
theorem Mf.own{v':Value}{n':Nat}{xs xs':List Value}(o:w.ownsRow 0 T 1 v n xs)(j:∀g,v.ownBlock=some g->M g)(b:w.grownBy w' v.ownBlock)(c:w'.ownsRow 0 T 1 v' n' xs')(d:∀g,v'.ownBlock=some g->v.ownBlock=some g\/w.heap.size<=g)(p:T≠B9)(q:T≠TGlb)(r:T≠TCod)(s:T≠TInt) :Mf M w (Mn M (fun k=>v'.ownBlock=some k/\w.heap.size<=k)) w'/\∀g,v'.ownBlock=some g->Mn M (fun k=>v'.ownBlock=some k/\w.heap.size<=k) g:=by
 refine⟨⟨⟨b.os,b.tape,b.output,b.size,fun k a l=>⟨b.block k a (fun e=>l (j k e.symm)),fun x=>x.elim l (fun y=>by have:=y.2;omega)⟩⟩,fun k a f=>⟨.inl f,?_⟩,fun t k a=>?_⟩,fun g m=>?_⟩
 ·by_cases e:some k=v.ownBlock
  ·right;rcases o.2 with⟨rfl,_⟩ | ⟨z,u,h,rfl,_,i,_⟩
   ·cases e
   ·simp only [Value.ownBlock,o_] at e;subst e;exact⟨h,T,(0,0),i,p,q,r,s⟩
  ·exact .inl (b.block k a e)
 ·rcases a with a | a
  ·exact l_ (t k a) b.size
  ·exact(c.lt k a.1).2
 ·exact(d g m).imp (j g) (fun x=>⟨m,x⟩)
theorem ArgsAt.mf{M':Nat->Prop}{s:Sg}{us:List Value}(h:ArgsAt M O w s v us)(d:Mf M w M' w'):ArgsAt M' O w' s v us:=by obtain⟨e,a,f,i,j⟩:=h;refine⟨e,a,f,i,j.imp id ?_⟩;rintro⟨g,b,c,k,l,m,n,o,p⟩;obtain⟨q,r⟩:=d.same l n (.inl rfl);exact⟨g,b,c,k,q,m,r,o,p⟩
theorem DS.keepF{M':Nat->Prop}{l:AE}(h:DS M w v l)(a:∀g,v.ownBlock=some g->w'.heap[g]?=w.heap[g]?)(b:∀k,M k->M' k):DS M' w' v l:=⟨aGD h.1 a,fun g c=>b g (h.2 g c)⟩
theorem aF9{base sz:Nat}{xs:List Value}(h:w.ownsRow base T sz v n xs){g:Nat}(b:v.ownBlock=some g):∃a,w.heap[g]?=some (.cells a T (0,0)):=by
 rcases h.2 with⟨rfl,_⟩ | ⟨e,d,a,rfl,_,c,_⟩
 ·cases b
 ·simp only [Value.ownBlock,o_] at b;subst b;exact⟨a,c⟩
theorem aGF{a b:Nat}{U:TypeId}{c d:Array Value}(g:w.heap[a]?=some (.cells c T (0,0)))(f:w.heap[b]?=some (.cells d U (0,0)))(h:T≠U):a≠b:=fun e=>by subst e;rw [g] at f;simp only [o_,Obj.cells.injEq] at f;exact h f.2.1
theorem aLN{c:Cx}{F:Fg}{kv lv av gv ov fv:Value}{W:PW}{fs us:List Value}{v:List CW}{fr:CW}{y:PV}{args:List PV}(K:FW c.L M O w F (c.B+n) W)(s:Mch c M w kv lv av gv n ov)(L:LfR M w lv fs)(N:BY (FrF M w F) fs v)(Q:DS M w ov W.out)(U:RV F.s av y)(V:ArgsAt M O w F.s gv us)(X:BY (RV F.s) us args)(bd:c.B+c.T<=9000000000000000000/\c.T<=1010000/\c.z<=1000000)(Y:PnW W y args)(R:FrF M w F fv fr)(hl:v.length<=1010000) :∃d f,(Builtin.append_ #[305,305] 305 #[lv,.slice (some ⟨w.heap.size,0,none⟩) 1 1]).run prog (w.alloc (.cells #[fv] TFrm))=.ok d f/\(∃a l k,d=.slice a l k)/\f.cell? ⟨c.rb,1,none⟩=some lv/\f.frozen? ⟨c.rb,1,none⟩=false/\∃S,Stp M w S (f.setCell ⟨c.rb,1,none⟩ d)/\(∀b,O b->(f.setCell ⟨c.rb,1,none⟩ d).heap[b]?=w.heap[b]?)/\Pend c S O (f.setCell ⟨c.rb,1,none⟩ d) F kv n W (v++[fr]) y args:=by
 have p:Below w.heap.size w (w.alloc (.cells #[fv] TFrm)):=b_;obtain⟨Z,z,A,B,C⟩:=aM1;have t:=aGK p L.1;obtain⟨d,f,hr,u,D,k3⟩:=aH0 (P:=prog) (w.alloc (.cells #[fv] TFrm)) 305 305 TFrm Z .nilFunc 8 underlying305 z A B C rfl lv fs.length fs t ⟨w.heap.size,0,none⟩ fv 1 (aA (heap_alloc_new w _) 0) (by obtain⟨kf,E,rfl⟩:=R.func;rfl) (by have:=N.1;omega) (by decide);obtain⟨q1,q2⟩:=Mf.own (M:=M) t L.2 D u k3 tLf.1 tLf.2.1 tLf.2.2.1 tLf.2.2.2.1;have m:=s.below p;have G:some c.rb≠lv.ownBlock:=fun e=>by obtain⟨j,h⟩:=aF9 t e.symm;exact aGF m.blk h tMc.2.2.2.2.1 rfl
 have i:f.heap[c.rb]?=some (.cells #[kv,lv,av,gv,.int .i64 (n:Int),.int .i64 (c.z:Int),ov] TFMc (0,0)):=(D.block _ (aB m.blk) G).trans m.blk;have H:Mch c (Mn M (fun k=>d.ownBlock=some k/\(w.alloc (.cells #[fv] TFrm)).heap.size<=k)) f kv lv av gv n ov:=⟨i,.inl s.m⟩
 have q3:=H.mf 1 d;have o:=(Mf.below p).trans (q1.trans q3)
 have q:∀g,ov.ownBlock=some g->(f.setCell ⟨c.rb,1,none⟩ d).heap[g]?=w.heap[g]? := fun g I=>by
  obtain⟨j,h⟩:=aF9 Q.1 I;have r:=(p.block g (aB h)).trans h;have e1:g≠c.rb:=aGF h s.blk tMc.2.2.2.2.2.symm;have e2:some g≠lv.ownBlock:=fun e=>by obtain⟨T,J⟩:=aF9 t e.symm;exact aGF r J tLf.2.2.2.2.2.symm rfl
  rw [Below.heap_setCell _ _ _ _ (fun x=>e1 (by simpa using x)),D.block g (aB r) e2,p.block g (aB h)]
 refine⟨d,f,hr,?_,aA i 1,aF i 1,_,o.AQ,fun b hb=>?_,K.mf o,⟨d,av,gv,ov,fs++[fv],us,⟨aD i 1 d,.inl s.m⟩,⟨?_,q2⟩,BY.snoc (N.mono (fun _ _ x=>x.go o.AQ (Fg.Le.refl _))) (R.go o.AQ (Fg.Le.refl _)),Q.keepF q (fun k x=>.inl x),U,V.mf o,X⟩,bd,Y⟩
 ·rcases u.2 with⟨rfl,_⟩ | ⟨g',E,j,rfl,_⟩<;>exact⟨_,_,_,rfl⟩
 ·obtain⟨hm,⟨j,h⟩,_⟩:=K.oth b hb;exact(o.same hm h (.inl rfl)).2.trans h.symm
 ·have:(fs++[fv]).length=fs.length+1:=by simp
  rw [this]
  exact aGD u (fun g I=>Below.heap_setCell _ _ _ _ (fun x=>by
   obtain⟨j,h⟩:=aF9 u I
   exact aGF h i tLf.2.2.2.2.1 (by simpa using x)))
theorem aJW{c:Cx}{F:Fg}{kv fv:Value}{W:PW}{d:List CW}{fr:CW}{f:PV}{args:List PV}(h:Pend c M O w F kv n W d f args)(g:FrF M w F fv fr)(z:d.length<=1010000) :Calls prog 198 #[.pointer (some ⟨c.rb,0,none⟩),.nilIface,fv] w fun e i=>e=aGG .nilIface .nilIface/\∃a,Stp M w a i/\(∀b,O b->i.heap[b]?=w.heap[b]?)/\Pend c a O i F kv n W (d++[fr]) f args:=by
 obtain⟨A,H,I,J,K,L,j,k,p,q,r,s,t⟩:=h.mc;obtain⟨l,m,B,⟨N,P,Q,o⟩,C,D,a,u,v,x⟩:=aLN h.fw j k p q r s t h.bd h.wf g z;have E:Hid (∃a,Stp M w a (m.setCell ⟨c.rb,1,none⟩ l)/\(∀b,O b->(m.setCell ⟨c.rb,1,none⟩ l).heap[b]?=w.heap[b]?)/\Pend c a O (m.setCell ⟨c.rb,1,none⟩ l) F kv n W (d++[fr]) f args):=⟨a,u,v,x⟩
 have R:w.cell? ⟨c.rb,1,none⟩=some A:=aA j.blk 1;obtain⟨S,G,rfl⟩:=g.func;obtain⟨T,y,rfl,_⟩:=cJ k.1;subst o;clear h j k p q r s t g u v x;go_enter func198,ntmps198;go_wp2_with (at_builtin;refine dC _ rfl _ _ 305 305 rfl _ rfl _ rfl 305 rfl B ?_);go_ret2;exact⟨rfl,E⟩
end
end Go.Proofs.YtieooapcfpimlaaGreatDoor
