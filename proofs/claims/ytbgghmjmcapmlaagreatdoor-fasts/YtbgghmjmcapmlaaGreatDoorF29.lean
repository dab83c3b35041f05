import Derived.Test.YtbgghmjmcapmlaaGreatDoorF28
namespace Go.Proofs.YtbgghmjmcapmlaaGreatDoor
set_option maxHeartbeats 4000000
set_option maxRecDepth 100000
open Go.Proofs.Tryz
open Pl (PV PW PS PF CW AE Env FK AO AH AU)
theorem zK2{P:Prop}(h:P:=by unfold Hid;go_wp2_with (go_at_call 222;refine(aGM _ _ _ _ _).mono ?_;rintro e w3 ⟨rfl,rfl⟩);go_ret2;exact HX):P:=h
section
open Go.RowKit Go.Maps Go.Lib
variable {w w' w2 wy:World} {M O P M':Q5} {W:PW} {F G:Fg} {L:Lo} {N k b n kp:Nat} {c:Cx} {v av kv a u:Value} {S:PS} {x:PF} {l:List Nat} {fr:CW} {K:List CW} {t nm:AE} {args:List PV} {fx:PV} {s:Sg} {T:TypeId} {ns:List AE}
theorem aHT{g:PV}(a:S.form=none)(b:S.AB=fr::K)(c:fr.form.k=.call)(hp:fr.pos=fr.form.ks.length)(d:fr.B8++[S.val]=g::args):Pl.step W S=Pl.apply W {S with AB:=K} g args:=by rw [aGY a];simp only [Pl.taken,b,c,d,hp,if_true]
theorem aIG(a:S.form=none)(b:S.AB=fr::K)(c:fr.form.k=.call)(hp:fr.pos≠fr.form.ks.length):Pl.step W S=⟨0,W,(({S with AB:=K}:PS).push {fr with B8:=fr.B8++[S.val],pos:=fr.pos+1}).work fr.form.ks[fr.pos]? fr.env⟩:=by rw [aGY a];simp only [Pl.taken,b,c,if_neg hp]
theorem aII(h:AO[k]?=some t)(a:k<12):t≠AU:=by
 have:∀k:Fin 12,AO[k.1]? ≠ some AU:=by decide
 intro e;exact this ⟨k,a⟩ (by rw [h,e])
theorem aJM(h:AO[k]?=some t)(a:k<12)(args:List PV):Pl.apply W S (.AZ t) args=AH W S (.AZ t) args:=by unfold Pl.apply;rw [if_neg (fun e=>aII h a (Pl.PV.AZ.inj e))]
theorem Fs.entOne:Enters 244:=enters_of func244 t8 rfl
theorem FsentTwo:Enters 245:=enters_of func245 t8 rfl
theorem FsentTwo2:Enters 246:=enters_of func246 t8 rfl
theorem Cx.At.val(h:c.At n W S)(a:S.form=none):BL W S.val:=by obtain⟨t,_,b⟩:=h.ww;exact b.val a
theorem Cx.At.B8(h:c.At n W S)(a:S.AB=fr::K)(b:fr.form.k=.call):∀v∈fr.B8,BL W v:=by obtain⟨t,_,d⟩:=h.ww;exact((d.AB.1 fr (by rw [a];simp)).call b).2.2
theorem aJP{M0:Q5}{w0:World}{F0:Fg}{sc:List (List AE)}(A:fr.form.k=.call)(B:fr.form.ks.length=2)(C:fr.B8=[.AZ t])(hp:fr.pos=2)(s:AO[kp]?=some t)(f:kp<12)(g:Bx M0 w0 b (.int .i64 (kp:Int)) TPrm):TakeOk c M0 w0 F0 (fnV 244 #[pt b]) fr sc 1:=by
 refine⟨_,_,rfl,Fs.entOne,?_⟩;intro M O w F D E v K k W S n l h y o p q a I;show Q2 244 #[Q0 c.rb,E,v,Q0 b] w _;have d:=(g.go n).cell;have J:=aB (g.go n).2;have j:Pl.step W S=AH W {S with AB:=K} (.AZ t) [S.val]:=(aHT p q A (by rw [hp,B]) (by rw [C];rfl)).trans (aJM s f _);have m:Q3 w (w.alloc (.cells #[v] B9)):=b_
 have G:Hid (Q2 220 #[Q0 c.rb,Q1 kp,.slice (some ⟨w.heap.size,0,none⟩) 1 1] (w.alloc (.cells #[v] B9)) (Post c M O w F D K (k+1) 1)):=by
  refine(aK3 (us:=[v]) (args:=[S.val]) ⟨(h.below m).up x8,o,aF8 q,j,rfl,⟨_,1,rfl,n_,fun i u z=>?_⟩,(BY.nil _).cons a,fun x H=>by rw [List.mem_singleton.1 H];exact o.val p⟩ kp s f).mono (fun e L hp=>hp.after (Stp.AA m) (fun b g=>m.block b (h.fw.olt g)) (Fg.Le.refl _) n_ n_)
  cases i with
  | zero=>exact⟨_,0,rfl,(aA (heap_alloc_new w _) 0).trans (by simpa using z)⟩
  | succ i=>simp at z
 obtain⟨T,u,rfl⟩:=a.iface;obtain⟨N,rfl⟩:=y.ptr;clear h n y o g j a p q m;go_enter func244,ntmps244;go_wp2_with (go_at_call 220;refine(Calls.mono G ?_);intro e P hp;obtain⟨Q,R,rfl⟩:=hp.tup;have r:=(show Hid _ from hp);clear hp);go_ret2;exact r
theorem row_two(w:World)(u v:Value):ArgR (w.alloc (.cells #[u,v] B9)) (.slice (some ⟨w.heap.size,0,none⟩) 2 2) [u,v]:=by
 refine⟨_,2,rfl,n_,fun i x a=>?_⟩
 match i with
 | 0=>exact⟨_,0,rfl,(aA (heap_alloc_new w _) 0).trans zM1⟩
 | 1=>exact⟨_,0,rfl,(aA (heap_alloc_new w _) 1).trans zM1⟩
 | i+2=>simp at a
theorem aJV{p:PV}(h:Stt c M O w F kv (k+1) (k+1) W)(d:c.At k W S)(j:S.form=none)(f:S.AB=fr::K)(l:fr.form.k=.call)(q:fr.form.ks.length=3)(m:fr.B8=[.AZ t,p])(hp:fr.pos=3)(n:AO[kp]?=some t)(a:kp<12)(r:RV F.s u p)(s:RV F.s v S.val) :Q2 220 #[Q0 c.rb,Q1 kp,.slice (some ⟨w.heap.size,0,none⟩) 2 2] (w.alloc (.cells #[u,v] B9)) (Post c M O w F kv K (k+1) 1):=by
 have g:Q3 w (w.alloc (.cells #[u,v] B9)):=b_;have i:Pl.step W S=AH W {S with AB:=K} (.AZ t) [p,S.val]:=(aHT j f l (by rw [hp,q]) (by rw [m];rfl)).trans (aJM n a _);refine(aK3 (us:=[u,v]) (args:=[p,S.val]) ⟨h.below g,d,aF8 f,i,rfl,row_two w u v,((BY.nil _).cons s).cons r,fun x o=>?_⟩ kp n a).mono (fun e z hp=>hp.after (Stp.AA g) (fun b y=>g.block b (h.fw.olt y)) (Fg.Le.refl _) n_ n_);simp only [List.mem_cons,List.not_mem_nil,or_false] at o;rcases o with rfl | rfl
 ·exact d.B8 f l _ (by rw [m];simp)
 ·exact d.val j
theorem aKB{P:Program}{g:Array Oper}{o:Oper}{a:Act}{K:Act->World->Prop}{Q:Exit->Act->World->Prop}{E:Prop}(j:o.guard=none)(l:Operand)(m:Array Operand)(n:Array TypeId)
  (p:o.op=.call {callee:=.value l,args:=m,argTypes:=n}) (f:Nat) (d:Array Value) (k:a.eval l=.func (.func f) #[] d) (q:∀(c:Array Value)(w:World),(callFunc f c).run P w=.ok (.enter f c) w)
  (b:Array Value) (r:m.map a.eval=b) {R:Ending->World->Prop} (s:Calls P f (b++d) w R) (h:∀e i,R e i->∃v,e=.returned v/\K (a.put o.dst v) i):if Region.wanted o (yielded g a.tmps)=true then Oper.wp P o a w K Q else E:=by
 have t:Region.wanted o (yielded g a.tmps)=true:=by simp [Region.wanted,j]
 rw [if_pos t];have u:(execOp a.eval o).run P w=.ok (.enter f (b++d)) w:=by subst r;simp [execOp,p,resolve,invoke,Deferred.ofValue,k,q]
 unfold Oper.wp;rw [u,Oper.upon_enter];refine s.mono (fun e i x=>?_);obtain⟨v,rfl,y⟩:=h e i x;exact y
theorem Stt.ownApp{nn m:Nat}{v':Value}{n':Nat}{xs xs':List Value}(h:Stt c M (Ow O v) w F kv nn m W)(q:w.ownsRow 0 B9 1 v n xs)(b:w.grownBy w' v.ownBlock)(o:w'.ownsRow 0 B9 1 v' n' xs')(p:∀g,v'.ownBlock=some g->v.ownBlock=some g\/w.heap.size<=g)(t:∀g,v.ownBlock=some g->¬O g) :Stt c (Mn M (fun k=>v'.ownBlock=some k/\w.heap.size<=k)) (Ow O v') w' F kv nn m W/\Stp M w (Mn M (fun k=>v'.ownBlock=some k/\w.heap.size<=k)) w'/\(∀k,O k->w'.heap[k]?=w.heap[k]?)/\∀g,v'.ownBlock=some g->¬O g:=by
 obtain⟨u,x,y,z,A⟩:=h.fw.ownApp q b o p t;obtain⟨B,C,D,E,i,j,l⟩:=h.mc
 have a:∀{k:Nat} {T:TypeId} {r:Array Value},M k->w.heap[k]?=some (.cells r T (0,0))->T≠B9->w'.heap[k]?=w.heap[k]? := fun {k} {T} {r} G s H=>z k G (aB s) (fun e=>by
  obtain⟨d,f⟩:=aF9 q e
  exact aGF s f H rfl)
 refine⟨⟨u,⟨B,C,D,E,⟨(a i.m i.blk tMc.1).trans i.blk,.inl i.m⟩,⟨aGD j.1 (fun g b=>?_),fun g b=>.inl (j.2 g b)⟩,⟨aGD l.1 (fun g b=>?_),fun g b=>.inl (l.2 g b)⟩⟩,h.bd⟩,x,y,A⟩
 ·obtain⟨d,f⟩:=aF9 j.1 b;exact a (j.2 g b) f tLf.1
 ·obtain⟨d,f⟩:=aF9 l.1 b;exact a (l.2 g b) f tBy.1
theorem Pend.freeze{nn:Nat}{xs:List Value}{Fs:List CW}(h:Pend c M (Ow O v) w F kv nn W Fs fx args)(p:w.ownsRow 0 B9 1 v n xs)(s:∀g,v.ownBlock=some g->¬O g):Pend c (Mz M v) O w F kv nn W Fs fx args:=by
 obtain⟨t,u,y,z,A,B,i,j,C,l,D,E,G⟩:=h.mc;have H:=Stp.freeze M v w;have b:∀{k:Nat} {T:TypeId} {q:Array Value},w.heap[k]?=some (.cells q T (0,0))->T≠B9->v.ownBlock≠some k:=fun {k} {T} {q} I J e=>by obtain⟨a,d⟩:=aF9 p e;exact aGF I d J rfl
 refine⟨h.fw.freeze p s,⟨t,u,y,z,A,B,⟨i.blk,i.m,b i.blk tMc.1⟩,⟨j.1,fun g f=>⟨j.2 g f,?_⟩⟩,C.mono (fun _ _ x=>x.go H (Fg.Le.refl _)),⟨l.1,fun g f=>⟨l.2 g f,?_⟩⟩,D,?_,G⟩,h.bd,h.wf⟩
 ·obtain⟨a,d⟩:=aF9 j.1 f;exact b d tLf.1
 ·obtain⟨a,d⟩:=aF9 l.1 f;exact b d tBy.1
 ·obtain⟨K,m,L,N,P⟩:=E;refine⟨K,m,L,N,P.imp id ?_⟩;rintro⟨g,o,a,Q,R,r,S,U,V⟩;exact⟨g,o,a,Q,⟨R,fun e=>r (.inr e)⟩,fun x=>r (.inl x),S,U,V⟩
def AllOk(c:Cx)(M0:Q5)(w0:World)(F0:Fg)(u:Value)(env:Env)(sc:List (List AE))(a:List PV)(z:Nat):Prop:=∃kf cap,u=fnV kf cap/\Enters kf/\∀(M O:Q5)(w:World)(F:Fg)(kv hv vv:Value)(K:List CW)(fr:CW)(k:Nat)(W:PW)(S:PS)(us:List Value)(ps:List PV),Stp M0 w0 M w->Fg.Le F0 F->St c M O w F kv (k+1) W->EnvF M w F.s hv env sc->c.At k W S->S.form=none->S.AB=fr::K->fr.form.k=.call->fr.pos=fr.form.ks.length->fr.B8++[S.val]=a++ps->ArgsAt M O w F.s vv us->BY (RV F.s) us ps->us.length<=2000->k+1+z<=c.T ->
 Q2 kf (#[pt c.rb,hv,vv]++cap) w (Post c M O w F kv K (k+1) z)
inductive GS (c:Cx) (f:PF) (env:Env) (K:List CW) (a:List PV) (l:Nat) (n:Nat) (W:PW) (ps:List PV):Prop
 | part (S:PS) (ha:c.At n W S) (hl:ps.length<l) (hf:S.form=f.ks[a.length+ps.length]?) (he:S.env=env) (hK:S.AB=⟨f,a++ps,a.length+ps.length+1,env⟩::K)
 | all (S:PS) (fr:CW) (k:Nat) (hn:n=k+1) (ha:c.At k W S) (hl:ps.length=l) (hf:S.form=none) (hfm:fr.form=f) (hK:S.AB=fr::K) (hp:fr.pos=f.ks.length) (hg:fr.B8++[S.val]=a++ps)
structure GaI(c:Cx)(M O:Q5)(w:World)(F:Fg)(kv:Value)(K:List CW)(n:Nat)(f:PF)(env:Env)(a:List PV)(l q:Nat)(sl hv tk:Value)(b1 b2 b3:Nat)(ws:List Value)(vv:Value)(wr:World):Prop where
 ex:∃M' G n' W' ps,Stp M w M' wr/\(∀b,O b->wr.heap[b]?=w.heap[b]?)/\Fg.Le F G/\St c M' (Ow O vv) wr G kv n' W'/\wr.ownsRow 0 B9 1 vv ws.length ws/\(∀g,vv.ownBlock=some g->¬O g)/\BY (RV G.s) ws ps/\GS c f env K a l n' W' ps/\n<=n'/\n'+2*OT (f.ks.drop (a.length+ps.length))<=q/\Bx M' wr b1 sl TCds/\Bx M' wr b2 hv TPlP/\Bx M' wr b3 tk TTk2
theorem GS.next{f:PF}{env:Env}{a ps:List PV}{l:Nat}(j:f.k=.call)(e:a.length+l=f.ks.length)(g:c.At k W S)(i:S.form=none)(b:S.AB=⟨f,a++ps,a.length+ps.length+1,env⟩::K)(n:ps.length<l)(m:k<c.T):GS c f env K a l (k+1) W (ps++[S.val]):=by
 by_cases h:ps.length+1=l
 ·exact .all S _ k rfl g (by simp [h]) i rfl b (by show a.length+ps.length+1=_;omega) w9
 ·have d:=aIG (W:=W) i b j (show a.length+ps.length+1≠f.ks.length from by omega);exact .part _ (g.next (aF8 b) d (fun _=>rfl) m) r7 (by simp [Pl.PS.work,Pl.PS.push];congr 1) rfl (by simp [Pl.PS.work,Pl.PS.push];omega)
theorem Tryz.fp_q(v:Value)(w:World):(Instr.typeAssert (.iface 371 v) 113 149 true).run prog w=.ok (.tuple #[Q1 0,.bool false]) w:=by kernel_rfl
theorem Tryz.fp_c(v:Value)(w:World):(Instr.typeAssert (.iface 384 v) 113 149 true).run prog w=.ok (.tuple #[Q1 0,.bool false]) w:=by kernel_rfl
theorem Tryz.fp_cc(v:Value)(w:World):(Instr.typeAssert (.iface 146 v) 113 149 true).run prog w=.ok (.tuple #[Q1 0,.bool false]) w:=by kernel_rfl
theorem RV.isPr{p:PV}(h:RV s v p)(c:s.tq=371)(d:s.tc=384):(∃(a:Nat)(t:AE),AO[a]?=some t/\a<12/\p=.AZ t/\v=.iface TPrm (.int .i64 (a:Int)))\/((∃T x,v=.iface T x/\∀w,(Instr.typeAssert (.iface T x) 113 149 true).run prog w=.ok (.tuple #[Q1 0,.bool false]) w)/\(∀x,v≠.iface TPrm x)):=by
 cases h with
 | AZ k t h f=>exact .inl ⟨k,t,h,f,rfl,rfl⟩
 | num n=>exact .inr ⟨⟨_,_,rfl,Tryz.Q_ _⟩,fun x e=>a8⟩
 | AT b=>exact .inr ⟨⟨_,_,rfl,Tryz.R8 _⟩,fun x e=>a8⟩
 | name t=>exact .inr ⟨⟨_,_,rfl,Tryz.VW _⟩,fun x e=>a8⟩
 | empty=>exact .inr ⟨⟨_,_,rfl,Tryz.R9 _⟩,fun x e=>a8⟩
 | nothing=>exact .inr ⟨⟨_,_,rfl,Tryz.OY _⟩,fun x e=>a8⟩
 | pair i b h=>exact .inr ⟨⟨_,_,rfl,Tryz.VV _⟩,fun x e=>a8⟩
 | proc i b h g=>exact .inr ⟨⟨_,_,rfl,by rw [c];exact Tryz.fp_q _⟩,fun x e=>(by simp only [Value.iface.injEq,c] at e;exact absurd e.1 w8)⟩
 | cont i b h=>exact .inr ⟨⟨_,_,rfl,by rw [d];exact Tryz.fp_c _⟩,fun x e=>(by simp only [Value.iface.injEq,d] at e;exact absurd e.1 w8)⟩
 | EC=>exact .inr ⟨⟨_,_,rfl,Tryz.fp_cc _⟩,fun x e=>a8⟩
theorem pend_of{gv:Value}{us:List Value}(h:St c M O w F kv n W)(l:RV F.s av fx)(m:ArgsAt M O w F.s gv us)(o:BY (RV F.s) us args)(p:PnW W fx args) :Pend c M O ((w.setCell ⟨c.rb,2,none⟩ av).setCell ⟨c.rb,3,none⟩ gv) F kv n W [] fx args/\Stp M w M ((w.setCell ⟨c.rb,2,none⟩ av).setCell ⟨c.rb,3,none⟩ gv)/\∀b,O b->((w.setCell ⟨c.rb,2,none⟩ av).setCell ⟨c.rb,3,none⟩ gv).heap[b]?=w.heap[b]? := by
 obtain⟨g,q,e,i,d,r,s⟩:=h.mc;have t:=d.mf 2 av;have j:(w.setCell ⟨c.rb,2,none⟩ av).heap[c.rb]?=some (.cells #[kv,g,av,e,Q1 n,Q1 c.z,i] TFMc (0,0)):=aD d.blk 2 av;have a:Mch c M (w.setCell ⟨c.rb,2,none⟩ av) kv g av e n i:=⟨j,d.m⟩
 have f:=t.trans (a.mf 3 gv);refine⟨⟨h.fw.mf f,⟨g,av,gv,i,[],us,⟨aD j 3 gv,d.m⟩,(r.set d 2 av).set a 3 gv,BY.nil _,(s.setF d 2 av).setF a 3 gv,l,m.mf f,o⟩,h.bd,p⟩,f.AQ,fun b u=>?_⟩;obtain⟨v,⟨x,k⟩,_⟩:=h.fw.oth b u;exact(f.same v k (.inl rfl)).2.trans k.symm
theorem aMT{gv:Value}{S0:PS}{us:List Value}(h:St c M O w F kv (k+1) W)(a:c.At k W S)(u:S.ended=false)(b:Pl.step W S=Pl.apply W S0 fx args)(y:S0.AB=K)(f:RV F.s av fx)(i:ArgsAt M O w F.s gv us)(j:BY (RV F.s) us args)(d:∀v∈fx::args,BL W v)(l:args.length<=2000) :Q2 232 #[Q0 c.rb,av,gv] w (Post c M O w F kv K (k+1) 1):=by
 rcases f.isPr h.fw.tq h.fw.tc with⟨z,t,A,B,rfl,rfl⟩ | ⟨⟨T,x,rfl,G⟩,m⟩
 ·have H:Hid (Q2 220 #[Q0 c.rb,Q1 z,gv] w (Post c M O w F kv K (k+1) 1)):=aK3 ⟨h,a,u,b.trans (aJM A B _),y,i.r,j,fun v f=>d v (by simp [f])⟩ z A B;have L:=Tryz.vp_p;obtain⟨I,n,rfl,_⟩:=i;unfold TPrm;clear h a b f j d;go_enter func232,ntmps232;go_wp2_with (go_at_call 220;refine(Calls.mono H ?_);intro e N o;obtain⟨P,Q,rfl⟩:=o.tup;have p:=(show Hid _ from o);clear o);go_ret2;exact p
 ·have q:∀t,fx=.AZ t->t=AU:=fun t e=>by
   subst e
   cases f with
   | AZ k _ _ _=>exact absurd rfl (m _)
   | EC=>rfl
  obtain⟨C,D,E⟩:=pend_of h f i j ⟨d,q,l⟩;have J:Hid (Post c M O w F kv K (k+1) 1 (aGG .nilIface .nilIface) ((w.setCell ⟨c.rb,2,none⟩ (.iface T x)).setCell ⟨c.rb,3,none⟩ gv)):=⟨M,F,k,W,S,D,E,Fg.Le.refl _,a,u,x8,x8,.pend [] S0 fx args b (by rw [y];rfl) w9 C⟩
  obtain⟨R,r,s,U,g,_,_⟩:=h.mc;have V:w.cell? ⟨c.rb,2,none⟩=some r:=aA g.blk 2;have X:w.cell? ⟨c.rb,3,none⟩=some s:=aA g.blk 3;have Y:w.frozen? ⟨c.rb,2,none⟩=false:=aF g.blk 2;have Z:w.frozen? ⟨c.rb,3,none⟩=false:=aF g.blk 3;obtain⟨I,n,rfl,_⟩:=i;clear h a b f j d C D E g;go_enter func232,ntmps232;go_wp2_with fail;go_ret2;exact J
theorem aG4(w:World)(j c d:Nat)(a b:Array Value):Q2 204 #[Q1 j,fnV c a,fnV d b] w fun e g=>e=.returned (fnV 221 #[pt w.heap.size,pt (w.heap.size+1),pt (w.heap.size+1+1)])/\g=((w.alloc (.cells #[Q1 j] TInt)).alloc (.cells #[fnV c a] TCod)).alloc (.cells #[fnV d b] TTak):=by have h:∀(f:Fn)(first a:Array Value)(w:World),(Instr.makeFunc f first a).run prog w=.ok (.func f first a) w:=fun _ _ _ _=>rfl;go_enter func204,ntmps204;go_wp2_with fail;go_ret;exact⟨rfl,rfl⟩
theorem Bx.three(d:∀k,M k->k<w.heap.size){b c:Value}{A B C:TypeId}:Bx M (((w.alloc (.cells #[a] A)).alloc (.cells #[b] B)).alloc (.cells #[c] C)) w.heap.size a A/\Bx M (((w.alloc (.cells #[a] A)).alloc (.cells #[b] B)).alloc (.cells #[c] C)) (w.heap.size+1) b B/\Bx M (((w.alloc (.cells #[a] A)).alloc (.cells #[b] B)).alloc (.cells #[c] C)) (w.heap.size+1+1) c C:=by
 refine⟨⟨fun x=>by have:=d _ x;omega,(k_ r7).trans ((k_ w9).trans (heap_alloc_new w _))⟩,⟨fun x=>by have:=d _ x;omega,(k_ w9).trans (by have:=heap_alloc_new (w.alloc (.cells #[a] A)) (.cells #[b] B);rwa [show(w.alloc (.cells #[a] A)).heap.size=w.heap.size+1 from by simp] at this)⟩,⟨fun x=>by have:=d _ x;omega,?_⟩⟩;have:=heap_alloc_new ((w.alloc (.cells #[a] A)).alloc (.cells #[b] B)) (.cells #[c] C)
 rwa [show((w.alloc (.cells #[a] A)).alloc (.cells #[b] B)).heap.size=w.heap.size+1+1 from by simp] at this
theorem aG3(w:World)(a b c:Obj):Q3 w (((w.alloc a).alloc b).alloc c):=(b_.alloc w9 _).alloc r7 _
theorem aLD(w:World)(f h:Nat)(d:Array Value):Q2 238 #[Q1 f,fnV h d] w fun e i=>∃g,e=.returned g/\(∃k c,g=fnV k c)/\Q3 w i/\∀M:Q5,(∀k,M k->k<w.heap.size)->One M i g f (fnV h d):=by
 have r:∀(o:Fn)(first d:Array Value)(w:World),(Instr.makeFunc o first d).run prog w=.ok (.func o first d) w:=fun _ _ _ _=>rfl;have l:Q3 w (w.alloc (.cells #[Q1 f] TPrm)):=b_;have m:(w.alloc (.cells #[Q1 f] TPrm)).heap.size=w.heap.size+1:=by simp
 have s:Hid (Q2 204 #[Q1 3,fnV h d,fnV 244 #[pt w.heap.size]] (w.alloc (.cells #[Q1 f] TPrm)) fun e i=>∃g,e=.returned g/\(∃k c,g=fnV k c)/\Q3 w i/\∀M:Q5,(∀k,M k->k<w.heap.size)->One M i g f (fnV h d)):=(aG4 _ 3 h _ d _).mono (fun e i ⟨t,u⟩=>by
  subst u;have j:=aG3 (w.alloc (.cells #[Q1 f] TPrm)) (.cells #[Q1 ((3:Nat):Int)] TInt) (.cells #[fnV h d] TCod) (.cells #[fnV 244 #[pt w.heap.size]] TTak);refine⟨_,t,⟨_,_,rfl⟩,l.trans (j.mono l.size),fun M p=>?_⟩;obtain⟨v,x,z⟩:=Bx.three (M:=M) (w:=w.alloc (.cells #[Q1 f] TPrm)) (a:=.int .i64 ((3:Nat):Int)) (b:=fnV h d) (c:=fnV 244 #[pt w.heap.size]) (A:=TInt) (B:=TCod) (C:=TTak) (fun k D=>by have:=p k D;omega)
  exact⟨_,_,_,w.heap.size,rfl,v,x,z,fun y=>by have:=p _ y;omega,(j.block _ x8).trans (heap_alloc_new w _)⟩)
 clear l m;go_enter func238,ntmps238;go_wp2_with (go_at_call 204;refine(Calls.mono s ?_);rintro e E ⟨g,rfl,q⟩;have n:=(show Hid _ from q);clear q);go_ret;exact⟨_,rfl,n⟩
theorem aLC(w:World)(g j h:Nat)(f d:Array Value):Q2 239 #[Q1 g,fnV j f,fnV h d] w fun e m=>∃i,e=.returned i/\(∃k c,i=fnV k c)/\Q3 w m/\∀M:Q5,(∀k,M k->k<w.heap.size)->Two M m i g (fnV j f) (fnV h d):=by
 have t:∀(r:Fn)(first f:Array Value)(w:World),(Instr.makeFunc r first f).run prog w=.ok (.func r first f) w:=fun _ _ _ _=>rfl;have n:Q3 w ((w.alloc (.cells #[Q1 g] TPrm)).alloc (.cells #[fnV h d] TCod)):=b_.alloc w9 _;have o:((w.alloc (.cells #[Q1 g] TPrm)).alloc (.cells #[fnV h d] TCod)).heap.size=w.heap.size+1+1:=by simp
 have u:Hid (Q2 204 #[Q1 3,fnV j f,fnV 245 #[pt (w.heap.size+1),pt w.heap.size]] ((w.alloc (.cells #[Q1 g] TPrm)).alloc (.cells #[fnV h d] TCod)) fun e m=>∃i,e=.returned i/\(∃k c,i=fnV k c)/\Q3 w m/\∀M:Q5,(∀k,M k->k<w.heap.size)->Two M m i g (fnV j f) (fnV h d)):=(aG4 _ 3 j _ f _).mono (fun e m ⟨v,x⟩=>by
  subst x;have l:=aG3 ((w.alloc (.cells #[Q1 g] TPrm)).alloc (.cells #[fnV h d] TCod)) (.cells #[Q1 ((3:Nat):Int)] TInt) (.cells #[fnV j f] TCod) (.cells #[fnV 245 #[pt (w.heap.size+1),pt w.heap.size]] TTak);refine⟨_,v,⟨_,_,rfl⟩,n.trans (l.mono n.size),fun M p=>?_⟩;obtain⟨z,D,E⟩:=Bx.three (M:=M) (w:=(w.alloc (.cells #[Q1 g] TPrm)).alloc (.cells #[fnV h d] TCod)) (a:=.int .i64 ((3:Nat):Int)) (b:=fnV j f) (c:=fnV 245 #[pt (w.heap.size+1),pt w.heap.size]) (A:=TInt) (B:=TCod) (C:=TTak) (fun k F=>by have:=p k F;omega);refine⟨_,_,_,w.heap.size+1,w.heap.size,rfl,z,D,E,⟨fun y=>by have:=p _ y;omega,(l.block _ x8).trans ?_⟩,⟨fun y=>by have:=p _ y;omega,(l.block _ x8).trans ((k_ w9).trans (heap_alloc_new w _))⟩⟩;have:=heap_alloc_new (w.alloc (.cells #[Q1 g] TPrm)) (.cells #[fnV h d] TCod)
  rwa [show(w.alloc (.cells #[Q1 g] TPrm)).heap.size=w.heap.size+1 from by simp] at this)
 clear n o;go_enter func239,ntmps239;go_wp2_with (go_at_call 204;refine(Calls.mono u ?_);rintro e G ⟨i,rfl,s⟩;have q:=(show Hid _ from s);clear s);go_ret;exact⟨_,rfl,q⟩
inductive ScR (M:Q5) (w:World) (s:Sg):Value->List (List AE)->Prop
 | nil:ScR M w s (.pointer none) []
 | cons (b:Nat) (sl up:Value) (ns:List AE) (sc:List (List AE)) (hb:Bk M w b #[sl,up] TScp) (hn:EI M w s sl ns) (h:ScR M w s up sc):ScR M w s (pt b) (ns::sc)
theorem ScR.go{t:Sg}(a:Stp M w M' w')(l:Sg.Le s t){sc:List (List AE)}(h:ScR M w s v sc):ScR M' w' t v sc:=by
 induction h with
 | nil=>exact .nil
 | cons b c d e sc f g _ i=>exact .cons b c d e sc (f.go a) (g.go a l) i
theorem ScR.ptr{sc:List (List AE)}(h:ScR M w s v sc):∃o,v=.pointer o:=by cases h<;>exact⟨_,rfl⟩
def FndQ(sc:List (List AE))(nm:AE)(e:Ending):Prop:=(∃dp ix:Nat,scF sc nm=some (dp,ix)/\dp<=sc.length/\ix<=1000/\e=.returned (.tuple #[Q1 dp,Q1 ix,.bool true]))\/(scF sc nm=none/\e=.returned (.tuple #[Q1 0,Q1 0,.bool false]))
theorem aJS{a:List (List AE)}{r:List (List AE)}(h:∀b∈a,nm∉b):scF (a++r) nm=(scF r nm).map (fun p=>(p.1+a.length,p.2)):=by
 induction a with
 | nil=>simp
 | cons b a c =>
  have e:scF (b::(a++r)) nm=(scF (a++r) nm).map (fun p=>(p.1+1,p.2)):=by show(if nm∈b then _ else _)=_;rw [if_neg (h b w9)]
  rw [List.cons_append,e,c (fun x d=>h x (by simp [d]))]
  cases scF r nm with
  | none=>rfl
  | some p=>simp [Nat.add_assoc]
theorem aK6(M:Q5)(w:World)(s:Sg)(v:Value)(sc:List (List AE))(nm:AE)(k:Nat)(hn:s.ns.Nodup)(he:ScR M w s v sc)(hk:s.ns[k]?=some nm)(hl:sc.length<=1100) :Q2 199 #[v,.agg #[.string ⟨nm.toArray⟩,Q1 k]] w fun e w'=>Q3 w w'/\FndQ sc nm e:=by
 have HN:=h_ hn;have HE:=h_ he;have HK:=h_ hk;have L:Q3 w (w.alloc (.cells #[.string ⟨nm.toArray⟩,Q1 k] B6)):=b_;have aa:=h_ L;clear hn he hk L;go_enter func199,ntmps199;go_wp2_with fail
 go_loopw [0,4] (fun v N wr=>∃c r,N=.int .i64 ((List.length c:Nat):Int)/\Hid (c++r=sc/\(∀d∈c,nm∉d)/\ScR M w s v r/\Q3 w wr/\wr.heap[w.heap.size]?=some (.cells #[.string ⟨nm.toArray⟩,Q1 k] B6 (0,0)))) (fun _ N _=>sc.length-(RowKit.intOf N).toNat)
 case atStart=>exact⟨[],sc,rfl,rfl,fun _ h=>(by cases h),HE,aa,heap_alloc_new w _⟩
 case round =>
  obtain⟨c,r,rfl,HI⟩:=hrel;obtain⟨o,z,ab,q,u⟩:=HI.out;have ai:c.length<=1100:=by have:=congrArg List.length o;simp at this;omega
  cases ab with
  | nil =>
   have HF:Hid (scF sc nm=none):=by rw [<- o,aJS z];rfl
   have HB:=h_ q;clear o z q u HI;go_wp2_with fail
   go_ret3
   exact⟨HB,.inr ⟨HF,rfl⟩⟩
  | cons b sl up d F hb ac O =>
   obtain⟨⟨ks,P,G⟩,Q,C⟩:=ac;have R:=G;obtain⟨_,H,y,rfl,ad,_⟩:=R;have m:Hid (ScR M w s up F/\c++d::F=sc/\w.heap[b]?=some (.cells #[.slice H d.length y,up] TScp (0,0))/\BY (fun k t=>s.ns[k]?=some t) ks d/\Sl M w B6 2 (.slice H d.length y) d.length (nmRow d ks)/\d.Nodup/\d.length<=1000/\∀d∈c,nm∉d):=⟨O,o,hb.2,P,G,Q,C,z⟩
   have HB:=h_ q;have S:=aB hb.2;have T:=(q.block b S).trans hb.2;have c0:wr.cell? ⟨b,0,none⟩=some (.slice H d.length y):=aA T 0;have ae:=h_ u;clear hb P G Q C z O o q T u HI;go_wp2_with fail
   go_loopw [4,20] (fun N iv wq=>N=.int .i64 ((List.length c:Nat):Int)/\∃i:Nat,iv=.int .i64 (i:Int)/\i<=d.length/\Hid (Q3 w wq/\wq.heap[w.heap.size]?=some (.cells #[.string ⟨nm.toArray⟩,Q1 k] B6 (0,0))/\∀j,j<i->d[j]? ≠ some nm)) (fun _ iv _=>d.length-(RowKit.intOf iv).toNat)
   case atStart=>exact⟨rfl,0,rfl,Nat.zero_le _,HB,ae,fun j U=>absurd U (Nat.not_lt_zero _)⟩
   case round =>
    obtain⟨rfl,i,rfl,hi,HQ⟩:=hrel;have aj:=m.2.2.2.2.2.2.1;obtain⟨f,a,g⟩:=HQ.out;by_cases V:i<d.length
    ·obtain⟨t,I⟩:∃t,d[i]?=some t:=⟨_,g_ V⟩
     obtain⟨k2,J,A⟩:=m.2.2.2.1.at_ I;obtain⟨g2,D,rfl,W,_,_,d0,d1⟩:=X0 m.2.2.2.2.1 I J;have ak:=(f.cell (p:=⟨g2,D+i*2,none⟩) W).trans d0;have al:=(f.cell (p:=⟨g2,D+i*2+1,none⟩) W).trans d1;have b0:wr.cell? ⟨w.heap.size,1,none⟩=some (Q1 k):=aA a 1;have af:w.heap.size<wr.heap.size:=aB a;have E:(i:Int)<(d.length:Int):=by omega
     have h0:(0:Int)<=(i:Int):=by omega
     have n:=h_ f;have l:=h_ a;have ag:=h_ g;by_cases K:k2=k
     ·subst K;have B:t=nm:=by have:=A.symm.trans HK;exact i_ this
      subst B;have HF:Hid (FndQ sc t (.returned (.tuple #[Q1 ((c.length:Nat):Int),Q1 i,.bool true]))):=by refine .inl ⟨c.length,i,?_,by rw [<- m.2.1];simp,x8,rfl⟩;rw [<- m.2.1,aJS m.2.2.2.2.2.2.2];unfold scF;rw [if_pos (q_ I)];have:=cV m.2.2.2.2.2.1 I;simp [this]
      clear f a g d0 d1 I J A HQ;go_wp2_with fail
      go_ret3
      exact⟨(n.alloc n.size _),HF⟩
     ·have am:((k2:Int)==(k:Int))=false:=beq_eq_false_iff_ne.2 x8;have B:t≠nm:=fun e=>by subst e;refine K ?_;have h1:=cV HN A;have h2:=cV HN HK;omega
      have HT:Hid (t≠nm/\d[i]?=some t):=⟨B,I⟩
      clear f a g d0 d1 I J A HQ B K;go_wp2_with fail
      go_roundw
      case rel =>
       refine⟨rfl,i+1,k7,V,n.alloc n.size _,(k_ af).trans l,fun j U e=>?_⟩;rcases Nat.lt_or_ge j i with X | X
       ·exact ag.out j X e
       ·obtain rfl:j=i:=by omega
        rw [HT.2] at e;exact HT.1 (i_ e)
      case measure=>simp only [RowKit.intOf];omega
    ·have E:i=d.length:=by omega
     subst E;have ah:Hid (nm∉d):=fun Y=>by obtain⟨j,U⟩:=List.getElem?_of_mem Y;exact g j (s_ U).1 U
     have Z:=(f.block b S).trans m.2.2.1;obtain⟨ou,rfl⟩:=m.1.ptr;have c1:wr.cell? ⟨b,1,none⟩=some (.pointer ou):=aA Z 1;have n:=h_ f;have l:=h_ a;clear f a g Z HQ;go_wp2_with fail
     go_roundw
     case rel =>
      refine⟨c++[d],F,w9,?_,?_,m.1,n,l⟩
      ·rw [<- m.2.1];simp
      ·intro x hx;rcases List.mem_append.1 hx with hx | hx
       ·exact m.2.2.2.2.2.2.2 x hx
       ·rw [List.mem_singleton.1 hx];exact ah
     case measure =>have:=congrArg List.length m.2.1;simp [RowKit.intOf] at this ⊢;omega
def GlbQ(L:Lo)(M O P:Q5)(w:World)(F:Fg)(W:PW)(N k:Nat)(e:Ending)(w':World):Prop:=∃g M' G,e=.returned (pt g)/\Cmp L M O P w F W M' w' G (N+1)/\G.gl k=some g
theorem aHR(h:FW L M O w F N W)(i:∀k,P k->Cr M w F k)(j:F.s.ns[k]?=some nm)(o:N+1<=9000000000000000000) :Q2 202 #[Q0 L.sb,.agg #[.string ⟨nm.toArray⟩,Q1 k]] w (GlbQ L M O P w F W N k):=by
 have d:k<=MH:=by have:=(s_ j).1;have:=h.CY.B3.nsok;unfold CT at this;omega
 obtain⟨s,t,a⟩:=h.map.F6;have e:=aB a;have p:=aB h.NN.2;have u:w.cell? ⟨L.sb,0,none⟩=some (.map (some L.gb)):=aA h.NN.2 0;have b:Q3 w (w.alloc (.cells #[.string ⟨nm.toArray⟩,Q1 k] B6)).drew:=b_.drew
 cases c:F.gl k with
 | some g =>
  have l:=gl_yes h.map d c (w.alloc (.cells #[.string ⟨nm.toArray⟩,Q1 k] B6)).drew (b.block _ e);have m:Hid (GlbQ L M O P w F W N k (.returned (pt g)) (w.alloc (.cells #[.string ⟨nm.toArray⟩,Q1 k] B6)).drew):=⟨g,M,F,rfl,((Cmp.refl h i).below b).up x8,c⟩
  unfold B6 at l;clear h i j a c b;go_enter func202,ntmps202;go_wp2_with fail
  go_region
  all_goals
   go_wp2_with fail
   go_ret;exact m
 | none =>
  have l:=gl_no h.map d c (w.alloc (.cells #[.string ⟨nm.toArray⟩,Q1 k] B6)).drew (b.block _ e);have f:Q3 w (((w.alloc (.cells #[.string ⟨nm.toArray⟩,Q1 k] B6)).alloc (.cells #[.nilIface,Q1 0] TGlb)).drew).drew:=((b_.alloc w9 _).drew).drew
  obtain⟨q,r,_,n⟩:=h.newGlob i j c o (g:=w.heap.size+1) f x8 (by
   have:=heap_alloc_new (w.alloc (.cells #[.string ⟨nm.toArray⟩,Q1 k] B6)) (.cells #[.nilIface,Q1 0] TGlb)
   rwa [World.size_alloc] at this)
  have m:Hid (GlbQ L M O P w F W N k (.returned (pt (w.heap.size+1))) q):=⟨_,_,_,rfl,n,by show(if k=k then _ else _)=_;rw [if_pos rfl]⟩
  unfold B6 at l;unfold B6 TGlb at r;clear h i j a c b f n;go_enter func202,ntmps202;go_wp2_with fail
  go_region
  all_goals
   go_wp2_with fail
   go_region
   all_goals
    go_wp2_with fail
    go_ret;exact m
def CmpQ(L:Lo)(M O P:Q5)(w:World)(F:Fg)(W:PW)(f:PF)(sc:List (List AE))(N:Nat)(e:Ending)(w':World):Prop:=∃u M' G,e=.returned u/\Cmp L M O P w F W M' w' G N/\RC M' w' G u f sc
def CmpOk(L:Lo)(O:Q5)(W:PW)(f:PF):Prop:=∀(M P:Q5)(w:World)(F:Fg)(N:Nat)(v av:Value) (sc:List (List AE)),FW L M O w F N W->(∀k,P k->Cr M w F k)->CP M w F.s v f->ScR M w F.s av sc->sc.length+IU f<=1100->N+IU f<=9000000000000000000 ->
 Q2 180 #[Q0 L.sb,v,av] w (CmpQ L M O P w F W f sc (N+IU f))
theorem Cmp.mlt(h:Cmp L M O P w F W M' w' G N):∀k,M' k->k<w'.heap.size:=h.fw.CY.mlt
theorem FW.mlt(h:FW L M O w F N W):∀k,M k->k<w.heap.size:=h.CY.mlt
theorem FW.nd(h:FW L M O w F N W):F.s.ns.Nodup:=by obtain⟨D,_,a⟩:=h.CY.B3.map;exact a.nodup
theorem aGH(a:∀k,M k->k<b)(h:w.heap[b]?=some (.cells #[v] T (0,0))):Bx M w b v T:=⟨fun y=>Nat.lt_irrefl _ (a b y),h⟩
theorem aKE(h:FW L M O w F N W)(c:∀k,P k->Cr M w F k){x:Value}{v:PV}(a:RV F.s x v)(nm:AE)(d:Pl.A9)(b:List PF)(ns:List AE)(sc:List (List AE)) :Q2 186 #[x] w (CmpQ L M O P w F W (.mk .const nm d v b ns) sc N):=by
 have e:Q3 w (w.alloc (.cells #[x] B9)):=b_;have f:Hid (CmpQ L M O P w F W (.mk .const nm d v b ns) sc N (.returned (fnV 198 #[pt w.heap.size])) (w.alloc (.cells #[x] B9))):=⟨_,M,F,rfl,(Cmp.refl h c).below e,.const w.heap.size x nm d v b ns sc (aGH h.mlt (heap_alloc_new w _)) a⟩
 obtain⟨T,y,rfl⟩:=a.iface;clear h c a e;go_enter func186,ntmps186;go_wp2_with fail;go_ret;exact f
theorem p_rowMk(w:World)(b:Option Addr)(n a:Nat):Q2 189 #[.slice b n a] w fun e c=>e=.returned (fnV 206 #[pt w.heap.size])/\c=w.alloc (.cells #[.slice b n a] TCds):=by
 go_enter func189,ntmps189
 go_wp2_with fail
 go_ret;exact⟨rfl,rfl⟩
theorem aH1(d:∀k,M k->k<w.heap.size)(a b c:Value):Q3 w (((w.alloc (.cells #[a] TInt)).alloc (.cells #[b] TCod)).alloc (.cells #[c] TTak))/\Bx M (((w.alloc (.cells #[a] TInt)).alloc (.cells #[b] TCod)).alloc (.cells #[c] TTak)) w.heap.size a TInt/\Bx M (((w.alloc (.cells #[a] TInt)).alloc (.cells #[b] TCod)).alloc (.cells #[c] TTak)) (w.heap.size+1) b TCod/\Bx M (((w.alloc (.cells #[a] TInt)).alloc (.cells #[b] TCod)).alloc (.cells #[c] TTak)) (w.heap.size+1+1) c TTak:=⟨aG3 w _ _ _,(Bx.three d).1,(Bx.three d).2.1,(Bx.three d).2.2⟩
theorem aMV(h:FW L M O w F N W)(r:∀k,P k->Cr M w F k){v1 v2:Value}{y z:PF}{sc:List (List AE)}(j:RC M w F u x sc)(m:RC M w F v1 y sc)(n:RC M w F v2 z sc)(nm:AE)(d:Pl.A9)(v:PV)(ns:List AE) :Q2 188 #[u,v1,v2] w (CmpQ L M O P w F W (.mk .iff nm d v [x,y,z] ns) sc N):=by
 obtain⟨s,t,J⟩:=j.func;obtain⟨V,X,K⟩:=m.func;obtain⟨Y,Z,Q⟩:=n.func;obtain⟨a,b⟩:∃a,a=(w.alloc (.cells #[v1] TCod)).alloc (.cells #[v2] TCod):=⟨_,rfl⟩
 have c:Q3 w a:=by rw [b];exact b_.alloc w9 _
 have o:a.heap.size=w.heap.size+1+1:=by rw [b];simp
 have A:Bx M a w.heap.size v1 TCod:=aGH h.mlt (by rw [b];exact(k_ w9).trans (heap_alloc_new w _))
 have B:Bx M a (w.heap.size+1) v2 TCod:=aGH (fun k R=>Nat.lt_succ_of_lt (h.mlt k R)) (by
  rw [b];have:=heap_alloc_new (w.alloc (.cells #[v1] TCod)) (.cells #[v2] TCod)
  rwa [World.size_alloc] at this)
 have f:=(Cmp.refl h r).below c;obtain⟨p,C,D,E⟩:=aH1 (M:=M) (w:=a) f.mlt (.int .i64 1) u (fnV 205 #[pt (w.heap.size+1),pt w.heap.size]);have i:=Stp.AA (M:=M) c;have g:=Stp.AA (M:=M) p;have l:=Fg.Le.refl F;have G:Hid (CmpQ L M O P w F W (.mk .iff nm d v [x,y,z] ns) sc N (.returned (fnV 221 #[pt a.heap.size,pt (a.heap.size+1),pt (a.heap.size+1+1)])) (((a.alloc (.cells #[Q1 1] TInt)).alloc (.cells #[u] TCod)).alloc (.cells #[fnV 205 #[pt (w.heap.size+1),pt w.heap.size]] TTak))) :=⟨_,M,F,rfl,f.below p,.iff _ _ _ _ _ u v1 v2 x y z nm d v ns sc C D E (B.go g) (A.go g) ((j.go i l).go g l) ((m.go i l).go g l) ((n.go i l).go g l)⟩
 subst J K Q
 have S:Hid (Q2 204 #[Q1 1,fnV s t,fnV 205 #[pt (w.heap.size+1),pt w.heap.size]] a fun e H=>CmpQ L M O P w F W (.mk .iff nm d v [x,y,z] ns) sc N e H/\∃x,e=.returned x):=(aG4 a 1 s 205 t _).mono (fun e H ⟨T,U⟩=>by
  subst T U
  exact⟨G,_,rfl⟩)
 subst b;clear h r j m n c o A B f p C D E i g G;go_enter func188,ntmps188;go_wp2_with (go_at_call 204;refine(Calls.mono S ?_);rintro e w3 ⟨I,x9,rfl⟩;have q:=(show Hid _ from I);clear I);go_ret;exact q
theorem aJX(h:FW L M O w F N W)(s:∀k,P k->Cr M w F k)(t:F.s.ns[k]?=some nm){sc:List (List AE)}(u:ScR M w F.s av sc)(K:sc.length<=1100)(Q:N+1<=9000000000000000000)(d:Pl.A9)(v:PV)(q:List PF)(ns:List AE) :Q2 187 #[Q0 L.sb,.agg #[.string ⟨nm.toArray⟩,Q1 k],av] w (CmpQ L M O P w F W (.mk .name nm d v q ns) sc (N+1)):=by
 have i:Q3 w (w.alloc (.cells #[.string ⟨nm.toArray⟩,Q1 k] B6)):=b_;have R:=(Cmp.refl h s).below i;have x:Hid (Q2 199 #[av,.agg #[.string ⟨nm.toArray⟩,Q1 k]] (w.alloc (.cells #[.string ⟨nm.toArray⟩,Q1 k] B6)) fun e f=>(Q3 w f/\f.heap[w.heap.size]?=some (.cells #[.string ⟨nm.toArray⟩,Q1 k] B6 (0,0)))/\FndQ sc nm e):=(aK6 M _ F.s av sc nm k h.nd (u.go (Stp.AA i) (Sg.Le.refl _)) t K).mono (fun e f ⟨E,S⟩=>⟨⟨i.trans (E.mono w9),(E.block _ w9).trans (heap_alloc_new w _)⟩,S⟩)
 have z:Hid (∀a,Q3 w a->∀l n:Nat,scF sc nm=some (l,n)->l<=sc.length->CmpQ L M O P w F W (.mk .name nm d v q ns) sc (N+1) (.returned (fnV 200 #[pt a.heap.size,pt (a.heap.size+1)])) ((a.alloc (.cells #[Q1 l] TInt)).alloc (.cells #[Q1 n] TInt))):=fun a b l n o H=>by
  have p:=(Cmp.refl h s).below b;have m:Q3 a ((a.alloc (.cells #[Q1 l] TInt)).alloc (.cells #[Q1 n] TInt)):=b_.alloc w9 _;refine⟨_,M,F,rfl,(p.below m).up x8,.loc _ _ l n nm d v q ns sc (aGH p.mlt ((k_ w9).trans (heap_alloc_new a _))) (aGH (fun j T=>Nat.lt_succ_of_lt (p.mlt j T)) ?_) o x8⟩;have:=heap_alloc_new (a.alloc (.cells #[Q1 l] TInt)) (.cells #[Q1 n] TInt)
  rwa [World.size_alloc] at this
 have A:Hid (∀a,Q3 w a->a.heap[w.heap.size]?=some (.cells #[.string ⟨nm.toArray⟩,Q1 k] B6 (0,0))->scF sc nm=none->Q2 202 #[Q0 L.sb,.agg #[.string ⟨nm.toArray⟩,Q1 k]] ((a.alloc (.cells #[Q1 0] TInt)).alloc (.cells #[Q1 0] TInt)) fun e f=>∃g,e=.returned (pt g)/\CmpQ L M O P w F W (.mk .name nm d v q ns) sc (N+1) (.returned (fnV 203 #[pt f.heap.size,pt w.heap.size])) (f.alloc (.cells #[pt g] TGlP))):=fun a b c o=>by
  have m:Q3 a ((a.alloc (.cells #[Q1 0] TInt)).alloc (.cells #[Q1 0] TInt)):=b_.alloc w9 _;have B:=b.trans (m.mono b.size);have p:=(Cmp.refl h s).below B;refine(aHR p.fw p.cr t Q).mono (fun e f U=>?_);obtain⟨g,V,G,rfl,I,X⟩:=U;have r:Q3 f (f.alloc (.cells #[pt g] TGlP)):=b_;have Y:Bk M ((a.alloc (.cells #[Q1 0] TInt)).alloc (.cells #[Q1 0] TInt)) w.heap.size #[.string ⟨nm.toArray⟩,Q1 k] B6:=⟨fun y=>Nat.lt_irrefl _ (h.mlt _ y),(m.block _ (aB c)).trans c⟩
  have C:=p.trans I;exact⟨g,rfl,_,V,G,rfl,C.below r,.DI _ _ g k nm d v q ns sc (aGH C.mlt (heap_alloc_new f _)) ((Y.go I.AQ).go (Stp.AA r)) (bS C.le.s.ns t) X o⟩
 obtain⟨oa,rfl⟩:=u.ptr;clear h s u R i t;go_enter func187,ntmps187
 go_upto_region 2 with(go_at_call 199;refine(Calls.mono x ?_);rintro e a ⟨⟨b,c⟩,⟨l,n,o,H,hi,rfl⟩ | ⟨o,rfl⟩⟩)
 ·have Z:=h_ (z a b l n o H);clear z A x c b;go_wp2_with fail;go_ret;exact Z
 ·have HC:=h_ (A a b c o);have d0:a.cell? ⟨w.heap.size,0,none⟩=some (.string ⟨nm.toArray⟩):=aA c 0;have d1:a.cell? ⟨w.heap.size,1,none⟩=some (Q1 k):=aA c 1;have dl:=aB c;have aa:w.heap.size<a.heap.size+1:=by omega
  clear z A x c b;go_wp2_with (go_at_call 202;refine(Calls.mono HC ?_);rintro e w3 ⟨g,rfl,J⟩;have D:=(show Hid _ from J);clear J);go_ret;exact D
def TDef:TypeId:=200
theorem aH2(k:FK)(nm:AE)(d:Pl.A9)(v:PV)(x:PF)(ns:List AE):IU (.mk k nm d v [x] ns)=1+IU x:=by rw [OL,ZL,aA5];omega
theorem aJI{kf kt:Nat}{cap ct:Array Value}{f:PF}{sc:List (List AE)}(h:Cmp L M O P w F W M' w' G N)(c:∀a,Stp M' w' M' a->Bx M' a w'.heap.size (.int .i64 1) TInt->Bx M' a (w'.heap.size+1) (fnV kf cap) TCod->Bx M' a (w'.heap.size+1+1) (fnV kt ct) TTak->RC M' a G (fnV 221 #[pt w'.heap.size,pt (w'.heap.size+1),pt (w'.heap.size+1+1)]) f sc) :Q2 204 #[Q1 1,fnV kf cap,fnV kt ct] w' fun e a=>CmpQ L M O P w F W f sc N e a/\∃x,e=.returned x:=(aG4 w' 1 kf kt cap ct).mono (fun e a ⟨d,g⟩=>by
 subst d g;obtain⟨b,i,j,k⟩:=aH1 (M:=M') (w:=w') h.mlt (.int .i64 1) (fnV kf cap) (fnV kt ct)
 exact⟨⟨_,M',G,rfl,h.below b,c _ (Stp.AA b) i j k⟩,_,rfl⟩)
theorem p_defMk(h:FW L M O w F N W)(E:∀k,P k->Cr M w F k)(p:F.s.ns[k]?=some nm)(q:CP M w F.s a x)(H:CmpOk L O W x){sc:List (List AE)}(r:ScR M w F.s av sc)(X:sc.length+IU x<=1100)(hN:N+(1+IU x)<=9000000000000000000)(d:Pl.A9)(v:PV)(ns:List AE) :Q2 192 #[Q0 L.sb,.agg #[.string ⟨nm.toArray⟩,Q1 k,a],av] w (CmpQ L M O P w F W (.mk .define nm d v [x] ns) sc (N+(1+IU x))):=by
 obtain⟨i,c⟩:∃i,i=w.alloc (.cells #[.string ⟨nm.toArray⟩,Q1 k,a] TDef):=⟨_,rfl⟩
 have j:Q3 w i:=by rw [c];exact b_
 have o:=(Cmp.refl h E).below j;have I:Bk M i w.heap.size #[.string ⟨nm.toArray⟩,Q1 k,a] TDef:=⟨fun y=>Nat.lt_irrefl _ (h.mlt _ y),by rw [c];exact heap_alloc_new w _⟩
 have Y:Hid (Q2 202 #[Q0 L.sb,.agg #[.string ⟨nm.toArray⟩,Q1 k]] i fun e b=>∃g,e=.returned (pt g)/\b.cell? ⟨w.heap.size,2,none⟩=some a/\w.heap.size<b.heap.size/\Q2 180 #[Q0 L.sb,a,av] (b.alloc (.cells #[pt g] TGlP)) fun e s=>∃l m,e=.returned (fnV l m)/\Q2 204 #[Q1 1,fnV l m,fnV 211 #[pt b.heap.size]] s fun e t=>CmpQ L M O P w F W (.mk .define nm d v [x] ns) sc (N+(1+IU x)) e t/\∃x,e=.returned x):=by refine(aHR o.fw o.cr p x8).mono (fun e b z=>?_);obtain⟨g,J,G,rfl,A,Z⟩:=z;have B:Q3 b (b.alloc (.cells #[pt g] TGlP)):=b_;have f:=(o.trans A).below B;have b4:Bx J (b.alloc (.cells #[pt g] TGlP)) b.heap.size (pt g) TGlP:=aGH A.mlt (heap_alloc_new b _);have n:=I.go A.AQ;refine⟨g,rfl,aA n.2 2,aB n.2,?_⟩;refine(H J P _ G (N+1) a av sc f.fw f.cr (q.go f.AQ f.le.s) (r.go f.AQ f.le.s) X x8).mono (fun e s z=>?_);obtain⟨u,M4,G4,rfl,C,K⟩:=z;obtain⟨l,m,rfl⟩:=K.func;have Q:=(f.trans C).up (N':=N+(1+IU x)) x8;exact⟨l,m,rfl,aJI Q (fun t R q1 q2 q3=>.define _ _ _ _ g k _ x nm d v ns sc q1 q2 q3 ((b4.go C.AQ).go R) (bS Q.le.s.ns p) (C.le.gl _ _ Z) (K.go R (Fg.Le.refl _)))⟩
 obtain⟨oa,rfl⟩:=r.ptr;obtain⟨T,y,rfl⟩:=q.iface;subst c;clear h E p q H r o I j;go_enter func192,ntmps192
 go_wp2_with (first
  | (go_at_call 202;refine(Calls.mono Y ?_);rintro e b ⟨g,rfl,d2,dl,S⟩;have HC:=(show Hid _ from S);clear S)
  | (go_at_call 180;refine(Calls.mono HC ?_);rintro e s ⟨l,m,rfl,U⟩;have HH:=(show Hid _ from U);clear U)
  | (go_at_call 204;refine(Calls.mono HH ?_);rintro e t ⟨V,x9,rfl⟩;have D:=(show Hid _ from V);clear V))
 go_ret;exact D
theorem p_setMk(h:FW L M O w F N W)(hP:∀k,P k->Cr M w F k)(hn:F.s.ns[k]?=some nm)(hx:CP M w F.s a x)(ih:CmpOk L O W x){sc:List (List AE)}(Q:ScR M w F.s av sc)(hl:sc.length+IU x<=1100)(hN:N+(1+IU x)<=9000000000000000000)(d:Pl.A9)(v:PV)(ns:List AE) :Q2 191 #[Q0 L.sb,.agg #[.string ⟨nm.toArray⟩,Q1 k,a],av] w (CmpQ L M O P w F W (.mk .set nm d v [x] ns) sc (N+(1+IU x))):=by
 obtain⟨J,r⟩:∃J,J=w.alloc (.cells #[.string ⟨nm.toArray⟩,Q1 k,a] TSet):=⟨_,rfl⟩
 have z:Q3 w J:=by rw [r];exact b_
 have R:J.heap.size=w.heap.size+1:=by rw [r];simp
 have t:J.heap[w.heap.size]?=some (.cells #[.string ⟨nm.toArray⟩,Q1 k,a] TSet (0,0)):=by rw [r];exact heap_alloc_new w _
 have S:sc.length<=1100:=by omega
 have HF:Hid (Q2 199 #[av,.agg #[.string ⟨nm.toArray⟩,Q1 k]] J fun e w'=>(Q3 w w'/\w'.heap[w.heap.size]?=some (.cells #[.string ⟨nm.toArray⟩,Q1 k,a] TSet (0,0)))/\FndQ sc nm e):=(aK6 M _ F.s av sc nm k h.nd (Q.go (Stp.AA z) (Sg.Le.refl _)) hn S).mono (fun e w' ⟨j1,j2⟩=>⟨⟨z.trans (j1.mono x8),(j1.block _ x8).trans t⟩,j2⟩)
 have HL:Hid (∀b,Q3 w b->∀i m:Nat,scF sc nm=some (i,m)->i<=sc.length->Q2 180 #[Q0 L.sb,a,av] ((b.alloc (.cells #[Q1 i] TInt)).alloc (.cells #[Q1 m] TInt)) fun e A=>∃n o,e=.returned (fnV n o)/\Q2 204 #[Q1 1,fnV n o,fnV 208 #[pt b.heap.size,pt (b.heap.size+1)]] A fun e B=>CmpQ L M O P w F W (.mk .set nm d v [x] ns) sc (N+(1+IU x)) e B/\∃x,e=.returned x):=fun b f i m C hd=>by
  have D:=(Cmp.refl h hP).below f;have s:Q3 b ((b.alloc (.cells #[Q1 i] TInt)).alloc (.cells #[Q1 m] TInt)):=b_.alloc w9 _;have p:=D.below s;have b4:Bx M ((b.alloc (.cells #[Q1 i] TInt)).alloc (.cells #[Q1 m] TInt)) b.heap.size (.int .i64 (i:Int)) TInt:=aGH D.mlt ((k_ w9).trans (heap_alloc_new b _))
  have b5:Bx M ((b.alloc (.cells #[Q1 i] TInt)).alloc (.cells #[Q1 m] TInt)) (b.heap.size+1) (.int .i64 (m:Int)) TInt:=aGH (fun j hj=>Nat.lt_succ_of_lt (D.mlt j hj)) (by
   have:=heap_alloc_new (b.alloc (.cells #[Q1 i] TInt)) (.cells #[Q1 m] TInt)
   rwa [World.size_alloc] at this)
  refine(ih M P _ F N a av sc p.fw p.cr (hx.go p.AQ p.le.s) (Q.go p.AQ p.le.s) hl x8).mono (fun e A U=>?_);obtain⟨u,M4,G4,rfl,q,V⟩:=U;obtain⟨n,o,rfl⟩:=V.func;have K:=(p.trans q).up (N':=N+(1+IU x)) x8;exact⟨n,o,rfl,aJI K (fun B E q1 q2 q3=>.setL _ _ _ _ _ i m _ x nm d v ns sc q1 q2 q3 ((b4.go q.AQ).go E) ((b5.go q.AQ).go E) C x8 (V.go E (Fg.Le.refl _)))⟩
 have HG:Hid (∀b,Q3 w b->b.heap[w.heap.size]?=some (.cells #[.string ⟨nm.toArray⟩,Q1 k,a] TSet (0,0))->scF sc nm=none->Q2 202 #[Q0 L.sb,.agg #[.string ⟨nm.toArray⟩,Q1 k]] ((b.alloc (.cells #[Q1 0] TInt)).alloc (.cells #[Q1 0] TInt)) fun e l=>∃g,e=.returned (pt g)/\l.cell? ⟨w.heap.size,2,none⟩=some a/\w.heap.size<l.heap.size/\Q2 180 #[Q0 L.sb,a,av] (l.alloc (.cells #[pt g] TGlP)) fun e A=>∃n o,e=.returned (fnV n o)/\Q2 204 #[Q1 1,fnV n o,fnV 209 #[pt l.heap.size,pt w.heap.size]] A fun e B=>CmpQ L M O P w F W (.mk .set nm d v [x] ns) sc (N+(1+IU x)) e B/\∃x,e=.returned x):=fun b f c C=>by
  have s:Q3 b ((b.alloc (.cells #[Q1 0] TInt)).alloc (.cells #[Q1 0] TInt)):=b_.alloc w9 _;have D:=(Cmp.refl h hP).below (f.trans (s.mono f.size));have bk:Bk M ((b.alloc (.cells #[Q1 0] TInt)).alloc (.cells #[Q1 0] TInt)) w.heap.size #[.string ⟨nm.toArray⟩,Q1 k,a] TSet:=⟨fun y=>Nat.lt_irrefl _ (h.mlt _ y),(s.block _ (aB c)).trans c⟩
  refine(aHR D.fw D.cr hn x8).mono (fun e l U=>?_);obtain⟨g,M3,G,rfl,p,hg⟩:=U;have X:Q3 l (l.alloc (.cells #[pt g] TGlP)):=b_;have q:=(D.trans p).below X;have b4:Bx M3 (l.alloc (.cells #[pt g] TGlP)) l.heap.size (pt g) TGlP:=aGH p.mlt (heap_alloc_new l _);have H:=bk.go p.AQ;refine⟨g,rfl,aA H.2 2,aB H.2,?_⟩;refine(ih M3 P _ G (N+1) a av sc q.fw q.cr (hx.go q.AQ q.le.s) (Q.go q.AQ q.le.s) hl x8).mono (fun e A U=>?_);obtain⟨u,M4,G4,rfl,K,V⟩:=U;obtain⟨n,o,rfl⟩:=V.func;have c6:=(q.trans K).up (N':=N+(1+IU x)) x8;exact⟨n,o,rfl,aJI c6 (fun B E q1 q2 q3=>.setG _ _ _ _ _ g k a _ x nm d v ns sc q1 q2 q3 ((b4.go K.AQ).go E) (((H.go (Stp.AA X)).go K.AQ).go E) (bS c6.le.s.ns hn) (K.le.gl _ _ hg) C (V.go E (Fg.Le.refl _)))⟩
 obtain⟨oa,rfl⟩:=Q.ptr;obtain⟨T,y,rfl⟩:=hx.iface;subst r;clear h hP hn hx ih Q z R t S;go_enter func191,ntmps191
 go_upto_region 2 with(go_at_call 199;refine(Calls.mono HF ?_);rintro e b ⟨⟨f,c⟩,⟨i,m,C,hd,hi,rfl⟩ | ⟨C,rfl⟩⟩)
 ·have HC:=h_ (HL b f i m C hd);have d2:b.cell? ⟨w.heap.size,2,none⟩=some (.iface T y):=aA c 2;have dl:=aB c;have aa:w.heap.size<b.heap.size+1:=by omega
  clear HL HG HF c f
  go_wp2_with (first
   | (go_at_call 180;refine(Calls.mono HC ?_);rintro e A ⟨n,o,rfl,Y⟩;have HH:=(show Hid _ from Y);clear Y)
   | (go_at_call 204;refine(Calls.mono HH ?_);rintro e B ⟨Z,x9,rfl⟩;have I:=(show Hid _ from Z);clear Z))
  go_ret;exact I
 ·have HK:=h_ (HG b f c C);have d0:b.cell? ⟨w.heap.size,0,none⟩=some (.string ⟨nm.toArray⟩):=aA c 0;have d1:b.cell? ⟨w.heap.size,1,none⟩=some (Q1 k):=aA c 1;have dl:=aB c;have aa:w.heap.size<b.heap.size+1:=by omega
  clear HL HG HF c f
  go_wp2_with (first
   | (go_at_call 202;refine(Calls.mono HK ?_);rintro e l ⟨g,rfl,d3,ab,hc⟩;have HC:=(show Hid _ from hc);clear hc)
   | (go_at_call 180;refine(Calls.mono HC ?_);rintro e A ⟨n,o,rfl,Y⟩;have HH:=(show Hid _ from Y);clear Y)
   | (go_at_call 204;refine(Calls.mono HH ?_);rintro e B ⟨Z,x9,rfl⟩;have I:=(show Hid _ from Z);clear Z))
  go_ret;exact I
def TLam:TypeId:=269
theorem p_body(h:FW L M O w F N W)(r:∀k,P k->Cr M w F k){sl:Value}(d:EI M w F.s sl ns)(n:CP M w F.s a x)(s:CmpOk L O W x){sc:List (List AE)}(o:ScR M w F.s av sc)(I:sc.length+1+IU x<=1100)(A:N+IU x<=9000000000000000000) :Q2 212 #[Q0 L.sb,.agg #[sl,a],av] w (CmpQ L M O P w F W x (ns::sc) (N+IU x)):=by
 obtain⟨g,f⟩:∃g,g=(w.alloc (.cells #[sl,a] TLam)).alloc (.cells #[sl,av] TScp):=⟨_,rfl⟩
 have i:Q3 w g:=by rw [f];exact b_.alloc w9 _
 have b:=(Cmp.refl h r).below i
 have t:Bk M g (w.heap.size+1) #[sl,av] TScp:=⟨fun y=>by have:=h.mlt _ y;omega,by
  rw [f];have:=heap_alloc_new (w.alloc (.cells #[sl,a] TLam)) (.cells #[sl,av] TScp)
  rwa [World.size_alloc] at this⟩
 have B:Hid (Q2 180 #[Q0 L.sb,a,Q0 (w.heap.size+1)] g fun e p=>∃j l,e=.returned (fnV j l)/\CmpQ L M O P w F W x (ns::sc) (N+IU x) e p):=by refine(s M P _ F N a _ (ns::sc) b.fw b.cr (n.go b.AQ b.le.s) (.cons _ sl av ns sc t (d.go b.AQ b.le.s) (o.go b.AQ b.le.s)) r7 A).mono (fun e p C=>?_);obtain⟨u,D,E,rfl,G,v⟩:=C;obtain⟨j,l,rfl⟩:=v.func;exact⟨j,l,rfl,_,D,E,rfl,b.trans G,v⟩
 obtain⟨J,rfl⟩:=o.ptr;obtain⟨T,y,rfl⟩:=n.iface;obtain⟨m,c,rfl⟩:∃m c,sl=.slice m ns.length c:=by obtain⟨⟨_,_,H⟩,_,_⟩:=d;obtain⟨m,c,e,_⟩:=H.shape;exact⟨m,c,e⟩
 subst f;clear h r d n s o b t i;go_enter func212,ntmps212;go_wp2_with (go_at_call 180;refine(Calls.mono B ?_);rintro e p ⟨j,l,rfl,z⟩;have q:=(show Hid _ from z);clear z);go_ret;exact q
theorem aF6{x:Option Obj}(h:w.heap[b]?=x):w.drew.heap[b]?=x:=h
theorem aF5{x o:Obj}(h:w.heap[b]?=some x):(w.alloc o).heap[b]?=some x:=(k_ (aB h)).trans h
theorem aF7{c:Array Value}(h:b=w.heap.size):(w.alloc (.cells c T)).heap[b]?=some (.cells c T (0,0)):=by subst h;exact heap_alloc_new w _
theorem aGC{z:Value}(h:w.heap[b]?=some (.cells #[z] T (0,0))):(w.setCell ⟨b,0,none⟩ v).heap[b]?=some (.cells #[v] T (0,0)):=aD h 0 v
theorem aGA{b' o:Nat}{x:Obj}(a:b≠b')(h:w.heap[b]?=some x):(w.setCell ⟨b',o,none⟩ v).heap[b]?=some x:=(Below.heap_setCell _ _ _ _ (fun e=>a a6)).trans h
def Ml(M:Q5):List Nat->Nat->Prop
 | []=>M
 | b::l=>Ms (Ml M l) b
theorem Ml.not:∀{l:List Nat} {b:Nat},b∈l->¬Ml M l b
 | a::l,b,h=>fun x=>by
  rcases List.mem_cons.1 h with rfl | h
  ·exact x.2 rfl
  ·exact Ml.not h x.1
theorem Ml.le:∀{l:List Nat} {b:Nat},Ml M l b->M b
 | [],_,h=>h
 | _::l,_,h=>Ml.le (l:=l) h.1
theorem Ml.of:∀{l:List Nat} {b:Nat},M b->b∉l->Ml M l b
 | [],_,h,_=>h
 | _::_,_,h,a=>⟨Ml.of h (fun x=>a (List.mem_cons_of_mem _ x)),fun e=>a (e▸List.mem_cons_self ..)⟩
theorem Stp.shutl(M:Q5)(l:List Nat)(w:World):Stp M w (Ml M l) w:=⟨rfl,rfl,rfl,n_,fun _ _ a=>⟨rfl,fun x=>a (Ml.le x)⟩⟩
structure Cw(L:Lo)(M O P:Q5)(w:World)(F:Fg)(W:PW)(M':Q5)(w2:World)(G:Fg)(N:Nat)(l:List Nat)(wy:World):Prop where
 cmp:Cmp L M O P w F W M' wy G N
 AQ:Stp M' w2 M' wy
 cr:∀k∈l,Cr M' wy G k
 ne:∀k∈l,¬P k
theorem Cw.set(h:Cw L M O P w F W M' w2 G N l wy)(q:b∈l)(o:Nat)(v:Value):Cw L M O P w F W M' w2 G N l (wy.setCell ⟨b,o,none⟩ v):=by
 have c:=h.cr b q;obtain⟨y,r,i⟩:=h.cmp.fw.codeSet c o v;have m:∀k,P k->k≠b:=fun k n e=>h.ne b q (e▸n)
 have d:∀k,Cr M' wy G k->Cr M' (wy.setCell ⟨b,o,none⟩ v) G k:=fun k ⟨g,⟨f,T,s,t⟩,u⟩=>by
  by_cases e:k=b
  ·subst e;exact⟨g,⟨_,T,aD s o v,t⟩,u⟩
  ·exact⟨g,⟨f,T,(i k e).trans s,t⟩,u⟩
 obtain⟨A,⟨f,B,g,z⟩,C⟩:=c;refine⟨⟨h.cmp.AQ.trans r,h.cmp.le,h.cmp.s,y,fun j a=>?_,fun j a=>(i j (m j a)).trans (h.cmp.row j a),fun j a=>d j (h.cmp.cr j a)⟩,h.AQ.trans r,fun k n=>d k (h.cr k n),h.ne⟩;obtain⟨_,⟨x,p⟩,_⟩:=h.cmp.fw.oth j a;exact(i j (aGF p g (tCs z).1)).trans (h.cmp.oth j a)
theorem Cw.below{wz:World}(h:Cw L M O P w F W M' w2 G N l wy)(a:Q3 wy wz):Cw L M O P w F W M' w2 G N l wz:=⟨h.cmp.below a,h.AQ.trans (Stp.AA a),fun k b=>(h.cr k b).below a,h.ne⟩
theorem Cw.alloc(h:Cw L M O P w F W M' w2 G N l wy){o:Obj}:Cw L M O P w F W M' w2 G N l (wy.alloc o):=h.below b_
theorem FW.codeEndl(h:FW L M O w F N W):∀{l:List Nat},l.Nodup->(∀k∈l,Cr M w F k)->FW L (Ml M l) O w F N W
 | [],_,_=>h
 | b::l,a,c=>by have d:=FW.codeEndl h (List.nodup_cons.1 a).2 (fun k e=>c k (List.mem_cons_of_mem _ e));obtain⟨f,g,i⟩:=c b (List.mem_cons_self ..);exact d.codeEnd ⟨Ml.of f (List.nodup_cons.1 a).1,g,i⟩
theorem Cw.shut(h:Cw L M O P w F W M' w2 G N l wy)(b:l.Nodup):Cmp L M O P w F W (Ml M' l) wy G N/\Stp M' w2 (Ml M' l) wy:=by
 have s:=Stp.shutl M' l wy
 exact⟨⟨h.cmp.AQ.trans s,h.cmp.le,h.cmp.s,h.cmp.fw.codeEndl b h.cr,h.cmp.oth,h.cmp.row,fun k a=>by
  obtain⟨c,d,e⟩:=h.cmp.cr k a
  exact⟨Ml.of c (fun x=>h.ne k x a),d,e⟩⟩,h.AQ.trans s⟩
def Ah(w:World)(w':World)(l:List Nat):Prop:=l.Nodup/\Q3 w w'/\∀k∈l,w.heap.size<=k/\∃z T,w'.heap[k]?=some (.cells #[z] T (0,0))/\(T=TCod\/T=TInt)
def Ml2(M:Q5)(l:List Nat):Q5:=Mn M (fun k=>k∈l)
theorem Ah.go(m:Ah w w' l)(h:FW L M O w F N W)(i:∀k,P k->Cr M w F k):FW L (Ml2 M l) O w' F N W/\Stp M w (Ml2 M l) w'/\(∀k,(P k\/k∈l)->Cr (Ml2 M l) w' F k)/\∀k∈l,¬P k:=by
 obtain⟨u,j,b⟩:=m;obtain⟨n,o⟩:=h.more j (fun k=>k∈l) (fun k a=>(b k a).1) (fun k a=>by obtain⟨_,_,_,q,_⟩:=b k a;exact aB q);refine⟨n,o,fun k a=>?_,fun k a x=>by have:=(i k x).lt;have:=(b k a).1;omega⟩;rcases a with a | a
 ·obtain⟨d,f,p⟩:=(i k a).below j;exact⟨.inl d,f,p⟩
 ·obtain⟨v,z,T,d,f⟩:=b k a;refine⟨.inr a,⟨_,T,d,.inl f⟩,fun r g=>?_⟩;obtain⟨y,A,B,c,e,s,t,_⟩:=(h.sit r g).ex;have:=aB s;have:=aB t;omega
theorem Cw.of{N':Nat}(e:Ah w w' l)(h:FW L M O w F N W)(f:∀k,P k->Cr M w F k)(c:Cmp L (Ml2 M l) O (fun k=>P k\/k∈l) w' F W M' w2 G N'):Cw L M O P w F W M' w2 G N' l w2:=by obtain⟨_,s,_,d⟩:=e.go h f;obtain⟨_,g,_⟩:=e;exact⟨⟨s.trans c.AQ,c.le,c.s,c.fw,fun b i=>(c.oth b i).trans (g.block b (h.olt i)),fun k a=>(c.row k (.inl a)).trans (g.block k (f k a).lt),fun k a=>c.cr k (.inl a)⟩,Stp.refl _ _,fun k a=>c.cr k (.inr a),d⟩
def AhQ(L:Lo)(M O P:Q5)(w:World)(F:Fg)(W:PW)(x:PF)(sc:List (List AE))(N:Nat)(l:List Nat)(w':World)(e:Ending)(w2:World):Prop:=∃ku cu,e=.returned (.func (.func ku) #[] cu)/\w'.heap.size<=w2.heap.size/\(∀k,w.heap.size<=k->k<w'.heap.size->w2.heap[k]?=w'.heap[k]?)/\∃M2 G,Cw L M O P w F W M2 w2 G N l w2/\RC M2 w2 G (fnV ku cu) x sc
theorem AhQ.of{N':Nat}{sc:List (List AE)}{e:Ending}(f:Ah w w' l)(h:FW L M O w F N W)(g:∀k,P k->Cr M w F k)(c:CmpQ L (Ml2 M l) O (fun k=>P k\/k∈l) w' F W x sc N' e w2):AhQ L M O P w F W x sc N' l w' e w2:=by
 obtain⟨u,i,G,rfl,a,d⟩:=c;obtain⟨j,m,rfl⟩:=d.func;refine⟨j,m,rfl,a.AQ.size,fun k n b=>?_,i,G,Cw.of f h g a,d⟩;by_cases e:k∈l
 ·exact a.row k (.inr e)
 ·exact(a.AQ.block k b (fun x=>by
   rcases x with x | x
   ·have:=h.mlt k x;omega
   ·exact e x)).1
theorem ahA(w:World):Ah w w.drew []:=⟨List.nodup_nil,r_.drew,fun k a=>by cases a⟩
theorem ahB(w:World)(z:Value)(T:TypeId)(a:T=TCod\/T=TInt):Ah w (w.alloc (.cells #[z] T)).drew [w.heap.size]:=⟨w9,b_.drew,fun k b=>by
 obtain rfl:=List.mem_singleton.1 b
 exact⟨n_,z,T,heap_alloc_new w _,a⟩⟩
theorem ahD(w:World)(z d:Value)(T a:TypeId)(e:T=TCod\/T=TInt)(b:a=TCod\/a=TInt):Ah w ((w.alloc (.cells #[z] T)).alloc (.cells #[d] a)).drew [w.heap.size,w.heap.size+1]:=⟨w9,(b_.alloc w9 _).drew,fun k c=>by
 rcases List.mem_cons.1 c with rfl | c
 ·exact⟨n_,z,T,aF5 (aF7 rfl),e⟩
 ·obtain rfl:=List.mem_singleton.1 c
  exact⟨x8,d,a,aF7 w9,b⟩⟩
theorem aG9{M2:Q5}{sc:List (List AE)}(g:RC M2 w2 G u x (ns::sc))(i:Cw L M O P w F W M2 w2 G N l w2)(h:Cw L M O P w F W M2 w2 G N l wy){b7 b8:Nat}(j:wy.heap[b7]?=some (.cells #[Q1 ns.length] TInt (0,0)))(k:wy.heap[b8]?=some (.cells #[u] TCod (0,0)))(m:b7∈l\/w2.heap.size<=b7)(n:b8∈l\/w2.heap.size<=b8)(o:l.Nodup)(f:ns.Nodup)(nm:AE)(d:Pl.A9)(v:PV) :CmpQ L M O P w F W (.mk .lambda nm d v [x] ns) sc N (.returned (fnV 213 #[pt b7,pt b8])) wy:=by
 obtain⟨c,s⟩:=h.shut o
 have a:∀b,(b∈l\/w2.heap.size<=b)->¬Ml M2 l b:=fun b e=>by
  rcases e with e | e
  ·exact Ml.not e
  ·exact fun x=>by have:=i.cmp.mlt b (Ml.le x);omega
 exact⟨_,_,G,rfl,c,.lambda b7 b8 u x nm d v ns sc ⟨a _ m,j⟩ ⟨a _ n,k⟩ f (g.go s (Fg.Le.refl _))⟩
theorem aKD(h:FW L M O w F N W)(hP:∀k,P k->Cr M w F k){sl:Value}(I:EI M w F.s sl ns)(K:ns.Nodup)(hx:CP M w F.s a x)(ih:CmpOk L O W x){sc:List (List AE)}(hs:ScR M w F.s av sc)(hl:sc.length+1+IU x<=1100)(hN:N+(1+IU x)<=9000000000000000000)(nm:AE)(d:Pl.A9)(v:PV) :Q2 193 #[Q0 L.sb,.agg #[sl,a],av] w (CmpQ L M O P w F W (.mk .lambda nm d v [x] ns) sc (N+(1+IU x))):=by
 obtain⟨w1,Q⟩:∃w1,w1=w.alloc (.cells #[sl,a] TLam):=⟨_,rfl⟩
 have C:Q3 w w1:=by rw [Q];exact b_
 have R:Hid (∀S l,Ah w1 S l->Q2 212 #[Q0 L.sb,.agg #[sl,a],av] S (AhQ L M O P w F W x (ns::sc) (N+(1+IU x)) l S)):=fun S l hA=>by
  have U:Ah w S l:=⟨hA.1,C.trans (hA.2.1.mono C.size),fun k o=>⟨t_ C.size (hA.2.2 k o).1,(hA.2.2 k o).2⟩⟩
  obtain⟨f,s,cr,_⟩:=U.go h hP;have l0:=Sg.Le.refl F.s;refine(p_body f cr (I.go s l0) (hx.go s l0) ih (hs.go s l0) hl x8).mono (fun e b t=>?_);obtain⟨u,M',G,e1,c1,H⟩:=t;exact AhQ.of U h hP ⟨u,M',G,e1,c1.up x8,H⟩
 have J:Hid ns.Nodup:=K;obtain⟨oa,rfl⟩:=hs.ptr;obtain⟨T,y,rfl⟩:=hx.iface;obtain⟨A,c,rfl⟩:∃A c,sl=.slice A ns.length c:=by obtain⟨⟨_,_,h2⟩,_,_⟩:=I;obtain⟨A,c,e,_⟩:=h2.shape;exact⟨A,c,e⟩
 subst Q;clear h hP I hx ih hs C K;go_enter func193,ntmps193;have HS:Hid (∀D:World,D.heap[w.heap.size]?=some (.cells #[.slice A ns.length c,.iface T y] TLam (0,0))->w.heap.size<D.heap.size/\D.cell? ⟨w.heap.size,0,none⟩=some (.slice A ns.length c)/\D.cell? ⟨w.heap.size,1,none⟩=some (.iface T y)):=fun D q=>⟨aB q,aA q 0,aA q 1⟩
 go_upto_region 1 with fail
 have ac:∀(a:Addr)(fn:Fn)(first c:Array Value)(w:World),(store a (.func fn first c)).run prog w=stored prog w a (.func fn first c) .plain:=fun _ _ _ _ _=>run_store _ _ _ _ _ rfl
 go_region_held3 (fun D=>w.heap.size<D.heap.size/\D.cell? ⟨w.heap.size,0,none⟩=some (.slice A ns.length c)/\D.cell? ⟨w.heap.size,1,none⟩=some (.iface T y))
  ((refine HS.out _ ?_;repeat' first | exact B.out | exact aF7 rfl | apply aF6 | (refine aGA x8 ?_) | apply aF5))
  ((go_at_call 212;first
  | (refine(Calls.mono (R _ _ (ahD _ _ _ TInt TCod (.inr rfl) (.inl rfl))) ?_);rintro e b ⟨ku,cu,rfl,g,o,M2,G,t⟩;have p:b.heap[w.heap.size+1]?=some (.cells #[_] TInt (0,0)):=(o _ r8 r8).trans (aF6 (aF5 (aF7 r8)));have r:b.heap[w.heap.size+1+1]?=some (.cells #[_] TCod (0,0)):=(o _ r8 r8).trans (aF6 (aF7 r8));have i:b.heap[w.heap.size]?=some (.cells #[_,_] TLam (0,0)):=(o _ n_ r8).trans (aF6 (aF5 (aF5 (aF7 rfl))));have V:b.cell? ⟨_,0,none⟩=some (Q1 0):=aA p 0;have X:=aF p 0;have Y:=aB p;have j:=(show Hid _ from p);clear p;have Z:b.cell? ⟨_,0,none⟩=some .nilFunc:=aA r 0;have aa:=aF r 0;have ab:=aB r;have m:=(show Hid _ from r);clear r;have HQ:=(show Hid _ from t);clear t o;have z:w.heap.size+1<=b.heap.size:=(by simp at g;omega);have d0:b.cell? ⟨w.heap.size,0,none⟩=some (.slice A ns.length c):=aA i 0;have d1:b.cell? ⟨w.heap.size,1,none⟩=some (.iface T y):=aA i 1;have E:=aB i;have B:=(show Hid _ from i);clear i g)
  | (refine(Calls.mono (R _ _ (ahD _ _ _ TCod TInt (.inl rfl) (.inr rfl))) ?_);rintro e b ⟨ku,cu,rfl,g,o,M2,G,t⟩;have r:b.heap[w.heap.size+1]?=some (.cells #[_] TCod (0,0)):=(o _ r8 r8).trans (aF6 (aF5 (aF7 r8)));have p:b.heap[w.heap.size+1+1]?=some (.cells #[_] TInt (0,0)):=(o _ r8 r8).trans (aF6 (aF7 r8));have i:b.heap[w.heap.size]?=some (.cells #[_,_] TLam (0,0)):=(o _ n_ r8).trans (aF6 (aF5 (aF5 (aF7 rfl))));have Z:b.cell? ⟨_,0,none⟩=some .nilFunc:=aA r 0;have aa:=aF r 0;have ab:=aB r;have m:=(show Hid _ from r);clear r;have V:b.cell? ⟨_,0,none⟩=some (Q1 0):=aA p 0;have X:=aF p 0;have Y:=aB p;have j:=(show Hid _ from p);clear p;have HQ:=(show Hid _ from t);clear t o;have z:w.heap.size+1<=b.heap.size:=(by simp at g;omega);have d0:b.cell? ⟨w.heap.size,0,none⟩=some (.slice A ns.length c):=aA i 0;have d1:b.cell? ⟨w.heap.size,1,none⟩=some (.iface T y):=aA i 1;have E:=aB i;have B:=(show Hid _ from i);clear i g)
  | (refine(Calls.mono (R _ _ (ahB _ _ TInt (.inr rfl))) ?_);rintro e b ⟨ku,cu,rfl,g,o,M2,G,t⟩;have p:b.heap[w.heap.size+1]?=some (.cells #[_] TInt (0,0)):=(o _ r8 r8).trans (aF6 (aF7 r8));have i:b.heap[w.heap.size]?=some (.cells #[_,_] TLam (0,0)):=(o _ n_ r8).trans (aF6 (aF5 (aF7 rfl)));have V:b.cell? ⟨_,0,none⟩=some (Q1 0):=aA p 0;have X:=aF p 0;have Y:=aB p;have j:=(show Hid _ from p);clear p;have HQ:=(show Hid _ from t);clear t o;have z:w.heap.size+1<=b.heap.size:=(by simp at g;omega);have d0:b.cell? ⟨w.heap.size,0,none⟩=some (.slice A ns.length c):=aA i 0;have d1:b.cell? ⟨w.heap.size,1,none⟩=some (.iface T y):=aA i 1;have E:=aB i;have B:=(show Hid _ from i);clear i g)
  | (refine(Calls.mono (R _ _ (ahB _ _ TCod (.inl rfl))) ?_);rintro e b ⟨ku,cu,rfl,g,o,M2,G,t⟩;have r:b.heap[w.heap.size+1]?=some (.cells #[_] TCod (0,0)):=(o _ r8 r8).trans (aF6 (aF7 r8));have i:b.heap[w.heap.size]?=some (.cells #[_,_] TLam (0,0)):=(o _ n_ r8).trans (aF6 (aF5 (aF7 rfl)));have Z:b.cell? ⟨_,0,none⟩=some .nilFunc:=aA r 0;have aa:=aF r 0;have ab:=aB r;have m:=(show Hid _ from r);clear r;have HQ:=(show Hid _ from t);clear t o;have z:w.heap.size+1<=b.heap.size:=(by simp at g;omega);have d0:b.cell? ⟨w.heap.size,0,none⟩=some (.slice A ns.length c):=aA i 0;have d1:b.cell? ⟨w.heap.size,1,none⟩=some (.iface T y):=aA i 1;have E:=aB i;have B:=(show Hid _ from i);clear i g)
  | (refine(Calls.mono (R _ _ (ahA _)) ?_);rintro e b ⟨ku,cu,rfl,g,o,M2,G,t⟩;have i:b.heap[w.heap.size]?=some (.cells #[_,_] TLam (0,0)):=(o _ n_ r8).trans (aF6 (aF7 rfl));have HQ:=(show Hid _ from t);clear t o;have z:w.heap.size+1<=b.heap.size:=(by simp at g;omega);have d0:b.cell? ⟨w.heap.size,0,none⟩=some (.slice A ns.length c):=aA i 0;have d1:b.cell? ⟨w.heap.size,1,none⟩=some (.iface T y):=aA i 1;have E:=aB i;have B:=(show Hid _ from i);clear i g)))
 all_goals
  go_wp2_with fail
  go_ret;obtain⟨n,H⟩:=HQ.out;first
  | (show CmpQ L M O P w F W (.mk .lambda nm d v [x] ns) sc (N+(1+IU x)) (.returned (fnV 213 #[pt (b.heap.size),pt (b.heap.size+1)])) _;exact(aG9 (b7:=b.heap.size) (b8:=b.heap.size+1) H n m7 r9 r9 o8 o8 w9 J nm d v))
  | (show CmpQ L M O P w F W (.mk .lambda nm d v [x] ns) sc (N+(1+IU x)) (.returned (fnV 213 #[pt (b.heap.size+1),pt (b.heap.size)])) _;exact(aG9 (b7:=b.heap.size+1) (b8:=b.heap.size) H n m7 r9 r9 o8 o8 w9 J nm d v))
  | (show CmpQ L M O P w F W (.mk .lambda nm d v [x] ns) sc (N+(1+IU x)) (.returned (fnV 213 #[pt (w.heap.size+1),pt (b.heap.size)])) _;exact(aG9 (b7:=w.heap.size+1) (b8:=b.heap.size) H n m7 r9 r9 o8 o8 w9 J nm d v))
  | (show CmpQ L M O P w F W (.mk .lambda nm d v [x] ns) sc (N+(1+IU x)) (.returned (fnV 213 #[pt (b.heap.size),pt (w.heap.size+1)])) _;exact(aG9 (b7:=b.heap.size) (b8:=w.heap.size+1) H n m7 r9 r9 o8 o8 w9 J nm d v))
  | (show CmpQ L M O P w F W (.mk .lambda nm d v [x] ns) sc (N+(1+IU x)) (.returned (fnV 213 #[pt (w.heap.size+1),pt (w.heap.size+1+1)])) _;exact(aG9 (b7:=w.heap.size+1) (b8:=w.heap.size+1+1) H n m7 r9 r9 o8 o8 w9 J nm d v))
  | (show CmpQ L M O P w F W (.mk .lambda nm d v [x] ns) sc (N+(1+IU x)) (.returned (fnV 213 #[pt (w.heap.size+1+1),pt (w.heap.size+1)])) _;exact(aG9 (b7:=w.heap.size+1+1) (b8:=w.heap.size+1) H n m7 r9 r9 o8 o8 w9 J nm d v))
theorem aJO{M0:Q5}{w0:World}{F0:Fg}{b':Nat}{y z:PF}{sc:List (List AE)}(hk:fr.form.k=.call)(hl:fr.form.ks=[x,y,z])(hg:fr.B8=[.AZ t])(hp:fr.pos=2)(ht:AO[kp]?=some t)(ac:kp<12)(i:Bx M0 w0 b u TCod)(hc:Bx M0 w0 b' (.int .i64 (kp:Int)) TPrm)(hu:CodeOk c M0 w0 F0 u z sc):TakeOk c M0 w0 F0 (fnV 245 #[pt b,pt b']) fr sc (1+2*IU z):=by
 refine⟨_,_,rfl,FsentTwo,?_⟩;intro M O w F U hv v K k W S P l h he ha hf hK Q hT;show Q2 245 #[Q0 c.rb,hv,v,Q0 b,Q0 b'] w _;obtain⟨kf,ae,rfl,eg,I⟩:=hu;have d1:=(i.go P).cell;have d2:=(hc.go P).cell;have l1:=aB (i.go P).2;have l2:=aB (hc.go P).2;have ai:=h.bd.2.1;have hB:Q3 w (w.alloc (.cells #[v] B9)):=b_;have R:=Stp.AA (M:=M) hB;have ad:=aIG (W:=W) hf hK hk (by rw [hp,hl];simp);have V:=ha.next (aF8 hK) ad (fun _=>rfl) x8;obtain⟨f,E⟩:∃f,f={fr with B8:=fr.B8++[S.val],pos:=fr.pos+1}:=⟨_,rfl⟩
 have X:f.form.k=.call:=by rw [E];exact hk
 have Y:f.form.ks.length=3:=by rw [E];show fr.form.ks.length=3;rw [hl];rfl
 have Z:f.B8=[.AZ t,S.val]:=by rw [E];show fr.B8++[S.val]=_;rw [hg];rfl
 have aa:f.pos=3:=by rw [E];show fr.pos+1=3;rw [hp]
 rw [<- E,hp,hl] at V;have bx:Bx M (w.alloc (.cells #[v] B9)) w.heap.size v B9:=⟨fun x=>by have:=h.fw.CY.mlt _ x;omega,heap_alloc_new w _⟩
 have HC:Hid (Q2 kf (#[pt c.rb,hv]++ae) (w.alloc (.cells #[v] B9)) (Post c M O (w.alloc (.cells #[v] B9)) F U (f::K) (k+1) (2*IU z))):=I M O _ F U hv (f::K) (k+1) W _ (P.trans R) l ((h.below hB).up x8) (he.go R (Sg.Le.refl _)) V rfl rfl x8
 have HV:Hid (∀q G a j m g,Stp M w q g->(∀b,O b->g.heap[b]?=w.heap[b]?)->Fg.Le F G->c.At a j m->m.ended=false->k+1<=a+1->a+2<=k+1+2*IU z->∀v2 W' S',Pl.step j m=⟨0,W',S'⟩->(c.z<=a->W'.out=j.out)->S'.form=none->S'.AB=f::K->RV G.s v2 S'.val->St c q O g G U (a+1) W'->∀w3,w3=g.setCell ⟨c.rb,4,none⟩ (.int .i64 ((a+1+1:Nat):Int))->Q2 220 #[Q0 c.rb,Q1 kp,.slice (some ⟨g.heap.size,0,none⟩) 2 2] (w3.alloc (.cells #[v,v2] B9)) (Post c M O w F U K (k+1) (1+2*IU z))):=fun q G a j m g n B r C D J L v2 W' S' s A N H r5 r6 w3 af=>by
  subst af;obtain⟨y1,y2,y3⟩:=r6.tick (a+1+1);have ag:(g.setCell ⟨c.rb,4,none⟩ (.int .i64 ((a+1+1:Nat):Int))).heap.size=g.heap.size:=by simp [World.setCell]
  rw [<- ag];refine(aJV (y1.up x8) (C.next D s A x8) N H X Y Z aa ht ac (Q.le r.s) r5).mono ?_;intro e w' hp;exact hp.after (n.trans y2) (fun b i=>(y3 b i).trans (B b i)) r x8 x8
 have HP:Hid (∀q G a j m g,Stp M w q g->(∀b,O b->g.heap[b]?=w.heap[b]?)->Fg.Le F G->c.At a j m->m.ended=false->k+1<=a+1->a+2<=k+1+2*IU z->Bx q g w.heap.size v B9->∀Fs S0 fx d,Pl.step j m=Pl.apply j S0 fx d->S0.AB=Fs++f::K->Fs.length<=2*IU z->Pend c q O g G U (a+1) j Fs fx d->Q2 222 #[Q0 c.rb,.nilIface,fnV 246 #[pt b',pt w.heap.size]] g fun e w'=>e=aGG .nilIface .nilIface/\Post c M O w F U K (k+1) (1+2*IU z) (aGG .nilIface .nilIface) w'):=fun q G a j m g n B r C D J L qb Fs S0 fx d s A N H=>by refine(aJW H (fr:=f) (.two b' w.heap.size kp t v S.val f X Y Z aa ht ac (hc.go (P.trans n)) qb (Q.le r.s)) x8).mono ?_;rintro e w' ⟨rfl,M',y1,y2,y3⟩;exact⟨rfl,M',G,a,j,m,n.trans y1,fun b i=>(y2 b i).trans (B b i),r,C,D,x8,x8,.pend (Fs++[f]) S0 fx d s (by rw [A];simp) r7 y3⟩
 have HN:Hid (∀q G a j m g,Stp M w q g->(∀b,O b->g.heap[b]?=w.heap[b]?)->Fg.Le F G->c.At a j m->m.ended=false->k+1<=a+1->a+2<=k+1+2*IU z->∀e,PoR c q O g G U K a (1+2*IU z) j m e->Post c M O w F U K (k+1) (1+2*IU z) e g):=fun q G a j m g n B r C D J L e qr=>⟨q,G,a,j,m,n,B,r,C,D,x8,x8,qr⟩
 have p:Hid (Stp M w M (w.alloc (.cells #[v] B9))/\(∀b,O b->(w.alloc (.cells #[v] B9)).heap[b]?=w.heap[b]?)/\Bx M (w.alloc (.cells #[v] B9)) w.heap.size v B9/\Bx M w b' (.int .i64 (kp:Int)) TPrm):=⟨R,fun b i=>hB.block b (h.fw.olt i),bx,hc.go P⟩
 have aj:∀(d:Array Value)(w:World),(callFunc kf d).run prog w=.ok (.enter kf d) w:=eg;have n4:w.heap.size≠c.rb:=fun e=>by obtain⟨c4,_⟩:=h.cells;have:=World.block_lt_of_cell? _ _ c4;simp only [<- e] at this;omega
 have n2:=h.ne (hc.go P).1;obtain⟨T,uu,rfl⟩:=Q.iface;obtain⟨o,rfl⟩:=he.ptr;clear I h ad V R bx he ha hf hK i hc P l hB eg Q X Y Z aa E;go_enter func245,ntmps245;go_wp2_with (go_at_fn kf;(refine(Calls.mono HC ?_);rintro e g ⟨q,G,a,j,m,n,B,r,C,D,J,L,qr⟩;rcases qr with⟨v2,W',S',s,A,N,H,r5,r6⟩ | ⟨es,y,s,A,N,H⟩ | ⟨es,s,A⟩ | ⟨Fs,S0,fx,d,s,A,N,H⟩<;>refine Hid.out ?_))
 ·have ah:Hid _:=HV.out q G a j m g (p.1.trans n) (fun b i=>(B b i).trans (p.2.1 b i)) r C D J L v2 W' S' s A N H r5 r6 _ rfl;obtain⟨k4,_,g4⟩:=r6.cells;have ak:a<=1010000:=by omega
  have al:=(p.2.2.1.go n).cell;have am:=(p.2.2.2.go (p.1.trans n)).cell;have m3:=aB (p.2.2.1.go n).2;have m4:=aB (p.2.2.2.go (p.1.trans n)).2;have m5:=World.block_lt_of_cell? _ _ k4;obtain⟨T2,y2,rfl⟩:=r5.iface;clear n B r C D J L s A N H r5 r6 HC HV HP HN p;unfold Hid;go_wp2_with (go_at_call 220;refine(Calls.mono ah ?_);intro e w3 hp;obtain⟨v',x',rfl⟩:=hp.tup;have ab:=(show Hid _ from hp);clear hp);go_ret2;exact ab
 ·have HX:Hid _:=HN.out q G a j m g (p.1.trans n) (fun b i=>(B b i).trans (p.2.1 b i)) r C D J L _ (.err es y s A N H);clear n B r C D J L s A N H HC HV HP HN p;exact zK2
 ·have HX:Hid _:=HN.out q G a j m g (p.1.trans n) (fun b i=>(B b i).trans (p.2.1 b i)) r C D J L _ (.spent es s A);clear n B r C D J L s A HC HV HP HN p;exact zK2
 ·have HX:Hid _:=HP.out q G a j m g (p.1.trans n) (fun b i=>(B b i).trans (p.2.1 b i)) r C D J L (p.2.2.1.go n) Fs S0 fx d s A N H;clear n B r C D J L s A N H HC HV HP HN p;unfold Hid;go_wp2_with (go_at_call 222;refine(Calls.mono HX ?_);rintro e w3 ⟨rfl,hp⟩;have ab:=(show Hid _ from hp);clear hp);go_ret2;exact ab
end
end Go.Proofs.YtbgghmjmcapmlaaGreatDoor
