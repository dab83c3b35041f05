import Derived.Test.YtkgbdddkcjpgfaaGreatDoorQ35
namespace Go.Proofs.YtkgbdddkcjpgfaaGreatDoor
set_option maxHeartbeats 4000000
set_option maxRecDepth 100000
open Go.Proofs.Tryz
open Pl (PV PW PS PF CW AE Env AO AH AU)
section
open Go.RowKit Go.Maps Go.Lib
variable {w:World} {M O:Nat->Prop} {k n:Nat} {v kv:Value}
theorem aHT{W:PW}{S:PS}{fr:CW}{K:List CW}{g:PV}{args:List PV}(a:S.form=none)(b:S.AB=fr::K)(c:fr.form.k=.call)(hp:fr.pos=fr.form.ks.length)(d:fr.B8++[S.val]=g::args):Pl.step W S=Pl.apply W {S with AB:=K} g args:=by rw [aGY a];simp only [Pl.taken,b,c,d,hp,if_true]
theorem aIG{W:PW}{S:PS}{fr:CW}{K:List CW}(a:S.form=none)(b:S.AB=fr::K)(c:fr.form.k=.call)(hp:fr.pos≠fr.form.ks.length):Pl.step W S=⟨0,W,(({S with AB:=K}:PS).push {fr with B8:=fr.B8++[S.val],pos:=fr.pos+1}).work fr.form.ks[fr.pos]? fr.env⟩:=by rw [aGY a];simp only [Pl.taken,b,c,if_neg hp]
theorem aII{t:AE}(h:AO[k]?=some t)(a:k<12):t≠AU:=by
 have:∀k:Fin 12,AO[k.1]? ≠ some AU:=by decide
 intro e;exact this ⟨k,a⟩ (by rw [h,e])
theorem aJM{W:PW}{S:PS}{t:AE}(h:AO[k]?=some t)(a:k<12)(args:List PV):Pl.apply W S (.AZ t) args=AH W S (.AZ t) args:=by unfold Pl.apply;rw [if_neg (fun e=>aII h a (Pl.PV.AZ.inj e))]
theorem Fs.entOne:Enters 323:=enters_of func323 (by kernel_rfl) rfl
theorem Fs.entTwo:Enters 324:=enters_of func324 (by kernel_rfl) rfl
theorem Fs.entTwo2:Enters 325:=enters_of func325 (by kernel_rfl) rfl
theorem Cx.At.val{c:Cx}{W:PW}{S:PS}(h:c.At n W S)(a:S.form=none):BL W S.val:=by obtain⟨t,_,b⟩:=h.ww;exact b.val a
theorem Cx.At.B8{c:Cx}{W:PW}{S:PS}(h:c.At n W S){fr:CW}{K:List CW}(a:S.AB=fr::K)(b:fr.form.k=.call):∀v∈fr.B8,BL W v:=by obtain⟨t,_,d⟩:=h.ww;exact((d.AB.1 fr (by rw [a];simp)).call b).2.2
theorem aJP{c:Cx}{M0:Nat->Prop}{w0:World}{A:Fg}{b kp:Nat}{t:AE}{fr:CW}{sc:List (List AE)}(B:fr.form.k=.call)(C:fr.form.ks.length=2)(D:fr.B8=[.AZ t])(hp:fr.pos=2)(s:AO[kp]?=some t)(f:kp<12)(g:Bx M0 w0 b (.int .i64 (kp:Int)) TPrm):TakeOk c M0 w0 A (fnV 323 #[pt b]) fr sc 1:=by
 refine⟨_,_,rfl,Fs.entOne,?_⟩;intro M O w F E G v K k W S n l h y o p q a J;show Calls prog 323 #[.pointer (some ⟨c.rb,0,none⟩),G,v,.pointer (some ⟨b,0,none⟩)] w _;have d:=(g.go n).cell;have L:=aB (g.go n).2;have j:Pl.step W S=AH W {S with AB:=K} (.AZ t) [S.val]:=(aHT p q B (by rw [hp,C]) (by rw [D];rfl)).trans (aJM s f _);have m:Below w.heap.size w (w.alloc (.cells #[v] B9)):=b_
 have H:Hid (Calls prog 299 #[.pointer (some ⟨c.rb,0,none⟩),.int .i64 (kp:Int),.slice (some ⟨w.heap.size,0,none⟩) 1 1] (w.alloc (.cells #[v] B9)) (Post c M O w F E K (k+1) 1)):=by
  refine(aK3 (us:=[v]) (args:=[S.val]) ⟨(h.below m).up (by omega),o,aF8 q,j,rfl,⟨_,1,rfl,n_,fun i u z=>?_⟩,(BY.nil _).cons a,fun x I=>by rw [List.mem_singleton.1 I];exact o.val p⟩ kp s f).mono (fun e N hp=>hp.after (Stp.AA m) (fun b g=>m.block b (h.fw.olt g)) (Fg.Le.refl _) n_ n_)
  cases i with
  | zero=>exact⟨_,0,rfl,(aA (heap_alloc_new w _) 0).trans (by simpa using z)⟩
  | succ i=>simp at z
 obtain⟨T,u,rfl⟩:=a.iface;obtain⟨P,rfl⟩:=y.ptr;clear h n y o g j a p q m;go_enter func323,ntmps323;go_wp2_with (go_at_call 299;refine(Calls.mono H ?_);intro e Q hp;obtain⟨R,U,rfl⟩:=hp.tup;have r:=(show Hid _ from hp);clear hp);go_ret2;exact r
theorem row_two(w:World)(u v:Value):ArgR (w.alloc (.cells #[u,v] B9)) (.slice (some ⟨w.heap.size,0,none⟩) 2 2) [u,v]:=by
 refine⟨_,2,rfl,n_,fun i x a=>?_⟩
 match i with
 | 0=>exact⟨_,0,rfl,(aA (heap_alloc_new w _) 0).trans (by simpa using a)⟩
 | 1=>exact⟨_,0,rfl,(aA (heap_alloc_new w _) 1).trans (by simpa using a)⟩
 | i+2=>simp at a
theorem aJV{c:Cx}{F:Fg}{u:Value}{K:List CW}{kp:Nat}{t:AE}{p:PV}{W:PW}{S:PS}{fr:CW}(h:Stt c M O w F kv (k+1) (k+1) W)(d:c.At k W S)(j:S.form=none)(f:S.AB=fr::K)(l:fr.form.k=.call)(q:fr.form.ks.length=3)(m:fr.B8=[.AZ t,p])(hp:fr.pos=3)(n:AO[kp]?=some t)(a:kp<12)(r:RV F.s u p)(s:RV F.s v S.val) :Calls prog 299 #[.pointer (some ⟨c.rb,0,none⟩),.int .i64 (kp:Int),.slice (some ⟨w.heap.size,0,none⟩) 2 2] (w.alloc (.cells #[u,v] B9)) (Post c M O w F kv K (k+1) 1):=by
 have g:Below w.heap.size w (w.alloc (.cells #[u,v] B9)):=b_;have i:Pl.step W S=AH W {S with AB:=K} (.AZ t) [p,S.val]:=(aHT j f l (by rw [hp,q]) (by rw [m];rfl)).trans (aJM n a _);refine(aK3 (us:=[u,v]) (args:=[p,S.val]) ⟨h.below g,d,aF8 f,i,rfl,row_two w u v,((BY.nil _).cons s).cons r,fun x o=>?_⟩ kp n a).mono (fun e z hp=>hp.after (Stp.AA g) (fun b y=>g.block b (h.fw.olt y)) (Fg.Le.refl _) n_ n_);simp only [List.mem_cons,List.not_mem_nil,or_false] at o;rcases o with rfl | rfl
 ·exact d.B8 f l _ (by rw [m];simp)
 ·exact d.val j
theorem aKB{P:Program}{g:Array Oper}{o:Oper}{a:Act}{K:Act->World->Prop}{Q:Exit->Act->World->Prop}{E:Prop}(j:o.guard=none)(l:Operand)(m:Array Operand)(n:Array TypeId)
  (p:o.op=.call {callee:=.value l,args:=m,argTypes:=n}) (f:Nat) (d:Array Value) (k:a.eval l=.func (.func f) #[] d) (q:∀(c:Array Value)(w:World),(callFunc f c).run P w=.ok (.enter f c) w)
  (b:Array Value) (r:m.map a.eval=b) {R:Ending->World->Prop} (s:Calls P f (b++d) w R) (h:∀e i,R e i->∃v,e=.returned v/\K (a.put o.dst v) i):if Region.wanted o (yielded g a.tmps)=true then Oper.wp P o a w K Q else E:=by
 have t:Region.wanted o (yielded g a.tmps)=true:=by simp [Region.wanted,j]
 rw [if_pos t];have u:(execOp a.eval o).run P w=.ok (.enter f (b++d)) w:=by subst r;simp [execOp,p,resolve,invoke,Deferred.ofValue,k,q]
 unfold Oper.wp;rw [u,Oper.upon_enter];refine s.mono (fun e i x=>?_);obtain⟨v,rfl,y⟩:=h e i x;exact y
theorem Stt.ownApp{c:Cx}{w':World}{F:Fg}{nn m:Nat}{W:PW}{v':Value}{n':Nat}{xs xs':List Value}(h:Stt c M (Ow O v) w F kv nn m W)(q:w.ownsRow 0 B9 1 v n xs)(b:w.grownBy w' v.ownBlock)(o:w'.ownsRow 0 B9 1 v' n' xs')(p:∀g,v'.ownBlock=some g->v.ownBlock=some g\/w.heap.size<=g)(t:∀g,v.ownBlock=some g->¬O g) :Stt c (Mn M (fun k=>v'.ownBlock=some k/\w.heap.size<=k)) (Ow O v') w' F kv nn m W/\Stp M w (Mn M (fun k=>v'.ownBlock=some k/\w.heap.size<=k)) w'/\(∀k,O k->w'.heap[k]?=w.heap[k]?)/\∀g,v'.ownBlock=some g->¬O g:=by
 obtain⟨u,x,y,z,A⟩:=h.fw.ownApp q b o p t;obtain⟨B,C,D,E,i,j,l⟩:=h.mc
 have a:∀{k:Nat} {T:TypeId} {r:Array Value},M k->w.heap[k]?=some (.cells r T (0,0))->T≠B9->w'.heap[k]?=w.heap[k]? := fun {k} {T} {r} G s H=>z k G (aB s) (fun e=>by
  obtain⟨d,f⟩:=aF9 q e
  exact aGF s f H rfl)
 refine⟨⟨u,⟨B,C,D,E,⟨(a i.m i.blk tMc.1).trans i.blk,.inl i.m⟩,⟨aGD j.1 (fun g b=>?_),fun g b=>.inl (j.2 g b)⟩,⟨aGD l.1 (fun g b=>?_),fun g b=>.inl (l.2 g b)⟩⟩,h.bd⟩,x,y,A⟩
 ·obtain⟨d,f⟩:=aF9 j.1 b;exact a (j.2 g b) f tLf.1
 ·obtain⟨d,f⟩:=aF9 l.1 b;exact a (l.2 g b) f tBy.1
theorem Pend.freeze{c:Cx}{F:Fg}{nn:Nat}{xs:List Value}{W:PW}{p:List CW}{q:PV}{args:List PV}(h:Pend c M (Ow O v) w F kv nn W p q args)(r:w.ownsRow 0 B9 1 v n xs)(u:∀g,v.ownBlock=some g->¬O g):Pend c (Mz M v) O w F kv nn W p q args:=by
 obtain⟨y,z,A,B,C,D,i,j,E,l,G,H,I⟩:=h.mc;have J:=Stp.freeze M v w;have b:∀{k:Nat} {T:TypeId} {s:Array Value},w.heap[k]?=some (.cells s T (0,0))->T≠B9->v.ownBlock≠some k:=fun {k} {T} {s} K L e=>by obtain⟨a,d⟩:=aF9 r e;exact aGF K d L rfl
 refine⟨h.fw.freeze r u,⟨y,z,A,B,C,D,⟨i.blk,i.m,b i.blk tMc.1⟩,⟨j.1,fun g f=>⟨j.2 g f,?_⟩⟩,E.mono (fun _ _ x=>x.go J (Fg.Le.refl _)),⟨l.1,fun g f=>⟨l.2 g f,?_⟩⟩,G,?_,I⟩,h.bd,h.wf⟩
 ·obtain⟨a,d⟩:=aF9 j.1 f;exact b d tLf.1
 ·obtain⟨a,d⟩:=aF9 l.1 f;exact b d tBy.1
 ·obtain⟨N,m,P,Q,R⟩:=H;refine⟨N,m,P,Q,R.imp id ?_⟩;rintro⟨g,o,a,S,U,t,V,X,Y⟩;exact⟨g,o,a,S,⟨U,fun e=>t (.inr e)⟩,fun x=>t (.inl x),V,X,Y⟩
def AllOk(c:Cx)(M0:Nat->Prop)(w0:World)(F0:Fg)(u:Value)(env:Env)(sc:List (List AE))(a:List PV)(z:Nat):Prop:=∃kf cap,u=fnV kf cap/\Enters kf/\∀(M O:Nat->Prop)(w:World)(F:Fg)(kv hv vv:Value)(K:List CW)(fr:CW)(k:Nat)(W:PW)(S:PS)(us:List Value)(ps:List PV),Stp M0 w0 M w->Fg.Le F0 F->St c M O w F kv (k+1) W->EnvF M w F.s hv env sc->c.At k W S->S.form=none->S.AB=fr::K->fr.form.k=.call->fr.pos=fr.form.ks.length->fr.B8++[S.val]=a++ps->ArgsAt M O w F.s vv us->BY (RV F.s) us ps->us.length<=2000->k+1+z<=c.T ->
 Calls prog kf (#[pt c.rb,hv,vv]++cap) w (Post c M O w F kv K (k+1) z)
inductive GS (c:Cx) (f:PF) (env:Env) (K:List CW) (a:List PV) (l:Nat) (n:Nat) (W:PW) (ps:List PV):Prop
 | part (S:PS) (ha:c.At n W S) (hl:ps.length<l) (hf:S.form=f.ks[a.length+ps.length]?) (he:S.env=env) (hK:S.AB=⟨f,a++ps,a.length+ps.length+1,env⟩::K)
 | all (S:PS) (fr:CW) (k:Nat) (hn:n=k+1) (ha:c.At k W S) (hl:ps.length=l) (hf:S.form=none) (hfm:fr.form=f) (hK:S.AB=fr::K) (hp:fr.pos=f.ks.length) (hg:fr.B8++[S.val]=a++ps)
structure GaI(c:Cx)(M O:Nat->Prop)(w:World)(F:Fg)(kv:Value)(K:List CW)(n:Nat)(f:PF)(env:Env)(a:List PV)(l q:Nat)(sl hv tk:Value)(b1 b2 b3:Nat)(ws:List Value)(vv:Value)(wr:World):Prop where
 ex:∃M' G n' W' ps,Stp M w M' wr/\(∀b,O b->wr.heap[b]?=w.heap[b]?)/\Fg.Le F G/\St c M' (Ow O vv) wr G kv n' W'/\wr.ownsRow 0 B9 1 vv ws.length ws/\(∀g,vv.ownBlock=some g->¬O g)/\BY (RV G.s) ws ps/\GS c f env K a l n' W' ps/\n<=n'/\n'+2*OT (f.ks.drop (a.length+ps.length))<=q/\Bx M' wr b1 sl TCds/\Bx M' wr b2 hv TPlP/\Bx M' wr b3 tk TTk2
theorem GS.next{c:Cx}{f:PF}{env:Env}{K:List CW}{a ps:List PV}{l:Nat}{W:PW}{S:PS}(j:f.k=.call)(e:a.length+l=f.ks.length)(g:c.At k W S)(i:S.form=none)(b:S.AB=⟨f,a++ps,a.length+ps.length+1,env⟩::K)(n:ps.length<l)(m:k<c.T):GS c f env K a l (k+1) W (ps++[S.val]):=by
 by_cases h:ps.length+1=l
 ·exact .all S _ k rfl g (by simp [h]) i rfl b (by show a.length+ps.length+1=_;omega) (by simp)
 ·have d:=aIG (W:=W) i b j (show a.length+ps.length+1≠f.ks.length from by omega);exact .part _ (g.next (aF8 b) d (fun _=>rfl) m) (by simp;omega) (by simp [Pl.PS.work,Pl.PS.push];congr 1) rfl (by simp [Pl.PS.work,Pl.PS.push];omega)
theorem Tryz.fp_q(v:Value)(w:World):(Instr.typeAssert (.iface 465 v) 161 246 true).run prog w=.ok (.tuple #[.int .i64 0,.bool false]) w:=by kernel_rfl
theorem Tryz.fp_c(v:Value)(w:World):(Instr.typeAssert (.iface 477 v) 161 246 true).run prog w=.ok (.tuple #[.int .i64 0,.bool false]) w:=by kernel_rfl
theorem Tryz.fp_cc(v:Value)(w:World):(Instr.typeAssert (.iface 243 v) 161 246 true).run prog w=.ok (.tuple #[.int .i64 0,.bool false]) w:=by kernel_rfl
theorem RV.isPr{s:Sg}{p:PV}(h:RV s v p)(c:s.tq=465)(d:s.tc=477):(∃(a:Nat)(t:AE),AO[a]?=some t/\a<12/\p=.AZ t/\v=.iface TPrm (.int .i64 (a:Int)))\/((∃T x,v=.iface T x/\∀w,(Instr.typeAssert (.iface T x) 161 246 true).run prog w=.ok (.tuple #[.int .i64 0,.bool false]) w)/\(∀x,v≠.iface TPrm x)):=by
 cases h with
 | AZ k t h f=>exact .inl ⟨k,t,h,f,rfl,rfl⟩
 | num n=>exact .inr ⟨⟨_,_,rfl,Tryz.Q_ _⟩,fun x e=>(by cases e)⟩
 | AT b=>exact .inr ⟨⟨_,_,rfl,Tryz.R8 _⟩,fun x e=>(by cases e)⟩
 | name t=>exact .inr ⟨⟨_,_,rfl,Tryz.VW _⟩,fun x e=>(by cases e)⟩
 | empty=>exact .inr ⟨⟨_,_,rfl,Tryz.R9 _⟩,fun x e=>(by cases e)⟩
 | nothing=>exact .inr ⟨⟨_,_,rfl,Tryz.OY _⟩,fun x e=>(by cases e)⟩
 | pair i b h=>exact .inr ⟨⟨_,_,rfl,Tryz.VV _⟩,fun x e=>(by cases e)⟩
 | proc i b h g=>exact .inr ⟨⟨_,_,rfl,by rw [c];exact Tryz.fp_q _⟩,fun x e=>(by simp only [Value.iface.injEq,c] at e;exact absurd e.1 (by decide))⟩
 | cont i b h=>exact .inr ⟨⟨_,_,rfl,by rw [d];exact Tryz.fp_c _⟩,fun x e=>(by simp only [Value.iface.injEq,d] at e;exact absurd e.1 (by decide))⟩
 | EC=>exact .inr ⟨⟨_,_,rfl,Tryz.fp_cc _⟩,fun x e=>(by cases e)⟩
theorem pend_of{c:Cx}{F:Fg}{av gv:Value}{W:PW}{g:PV}{us:List Value}{args:List PV}(h:St c M O w F kv n W)(m:RV F.s av g)(o:ArgsAt M O w F.s gv us)(p:BY (RV F.s) us args)(q:PnW W g args) :Pend c M O ((w.setCell ⟨c.rb,2,none⟩ av).setCell ⟨c.rb,3,none⟩ gv) F kv n W [] g args/\Stp M w M ((w.setCell ⟨c.rb,2,none⟩ av).setCell ⟨c.rb,3,none⟩ gv)/\∀b,O b->((w.setCell ⟨c.rb,2,none⟩ av).setCell ⟨c.rb,3,none⟩ gv).heap[b]?=w.heap[b]? := by
 obtain⟨i,r,e,j,d,s,t⟩:=h.mc;have u:=d.mf 2 av;have k:(w.setCell ⟨c.rb,2,none⟩ av).heap[c.rb]?=some (.cells #[kv,i,av,e,.int .i64 (n:Int),.int .i64 (c.z:Int),j] TFMc (0,0)):=aD d.blk 2 av;have a:Mch c M (w.setCell ⟨c.rb,2,none⟩ av) kv i av e n j:=⟨k,d.m⟩
 have f:=u.trans (a.mf 3 gv);refine⟨⟨h.fw.mf f,⟨i,av,gv,j,[],us,⟨aD k 3 gv,d.m⟩,(s.set d 2 av).set a 3 gv,BY.nil _,(t.setF d 2 av).setF a 3 gv,m,o.mf f,p⟩,h.bd,q⟩,f.AQ,fun b v=>?_⟩;obtain⟨x,⟨y,l⟩,_⟩:=h.fw.oth b v;exact(f.same x l (.inl rfl)).2.trans l.symm
theorem aMT{c:Cx}{F:Fg}{av gv:Value}{K:List CW}{W:PW}{S m:PS}{g:PV}{us:List Value}{args:List PV}(h:St c M O w F kv (k+1) W)(a:c.At k W S)(z:S.ended=false)(b:Pl.step W S=Pl.apply W m g args)(A:m.AB=K)(f:RV F.s av g)(j:ArgsAt M O w F.s gv us)(l:BY (RV F.s) us args)(d:∀v∈g::args,BL W v)(n:args.length<=2000) :Calls prog 311 #[.pointer (some ⟨c.rb,0,none⟩),av,gv] w (Post c M O w F kv K (k+1) 1):=by
 rcases f.isPr h.fw.tq h.fw.tc with⟨B,t,C,D,rfl,rfl⟩ | ⟨⟨T,x,rfl,I⟩,o⟩
 ·have J:Hid (Calls prog 299 #[.pointer (some ⟨c.rb,0,none⟩),.int .i64 (B:Int),gv] w (Post c M O w F kv K (k+1) 1)):=aK3 ⟨h,a,z,b.trans (aJM C D _),A,j.r,l,fun v f=>d v (by simp [f])⟩ B C D;have P:=Tryz.vp_p;obtain⟨L,p,rfl,_⟩:=j;unfold TPrm;clear h a b f l d;go_enter func311,ntmps311;go_wp2_with (go_at_call 299;refine(Calls.mono J ?_);intro e Q q;obtain⟨R,U,rfl⟩:=q.tup;have r:=(show Hid _ from q);clear q);go_ret2;exact r
 ·have s:∀t,g=.AZ t->t=AU:=fun t e=>by
   subst e
   cases f with
   | AZ k _ _ _=>exact absurd rfl (o _)
   | EC=>rfl
  obtain⟨E,G,H⟩:=pend_of h f j l ⟨d,s,n⟩;have N:Hid (Post c M O w F kv K (k+1) 1 (aGG .nilIface .nilIface) ((w.setCell ⟨c.rb,2,none⟩ (.iface T x)).setCell ⟨c.rb,3,none⟩ gv)):=⟨M,F,k,W,S,G,H,Fg.Le.refl _,a,z,by omega,by omega,.pend [] m g args b (by rw [A];rfl) (by simp) E⟩
  obtain⟨V,u,y,X,i,_,_⟩:=h.mc;have Y:w.cell? ⟨c.rb,2,none⟩=some u:=aA i.blk 2;have Z:w.cell? ⟨c.rb,3,none⟩=some y:=aA i.blk 3;have f2:w.frozen? ⟨c.rb,2,none⟩=false:=aF i.blk 2;have f3:w.frozen? ⟨c.rb,3,none⟩=false:=aF i.blk 3;obtain⟨L,p,rfl,_⟩:=j;clear h a b f l d E G H i;go_enter func311,ntmps311;go_wp2_with fail;go_ret2;exact N
theorem aG4(w:World)(j c d:Nat)(a b:Array Value):Calls prog 284 #[.int .i64 (j:Int),fnV c a,fnV d b] w fun e g=>e=.returned (fnV 300 #[pt w.heap.size,pt (w.heap.size+1),pt (w.heap.size+1+1)])/\g=((w.alloc (.cells #[.int .i64 (j:Int)] TInt)).alloc (.cells #[fnV c a] TCod)).alloc (.cells #[fnV d b] TTak):=by have h:∀(f:Fn)(first a:Array Value)(w:World),(Instr.makeFunc f first a).run prog w=.ok (.func f first a) w:=fun _ _ _ _=>rfl;go_enter func284,ntmps284;go_wp2_with fail;go_ret;exact⟨rfl,rfl⟩
theorem Bx.three(d:∀k,M k->k<w.heap.size){a b c:Value}{A B C:TypeId}:Bx M (((w.alloc (.cells #[a] A)).alloc (.cells #[b] B)).alloc (.cells #[c] C)) w.heap.size a A/\Bx M (((w.alloc (.cells #[a] A)).alloc (.cells #[b] B)).alloc (.cells #[c] C)) (w.heap.size+1) b B/\Bx M (((w.alloc (.cells #[a] A)).alloc (.cells #[b] B)).alloc (.cells #[c] C)) (w.heap.size+1+1) c C:=by
 refine⟨⟨fun x=>by have:=d _ x;omega,(k_ (by simp;omega)).trans ((k_ (by simp)).trans (heap_alloc_new w _))⟩,⟨fun x=>by have:=d _ x;omega,(k_ (by simp)).trans (by have:=heap_alloc_new (w.alloc (.cells #[a] A)) (.cells #[b] B);rwa [show(w.alloc (.cells #[a] A)).heap.size=w.heap.size+1 from by simp] at this)⟩,⟨fun x=>by have:=d _ x;omega,?_⟩⟩;have:=heap_alloc_new ((w.alloc (.cells #[a] A)).alloc (.cells #[b] B)) (.cells #[c] C)
 rwa [show((w.alloc (.cells #[a] A)).alloc (.cells #[b] B)).heap.size=w.heap.size+1+1 from by simp] at this
theorem aG3(w:World)(a b c:Obj):Below w.heap.size w (((w.alloc a).alloc b).alloc c):=(b_.alloc (by simp) _).alloc (by simp;omega) _
theorem aLD(w:World)(f h:Nat)(d:Array Value):Calls prog 317 #[.int .i64 (f:Int),fnV h d] w fun e i=>∃g,e=.returned g/\(∃k c,g=fnV k c)/\Below w.heap.size w i/\∀M:Nat->Prop,(∀k,M k->k<w.heap.size)->One M i g f (fnV h d):=by
 have r:∀(o:Fn)(first d:Array Value)(w:World),(Instr.makeFunc o first d).run prog w=.ok (.func o first d) w:=fun _ _ _ _=>rfl;have l:Below w.heap.size w (w.alloc (.cells #[.int .i64 (f:Int)] TPrm)):=b_;have m:(w.alloc (.cells #[.int .i64 (f:Int)] TPrm)).heap.size=w.heap.size+1:=by simp
 have s:Hid (Calls prog 284 #[.int .i64 3,fnV h d,fnV 323 #[pt w.heap.size]] (w.alloc (.cells #[.int .i64 (f:Int)] TPrm)) fun e i=>∃g,e=.returned g/\(∃k c,g=fnV k c)/\Below w.heap.size w i/\∀M:Nat->Prop,(∀k,M k->k<w.heap.size)->One M i g f (fnV h d)):=(aG4 _ 3 h _ d _).mono (fun e i ⟨t,u⟩=>by
  subst u;have j:=aG3 (w.alloc (.cells #[.int .i64 (f:Int)] TPrm)) (.cells #[.int .i64 ((3:Nat):Int)] TInt) (.cells #[fnV h d] TCod) (.cells #[fnV 323 #[pt w.heap.size]] TTak);refine⟨_,t,⟨_,_,rfl⟩,l.trans (j.mono l.size),fun M p=>?_⟩;obtain⟨v,x,z⟩:=Bx.three (M:=M) (w:=w.alloc (.cells #[.int .i64 (f:Int)] TPrm)) (a:=.int .i64 ((3:Nat):Int)) (b:=fnV h d) (c:=fnV 323 #[pt w.heap.size]) (A:=TInt) (B:=TCod) (C:=TTak) (fun k D=>by have:=p k D;omega)
  exact⟨_,_,_,w.heap.size,rfl,v,x,z,fun y=>by have:=p _ y;omega,(j.block _ (by omega)).trans (heap_alloc_new w _)⟩)
 clear l m;go_enter func317,ntmps317;go_wp2_with (go_at_call 284;refine(Calls.mono s ?_);rintro e E ⟨g,rfl,q⟩;have n:=(show Hid _ from q);clear q);go_ret;exact⟨_,rfl,n⟩
theorem aLC(w:World)(g j h:Nat)(f d:Array Value):Calls prog 318 #[.int .i64 (g:Int),fnV j f,fnV h d] w fun e m=>∃i,e=.returned i/\(∃k c,i=fnV k c)/\Below w.heap.size w m/\∀M:Nat->Prop,(∀k,M k->k<w.heap.size)->Two M m i g (fnV j f) (fnV h d):=by
 have t:∀(r:Fn)(first f:Array Value)(w:World),(Instr.makeFunc r first f).run prog w=.ok (.func r first f) w:=fun _ _ _ _=>rfl;have n:Below w.heap.size w ((w.alloc (.cells #[.int .i64 (g:Int)] TPrm)).alloc (.cells #[fnV h d] TCod)):=b_.alloc (by simp) _;have o:((w.alloc (.cells #[.int .i64 (g:Int)] TPrm)).alloc (.cells #[fnV h d] TCod)).heap.size=w.heap.size+1+1:=by simp
 have u:Hid (Calls prog 284 #[.int .i64 3,fnV j f,fnV 324 #[pt (w.heap.size+1),pt w.heap.size]] ((w.alloc (.cells #[.int .i64 (g:Int)] TPrm)).alloc (.cells #[fnV h d] TCod)) fun e m=>∃i,e=.returned i/\(∃k c,i=fnV k c)/\Below w.heap.size w m/\∀M:Nat->Prop,(∀k,M k->k<w.heap.size)->Two M m i g (fnV j f) (fnV h d)):=(aG4 _ 3 j _ f _).mono (fun e m ⟨v,x⟩=>by
  subst x;have l:=aG3 ((w.alloc (.cells #[.int .i64 (g:Int)] TPrm)).alloc (.cells #[fnV h d] TCod)) (.cells #[.int .i64 ((3:Nat):Int)] TInt) (.cells #[fnV j f] TCod) (.cells #[fnV 324 #[pt (w.heap.size+1),pt w.heap.size]] TTak);refine⟨_,v,⟨_,_,rfl⟩,n.trans (l.mono n.size),fun M p=>?_⟩;obtain⟨z,D,E⟩:=Bx.three (M:=M) (w:=(w.alloc (.cells #[.int .i64 (g:Int)] TPrm)).alloc (.cells #[fnV h d] TCod)) (a:=.int .i64 ((3:Nat):Int)) (b:=fnV j f) (c:=fnV 324 #[pt (w.heap.size+1),pt w.heap.size]) (A:=TInt) (B:=TCod) (C:=TTak) (fun k F=>by have:=p k F;omega);refine⟨_,_,_,w.heap.size+1,w.heap.size,rfl,z,D,E,⟨fun y=>by have:=p _ y;omega,(l.block _ (by omega)).trans ?_⟩,⟨fun y=>by have:=p _ y;omega,(l.block _ (by omega)).trans ((k_ (by simp)).trans (heap_alloc_new w _))⟩⟩;have:=heap_alloc_new (w.alloc (.cells #[.int .i64 (g:Int)] TPrm)) (.cells #[fnV h d] TCod)
  rwa [show(w.alloc (.cells #[.int .i64 (g:Int)] TPrm)).heap.size=w.heap.size+1 from by simp] at this)
 clear n o;go_enter func318,ntmps318;go_wp2_with (go_at_call 284;refine(Calls.mono u ?_);rintro e G ⟨i,rfl,s⟩;have q:=(show Hid _ from s);clear s);go_ret;exact⟨_,rfl,q⟩
inductive ScR (M:Nat->Prop) (w:World) (s:Sg):Value->List (List AE)->Prop
 | nil:ScR M w s (.pointer none) []
 | cons (b:Nat) (sl up:Value) (ns:List AE) (sc:List (List AE)) (hb:Bk M w b #[sl,up] TScp) (hn:EI M w s sl ns) (h:ScR M w s up sc):ScR M w s (pt b) (ns::sc)
theorem ScR.go{M':Nat->Prop}{w':World}{s t:Sg}(a:Stp M w M' w')(l:Sg.Le s t){sc:List (List AE)}(h:ScR M w s v sc):ScR M' w' t v sc:=by
 induction h with
 | nil=>exact .nil
 | cons b c d e sc f g _ i=>exact .cons b c d e sc (f.go a) (g.go a l) i
theorem ScR.ptr{s:Sg}{sc:List (List AE)}(h:ScR M w s v sc):∃o,v=.pointer o:=by cases h<;>exact⟨_,rfl⟩
def FndQ(sc:List (List AE))(nm:AE)(e:Ending):Prop:=(∃dp ix:Nat,scF sc nm=some (dp,ix)/\dp<=sc.length/\ix<=1000/\e=.returned (.tuple #[.int .i64 (dp:Int),.int .i64 (ix:Int),.bool true]))\/(scF sc nm=none/\e=.returned (.tuple #[.int .i64 0,.int .i64 0,.bool false]))
theorem aJS{a:List (List AE)}{r:List (List AE)}{nm:AE}(h:∀b∈a,nm∉b):scF (a++r) nm=(scF r nm).map (fun p=>(p.1+a.length,p.2)):=by
 induction a with
 | nil=>simp
 | cons b a c =>
  have e:scF (b::(a++r)) nm=(scF (a++r) nm).map (fun p=>(p.1+1,p.2)):=by show(if nm∈b then _ else _)=_;rw [if_neg (h b (by simp))]
  rw [List.cons_append,e,c (fun x d=>h x (by simp [d]))]
  cases scF r nm with
  | none=>rfl
  | some p=>simp [Nat.add_assoc]
theorem aK6(M:Nat->Prop)(w:World)(s:Sg)(v:Value)(sc:List (List AE))(nm:AE)(k:Nat)(hn:s.ns.Nodup)(he:ScR M w s v sc)(hk:s.ns[k]?=some nm)(hl:sc.length<=1100) :Calls prog 279 #[v,.agg #[.string ⟨nm.toArray⟩,.int .i64 (k:Int)]] w fun e w'=>Below w.heap.size w w'/\FndQ sc nm e:=by
 have HN:=h_ hn;have HE:=h_ he;have HK:=h_ hk;have L:Below w.heap.size w (w.alloc (.cells #[.string ⟨nm.toArray⟩,.int .i64 (k:Int)] B6)):=b_;have aa:=h_ L;clear hn he hk L;go_enter func279,ntmps279;go_wp2_with fail
 go_loopw [0,4] (fun v N wr=>∃c r,N=.int .i64 ((List.length c:Nat):Int)/\Hid (c++r=sc/\(∀d∈c,nm∉d)/\ScR M w s v r/\Below w.heap.size w wr/\wr.heap[w.heap.size]?=some (.cells #[.string ⟨nm.toArray⟩,.int .i64 (k:Int)] B6 (0,0)))) (fun _ N _=>sc.length-(RowKit.intOf N).toNat)
 case atStart=>exact⟨[],sc,rfl,rfl,fun _ h=>(by cases h),HE,aa,heap_alloc_new w _⟩
 case round =>
  obtain⟨c,r,rfl,HI⟩:=hrel;obtain⟨o,z,ab,q,u⟩:=HI.out;have ai:c.length<=1100:=by have:=congrArg List.length o;simp at this;omega
  cases ab with
  | nil =>
   have HF:Hid (scF sc nm=none):=by rw [<- o,aJS z];rfl
   have HB:=h_ q;clear o z q u HI;go_wp2_with fail
   go_ret3
   exact⟨HB,.inr ⟨HF,rfl⟩⟩
  | cons b sl up d F hb ac O =>
   obtain⟨⟨ks,P,G⟩,Q,C⟩:=ac;have R:=G;obtain⟨_,H,y,rfl,ad,_⟩:=R;have m:Hid (ScR M w s up F/\c++d::F=sc/\w.heap[b]?=some (.cells #[.slice H d.length y,up] TScp (0,0))/\BY (fun k t=>s.ns[k]?=some t) ks d/\Sl M w B6 2 (.slice H d.length y) d.length (nmRow d ks)/\d.Nodup/\d.length<=1000/\∀d∈c,nm∉d):=⟨O,o,hb.2,P,G,Q,C,z⟩
   have HB:=h_ q;have S:=aB hb.2;have T:=(q.block b S).trans hb.2;have c0:wr.cell? ⟨b,0,none⟩=some (.slice H d.length y):=aA T 0;have ae:=h_ u;clear hb P G Q C z O o q T u HI;go_wp2_with fail
   go_loopw [4,20] (fun N iv wq=>N=.int .i64 ((List.length c:Nat):Int)/\∃i:Nat,iv=.int .i64 (i:Int)/\i<=d.length/\Hid (Below w.heap.size w wq/\wq.heap[w.heap.size]?=some (.cells #[.string ⟨nm.toArray⟩,.int .i64 (k:Int)] B6 (0,0))/\∀j,j<i->d[j]? ≠ some nm)) (fun _ iv _=>d.length-(RowKit.intOf iv).toNat)
   case atStart=>exact⟨rfl,0,rfl,Nat.zero_le _,HB,ae,fun j U=>absurd U (Nat.not_lt_zero _)⟩
   case round =>
    obtain⟨rfl,i,rfl,hi,HQ⟩:=hrel;have aj:=m.2.2.2.2.2.2.1;obtain⟨f,a,g⟩:=HQ.out;by_cases V:i<d.length
    ·obtain⟨t,I⟩:∃t,d[i]?=some t:=⟨_,g_ V⟩
     obtain⟨k2,J,A⟩:=m.2.2.2.1.at_ I;obtain⟨g2,D,rfl,W,_,_,d0,d1⟩:=aLK m.2.2.2.2.1 I J;have ak:=(f.cell (p:=⟨g2,D+i*2,none⟩) W).trans d0;have al:=(f.cell (p:=⟨g2,D+i*2+1,none⟩) W).trans d1;have b0:wr.cell? ⟨w.heap.size,1,none⟩=some (.int .i64 (k:Int)):=aA a 1;have af:w.heap.size<wr.heap.size:=aB a;have E:(i:Int)<(d.length:Int):=by omega
     have h0:(0:Int)<=(i:Int):=by omega
     have n:=h_ f;have l:=h_ a;have ag:=h_ g;by_cases K:k2=k
     ·subst K;have B:t=nm:=by have:=A.symm.trans HK;exact i_ this
      subst B;have HF:Hid (FndQ sc t (.returned (.tuple #[.int .i64 ((c.length:Nat):Int),.int .i64 (i:Int),.bool true]))):=by refine .inl ⟨c.length,i,?_,by rw [<- m.2.1];simp,by omega,rfl⟩;rw [<- m.2.1,aJS m.2.2.2.2.2.2.2];unfold scF;rw [if_pos (q_ I)];have:=cV m.2.2.2.2.2.1 I;simp [this]
      clear f a g d0 d1 I J A HQ;go_wp2_with fail
      go_ret3
      exact⟨(n.alloc n.size _),HF⟩
     ·have am:((k2:Int)==(k:Int))=false:=beq_eq_false_iff_ne.2 (by omega);have B:t≠nm:=fun e=>by subst e;refine K ?_;have h1:=cV HN A;have h2:=cV HN HK;omega
      have HT:Hid (t≠nm/\d[i]?=some t):=⟨B,I⟩
      clear f a g d0 d1 I J A HQ B K;go_wp2_with fail
      go_roundw
      case rel =>
       refine⟨rfl,i+1,by go_num,V,n.alloc n.size _,(k_ af).trans l,fun j U e=>?_⟩;rcases Nat.lt_or_ge j i with X | X
       ·exact ag.out j X e
       ·obtain rfl:j=i:=by omega
        rw [HT.2] at e;exact HT.1 (i_ e)
      case measure=>simp only [RowKit.intOf];omega
    ·have E:i=d.length:=by omega
     subst E;have ah:Hid (nm∉d):=fun Y=>by obtain⟨j,U⟩:=List.getElem?_of_mem Y;exact g j (s_ U).1 U
     have Z:=(f.block b S).trans m.2.2.1;obtain⟨ou,rfl⟩:=m.1.ptr;have c1:wr.cell? ⟨b,1,none⟩=some (.pointer ou):=aA Z 1;have n:=h_ f;have l:=h_ a;clear f a g Z HQ;go_wp2_with fail
     go_roundw
     case rel =>
      refine⟨c++[d],F,by simp,?_,?_,m.1,n,l⟩
      ·rw [<- m.2.1];simp
      ·intro x hx;rcases List.mem_append.1 hx with hx | hx
       ·exact m.2.2.2.2.2.2.2 x hx
       ·rw [List.mem_singleton.1 hx];exact ah
     case measure =>have:=congrArg List.length m.2.1;simp [RowKit.intOf] at this ⊢;omega
def GlbQ(L:Lo)(M O P:Nat->Prop)(w:World)(F:Fg)(W:PW)(N k:Nat)(e:Ending)(w':World):Prop:=∃g M' G,e=.returned (pt g)/\Cmp L M O P w F W M' w' G (N+1)/\G.gl k=some g
theorem aHR{L:Lo}{P:Nat->Prop}{F:Fg}{N:Nat}{W:PW}(h:FW L M O w F N W)(i:∀k,P k->Cr M w F k){nm:AE}(j:F.s.ns[k]?=some nm)(o:N+1<=9000000000000000000) :Calls prog 282 #[.pointer (some ⟨L.sb,0,none⟩),.agg #[.string ⟨nm.toArray⟩,.int .i64 (k:Int)]] w (GlbQ L M O P w F W N k):=by
 have d:k<=MH:=by have:=(s_ j).1;have:=h.CY.B3.nsok;unfold CT at this;omega
 obtain⟨s,t,a⟩:=h.map.F6;have e:=aB a;have p:=aB h.NN.2;have u:w.cell? ⟨L.sb,0,none⟩=some (.map (some L.gb)):=aA h.NN.2 0;have b:Below w.heap.size w (w.alloc (.cells #[.string ⟨nm.toArray⟩,.int .i64 (k:Int)] B6)).drew:=b_.drew
 cases c:F.gl k with
 | some g =>
  have l:=gl_yes h.map d c (w.alloc (.cells #[.string ⟨nm.toArray⟩,.int .i64 (k:Int)] B6)).drew (b.block _ e);have m:Hid (GlbQ L M O P w F W N k (.returned (pt g)) (w.alloc (.cells #[.string ⟨nm.toArray⟩,.int .i64 (k:Int)] B6)).drew):=⟨g,M,F,rfl,((Cmp.refl h i).below b).up (by omega),c⟩
  unfold B6 at l;clear h i j a c b;go_enter func282,ntmps282;go_wp2_with fail
  go_region
  all_goals
   go_wp2_with fail
   go_ret;exact m
 | none =>
  have l:=gl_no h.map d c (w.alloc (.cells #[.string ⟨nm.toArray⟩,.int .i64 (k:Int)] B6)).drew (b.block _ e);have f:Below w.heap.size w (((w.alloc (.cells #[.string ⟨nm.toArray⟩,.int .i64 (k:Int)] B6)).alloc (.cells #[.nilIface,.int .i64 0] TGlb)).drew).drew:=((b_.alloc (by simp) _).drew).drew
  obtain⟨q,r,_,n⟩:=h.newGlob i j c o (g:=w.heap.size+1) f (by omega) (by
   have:=heap_alloc_new (w.alloc (.cells #[.string ⟨nm.toArray⟩,.int .i64 (k:Int)] B6)) (.cells #[.nilIface,.int .i64 0] TGlb)
   rwa [World.size_alloc] at this)
  have m:Hid (GlbQ L M O P w F W N k (.returned (pt (w.heap.size+1))) q):=⟨_,_,_,rfl,n,by show(if k=k then _ else _)=_;rw [if_pos rfl]⟩
  unfold B6 at l;unfold B6 TGlb at r;clear h i j a c b f n;go_enter func282,ntmps282;go_wp2_with fail
  go_region
  all_goals
   go_wp2_with fail
   go_region
   all_goals
    go_wp2_with fail
    go_ret;exact m
end
end Go.Proofs.YtkgbdddkcjpgfaaGreatDoor
