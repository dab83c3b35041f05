import Derived.RangeFuncNested
import Derived.RangeFuncBound
import Derived.RangeFuncCalls
import Derived.RangeFuncLeaves
import Derived.Shelf.RegionOpen
import Derived.OwnWalkIn
import Derived.TacticsInMore
import Derived.LoopNIn
import Derived.LoopIn
import Derived.Test.YtieooapcfpimlaaGreatDoorL45
namespace Go.Proofs.YtieooapcfpimlaaGreatDoor
set_option maxHeartbeats 2000000
set_option maxRecDepth 100000
open Go.Proofs.Tryz
section
open Go.RowKit Go.Maps Go.Lib Go.Shelf
variable {n0 rb:Nat} {W:World} {kv:Value}
attribute [local go_sem] Oper.semAt_some
abbrev FrX(fs:List (Nat×Array Value)):={x:Nat×(Nat×Array Value) // fs[x.1]?=some x.2}
def KpR(n0 rb:Nat)(A B:World):Prop:=∀k,k<n0->k≠rb->B.heap[k]?=A.heap[k]?
theorem KpR.t{A B C:World}(h:KpR n0 rb A B)(k:KpR n0 rb B C):KpR n0 rb A C:=fun i a b=>(k i a b).trans (h i a b)
theorem KpR.b{w:World}(b:n0<=w.heap.size)(W:World)(l:Nat)(o a:Obj)(c:w.heap.size<=l)(_:W.heap[l]?=some o)(_:o.isCells=false)(_:o.isWalk=false):KpR n0 rb W (W.putObj l a):=fun k d _=>World.putObj_heap_other (by omega)
theorem KpR.cell{A B:World}(h:KpR n0 rb A B){k o:Nat}(a:k<n0)(b:k≠rb):B.cell? ⟨k,o,none⟩=A.cell? ⟨k,o,none⟩:=World.cell?_of_block (w:=A) (h k a b)
structure LfS(W:World)(n0 rb Bs:Nat)(ao:Option Addr)(cap:Nat)(fs:List (Nat×Array Value)):Prop where
 box:W.cell? ⟨Bs,0,none⟩=some (.slice ao fs.length cap)
 lt:Bs<n0
 ne:Bs≠rb
 le:fs.length<=cap
 row:∀(j kf:Nat)(cp:Array Value),fs[j]?=some (kf,cp)->∃g off,ao=some ⟨g,off,none⟩/\g<n0/\g≠rb/\W.cell? ⟨g,off+j,none⟩=some (fnV kf cp)
theorem LfS.kp{W':World}{Bs cap:Nat}{b:Option Addr}{fs:List (Nat×Array Value)}(h:LfS W n0 rb Bs b cap fs)(c:KpR n0 rb W W'):LfS W' n0 rb Bs b cap fs :=
 ⟨(c.cell h.lt h.ne).trans h.box,h.lt,h.ne,h.le,fun j f i k=>by
  obtain⟨g,a,l,d,e,m⟩:=h.row j f i k
  exact⟨g,a,l,d,e,(c.cell d e).trans m⟩⟩
theorem aM9(n:Nat)(hn:1<=n)(l p q r d:Nat)(E:Option Addr)(fs:List (Nat×Array Value))(s:fs.length<=1010000)(J F:List (FrX fs)->World->Prop)
  (G:∀a (x:FrX fs) W,J a W->a.length<fs.length->YieldAt Fence.wide (n-1) prog l #[.int .i64 (x.1.1:Int),fnV x.1.2.1 x.1.2.2] W fun e f =>
   (e=.returned (.bool true)/\J (a++[x]) f/\KpR p q W f)\/(e=.returned (.bool false)/\F (a++[x]) f))
  (W:World) (u:LfS W p q r E d fs) (H:J [] W) :
  CallsIn Fence.wide n prog 210 #[.func (.yield l) #[] #[],.pointer (some ⟨r,0,none⟩)] W fun e f=>(∃v,e=.returned v) /\
   ((∃I:List (FrX fs),I.map (fun x=>x.1.1)=(List.range fs.length).reverse/\J I f)\/(∃a:List (FrX fs),True/\F a f)):=by
 refine callsIn_of_wp func210 rfl trivial ?_ rfl;simp only [ntmps210,List.size_toArray,c_,z_,Nat.reduceAdd,Nat.reduceSub,Array.replicate_succ,Array.replicate_zero,List.push_toArray,List.append_toArray,List.nil_append,List.cons_append];have w:=u.box;have K:=h_ u;have L:=h_ H;clear u H
 gi_wp2
 gi_loopw [3] (fun i wr=>∃(k:Nat) (a:List (FrX fs)),k<=fs.length/\i=.int .i64 ((k:Int)-1)/\Hid (LfS wr p q r E d fs/\J a wr/\a.map (fun x=>x.1.1)++(List.range k).reverse=(List.range fs.length).reverse))
  (fun i _=>(RowKit.intOf i+1).toNat)
 case atStart=>exact⟨fs.length,[],n_,rfl,K,L,by simp⟩
 case round =>
  obtain⟨k,a,hk,rfl,b⟩:=hrel;have M:=b.1.box
  cases k with
  | zero =>
   gi_wp2
   go_end0
   exact⟨⟨_,rfl⟩,.inl ⟨a,by simpa using b.2.2,b.2.1⟩⟩
  | succ m =>
   have c:a.length<fs.length:=by have:=congrArg List.length b.2.2;simp at this;omega
   obtain⟨y,h⟩:∃y,fs[m]?=some y:=⟨_,g_ (by omega)⟩
   obtain⟨z,A⟩:=y;obtain⟨g,B,rfl,R,S,T⟩:=b.1.row m z A h;obtain⟨fn,N,t,O,U,V⟩:=G a ⟨(m,z,A),h⟩ wr b.2.1 c;dsimp only at U;have P:((m+1:Nat):Int)-1=(m:Int):=by omega
   rw [P];have X:(m:Int)<(fs.length:Int):=by omega
   have Y:(0:Int)<=(m:Int):=by omega
   have Z:m<=1010000:=by omega
   clear P G K L w c
   gi_wp2
   refine V.mono ?_;rintro e Q (⟨rfl,C,D⟩ | ⟨rfl,j⟩)
   ·have o:Hid (LfS Q p q r (some ⟨g,B,none⟩) d fs/\J (a++[⟨(m,z,A),_⟩]) Q):=⟨b.1.kp D,C⟩
    gi_wp2
    go_roundw
    case rel=>exact⟨m,_,by omega,rfl,o.1,o.2,by have:=b.2.2;rw [List.range_succ,List.reverse_append] at this;simpa using this⟩
    case measure=>simp [RowKit.intOf]
   ·gi_wp2
    refine bodyPost_ret (results_none rfl _ _ _) rfl ?_;exact⟨⟨_,rfl⟩,.inr ⟨_,trivial,j⟩⟩
theorem aIT{F:Fence}{n:Nat}{P:Program}{c:Code}{Q:Exit->Act->World->Prop}{a:Act}{w:World}(h:c.wpIn F n P (NoPanic Q) a w):c.wpIn F n P Q a w:=wpIn_mono h NoPanic.imp
theorem back_in(n:Nat)(c:Option Addr)(a b:Nat)(w:World) :CallsIn Fence.wide n prog 194 #[.slice c a b] w fun e d=>e=.returned (.func (.func 210) #[] #[.pointer (some ⟨w.heap.size,0,none⟩)])/\d=w.alloc (.cells #[.slice c a b] 305):=by
 refine callsIn_of_wp func194 rfl trivial ?_ rfl;simp only [ntmps194,List.size_toArray,c_,z_,Nat.reduceAdd,Nat.reduceSub,Array.replicate_succ,Array.replicate_zero,List.push_toArray,List.append_toArray,List.nil_append,List.cons_append]
 gi_wp2
 go_ret;exact⟨rfl,rfl⟩
theorem aKR(n:Nat)(h:1<=n)(c d e b:Nat)(g:Option Addr)(fs:List (Nat×Array Value))(a:fs.length<=1010000)(w:World)(q:c<=w.heap.size)(i:LfS w c d e g b fs) :SeqStopsK Fence.wide n prog 210 #[.pointer (some ⟨e,0,none⟩)] (fun x:FrX fs=>#[.int .i64 (x.1.1:Int),fnV x.1.2.1 x.1.2.2]) (KpR c d) (fun j=>j.map (fun x=>x.1.1)=(List.range fs.length).reverse) (fun _=>True) fs.length w:=fun l J m W o _ _ p f =>aM9 n h l c d e b g fs a J m p W (i.kp (fun k r _=>o.block k (by omega))) f
def PileV(W:World)(n0:Nat)(kv:Value):Value->List (Nat×Array Value)->Prop
 | v,[]=>v=kv
 | v,x::r=>∃b up,v=pt b/\n0<=b/\W.heap[b]?=some (.cells #[fnV x.1 x.2,up] TFPi (0,0))/\PileV W n0 kv up r
theorem PileV.keep{W':World}(a:∀b e,n0<=b->W.heap[b]?=some (.cells e TFPi (0,0))->W'.heap[b]?=W.heap[b]?):∀{l:List (Nat×Array Value)} {v:Value},PileV W n0 kv v l->PileV W' n0 kv v l
 | [],_,h=>h
 | x::r,v,h=>by obtain⟨b,f,g,c,d,i⟩:=h;exact⟨b,f,g,c,(a b _ c d).trans d,PileV.keep a i⟩
theorem PileV.low{n1:Nat}(a:n1<=n0):∀{l:List (Nat×Array Value)} {v:Value},PileV W n0 kv v l->PileV W n1 kv v l
 | [],_,h=>h
 | x::r,v,h=>by obtain⟨b,c,d,e,f,g⟩:=h;exact⟨b,c,d,t_ a e,f,PileV.low a g⟩
structure PuI(w2:World)(rb:Nat)(kv lv av gv nv zv ov:Value)(fs:List (Nat×Array Value))(pre:List (FrX fs))(W:World):Prop where
 gr:w2.grownBy W (some rb)
 ex:∃kvj,W.heap[rb]?=some (.cells #[kvj,lv,av,gv,nv,zv,ov] TFMc (0,0))/\(∃o,kvj=.pointer o)/\PileV W w2.heap.size kv kvj (pre.map (fun x=>x.1.2)).reverse
theorem PuI.own{w2:World}{lv av gv nv zv ov:Value}{fs:List (Nat×Array Value)}(l:rb<w2.heap.size):OwnFrom w2.heap.size (PuI w2 rb kv lv av gv nv zv ov fs):=fun s A B m c a d=>by
 obtain⟨f,n,p,q⟩:=c.ex;have g:w2.heap.size<=A.heap.size:=c.gr.size;refine⟨⟨a.os.trans c.gr.os,a.tape.trans c.gr.tape,a.output.trans c.gr.output,t_ g a.size,fun k r h=>?_⟩,f,?_,p,q.keep (fun b u v i=>?_)⟩
 ·exact(a.block k (by omega) (fun e=>by have:=(d k e.symm).1;omega)).trans (c.gr.block k r h)
 ·exact(a.block rb (by omega) (fun e=>by have:=(d rb e.symm).1;omega)).trans n
 ·refine a.block b (aB i) (fun e=>?_);obtain⟨_,o,j,t⟩:=d b e.symm;rw [i] at j
  cases j
  cases t
theorem PuI.push{w2:World}{lv av gv nv zv ov:Value}{fs:List (Nat×Array Value)}{g:List (FrX fs)}(p:rb<w2.heap.size)(h:PuI w2 rb kv lv av gv nv zv ov fs g W)(x:FrX fs){kvj:Value}(n:W.heap[rb]?=some (.cells #[kvj,lv,av,gv,nv,zv,ov] TFMc (0,0))) :PuI w2 rb kv lv av gv nv zv ov fs (g++[x]) ((W.setCell ⟨rb,0,none⟩ (pt W.heap.size)).alloc (.cells #[fnV x.1.2.1 x.1.2.2,kvj] TFPi)).drew/\KpR w2.heap.size rb W ((W.setCell ⟨rb,0,none⟩ (pt W.heap.size)).alloc (.cells #[fnV x.1.2.1 x.1.2.2,kvj] TFPi)).drew:=by
 obtain⟨o,j,t,q⟩:=h.ex;rw [n] at j;simp only [o_,Obj.cells.injEq,Array.mk.injEq,List.cons.injEq,and_true] at j;subst j;have l:=h.gr.size;have c:(W.setCell ⟨rb,0,none⟩ (pt W.heap.size)).heap.size=W.heap.size:=by simp [World.setCell]
 have a:∀k,k<W.heap.size->((W.setCell ⟨rb,0,none⟩ (pt W.heap.size)).alloc (.cells #[fnV x.1.2.1 x.1.2.2,kvj] TFPi)).drew.heap[k]?=(W.setCell ⟨rb,0,none⟩ (pt W.heap.size)).heap[k]? := fun k f=>Below.heap_alloc (W.setCell ⟨rb,0,none⟩ (pt W.heap.size)) _ k (by rw [c];exact f);have d:∀k,k<W.heap.size->k≠rb->((W.setCell ⟨rb,0,none⟩ (pt W.heap.size)).alloc (.cells #[fnV x.1.2.1 x.1.2.2,kvj] TFPi)).drew.heap[k]?=W.heap[k]? := fun k f m=>(a k f).trans (Below.heap_setCell _ _ _ _ (fun e=>m (by simpa using e)));refine⟨⟨⟨h.gr.os,h.gr.tape,h.gr.output,?_,fun k f i=>(d k (by omega) (fun e=>i (by rw [e]))).trans (h.gr.block k f i)⟩,_,(a rb (by omega)).trans (aD n 0 (pt W.heap.size)),⟨_,rfl⟩,?_⟩,fun k f m=>d k (by omega) m⟩
 ·show w2.heap.size<=((W.setCell ⟨rb,0,none⟩ (pt W.heap.size)).alloc (.cells #[fnV x.1.2.1 x.1.2.2,kvj] TFPi)).heap.size;rw [World.size_alloc,c];omega
 rw [List.map_append,List.reverse_append];refine⟨W.heap.size,kvj,rfl,l,?_,q.keep (fun b u r s=>?_)⟩
 ·have:=heap_alloc_new (W.setCell ⟨rb,0,none⟩ (pt W.heap.size)) (.cells #[fnV x.1.2.1 x.1.2.2,kvj] TFPi);rw [c] at this;exact this
 ·exact d b (aB s) (fun e=>by omega)
theorem aM3{fs:List (Nat×Array Value)}{d:List (FrX fs)}(h:d.map (fun x=>x.1.1)=(List.range fs.length).reverse):(d.map (fun x=>x.1.2)).reverse=fs:=by
 have c:(d.map (fun x=>x.1.2)).map some=(d.map (fun x=>x.1.1)).map (fun i=>fs[i]?):=by rw [List.map_map,List.map_map];exact List.map_congr_left (fun x _=>x.2.symm)
 rw [h] at c
 have e:((List.range fs.length).reverse).map (fun i=>fs[i]?)=(fs.map some).reverse:=by
  rw [List.map_reverse]
  congr 1
  apply List.ext_getElem
  ·simp
  ·intro i c e;simp at c;simp [c]
 rw [e] at c;have f:=congrArg List.reverse c;rw [List.reverse_reverse,<-List.map_reverse] at f;exact(List.map_inj_right (fun a b h=>i_ h)).1 f
attribute [local go_sem] Oper.semAt_some
theorem aK1(w:World)(d:Nat)(B F G nv H I:Value)(f:Option Addr)(a:Nat)(fs:List (Nat×Array Value))(J:w.heap[d]?=some (.cells #[B,.slice f fs.length a,F,G,nv,H,I] TFMc (0,0)))(hl:fs.length<=1010000)(hc:fs.length<=a)(U:∃o,B=.pointer o)
  (s:∀(j R:Nat)(S:Array Value),fs[j]?=some (R,S)->∃g t,f=some ⟨g,t,none⟩/\g<w.heap.size/\g≠d/\w.cell? ⟨g,t+j,none⟩=some (fnV R S)) :
  Calls prog 173 #[.pointer (some ⟨d,0,none⟩)] w fun e T=>(∃v,e=.returned v)/\w.grownBy T (some d)/\∃i,T.heap[d]?=some (.cells #[i,.slice f 0 a,F,G,nv,H,I] TFMc (0,0))/\(∃o,i=.pointer o)/\PileV T w.heap.size B i fs:=by
 refine(callsIn_wide (n:=5)).1 ?_;have V:=aB J;have c1:w.cell? ⟨d,1,none⟩=some (.slice f fs.length a):=aA J 1;refine callsIn_of_wp_marks func173 rfl trivial ?_ rfl;simp only [ntmps173,List.size_toArray,c_,z_,Nat.reduceAdd,Nat.reduceSub,Array.replicate_succ,Array.replicate_zero,List.push_toArray,List.append_toArray,List.nil_append,List.cons_append]
 gi_wp2_with (refine⟨trivial,?_⟩;gi_at_call 194;refine(back_in _ _ _ _ _).mono ?_;rintro e T ⟨rfl,rfl⟩)
 obtain⟨m,r⟩:∃m,m=(w.alloc (.cells #[.pointer (some ⟨d,0,none⟩)] 316)).alloc (.cells #[.slice f fs.length a] 305):=⟨_,rfl⟩
 rw [<- r];have z:Below w.heap.size w m:=by rw [r];exact b_.alloc (by simp) _
 have af:m.heap.size=w.heap.size+1+1:=by rw [r];simp
 have A:m.heap[w.heap.size]?=some (.cells #[.pointer (some ⟨d,0,none⟩)] 316 (0,0)):=by rw [r];exact(k_ (by simp)).trans (heap_alloc_new w _)
 have C:m.heap[w.heap.size+1]?=some (.cells #[.slice f fs.length a] 305 (0,0)):=by
  rw [r];have:=heap_alloc_new (w.alloc (.cells #[.pointer (some ⟨d,0,none⟩)] 316)) (.cells #[.slice f fs.length a] 305)
  rwa [World.size_alloc] at this
 have X:LfS m m.heap.size d (w.heap.size+1) f a fs:=⟨aA C 0,by omega,by omega,hc,fun j R S hj=>by
  obtain⟨g,t,L,h2,h3,h4⟩:=s j R S hj
  exact⟨g,t,L,by omega,h3,(z.cell (p:=⟨g,t+j,none⟩) h2).trans h4⟩⟩
 have Y:PuI m d B (.slice f fs.length a) F G nv H I fs [] m:=⟨⟨rfl,rfl,rfl,n_,fun _ _ _=>rfl⟩,B,(z.block d V).trans J,U,rfl⟩
 have ae:prog.follows .mixedOrders=true:=by kernel_rfl
 clear r
 refine wpIn_rangeFunc_ownF rfl (by decide) (gf:=210) (lb:=#[.pointer (some ⟨w.heap.size+1,0,none⟩)]) rfl trivial (enters_of func210 (by kernel_rfl) rfl)
  (aKR 4 (by decide) m.heap.size d (w.heap.size+1) a f fs hl m n_ X) KpR.t (KpR.b n_) r_ (fun _=>rfl)
  (PuI m d B (.slice f fs.length a) F G nv H I fs) (fun _ _ _=>False) (PuI.own (by omega)) (fun _ _ _ _ _ hs _ _=>hs) Y
  (fun x=>{tmps:=#[.pointer (some ⟨d,0,none⟩),.pointer (some ⟨w.heap.size,0,none⟩),undef,fnV x.1.2.1 x.1.2.2,.pointer (some ⟨d,0,none⟩),.pointer (some ⟨d,0,none⟩),.pointer (some ⟨d,1,none⟩),.slice f fs.length a,.func (.func 210) #[] #[.pointer (some ⟨w.heap.size+1,0,none⟩)],.int .i64 (x.1.1:Int),fnV x.1.2.1 x.1.2.2,undef,undef,undef,undef,undef,undef,undef,undef,undef,undef,undef,undef,undef,undef,undef,undef,undef,undef],defers:=[]}) ?assign ?body ?done ?stop
 case assign =>
  intro l x W K M
  gi_wp2
  exact M
 case body =>
  rintro l N x W q _;obtain⟨Z,y,⟨o,rfl⟩,O⟩:=q.ex;have HQ:Hid (PuI m d B (.slice f fs.length a) F G nv H I fs (N++[x]) ((W.setCell ⟨d,0,none⟩ (pt W.heap.size)).alloc (.cells #[fnV x.1.2.1 x.1.2.2,.pointer o] TFPi)).drew/\KpR m.heap.size d W ((W.setCell ⟨d,0,none⟩ (pt W.heap.size)).alloc (.cells #[fnV x.1.2.1 x.1.2.2,.pointer o] TFPi)).drew):=q.push (by omega) x y;have aa:=q.gr.size;have cm:W.cell? ⟨w.heap.size,0,none⟩=some (.pointer (some ⟨d,0,none⟩)):=aA ((q.gr.block w.heap.size (by omega) (by simp;omega)).trans A) 0;have c0:W.cell? ⟨d,0,none⟩=some (.pointer o):=aA y 0;have f0:W.frozen? ⟨d,0,none⟩=false:=aF y 0;have lr:d<W.heap.size:=by omega
  have lm:w.heap.size<W.heap.size:=by omega
  have ab:w.heap.size≠W.heap.size:=by omega
  clear q y O J c1 X Y A C s z
  gi_wp2
  gi_region_with_o (fail)
  all_goals
   gi_wp2
   exact⟨((KeepsOthers.setCell W _ _).trans (KeepsOthers.alloc _ _)).trans (KeepsOthers.drew _),HQ.2,HQ.1⟩
 case done =>
  rintro D ys W hD P q M;obtain⟨Z,y,⟨o,rfl⟩,O⟩:=q.ex;have aa:=q.gr.size;have cm:W.cell? ⟨w.heap.size,0,none⟩=some (.pointer (some ⟨d,0,none⟩)):=aA ((q.gr.block w.heap.size (by omega) (by simp;omega)).trans A) 0;have ag:W.cell? ⟨d,1,none⟩=some (.slice f fs.length a):=aA y 1;have f1:W.frozen? ⟨d,1,none⟩=false:=aF y 1;have lr:d<W.heap.size:=by omega
  have lm:w.heap.size<W.heap.size:=by omega
  have ab:w.heap.size≠W.heap.size:=by omega
  have ac:D≠d:=by omega
  have ad:(W.drew.setCell ⟨d,1,none⟩ (.slice f 0 a)).heap[D]?=some (.deferred (some [])):=(Below.heap_setCell _ _ _ _ (fun e=>ac (by simpa using e))).trans M;have E:∀k,k≠d->k≠D->((W.drew.setCell ⟨d,1,none⟩ (.slice f 0 a)).putObj D (.deferred none)).heap[k]?=W.heap[k]? := fun k L h2=>(World.putObj_heap_other (by omega)).trans (Below.heap_setCell _ _ _ _ (fun e=>L (by simpa using e)))
  have HX:Hid (w.grownBy ((W.drew.setCell ⟨d,1,none⟩ (.slice f 0 a)).putObj D (.deferred none)) (some d)/\∃i,((W.drew.setCell ⟨d,1,none⟩ (.slice f 0 a)).putObj D (.deferred none)).heap[d]?=some (.cells #[i,.slice f 0 a,F,G,nv,H,I] TFMc (0,0))/\(∃o,i=.pointer o)/\PileV ((W.drew.setCell ⟨d,1,none⟩ (.slice f 0 a)).putObj D (.deferred none)) w.heap.size B i fs):=by
   refine⟨⟨q.gr.os.trans z.os,q.gr.tape.trans z.tape,q.gr.output.trans z.output,?_,fun k hk Q=>?_⟩,.pointer o,?_,⟨_,rfl⟩,?_⟩
   ·have:=z.size;simp [World.putObj,World.setCell];show w.heap.size<=W.heap.size;omega
   ·have L:k≠d:=fun e=>Q (by rw [e]);exact(E k L (by omega)).trans ((q.gr.block k (by omega) Q).trans (z.block k hk))
   ·exact(World.putObj_heap_other (by omega)).trans (aD (w:=W.drew) y 1 (.slice f 0 a))
   ·rw [aM3 P] at O;refine(O.low (by omega)).keep (fun b cs ah u=>E b (fun e=>?_) (fun e=>?_))
    ·subst e;rw [y] at u;simp only [o_,Obj.cells.injEq] at u;exact absurd u.2.1 (by decide)
    ·subst e;rw [M] at u;cases u
  have ai:(0:Int)<=(a:Int):=by omega
  clear q y O J c1 X Y A C s z P M E
  gi_wp2
  refine aIT ?_
  gi_region_with_o (fail)
  all_goals
   refine NoPanic.normal ?_
   gi_wp2
   refine⟨by simp,.inl ⟨_,_,rfl,run_takeDeferred ad,?_⟩⟩;exact⟨_,results_none rfl _ _ _,⟨_,rfl⟩,HX⟩
 case stop =>rintro D c N W _ _ h _;exact h.elim
end
open Pl (PV PW PS CW)
section
open Go.RowKit Go.Maps Go.Lib
variable {M O:Nat->Prop} {w w':World} {n z:Nat} {e:Ending} {kv:Value}
inductive NxR (c:Cx) (M O:Nat->Prop) (w:World) (F:Fg) (k z:Nat) (W:PW) (S:PS):Ending->Prop
 | val (v kv:Value) (W':PW) (S':PS) (hs:Pl.step W S=⟨0,W',S'⟩) (ho:c.z<=k->W'.out=W.out) (hf:S'.form=none) (hp:PlF M w F kv S'.AB) (hv:RV F.s v S'.val) (h:St c M O w F kv (k+1) W'):NxR c M O w F k z W S (aGG v .nilIface)
 | err (es:ByteArray) (x:Nat) (kv:Value) (W':PW) (hx:x≠0) (hs:(Pl.step W S).e=x) (hw:(Pl.step W S).W=W') (ho:W'.out=W.out) (h:St c M O w F kv (k+1) W'):NxR c M O w F k z W S (aGG .nilIface (aY es (x:Int)))
 | spent (es:ByteArray) (kv:Value) (W':PW) (hz:c.z<=k) (ho:W'.out=W.out) (h:St c M O w F kv (k+1) W'):NxR c M O w F k z W S (aGG .nilIface (aY es 7))
 | pend (Fs K:List CW) (kv:Value) (S0:PS) (fx:PV) (args:List PV) (hs:Pl.step W S=Pl.apply W S0 fx args) (hK:S0.AB=Fs++K) (hp:PlF M w F kv K) (hl:Fs.length<=z) (h:Pend c M O w F kv (k+1) W Fs fx args):NxR c M O w F k z W S (aGG .nilIface .nilIface)
def NxQ(c:Cx)(M O:Nat->Prop)(w:World)(F:Fg)(n p z:Nat)(e:Ending)(w':World):Prop :=∃M' G k W S,Stp M w M' w'/\(∀b,O b->w'.heap[b]?=w.heap[b]?)/\Fg.Le F G/\c.At k W S/\S.ended=false/\n<=k+1/\k+2<=n+z/\(e=aGG .nilIface .nilIface->p<=k)/\NxR c M' O w' G k z W S e
theorem NxQ.tup{c:Cx}{F:Fg}{p:Nat}(h:NxQ c M O w F n p z e w'):∃v x,e=aGG v x:=by
 obtain⟨_,_,_,_,_,_,_,_,_,_,_,_,_,h⟩:=h
 cases h<;>exact⟨_,_,rfl⟩
theorem NxR.wide{c:Cx}{F:Fg}{k z':Nat}{W:PW}{S:PS}(h:NxR c M O w F k z W S e)(l:z<=z'):NxR c M O w F k z' W S e:=by
 cases h with
 | val v a b m d f n i o h=>exact .val v a b m d f n i o h
 | err j x a b p d q f h=>exact .err j x a b p d q f h
 | spent j a b l f h=>exact .spent j a b l f h
 | pend r K a s t g d u i y h=>exact .pend r K a s t g d u i (by omega) h
theorem NxQ.after{c:Cx}{M2:Nat->Prop}{w3:World}{F G:Fg}{n' p p' z':Nat}(d:Stp M w M2 w3)(f:∀b,O b->w3.heap[b]?=w.heap[b]?)(l:Fg.Le F G)(h:NxQ c M2 O w3 G n' p' z' e w')(u:n<=n')(hp:p<=p')(v:n'+z'<=n+z):NxQ c M O w F n p z e w':=by obtain⟨g,H,k,W,S,i,j,m,o,r,x,y,s,t⟩:=h;exact⟨g,H,k,W,S,d.trans i,fun b a=>(j b a).trans (f b a),l.trans m,o,r,by omega,by omega,fun q=>t_ hp (s q),t.wide (by omega)⟩
theorem Post.nx{c:Cx}{F:Fg}{K:List CW}(h:Post c M O w F kv K n z e w')(hp:PlF M w F kv K):NxQ c M O w F n (n-1) z e w':=by
 obtain⟨l,G,k,W,S,i,m,j,o,p,q,r,s⟩:=h;refine⟨l,G,k,W,S,i,m,j,o,p,q,r,fun _=>by omega,?_⟩;have a:=PlF.go i j K kv hp
 cases s with
 | val v t u b y A f B h=>exact .val v kv t u b y A (by rw [f];exact a) B h
 | err g x C b D h=>exact .err g x kv W C b D rfl h
 | spent g E h=>exact .spent g kv W E rfl h
 | pend H I J d b f L h=>exact .pend H K kv I J d b f a L h
theorem aJ4:∀{b:List Value},(∀u∈b,∃k c,u=fnV k c)->∃a:List (Nat×Array Value),b=a.map (fun x=>fnV x.1 x.2)
 | [],_=>⟨[],rfl⟩
 | u::r,h=>by obtain⟨a,d⟩:=@aJ4 r (fun x e=>h x (by simp [e]));obtain⟨k,c,rfl⟩:=h u (by simp);exact⟨(k,c)::a,by rw [d];rfl⟩
theorem aK0{F:Fg}{n0:Nat}{K:List CW}(c:∀k,M k->k<n0)(d:PlF M w F kv K):∀{a:List (Nat×Array Value)} {e:List CW} {v:Value},PileV w n0 kv v a->BY (FrF M w F) (a.map (fun x=>fnV x.1 x.2)) e->PlF M w F v (e++K)
 | [],[],v,h,_=>by have:v=kv:=h;subst this;exact d
 | [],f::r,_,_,h=>by cases h.1
 | x::a,[],_,_,h=>by cases h.1
 | x::a,f::r,v,h,g=>by obtain⟨b,i,j,n,l,m⟩:=h;exact⟨b,_,i,j,⟨fun y=>by have:=c b y;omega,l⟩,g.2 0 _ f rfl rfl,aK0 c d m (BY.drop g 1)⟩
theorem aMS{c:Cx}{F:Fg}{W:PW}{C K:List CW}{fx:PV}{args:List PV}(h:Pend c M O w F kv n W C fx args)(hK:PlF M w F kv K)(hl:C.length<=1010000) :Calls prog 173 #[.pointer (some ⟨c.rb,0,none⟩)] w fun e x=>(∃v,e=.returned v)/\∃p,Stp M w M x/\(∀b,O b->x.heap[b]?=w.heap[b]?)/\PlF M x F p (C++K)/\Pend c M O x F p n W [] fx args:=by
 obtain⟨lv,av,gv,ov,fs,us,D,z,J,N,h5,h6,h7⟩:=h.mc
 obtain⟨A,rfl⟩:=@aJ4 fs (fun u hu=>by
  obtain⟨i,hi⟩:=List.getElem?_of_mem hu;obtain⟨f,hf⟩:∃f,C[i]?=some f:=⟨_,g_ (by rw [<- J.1];exact(s_ hi).1)⟩
  exact(J.2 i u f hi hf).func)
 have ab:A.length=C.length:=by have:=J.1;simpa using this
 obtain⟨s,d,P,Q⟩:∃s d,lv=.slice s A.length d/\A.length<=d:=by obtain⟨s,d,e,t⟩:=cJ z.1;exact⟨s,d,by simpa using e,by simpa using t.1⟩
 subst P;have R:=D.blk;have E:∀g,(Value.slice s A.length d).ownBlock=some g->g≠c.rb:=aJZ D.blk tMc.2.2.2.2.1 z.1;refine(aK1 w c.rb kv av gv _ _ ov s d A R (by omega) Q (PlF.ptr hK) (fun j kf cp hj=>?_)).mono ?_
 ·rcases z.1.2 with⟨e,G⟩ | ⟨g,H,r,e,_,o,_,_,_,ht⟩
  ·have:=(s_ hj).1;have ac:A.length=0:=by simpa using G
   omega
  ·simp only [Value.slice.injEq] at e;obtain⟨rfl,_,rfl⟩:=e;refine⟨g,0,rfl,aB o,E g rfl,?_⟩;have:=z.1.cells (g:=g) rfl j (fnV kf cp) (by simp [hj]);by_cases G:j=0
   ·subst G;simpa [Addr.add] using this
   ·simpa [Addr.add,G] using this
 ·rintro e x ⟨he,B,p,S,aa,T⟩;have m:∀k,k<w.heap.size->k≠c.rb->x.heap[k]?=w.heap[k]? := fun k y hn=>B.block k y (fun e=>hn (i_ e))
  have I:Mf M w M x:=⟨⟨B.os,B.tape,B.output,B.size,fun k y L=>⟨m k y (fun e=>L (by rw [e];exact D.m)),L⟩⟩,fun k y L=>⟨L,by
   by_cases e:k=c.rb
   ·subst e;exact .inr ⟨_,_,_,R,tMc.1,tMc.2.1,tMc.2.2.1,tMc.2.2.2.1⟩
   ·exact .inl (m k y e)⟩,fun U k y=>l_ (U k y) B.size⟩
  have l:=Fg.Le.refl F;refine⟨he,p,I.AQ,fun b V=>?_,aK0 h.fw.CY.mlt (PlF.go I.AQ l _ _ hK) T (J.mono (fun _ _ q=>q.go I.AQ l)),⟨h.fw.mf I,⟨.slice s 0 d,av,gv,ov,[],us,⟨S,D.m⟩,⟨?_,fun g o=>?_⟩,BY.nil _,?_,h5,h6.mf I,h7⟩,h.bd,h.wf⟩⟩
  ·obtain⟨_,⟨r,t⟩,_⟩:=h.fw.oth b V;exact m b (aB t) (fun e=>by subst e;rw [R] at t;simp only [o_,Obj.cells.injEq] at t;exact tMc.1 t.2.1)
  ·refine⟨rfl,?_⟩;rcases z.1.2 with⟨e,G⟩ | ⟨g,H,r,e,X,o,_,Y,Z,_⟩
   ·simp only [Value.slice.injEq] at e;obtain⟨rfl,_,rfl⟩:=e;exact .inl ⟨rfl,rfl⟩
   ·simp only [Value.slice.injEq] at e;obtain⟨rfl,_,rfl⟩:=e;exact .inr ⟨g,d,r,rfl,X,(m g (aB o) (E g rfl)).trans o,Nat.zero_le _,Y,Z,by simp⟩
  ·cases s with
   | none=>cases o
   | some a=>exact z.2 g o
  ·refine N.keepF (fun g o=>m g ?_ ?_) (fun _ q=>q)
   ·obtain⟨r,t⟩:=aF9 N.1 o;exact aB t
   ·exact aJZ D.blk tMc.2.2.2.2.2 N.1 g o
end
end Go.Proofs.YtieooapcfpimlaaGreatDoor
