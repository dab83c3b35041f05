import Derived.RangeFuncNested
import Derived.RangeFuncBound
import Derived.RangeFuncCalls
import Derived.RangeFuncLeaves
import Derived.Shelf.RegionOpen
import Derived.OwnWalkIn
import Derived.TacticsInMore
import Derived.LoopNIn
import Derived.LoopIn
import Derived.Test.YtbgghmjmcapmlaaGreatDoorF33
namespace Go.Proofs.YtbgghmjmcapmlaaGreatDoor
set_option maxHeartbeats 2000000
set_option maxRecDepth 100000
open Go.Proofs.Tryz
theorem zK5{P:Prop}(h:P:=by
 clear f;go_enter func197,ntmps197
 go_wp2_with (first
  | (go_at_call 182;refine Calls.mono j ?_;rintro e q ⟨rfl,g⟩;have k:=(show Hid _ from g);clear g)
  | (go_at_call 47;refine(bJ _ _ _).mono ?_;rintro e r ⟨rfl,rfl⟩;unfold aY))
 go_ret2;exact⟨⟨_,rfl⟩,k⟩):P:=h
theorem zK6{P:Prop}(h:P:=by obtain rfl:=i_ b;exact absurd l w8):P:=h
theorem zK7{P:Prop}(h:P:=by obtain⟨q,g,rfl,_⟩:=B;exact(aJ0 w c.rb C.length (.agg #[]) rfl q g (by rw [p.1];simp)).mono (fun e w' ⟨⟨es,j1⟩,j2⟩=>by subst j1;exact aGW D j2 j z es (x:=10) w8 d rfl x8)):P:=h
theorem zK8{P:Prop}(h:P:=by simp only [Ending.returned.injEq,Value.tuple.injEq,Array.mk.injEq,List.cons.injEq,and_true] at g;obtain⟨rfl,rfl⟩:=g;unfold muL;rw [aHV q];show 3*_+0<_;omega):P:=h
theorem zK9{P:Prop}(h:P:=by exact⟨rfl,rfl,fun h=>(by cases h),W.out,rfl⟩):P:=h
theorem zL0{P:Prop}(h:P:=by exact⟨rfl,rfl,fun _=>⟨_,rfl,rfl⟩,W.out,rfl⟩):P:=h
section
open Go.RowKit Go.Maps Go.Lib Go.Shelf
variable {n0 rb:Nat} {W:World} {kv:Value}
attribute [local go_sem] Oper.semAt_some
abbrev FrX(fs:List (Nat×Array Value)):={x:Nat×(Nat×Array Value) // fs[x.1]?=some x.2}
def KpR(n0 rb:Nat)(A B:World):Prop:=∀k,k<n0->k≠rb->B.heap[k]?=A.heap[k]?
theorem KpR.t{A B C:World}(h:KpR n0 rb A B)(k:KpR n0 rb B C):KpR n0 rb A C:=fun i a b=>(k i a b).trans (h i a b)
theorem KpR.b{w:World}(b:n0<=w.heap.size)(W:World)(l:Nat)(o a:Obj)(c:w.heap.size<=l)(_:W.heap[l]?=some o)(_:o.isCells=false)(_:o.isWalk=false):KpR n0 rb W (W.putObj l a):=fun k d _=>World.putObj_heap_other x8
theorem KpR.cell{A B:World}(h:KpR n0 rb A B){k o:Nat}(a:k<n0)(b:k≠rb):B.cell? ⟨k,o,none⟩=A.cell? ⟨k,o,none⟩:=World.cell?_of_block (w:=A) (h k a b)
structure LfS(W:World)(n0 rb Bs:Nat)(ao:Option Addr)(cap:Nat)(fs:List (Nat×Array Value)):Prop where
 box:W.cell? ⟨Bs,0,none⟩=some (.slice ao fs.length cap)
 lt:Bs<n0
 ne:Bs≠rb
 le:fs.length<=cap
 row:∀(j kf:Nat)(cp:Array Value),fs[j]?=some (kf,cp)->∃g off,ao=some ⟨g,off,none⟩/\g<n0/\g≠rb/\W.cell? ⟨g,off+j,none⟩=some (fnV kf cp)
theorem LfS.kp{W':World}{Bs cap:Nat}{b:Option Addr}{fs:List (Nat×Array Value)}(h:LfS W n0 rb Bs b cap fs)(c:KpR n0 rb W W'):LfS W' n0 rb Bs b cap fs :=
 ⟨(c.cell h.lt h.ne).trans h.box,h.lt,h.ne,h.le,fun j f i k=>by
  obtain⟨g,a,l,d,e,m⟩:=h.row j f i k
  exact⟨g,a,l,d,e,(c.cell d e).trans m⟩⟩
theorem aM9(n:Nat)(hn:1<=n)(l p q r d:Nat)(E:Option Addr)(fs:List (Nat×Array Value))(s:fs.length<=1010000)(J F:List (FrX fs)->World->Prop)
  (G:∀a (x:FrX fs) W,J a W->a.length<fs.length->YieldAt Fence.wide (n-1) prog l #[Q1 (x.1.1:Int),fnV x.1.2.1 x.1.2.2] W fun e f =>
   (e=.returned (.bool true)/\J (a++[x]) f/\KpR p q W f)\/(e=.returned (.bool false)/\F (a++[x]) f))
  (W:World) (u:LfS W p q r E d fs) (H:J [] W) :
  CallsIn Fence.wide n prog 234 #[.func (.yield l) #[] #[],Q0 r] W fun e f=>(∃v,e=.returned v) /\
   ((∃I:List (FrX fs),I.map (fun x=>x.1.1)=(List.range fs.length).reverse/\J I f)\/(∃a:List (FrX fs),True/\F a f)):=by
 refine callsIn_of_wp func234 rfl trivial ?_ rfl;simp only [ntmps234,List.size_toArray,c_,z_,Nat.reduceAdd,Nat.reduceSub,Array.replicate_succ,Array.replicate_zero,List.push_toArray,List.append_toArray,List.nil_append,List.cons_append];have w:=u.box;have K:=h_ u;have L:=h_ H;clear u H
 gi_wp2
 gi_loopw [3] (fun i wr=>∃(k:Nat) (a:List (FrX fs)),k<=fs.length/\i=.int .i64 ((k:Int)-1)/\Hid (LfS wr p q r E d fs/\J a wr/\a.map (fun x=>x.1.1)++(List.range k).reverse=(List.range fs.length).reverse))
  (fun i _=>(RowKit.intOf i+1).toNat)
 case atStart=>exact⟨fs.length,[],n_,rfl,K,L,w9⟩
 case round =>
  obtain⟨k,a,hk,rfl,b⟩:=hrel;have M:=b.1.box
  cases k with
  | zero =>
   gi_wp2
   go_end0
   exact⟨⟨_,rfl⟩,.inl ⟨a,by simpa using b.2.2,b.2.1⟩⟩
  | succ m =>
   have c:a.length<fs.length:=by have:=congrArg List.length b.2.2;simp at this;omega
   obtain⟨y,h⟩:∃y,fs[m]?=some y:=⟨_,g_ x8⟩
   obtain⟨z,A⟩:=y;obtain⟨g,B,rfl,R,S,T⟩:=b.1.row m z A h;obtain⟨fn,N,t,O,U,V⟩:=G a ⟨(m,z,A),h⟩ wr b.2.1 c;dsimp only at U;have P:((m+1:Nat):Int)-1=(m:Int):=by omega
   rw [P];have X:(m:Int)<(fs.length:Int):=by omega
   have Y:(0:Int)<=(m:Int):=by omega
   have Z:m<=1010000:=by omega
   clear P G K L w c
   gi_wp2
   refine V.mono ?_;rintro e Q (⟨rfl,C,D⟩ | ⟨rfl,j⟩)
   ·have o:Hid (LfS Q p q r (some ⟨g,B,none⟩) d fs/\J (a++[⟨(m,z,A),_⟩]) Q):=⟨b.1.kp D,C⟩
    gi_wp2
    go_roundw
    case rel=>exact⟨m,_,x8,rfl,o.1,o.2,by have:=b.2.2;rw [List.range_succ,List.reverse_append] at this;simpa using this⟩
    case measure=>simp [RowKit.intOf]
   ·gi_wp2
    refine bodyPost_ret (results_none rfl _ _ _) rfl ?_;exact⟨⟨_,rfl⟩,.inr ⟨_,trivial,j⟩⟩
theorem aIT{F:Fence}{n:Nat}{P:Program}{c:Code}{Q:Exit->Act->World->Prop}{a:Act}{w:World}(h:c.wpIn F n P (NoPanic Q) a w):c.wpIn F n P Q a w:=wpIn_mono h NoPanic.imp
theorem back_in(n:Nat)(c:Option Addr)(a b:Nat)(w:World) :CallsIn Fence.wide n prog 218 #[.slice c a b] w fun e d=>e=.returned (.func (.func 234) #[] #[Q0 w.heap.size])/\d=w.alloc (.cells #[.slice c a b] 318):=by
 refine callsIn_of_wp func218 rfl trivial ?_ rfl;simp only [ntmps218,List.size_toArray,c_,z_,Nat.reduceAdd,Nat.reduceSub,Array.replicate_succ,Array.replicate_zero,List.push_toArray,List.append_toArray,List.nil_append,List.cons_append]
 gi_wp2
 go_ret;exact⟨rfl,rfl⟩
theorem aKR(n:Nat)(h:1<=n)(c d e b:Nat)(g:Option Addr)(fs:List (Nat×Array Value))(a:fs.length<=1010000)(w:World)(q:c<=w.heap.size)(i:LfS w c d e g b fs) :SeqStopsK Fence.wide n prog 234 #[Q0 e] (fun x:FrX fs=>#[Q1 (x.1.1:Int),fnV x.1.2.1 x.1.2.2]) (KpR c d) (fun j=>j.map (fun x=>x.1.1)=(List.range fs.length).reverse) (fun _=>True) fs.length w:=fun l J m W o _ _ p f =>aM9 n h l c d e b g fs a J m p W (i.kp (fun k r _=>o.block k x8)) f
def PileV(W:World)(n0:Nat)(kv:Value):Value->List (Nat×Array Value)->Prop
 | v,[]=>v=kv
 | v,x::r=>∃b up,v=pt b/\n0<=b/\W.heap[b]?=some (.cells #[fnV x.1 x.2,up] TFPi (0,0))/\PileV W n0 kv up r
theorem PileV.keep{W':World}(a:∀b e,n0<=b->W.heap[b]?=some (.cells e TFPi (0,0))->W'.heap[b]?=W.heap[b]?):∀{l:List (Nat×Array Value)} {v:Value},PileV W n0 kv v l->PileV W' n0 kv v l
 | [],_,h=>h
 | x::r,v,h=>by obtain⟨b,f,g,c,d,i⟩:=h;exact⟨b,f,g,c,(a b _ c d).trans d,PileV.keep a i⟩
theorem PileV.low{n1:Nat}(a:n1<=n0):∀{l:List (Nat×Array Value)} {v:Value},PileV W n0 kv v l->PileV W n1 kv v l
 | [],_,h=>h
 | x::r,v,h=>by obtain⟨b,c,d,e,f,g⟩:=h;exact⟨b,c,d,t_ a e,f,PileV.low a g⟩
structure PuI(w2:World)(rb:Nat)(kv lv av gv nv zv ov:Value)(fs:List (Nat×Array Value))(pre:List (FrX fs))(W:World):Prop where
 gr:w2.grownBy W (some rb)
 ex:∃kvj,W.heap[rb]?=some (.cells #[kvj,lv,av,gv,nv,zv,ov] TFMc (0,0))/\(∃o,kvj=.pointer o)/\PileV W w2.heap.size kv kvj (pre.map (fun x=>x.1.2)).reverse
theorem PuI.own{w2:World}{lv av gv nv zv ov:Value}{fs:List (Nat×Array Value)}(l:rb<w2.heap.size):OwnFrom w2.heap.size (PuI w2 rb kv lv av gv nv zv ov fs):=fun s A B m c a d=>by
 obtain⟨f,n,p,q⟩:=c.ex;have g:w2.heap.size<=A.heap.size:=c.gr.size;refine⟨⟨a.os.trans c.gr.os,a.tape.trans c.gr.tape,a.output.trans c.gr.output,t_ g a.size,fun k r h=>?_⟩,f,?_,p,q.keep (fun b u v i=>?_)⟩
 ·exact(a.block k x8 (fun e=>by have:=(d k e.symm).1;omega)).trans (c.gr.block k r h)
 ·exact(a.block rb x8 (fun e=>by have:=(d rb e.symm).1;omega)).trans n
 ·refine a.block b (aB i) (fun e=>?_);obtain⟨_,o,j,t⟩:=d b e.symm;rw [i] at j
  cases j
  cases t
theorem PuI.push{w2:World}{lv av gv nv zv ov:Value}{fs:List (Nat×Array Value)}{g:List (FrX fs)}(p:rb<w2.heap.size)(h:PuI w2 rb kv lv av gv nv zv ov fs g W)(x:FrX fs){kvj:Value}(n:W.heap[rb]?=some (.cells #[kvj,lv,av,gv,nv,zv,ov] TFMc (0,0))) :PuI w2 rb kv lv av gv nv zv ov fs (g++[x]) ((W.setCell ⟨rb,0,none⟩ (pt W.heap.size)).alloc (.cells #[fnV x.1.2.1 x.1.2.2,kvj] TFPi)).drew/\KpR w2.heap.size rb W ((W.setCell ⟨rb,0,none⟩ (pt W.heap.size)).alloc (.cells #[fnV x.1.2.1 x.1.2.2,kvj] TFPi)).drew:=by
 obtain⟨o,j,t,q⟩:=h.ex;rw [n] at j;simp only [o_,Obj.cells.injEq,Array.mk.injEq,List.cons.injEq,and_true] at j;subst j;have l:=h.gr.size;have c:(W.setCell ⟨rb,0,none⟩ (pt W.heap.size)).heap.size=W.heap.size:=by simp [World.setCell]
 have a:∀k,k<W.heap.size->((W.setCell ⟨rb,0,none⟩ (pt W.heap.size)).alloc (.cells #[fnV x.1.2.1 x.1.2.2,kvj] TFPi)).drew.heap[k]?=(W.setCell ⟨rb,0,none⟩ (pt W.heap.size)).heap[k]? := fun k f=>Below.heap_alloc (W.setCell ⟨rb,0,none⟩ (pt W.heap.size)) _ k (by rw [c];exact f);have d:∀k,k<W.heap.size->k≠rb->((W.setCell ⟨rb,0,none⟩ (pt W.heap.size)).alloc (.cells #[fnV x.1.2.1 x.1.2.2,kvj] TFPi)).drew.heap[k]?=W.heap[k]? := fun k f m=>(a k f).trans (Below.heap_setCell _ _ _ _ (fun e=>m a6));refine⟨⟨⟨h.gr.os,h.gr.tape,h.gr.output,?_,fun k f i=>(d k x8 (fun e=>i (by rw [e]))).trans (h.gr.block k f i)⟩,_,(a rb x8).trans (aD n 0 (pt W.heap.size)),⟨_,rfl⟩,?_⟩,fun k f m=>d k x8 m⟩
 ·show w2.heap.size<=((W.setCell ⟨rb,0,none⟩ (pt W.heap.size)).alloc (.cells #[fnV x.1.2.1 x.1.2.2,kvj] TFPi)).heap.size;rw [World.size_alloc,c];omega
 rw [List.map_append,List.reverse_append];refine⟨W.heap.size,kvj,rfl,l,?_,q.keep (fun b u r s=>?_)⟩
 ·have:=heap_alloc_new (W.setCell ⟨rb,0,none⟩ (pt W.heap.size)) (.cells #[fnV x.1.2.1 x.1.2.2,kvj] TFPi);rw [c] at this;exact this
 ·exact d b (aB s) (fun e=>by omega)
theorem aM3{fs:List (Nat×Array Value)}{d:List (FrX fs)}(h:d.map (fun x=>x.1.1)=(List.range fs.length).reverse):(d.map (fun x=>x.1.2)).reverse=fs:=by
 have c:(d.map (fun x=>x.1.2)).map some=(d.map (fun x=>x.1.1)).map (fun i=>fs[i]?):=by rw [List.map_map,List.map_map];exact List.map_congr_left (fun x _=>x.2.symm)
 rw [h] at c
 have e:((List.range fs.length).reverse).map (fun i=>fs[i]?)=(fs.map some).reverse:=by
  rw [List.map_reverse]
  congr 1
  apply List.ext_getElem
  ·simp
  ·intro i c e;simp at c;simp [c]
 rw [e] at c;have f:=congrArg List.reverse c;rw [List.reverse_reverse,<-List.map_reverse] at f;exact(List.map_inj_right (fun a b h=>i_ h)).1 f
attribute [local go_sem] Oper.semAt_some
theorem aK1(w:World)(d:Nat)(B F G nv H I:Value)(f:Option Addr)(a:Nat)(fs:List (Nat×Array Value))(J:w.heap[d]?=some (.cells #[B,.slice f fs.length a,F,G,nv,H,I] TFMc (0,0)))(hl:fs.length<=1010000)(hc:fs.length<=a)(U:∃o,B=.pointer o)
  (s:∀(j R:Nat)(S:Array Value),fs[j]?=some (R,S)->∃g t,f=some ⟨g,t,none⟩/\g<w.heap.size/\g≠d/\w.cell? ⟨g,t+j,none⟩=some (fnV R S)) :
  Q2 196 #[Q0 d] w fun e T=>(∃v,e=.returned v)/\w.grownBy T (some d)/\∃i,T.heap[d]?=some (.cells #[i,.slice f 0 a,F,G,nv,H,I] TFMc (0,0))/\(∃o,i=.pointer o)/\PileV T w.heap.size B i fs:=by
 refine(callsIn_wide (n:=5)).1 ?_;have V:=aB J;have c1:w.cell? ⟨d,1,none⟩=some (.slice f fs.length a):=aA J 1;refine callsIn_of_wp_marks func196 rfl trivial ?_ rfl;simp only [ntmps196,List.size_toArray,c_,z_,Nat.reduceAdd,Nat.reduceSub,Array.replicate_succ,Array.replicate_zero,List.push_toArray,List.append_toArray,List.nil_append,List.cons_append]
 gi_wp2_with (refine⟨trivial,?_⟩;gi_at_call 218;refine(back_in _ _ _ _ _).mono ?_;rintro e T ⟨rfl,rfl⟩)
 obtain⟨m,r⟩:∃m,m=(w.alloc (.cells #[Q0 d] 333)).alloc (.cells #[.slice f fs.length a] 318):=⟨_,rfl⟩
 rw [<- r];have z:Q3 w m:=by rw [r];exact b_.alloc w9 _
 have af:m.heap.size=w.heap.size+1+1:=by rw [r];simp
 have A:m.heap[w.heap.size]?=some (.cells #[Q0 d] 333 (0,0)):=by rw [r];exact(k_ w9).trans (heap_alloc_new w _)
 have C:m.heap[w.heap.size+1]?=some (.cells #[.slice f fs.length a] 318 (0,0)):=by
  rw [r];have:=heap_alloc_new (w.alloc (.cells #[Q0 d] 333)) (.cells #[.slice f fs.length a] 318)
  rwa [World.size_alloc] at this
 have X:LfS m m.heap.size d (w.heap.size+1) f a fs:=⟨aA C 0,x8,x8,hc,fun j R S hj=>by
  obtain⟨g,t,L,h2,h3,h4⟩:=s j R S hj
  exact⟨g,t,L,x8,h3,(z.cell (p:=⟨g,t+j,none⟩) h2).trans h4⟩⟩
 have Y:PuI m d B (.slice f fs.length a) F G nv H I fs [] m:=⟨⟨rfl,rfl,rfl,n_,fun _ _ _=>rfl⟩,B,(z.block d V).trans J,U,rfl⟩
 have ae:prog.follows .mixedOrders=true:=by kernel_rfl
 clear r
 refine wpIn_rangeFunc_ownF rfl w8 (gf:=234) (lb:=#[Q0 (w.heap.size+1)]) rfl trivial (enters_of func234 t8 rfl)
  (aKR 4 w8 m.heap.size d (w.heap.size+1) a f fs hl m n_ X) KpR.t (KpR.b n_) r_ (fun _=>rfl)
  (PuI m d B (.slice f fs.length a) F G nv H I fs) (fun _ _ _=>False) (PuI.own x8) (fun _ _ _ _ _ hs _ _=>hs) Y
  (fun x=>{tmps:=#[Q0 d,Q0 w.heap.size,undef,fnV x.1.2.1 x.1.2.2,Q0 d,Q0 d,.pointer (some ⟨d,1,none⟩),.slice f fs.length a,.func (.func 234) #[] #[Q0 (w.heap.size+1)],Q1 (x.1.1:Int),fnV x.1.2.1 x.1.2.2,undef,undef,undef,undef,undef,undef,undef,undef,undef,undef,undef,undef,undef,undef,undef,undef,undef,undef],defers:=[]}) ?assign ?body ?done ?stop
 case assign =>
  intro l x W K M
  gi_wp2
  exact M
 case body =>
  rintro l N x W q _;obtain⟨Z,y,⟨o,rfl⟩,O⟩:=q.ex;have HQ:Hid (PuI m d B (.slice f fs.length a) F G nv H I fs (N++[x]) ((W.setCell ⟨d,0,none⟩ (pt W.heap.size)).alloc (.cells #[fnV x.1.2.1 x.1.2.2,.pointer o] TFPi)).drew/\KpR m.heap.size d W ((W.setCell ⟨d,0,none⟩ (pt W.heap.size)).alloc (.cells #[fnV x.1.2.1 x.1.2.2,.pointer o] TFPi)).drew):=q.push x8 x y;have aa:=q.gr.size;have cm:W.cell? ⟨w.heap.size,0,none⟩=some (Q0 d):=aA ((q.gr.block w.heap.size x8 r7).trans A) 0;have c0:W.cell? ⟨d,0,none⟩=some (.pointer o):=aA y 0;have f0:W.frozen? ⟨d,0,none⟩=false:=aF y 0;have lr:d<W.heap.size:=by omega
  have lm:w.heap.size<W.heap.size:=by omega
  have ab:w.heap.size≠W.heap.size:=by omega
  clear q y O J c1 X Y A C s z
  gi_wp2
  gi_region_with_o (fail)
  all_goals
   gi_wp2
   exact⟨((KeepsOthers.setCell W _ _).trans (KeepsOthers.alloc _ _)).trans (KeepsOthers.drew _),HQ.2,HQ.1⟩
 case done =>
  rintro D ys W hD P q M;obtain⟨Z,y,⟨o,rfl⟩,O⟩:=q.ex;have aa:=q.gr.size;have cm:W.cell? ⟨w.heap.size,0,none⟩=some (Q0 d):=aA ((q.gr.block w.heap.size x8 r7).trans A) 0;have ag:W.cell? ⟨d,1,none⟩=some (.slice f fs.length a):=aA y 1;have f1:W.frozen? ⟨d,1,none⟩=false:=aF y 1;have lr:d<W.heap.size:=by omega
  have lm:w.heap.size<W.heap.size:=by omega
  have ab:w.heap.size≠W.heap.size:=by omega
  have ac:D≠d:=by omega
  have ad:(W.drew.setCell ⟨d,1,none⟩ (.slice f 0 a)).heap[D]?=some (.deferred (some [])):=(Below.heap_setCell _ _ _ _ (fun e=>ac a6)).trans M;have E:∀k,k≠d->k≠D->((W.drew.setCell ⟨d,1,none⟩ (.slice f 0 a)).putObj D (.deferred none)).heap[k]?=W.heap[k]? := fun k L h2=>(World.putObj_heap_other x8).trans (Below.heap_setCell _ _ _ _ (fun e=>L a6))
  have HX:Hid (w.grownBy ((W.drew.setCell ⟨d,1,none⟩ (.slice f 0 a)).putObj D (.deferred none)) (some d)/\∃i,((W.drew.setCell ⟨d,1,none⟩ (.slice f 0 a)).putObj D (.deferred none)).heap[d]?=some (.cells #[i,.slice f 0 a,F,G,nv,H,I] TFMc (0,0))/\(∃o,i=.pointer o)/\PileV ((W.drew.setCell ⟨d,1,none⟩ (.slice f 0 a)).putObj D (.deferred none)) w.heap.size B i fs):=by
   refine⟨⟨q.gr.os.trans z.os,q.gr.tape.trans z.tape,q.gr.output.trans z.output,?_,fun k hk Q=>?_⟩,.pointer o,?_,⟨_,rfl⟩,?_⟩
   ·have:=z.size;simp [World.putObj,World.setCell];show w.heap.size<=W.heap.size;omega
   ·have L:k≠d:=fun e=>Q (by rw [e]);exact(E k L x8).trans ((q.gr.block k x8 Q).trans (z.block k hk))
   ·exact(World.putObj_heap_other x8).trans (aD (w:=W.drew) y 1 (.slice f 0 a))
   ·rw [aM3 P] at O;refine(O.low x8).keep (fun b cs ah u=>E b (fun e=>?_) (fun e=>?_))
    ·subst e;rw [y] at u;simp only [o_,Obj.cells.injEq] at u;exact absurd u.2.1 w8
    ·subst e;rw [M] at u;cases u
  have ai:(0:Int)<=(a:Int):=by omega
  clear q y O J c1 X Y A C s z P M E
  gi_wp2
  refine aIT ?_
  gi_region_with_o (fail)
  all_goals
   refine NoPanic.normal ?_
   gi_wp2
   refine⟨w9,.inl ⟨_,_,rfl,run_takeDeferred ad,?_⟩⟩;exact⟨_,results_none rfl _ _ _,⟨_,rfl⟩,HX⟩
 case stop =>rintro D c N W _ _ h _;exact h.elim
end
open Pl (PV PW PS PF CW SR AE Env arity AO B0 AH C8 DN DY DW A7 AU A8)
section
open Go.RowKit Go.Maps Go.Lib
variable {w w':World} {M O:Q5} {F:Fg} {W W1:PW} {c:Cx} {kv gv av u:Value} {S S0:PS} {k z b:Nat} {args:List PV} {e:Ending} {K Fs:List CW} {fx a:PV} {t:AE} {us:List Value}
inductive NxR (c:Cx) (M O:Q5) (w:World) (F:Fg) (k z:Nat) (W:PW) (S:PS):Ending->Prop
 | val (v kv:Value) (W':PW) (S':PS) (hs:Pl.step W S=⟨0,W',S'⟩) (ho:c.z<=k->W'.out=W.out) (hf:S'.form=none) (hp:PlF M w F kv S'.AB) (hv:RV F.s v S'.val) (h:St c M O w F kv (k+1) W'):NxR c M O w F k z W S (aGG v .nilIface)
 | err (es:Q8) (x:Nat) (kv:Value) (W':PW) (hx:x≠0) (hs:(Pl.step W S).e=x) (hw:(Pl.step W S).W=W') (ho:W'.out=W.out) (h:St c M O w F kv (k+1) W'):NxR c M O w F k z W S (aGG .nilIface (aY es (x:Int)))
 | spent (es:Q8) (kv:Value) (W':PW) (hz:c.z<=k) (ho:W'.out=W.out) (h:St c M O w F kv (k+1) W'):NxR c M O w F k z W S (aGG .nilIface (aY es 7))
 | pend (Fs K:List CW) (kv:Value) (S0:PS) (fx:PV) (args:List PV) (hs:Pl.step W S=Pl.apply W S0 fx args) (hK:S0.AB=Fs++K) (hp:PlF M w F kv K) (hl:Fs.length<=z) (h:Pend c M O w F kv (k+1) W Fs fx args):NxR c M O w F k z W S (aGG .nilIface .nilIface)
def NxQ(c:Cx)(M O:Q5)(w:World)(F:Fg)(n p z:Nat)(e:Ending)(w':World):Prop :=∃M' G k W S,Stp M w M' w'/\(∀b,O b->w'.heap[b]?=w.heap[b]?)/\Fg.Le F G/\c.At k W S/\S.ended=false/\n<=k+1/\k+2<=n+z/\(e=aGG .nilIface .nilIface->p<=k)/\NxR c M' O w' G k z W S e
theorem NxQ.tup{n p:Nat}(h:NxQ c M O w F n p z e w'):∃v x,e=aGG v x:=by
 obtain⟨_,_,_,_,_,_,_,_,_,_,_,_,_,h⟩:=h
 cases h<;>exact⟨_,_,rfl⟩
theorem NxR.wide{z':Nat}(h:NxR c M O w F k z W S e)(l:z<=z'):NxR c M O w F k z' W S e:=by
 cases h with
 | val v a b m d f n i o h=>exact .val v a b m d f n i o h
 | err j x a b p d q f h=>exact .err j x a b p d q f h
 | spent j a b l f h=>exact .spent j a b l f h
 | pend r K a s t g d u i y h=>exact .pend r K a s t g d u i x8 h
theorem NxQ.after{M2:Q5}{w3:World}{G:Fg}{n n' p p' z':Nat}(d:Stp M w M2 w3)(f:∀b,O b->w3.heap[b]?=w.heap[b]?)(l:Fg.Le F G)(h:NxQ c M2 O w3 G n' p' z' e w')(u:n<=n')(hp:p<=p')(v:n'+z'<=n+z):NxQ c M O w F n p z e w':=by obtain⟨g,H,k,W,S,i,j,m,o,r,x,y,s,t⟩:=h;exact⟨g,H,k,W,S,d.trans i,fun b a=>(j b a).trans (f b a),l.trans m,o,r,x8,x8,fun q=>t_ hp (s q),t.wide x8⟩
theorem Post.nx{n:Nat}(h:Post c M O w F kv K n z e w')(hp:PlF M w F kv K):NxQ c M O w F n (n-1) z e w':=by
 obtain⟨l,G,k,W,S,i,m,j,o,p,q,r,s⟩:=h;refine⟨l,G,k,W,S,i,m,j,o,p,q,r,fun _=>by omega,?_⟩;have a:=PlF.go i j K kv hp
 cases s with
 | val v t u b y A f B h=>exact .val v kv t u b y A (by rw [f];exact a) B h
 | err g x C b D h=>exact .err g x kv W C b D rfl h
 | spent g E h=>exact .spent g kv W E rfl h
 | pend H I J d b f L h=>exact .pend H K kv I J d b f a L h
theorem aJ4:∀{b:List Value},(∀u∈b,∃k c,u=fnV k c)->∃a:List (Nat×Array Value),b=a.map (fun x=>fnV x.1 x.2)
 | [],_=>⟨[],rfl⟩
 | u::r,h=>by obtain⟨a,d⟩:=@aJ4 r (fun x e=>h x (by simp [e]));obtain⟨k,c,rfl⟩:=h u w9;exact⟨(k,c)::a,zQ8⟩
theorem aK0{n0:Nat}(c:∀k,M k->k<n0)(d:PlF M w F kv K):∀{a:List (Nat×Array Value)} {e:List CW} {v:Value},PileV w n0 kv v a->BY (FrF M w F) (a.map (fun x=>fnV x.1 x.2)) e->PlF M w F v (e++K)
 | [],[],v,h,_=>by have:v=kv:=h;subst this;exact d
 | [],f::r,_,_,h=>by cases h.1
 | x::a,[],_,_,h=>by cases h.1
 | x::a,f::r,v,h,g=>by obtain⟨b,i,j,n,l,m⟩:=h;exact⟨b,_,i,j,⟨fun y=>by have:=c b y;omega,l⟩,g.2 0 _ f rfl rfl,aK0 c d m (BY.drop g 1)⟩
theorem aMS{n:Nat}(h:Pend c M O w F kv n W Fs fx args)(Z:PlF M w F kv K)(hl:Fs.length<=1010000) :Q2 196 #[Q0 c.rb] w fun e x=>(∃v,e=.returned v)/\∃p,Stp M w M x/\(∀b,O b->x.heap[b]?=w.heap[b]?)/\PlF M x F p (Fs++K)/\Pend c M O x F p n W [] fx args:=by
 obtain⟨lv,av,gv,ov,fs,us,C,z,I,L,h5,h6,h7⟩:=h.mc
 obtain⟨A,rfl⟩:=@aJ4 fs (fun u hu=>by
  obtain⟨i,hi⟩:=List.getElem?_of_mem hu;obtain⟨f,hf⟩:∃f,Fs[i]?=some f:=⟨_,g_ (by rw [<- I.1];exact(s_ hi).1)⟩
  exact(I.2 i u f hi hf).func)
 have ab:A.length=Fs.length:=by have:=I.1;simpa using this
 obtain⟨s,d,N,P⟩:∃s d,lv=.slice s A.length d/\A.length<=d:=by obtain⟨s,d,e,t⟩:=cJ z.1;exact⟨s,d,a6,by simpa using t.1⟩
 subst N;have Q:=C.blk;have D:∀g,(Value.slice s A.length d).ownBlock=some g->g≠c.rb:=aJZ C.blk tMc.2.2.2.2.1 z.1;refine(aK1 w c.rb kv av gv _ _ ov s d A Q x8 P (PlF.ptr Z) (fun j kf cp hj=>?_)).mono ?_
 ·rcases z.1.2 with⟨e,E⟩ | ⟨g,G,r,e,_,o,_,_,_,ht⟩
  ·have:=(s_ hj).1;have ac:A.length=0:=by simpa using E
   omega
  ·simp only [Value.slice.injEq] at e;obtain⟨rfl,_,rfl⟩:=e;refine⟨g,0,rfl,aB o,D g rfl,?_⟩;have:=z.1.cells (g:=g) rfl j (fnV kf cp) (by simp [hj]);by_cases E:j=0
   ·subst E;simpa [Addr.add] using this
   ·simpa [Addr.add,E] using this
 ·rintro e x ⟨he,B,p,R,aa,S⟩;have m:∀k,k<w.heap.size->k≠c.rb->x.heap[k]?=w.heap[k]? := fun k y hn=>B.block k y (fun e=>hn (i_ e))
  have H:Mf M w M x:=⟨⟨B.os,B.tape,B.output,B.size,fun k y J=>⟨m k y (fun e=>J (by rw [e];exact C.m)),J⟩⟩,fun k y J=>⟨J,by
   by_cases e:k=c.rb
   ·subst e;exact .inr ⟨_,_,_,Q,tMc.1,tMc.2.1,tMc.2.2.1,tMc.2.2.2.1⟩
   ·exact .inl (m k y e)⟩,fun T k y=>l_ (T k y) B.size⟩
  have l:=Fg.Le.refl F;refine⟨he,p,H.AQ,fun b U=>?_,aK0 h.fw.CY.mlt (PlF.go H.AQ l _ _ Z) S (I.mono (fun _ _ q=>q.go H.AQ l)),⟨h.fw.mf H,⟨.slice s 0 d,av,gv,ov,[],us,⟨R,C.m⟩,⟨?_,fun g o=>?_⟩,BY.nil _,?_,h5,h6.mf H,h7⟩,h.bd,h.wf⟩⟩
  ·obtain⟨_,⟨r,t⟩,_⟩:=h.fw.oth b U;exact m b (aB t) (fun e=>by subst e;rw [Q] at t;simp only [o_,Obj.cells.injEq] at t;exact tMc.1 t.2.1)
  ·refine⟨rfl,?_⟩;rcases z.1.2 with⟨e,E⟩ | ⟨g,G,r,e,V,o,_,X,Y,_⟩
   ·simp only [Value.slice.injEq] at e;obtain⟨rfl,_,rfl⟩:=e;exact .inl ⟨rfl,rfl⟩
   ·simp only [Value.slice.injEq] at e;obtain⟨rfl,_,rfl⟩:=e;exact .inr ⟨g,d,r,rfl,V,(m g (aB o) (D g rfl)).trans o,Nat.zero_le _,X,Y,w9⟩
  ·cases s with
   | none=>cases o
   | some a=>exact z.2 g o
  ·refine L.keepF (fun g o=>m g ?_ ?_) (fun _ q=>q)
   ·obtain⟨r,t⟩:=aF9 L.1 o;exact aB t
   ·exact aJZ C.blk tMc.2.2.2.2.2 L.1 g o
def TApp:TypeId:=321
theorem Tryz.fq_prim(v:Value)(w:World):(Instr.typeAssert (.iface 149 v) 113 371 true).run prog w=.ok (.tuple #[.pointer none,.bool false]) w:=by kernel_rfl
theorem Tryz.fc_prim(v:Value)(w:World):(Instr.typeAssert (.iface 149 v) 113 384 true).run prog w=.ok (.tuple #[.pointer none,.bool false]) w:=by kernel_rfl
theorem Tryz.fq_callcc(v:Value)(w:World):(Instr.typeAssert (.iface 146 v) 113 371 true).run prog w=.ok (.tuple #[.pointer none,.bool false]) w:=by kernel_rfl
theorem Tryz.fc_callcc(v:Value)(w:World):(Instr.typeAssert (.iface 146 v) 113 384 true).run prog w=.ok (.tuple #[.pointer none,.bool false]) w:=by kernel_rfl
theorem Tryz.fq_num(v:Value)(w:World):(Instr.typeAssert (.iface 237 v) 113 371 true).run prog w=.ok (.tuple #[.pointer none,.bool false]) w:=by kernel_rfl
theorem Tryz.fc_num(v:Value)(w:World):(Instr.typeAssert (.iface 237 v) 113 384 true).run prog w=.ok (.tuple #[.pointer none,.bool false]) w:=by kernel_rfl
theorem Tryz.fq_truth(v:Value)(w:World):(Instr.typeAssert (.iface 239 v) 113 371 true).run prog w=.ok (.tuple #[.pointer none,.bool false]) w:=by kernel_rfl
theorem Tryz.fc_truth(v:Value)(w:World):(Instr.typeAssert (.iface 239 v) 113 384 true).run prog w=.ok (.tuple #[.pointer none,.bool false]) w:=by kernel_rfl
theorem Tryz.fq_name(v:Value)(w:World):(Instr.typeAssert (.iface 240 v) 113 371 true).run prog w=.ok (.tuple #[.pointer none,.bool false]) w:=by kernel_rfl
theorem Tryz.fc_name(v:Value)(w:World):(Instr.typeAssert (.iface 240 v) 113 384 true).run prog w=.ok (.tuple #[.pointer none,.bool false]) w:=by kernel_rfl
theorem Tryz.fq_empty(v:Value)(w:World):(Instr.typeAssert (.iface 271 v) 113 371 true).run prog w=.ok (.tuple #[.pointer none,.bool false]) w:=by kernel_rfl
theorem Tryz.fc_empty(v:Value)(w:World):(Instr.typeAssert (.iface 271 v) 113 384 true).run prog w=.ok (.tuple #[.pointer none,.bool false]) w:=by kernel_rfl
theorem Tryz.fq_nothing(v:Value)(w:World):(Instr.typeAssert (.iface 242 v) 113 371 true).run prog w=.ok (.tuple #[.pointer none,.bool false]) w:=by kernel_rfl
theorem Tryz.fc_nothing(v:Value)(w:World):(Instr.typeAssert (.iface 242 v) 113 384 true).run prog w=.ok (.tuple #[.pointer none,.bool false]) w:=by kernel_rfl
theorem Tryz.fq_pair(v:Value)(w:World):(Instr.typeAssert (.iface 272 v) 113 371 true).run prog w=.ok (.tuple #[.pointer none,.bool false]) w:=by kernel_rfl
theorem Tryz.fc_pair(v:Value)(w:World):(Instr.typeAssert (.iface 272 v) 113 384 true).run prog w=.ok (.tuple #[.pointer none,.bool false]) w:=by kernel_rfl
theorem Tryz.fq_q(v:Value)(w:World):(Instr.typeAssert (.iface 371 v) 113 371 true).run prog w=.ok (.tuple #[v,.bool true]) w:=by kernel_rfl
theorem Tryz.fq_c(v:Value)(w:World):(Instr.typeAssert (.iface 384 v) 113 371 true).run prog w=.ok (.tuple #[.pointer none,.bool false]) w:=by kernel_rfl
theorem Tryz.fc_c(v:Value)(w:World):(Instr.typeAssert (.iface 384 v) 113 384 true).run prog w=.ok (.tuple #[v,.bool true]) w:=by kernel_rfl
abbrev NmP:Q8:=⟨#[97,32,112,114,111,99,101,100,117,114,101]⟩
theorem aMX(w:World)(s b n d:Nat)(j:Array Value)(ev g:Option Addr)(a:Nat)(E:n<=1000000)(k:w.heap[b]?=some (.cells #[Q1 n,fnV d j,.pointer ev] TFPr (0,0)))(h:Enters d){Q:Ending->World->Prop}(t:∀e f,Q e f->∃v x,e=aGG v x)
  (u:Q2 d (#[pt s,pt (w.heap.size+1)]++j) (((w.alloc (.cells #[.iface 371 (pt b),.slice g n a] TApp)).alloc (.cells #[.slice g n a,.pointer ev] TPlc)).drew).drew Q)
  (y:∀e f,Q e f->f.cell? ⟨b,1,none⟩=some (fnV d j)/\f.cell? ⟨b,2,none⟩=some (.pointer ev)/\f.cell? ⟨w.heap.size,1,none⟩=some (.slice g n a)) :
  Q2 197 #[Q0 s,.agg #[.iface 371 (pt b),.slice g n a]] w Q:=by
 have F:=aB k;have G:w.cell? ⟨b,0,none⟩=some (Q1 n):=aA k 0;have H:w.cell? ⟨b,1,none⟩=some (.func (.func d) #[] j):=aA k 1;have I:w.cell? ⟨b,2,none⟩=some (.pointer ev):=aA k 2
 have o:Hid (∀c,Q2 219 #[.string NmP,Q1 n,.slice g n a] c fun e f=>c=f/\e=.returned .nilIface):=fun c=>(gR _ n g n a c x8 w8).mono (fun e f ⟨z,l⟩=>by
  rcases l with⟨_,l⟩ | ⟨l,_⟩
  ·exact⟨z,l⟩
  ·exact absurd rfl l)
 have A:=h_ u;have B:=h_ t;have C:=h_ y;have p:∀(i:Array Value)(w:World),(callFunc d i).run prog w=.ok (.enter d i) w:=h;have J:=Tryz.fq_q;clear u t y k h;go_enter func197,ntmps197;go_wp2_with fail
 go_region_held3 (fun c=>c.cell? ⟨b,0,none⟩=some (Q1 n)/\c.cell? ⟨w.heap.size,1,none⟩=some (.slice g n a))
  (first | go_keep | assumption)
  ((refine aGJ m6 219 _ _ _ _ m6 func219 t8 rfl _ _ _ m6 m6 m6 (o _) ?_;rintro e D ⟨rfl,rfl⟩;refine⟨_,rfl,?_⟩))
 go_wp2_with fail
 go_region_held3 (fun c=>c.cell? ⟨b,1,none⟩=some (.func (.func d) #[] j)/\c.cell? ⟨b,2,none⟩=some (.pointer ev)/\c.cell? ⟨w.heap.size,1,none⟩=some (.slice g n a))
  (first | exact q.out | go_keep)
  ((refine aHW m6 _ _ _ _ m6 d j m6 p _ _ m6 m6 A ?_;intro e D m;obtain⟨K,L,rfl⟩:=B.out _ _ m;have q:=(show Hid _ from C.out _ _ m);have r:=(show Hid _ from m);clear m;refine⟨_,rfl,?_⟩))
 all_goals
  go_wp2_with fail
  exact r
theorem aKG(w:World)(l b n a:Nat)(u ev:Value)(f:Option Addr)(c:Nat)(q:n<=1000000)(m:a≠n)(j:w.heap[b]?=some (.cells #[Q1 n,u,ev] TFPr (0,0))) :Q2 197 #[Q0 l,.agg #[.iface 371 (pt b),.slice f a c]] w fun e i=>(∃g,e=aGG .nilIface (aY g 10))/\Q3 w i:=by
 have r:=aB j;have s:w.cell? ⟨b,0,none⟩=some (Q1 n):=aA j 0
 have k:Hid (∀d,Q2 219 #[.string NmP,Q1 n,.slice f a c] d fun e i=>d=i/\∃g,e=.returned (aY g 10)):=fun d=>(gR _ n f a c d x8 w8).mono (fun e i ⟨o,h⟩=>by
  rcases h with⟨h,_⟩ | ⟨_,h⟩
  ·exact absurd h m
  ·exact⟨o,h⟩)
 have p:Hid (Q3 w (w.alloc (.cells #[.iface 371 (pt b),.slice f a c] TApp)).drew):=b_.drew;have t:=Tryz.fq_q;clear j;go_enter func197,ntmps197;go_wp2_with fail
 go_region_held3 (fun d=>d.cell? ⟨b,0,none⟩=some (Q1 n)/\d.cell? ⟨w.heap.size,1,none⟩=some (.slice f a c))
  (first | go_keep | assumption)
  ((refine aGJ m6 219 _ _ _ _ m6 func219 t8 rfl _ _ _ m6 m6 m6 (k _) ?_;rintro e v ⟨rfl,g,rfl⟩;refine⟨_,rfl,?_⟩))
 unfold aY;go_wp2_with fail;go_ret2;exact⟨⟨g,rfl⟩,p⟩
abbrev NmC:Q8:=⟨#[97,32,99,111,110,116,105,110,117,97,116,105,111,110]⟩
theorem aMZ(w:World)(d b g a:Nat)(h k u:Value)(c:Nat)(n:∃o,h=.pointer o)(l:w.heap[b]?=some (.cells #[h] TFCo (0,0)))(p:w.cell? ⟨d,0,none⟩=some k)(q:w.frozen? ⟨d,0,none⟩=false)(r:d≠g)(s:w.cell? ⟨g,a,none⟩=some u)(t:∃T x,u=.iface T x) :Q2 197 #[Q0 d,.agg #[.iface 384 (pt b),.slice (some ⟨g,a,none⟩) 1 c]] w fun e i=>e=aGG u .nilIface/\i=(w.setCell ⟨d,0,none⟩ h).alloc (.cells #[.iface 384 (pt b),.slice (some ⟨g,a,none⟩) 1 c] TApp):=by
 have y:=aB l;have z:w.cell? ⟨b,0,none⟩=some h:=aA l 0;have A:g<w.heap.size:=World.block_lt_of_cell? _ _ s;have B:d<w.heap.size:=World.block_lt_of_cell? _ _ p;obtain⟨o,rfl⟩:=n;obtain⟨T,x,rfl⟩:=t
 have m:Hid (∀j,Q2 219 #[.string NmC,Q1 1,.slice (some ⟨g,a,none⟩) 1 c] j fun e i=>j=i/\e=.returned .nilIface):=fun j=>(gR _ 1 _ 1 c j x8 w8).mono (fun e i ⟨v,f⟩=>by
  rcases f with⟨_,f⟩ | ⟨f,_⟩
  ·exact⟨v,f⟩
  ·exact absurd rfl f)
 have C:=Tryz.fq_c;have D:=Tryz.fc_c;clear l;go_enter func197,ntmps197;go_wp2_with (go_at_call 219;refine(Calls.mono (m _) ?_);rintro e E ⟨rfl,rfl⟩);go_ret2;exact⟨rfl,rfl⟩
abbrev NmK:Q8:=⟨#[99,97,108,108,47,99,99]⟩
theorem aKH(w:World)(k a:Nat)(x:Value)(h:True)(d:Option Addr)(b:Nat)(l:a≠1) :Q2 197 #[Q0 k,.agg #[.iface 384 x,.slice d a b]] w fun e i=>(∃f,e=aGG .nilIface (aY f 10))/\Q3 w i:=by
 have j:Hid (∀c,Q2 219 #[.string NmC,Q1 1,.slice d a b] c fun e i=>c=i/\∃f,e=.returned (aY f 10)):=fun c=>(gR _ 1 d a b c x8 w8).mono (fun e i ⟨m,g⟩=>by
  rcases g with⟨g,_⟩ | ⟨_,g⟩
  ·exact absurd g l
  ·exact⟨m,g⟩)
 have n:Hid (∀c,c=w.alloc (.cells #[.iface 384 x,.slice d a b] TApp)\/c=(w.alloc (.cells #[.iface 384 x,.slice d a b] TApp)).alloc (.cells #[] 146)->Q3 w c):=fun c h=>by
  rcases h with rfl | rfl
  ·exact b_
  ·exact b_.alloc w9 _
 have o:=Tryz.fq_c;have p:=Tryz.fc_c;first | subst h | cases h
 go_enter func197,ntmps197
 go_wp2_with (go_at_call 219;refine(Calls.mono (j _) ?_);rintro e q ⟨rfl,f,rfl⟩;unfold aY)
 go_ret2;exact⟨⟨f,rfl⟩,n _ d7⟩
theorem aJ0(w:World)(k a:Nat)(x:Value)(h:x=.agg #[])(d:Option Addr)(b:Nat)(l:a≠1) :Q2 197 #[Q0 k,.agg #[.iface 146 x,.slice d a b]] w fun e i=>(∃f,e=aGG .nilIface (aY f 10))/\Q3 w i:=by
 have j:Hid (∀c,Q2 219 #[.string NmK,Q1 1,.slice d a b] c fun e i=>c=i/\∃f,e=.returned (aY f 10)):=fun c=>(gR _ 1 d a b c x8 w8).mono (fun e i ⟨m,g⟩=>by
  rcases g with⟨g,_⟩ | ⟨_,g⟩
  ·exact absurd g l
  ·exact⟨m,g⟩)
 have n:Hid (∀c,c=w.alloc (.cells #[.iface 146 x,.slice d a b] TApp)\/c=(w.alloc (.cells #[.iface 146 x,.slice d a b] TApp)).alloc (.cells #[] 146)->Q3 w c):=fun c h=>by
  rcases h with rfl | rfl
  ·exact b_
  ·exact b_.alloc w9 _
 have o:=Tryz.fq_callcc;have p:=Tryz.fc_callcc;have q:=Tryz.vk_k;first | subst h | cases h
 go_enter func197,ntmps197
 go_wp2_with (go_at_call 219;refine(Calls.mono (j _) ?_);rintro e r ⟨rfl,f,rfl⟩;unfold aY)
 go_ret2;exact⟨⟨f,rfl⟩,n _ d7⟩
theorem aMY(w:World)(h c a:Nat)(d:Option Addr)(b:Nat){Q:Ending->World->Prop}(i:∀e k,Q e k->∃v x,e=aGG v x)(j:Q2 220 #[Q0 h,Q1 c,.slice d a b] (w.alloc (.cells #[.iface 149 (.int .i64 (c:Int)),.slice d a b] TApp)) Q) :Q2 197 #[Q0 h,.agg #[.iface 149 (.int .i64 (c:Int)),.slice d a b]] w Q:=by have l:=h_ j;have m:=h_ i;have n:=Tryz.fq_prim;have o:=Tryz.fc_prim;have p:=Tryz.VX;have q:=Tryz.vp_p;clear i j;go_enter func197,ntmps197;go_wp2_with (go_at_call 220;refine(Calls.mono l ?_);intro e r f;obtain⟨s,t,rfl⟩:=m.out _ _ f;have g:=(show Hid _ from f);clear f);exact g
theorem aKI(w:World)(h a:Nat)(x:Value)(d:Option Addr)(b:Nat)(t:AE)(l:t.length<=202)(f:Q2 182 #[.iface 237 x] (w.alloc (.cells #[.iface 237 x,.slice d a b] TApp)) fun e c=>e=.returned (.string ⟨t.toArray⟩)/\Q3 w c) :Q2 197 #[Q0 h,.agg #[.iface 237 x,.slice d a b]] w fun e c=>(∃i,e=aGG .nilIface (aY i 9))/\Q3 w c:=by
 have j:=h_ f;have m:=Tryz.fq_num;have n:=Tryz.fc_num;have o:=Tryz.R_;have p:=Tryz.Q_;exact zK5
theorem aI3(w:World)(h a:Nat)(x:Value)(d:Option Addr)(b:Nat)(t:AE)(l:t.length<=202)(f:Q2 182 #[.iface 239 x] (w.alloc (.cells #[.iface 239 x,.slice d a b] TApp)) fun e c=>e=.returned (.string ⟨t.toArray⟩)/\Q3 w c) :Q2 197 #[Q0 h,.agg #[.iface 239 x,.slice d a b]] w fun e c=>(∃i,e=aGG .nilIface (aY i 9))/\Q3 w c:=by
 have j:=h_ f;have m:=Tryz.fq_truth;have n:=Tryz.fc_truth;have o:=Tryz.SA;have p:=Tryz.R8;exact zK5
theorem aJF(w:World)(h a:Nat)(x:Value)(d:Option Addr)(b:Nat)(t:AE)(l:t.length<=202)(f:Q2 182 #[.iface 240 x] (w.alloc (.cells #[.iface 240 x,.slice d a b] TApp)) fun e c=>e=.returned (.string ⟨t.toArray⟩)/\Q3 w c) :Q2 197 #[Q0 h,.agg #[.iface 240 x,.slice d a b]] w fun e c=>(∃i,e=aGG .nilIface (aY i 9))/\Q3 w c:=by
 have j:=h_ f;have m:=Tryz.fq_name;have n:=Tryz.fc_name;have o:=Tryz.VZ;have p:=Tryz.VW;exact zK5
theorem aI4(w:World)(h a:Nat)(x:Value)(d:Option Addr)(b:Nat)(t:AE)(l:t.length<=202)(f:Q2 182 #[.iface 271 x] (w.alloc (.cells #[.iface 271 x,.slice d a b] TApp)) fun e c=>e=.returned (.string ⟨t.toArray⟩)/\Q3 w c) :Q2 197 #[Q0 h,.agg #[.iface 271 x,.slice d a b]] w fun e c=>(∃i,e=aGG .nilIface (aY i 9))/\Q3 w c:=by
 have j:=h_ f;have m:=Tryz.fq_empty;have n:=Tryz.fc_empty;have o:=Tryz.SB;have p:=Tryz.R9;exact zK5
theorem aH9(w:World)(h a:Nat)(x:Value)(d:Option Addr)(b:Nat)(t:AE)(l:t.length<=202)(f:Q2 182 #[.iface 242 x] (w.alloc (.cells #[.iface 242 x,.slice d a b] TApp)) fun e c=>e=.returned (.string ⟨t.toArray⟩)/\Q3 w c) :Q2 197 #[Q0 h,.agg #[.iface 242 x,.slice d a b]] w fun e c=>(∃i,e=aGG .nilIface (aY i 9))/\Q3 w c:=by
 have j:=h_ f;have m:=Tryz.fq_nothing;have n:=Tryz.fc_nothing;have o:=Tryz.OZ;have p:=Tryz.OY;exact zK5
theorem aJE(w:World)(h a:Nat)(x:Value)(d:Option Addr)(b:Nat)(t:AE)(l:t.length<=202)(f:Q2 182 #[.iface 272 x] (w.alloc (.cells #[.iface 272 x,.slice d a b] TApp)) fun e c=>e=.returned (.string ⟨t.toArray⟩)/\Q3 w c) :Q2 197 #[Q0 h,.agg #[.iface 272 x,.slice d a b]] w fun e c=>(∃i,e=aGG .nilIface (aY i 9))/\Q3 w c:=by
 have j:=h_ f;have m:=Tryz.fq_pair;have n:=Tryz.fc_pair;have o:=Tryz.VY;have p:=Tryz.VV;exact zK5
theorem nxW_cc(w:World)(c g a:Nat)(i u:Value)(b:Nat)(p:∃o,i=.pointer o)(q:w.cell? ⟨c,0,none⟩=some i)(r:w.cell? ⟨g,a,none⟩=some u)(s:∃T x,u=.iface T x){Q:Ending->World->Prop}(m:∀e f,Q e f->∃v x,e=aGG v x)
  (n:Q2 197 #[Q0 c,.agg #[u,.slice (some ⟨w.heap.size+1+1+1,0,none⟩) 1 1]] ((((w.alloc (.cells #[.iface 146 (.agg #[]),.slice (some ⟨g,a,none⟩) 1 b] TApp)).alloc (.cells #[] 146)).alloc (.cells #[i] TFCo)).alloc (.cells #[.iface 384 (pt (w.heap.size+1+1))] B9)) Q) :
  Q2 197 #[Q0 c,.agg #[.iface 146 (.agg #[]),.slice (some ⟨g,a,none⟩) 1 b]] w Q:=by
 have E:g<w.heap.size:=World.block_lt_of_cell? _ _ r;have F:c<w.heap.size:=World.block_lt_of_cell? _ _ q;have t:g<w.heap.size+1:=by omega
 have y:g<w.heap.size+1+1:=by omega
 have z:c<w.heap.size+1:=by omega
 obtain⟨o,rfl⟩:=p;obtain⟨T,x,rfl⟩:=s;have A:=h_ n;have B:=h_ m
 have j:Hid (∀h,Q2 219 #[.string NmK,Q1 1,.slice (some ⟨g,a,none⟩) 1 b] h fun e f=>h=f/\e=.returned .nilIface):=fun h=>(gR _ 1 _ 1 b h x8 w8).mono (fun e f ⟨C,d⟩=>by
  rcases d with⟨_,d⟩ | ⟨d,_⟩
  ·exact⟨C,d⟩
  ·exact absurd rfl d)
 have G:=Tryz.fq_callcc;have H:=Tryz.fc_callcc;have I:=Tryz.vk_k;clear n m;go_enter func197,ntmps197
 go_wp2_with (first
  | (go_at_call 219;refine(Calls.mono (j _) ?_);rintro e D ⟨rfl,rfl⟩)
  | (go_at_call 197;refine(Calls.mono A ?_);intro e D k;obtain⟨J,K,rfl⟩:=B.out _ _ k;have l:=(show Hid _ from k);clear k))
 exact l
theorem aKJ(W:PW)(S S':PS)(s:AE)(a:PV):(B0 W S' s a).e=(B0 W S s a).e/\(B0 W S' s a).W=(B0 W S s a).W/\((B0 W S s a).e=0->∃v,(B0 W S s a).S=S.A1 v/\(B0 W S' s a).S=S'.A1 v)/\∃o,(B0 W S s a).W={W with out:=o}:=by
 unfold B0;split
 ·dsimp only;split
  ·exact⟨rfl,rfl,fun _=>⟨_,rfl,rfl⟩,_,rfl⟩
  ·exact zK9
 ·split
  ·split
   ·split
    ·exact zL0
    ·exact zK9
   ·exact zK9
  ·split
   ·exact zL0
   ·exact zL0
theorem aJJ(W:PW)(S S':PS)(t:AE)(a:PV):(AH W S' (.AZ t) [a]).e=(AH W S (.AZ t) [a]).e/\(AH W S' (.AZ t) [a]).W=(AH W S (.AZ t) [a]).W/\((AH W S (.AZ t) [a]).e=0->∃v,(AH W S (.AZ t) [a]).S=S.A1 v/\(AH W S' (.AZ t) [a]).S=S'.A1 v)/\∃o,(AH W S (.AZ t) [a]).W={W with out:=o}:=by
 by_cases h:arity t=1
 ·rw [jX W S t a h,jX W S' t a h];exact aKJ W S S' t a
 ·have e:∀X:PS,AH W X (.AZ t) [a]=⟨10,W,X⟩:=fun X=>by
   show(if([a]:List PV).length≠arity t then _ else _)=_;rw [if_pos (fun q=>h q.symm)]
  rw [e S,e S'];exact zK9
def dumF(env:Env):CW:=⟨.mk .begin [] (.agg []) .nothing [] [],[],0,env⟩
def addD(k:Nat)(S:PS):PS:={S with AB:=List.replicate k (dumF S.env)++S.AB}
theorem aLQ(W:PW)(S:PS)(a:S.form=none)(z k:Nat):∀j,j<=k->Gos W (addD k S) z j W (addD (k-j) S)
 | 0,_=>.nil
 | j+1,h=>by
  have b:=aLQ W S a z k j x8;rw [show k-j=(k-(j+1))+1 from by omega] at b;have c:(addD (k-(j+1)+1) S).AB=dumF S.env::(addD (k-(j+1)) S).AB:=by simp [addD,List.replicate_succ]
  refine .snoc j W W _ _ b (aF8 c) ?_ (fun _=>rfl);rw [aGY (show(addD (k-(j+1)+1) S).form=none from a)];unfold Pl.taken;rw [c];obtain⟨f,e,v,d⟩:=S;have:f=none:=a;subst this;rfl
theorem Gos.same{W0:PW}{W':PW}{S':PS}(h:Gos W0 S0 z k W S)(b:Gos W0 S0 z k W' S'):W=W'/\S=S':=by
 induction h generalizing W' S' with
 | nil=>cases b;exact⟨rfl,rfl⟩
 | snoc k g i j l h m c n d =>
  cases b with
  | snoc _ o _ p _ e f a _ =>obtain⟨rfl,rfl⟩:=d e;rw [c] at a;simp only [Pl.SR.mk.injEq,true_and] at a;exact a
theorem WW.outW{o:AE}{t:Nat}(h:WW {W with out:=o} t):WW W t:=by
 have l:Le {W with out:=o} W:=⟨VP _,n_,n_,n_⟩
 exact⟨h.KV,fun i p a=>⟨((h.CH i p a).1).le l,((h.CH i p a).2).le l⟩,h.EX,fun p a=>⟨(h.procs p a).1.le l,(h.procs p a).2.1.le l,(h.procs p a).2.2⟩,h.FU,fun x b=>(h.AG x b).le l n_,h.GN,fun v c=>(h.places v c).le l,h.EM,h.globals.le l,h.D1⟩
def nmF:PF:=.mk .name [97] (.agg []) .nothing [] []
def calF:PF:=.mk .call [] (.agg []) .nothing [nmF,nmF] []
def aMQ(t:AE)(a:PV):PS:=⟨none,[],a,[⟨calF,[.AZ t],2,[]⟩]⟩
theorem wf_nmF(W:PW):EU W nmF:=.mk _ _ _ _ _ _ (fun e=>by cases e) rfl (fun x a=>by cases a) w9 ⟨w9,w9,fun x a=>(by cases a)⟩ (by simp [aA5]) (fun e=>by cases e) ⟨fun _=>w9,fun e=>a8⟩
theorem wf_calF(W:PW):EU W calF:=.mk _ _ _ _ _ _ (fun e=>by cases e) (show 1<=2 by omega) (fun x a=>by simp at a;subst a;exact wf_nmF W) w9 ⟨w9,w9,fun x a=>(by cases a)⟩ (by rw [ZL,ZL,aA5];unfold nmF;rw [OL,aA5];omega) (fun e=>by cases e) ⟨fun e=>a8,fun e=>a8⟩
theorem aI1(W:PW)(b:t≠AU):Pl.step W (aMQ t a)=AH W ⟨none,[],a,[]⟩ (.AZ t) [a]:=by have:=aHT (W:=W) (S:=aMQ t a) (fr:=⟨calF,[.AZ t],2,[]⟩) (K:=[]) (g:=.AZ t) (args:=[a]) rfl rfl rfl rfl rfl;rw [this];unfold Pl.apply;rw [if_neg (by simpa using b)];rfl
def WWq(W:PW):Prop:=(∀p∈W.procs,EU W p.1)/\OU W
theorem WW.q{t:Nat}(h:WW W t):WWq W:=⟨fun p a=>(h.procs p a).1,aC2 h⟩
theorem WWq.keep(h:WWq W):WWq (W.keep S) :=⟨fun p a=>(h.1 p a).le (show Le W (W.keep S) from⟨VP _,n_,by simp [Pl.PW.keep],n_⟩),h.2.KV,fun i p a=>⟨(h.2.CH i p a).1.TT,(h.2.CH i p a).2.TT⟩⟩
theorem aGW(h:St c M O w F kv (k+1) W1)(d:Q3 w w')(e:c.At k W S)(g:S.ended=false)(f:Q8){x:Nat}(i:x≠0)(a:Pl.step W S=⟨x,W1,S0⟩)(j:W1.out=W.out)(m:1<=z):NxQ c M O w F (k+1) (k+1) z (aGG .nilIface (aY f (x:Int))) w' :=⟨M,F,k,W,S,Stp.AA d,fun b l=>d.block b (h.fw.olt l),Fg.Le.refl _,e,g,n_,x8,fun q=>by simp [aY] at q,.err f x kv W1 i (by rw [a]) (by rw [a]) j (h.below d)⟩
theorem aNB{n:Nat}{q:PF×Env}(h:W.procs[n]?=some q)(args:List PV):AH W S0 (.proc n) args=if args.length≠q.1.ns.length then⟨10,W,S0⟩ else⟨0,{W with places:=W.places++args},S0.work q.1.ks[0]? (q.2++Pl.C1 q.1.ns W.places.length)⟩:=by unfold AH;simp only [h]
theorem Bk.cell{cs:Array Value}{T:TypeId}(h:Bk M w b cs T)(o:Nat):w.cell? ⟨b,o,none⟩=cs[o]? := aA h.2 o
theorem Stt.setK{n j:Nat}(h:Stt c M O w F kv n j W)(a:Value):Stt c M O (w.setCell ⟨c.rb,0,none⟩ a) F a n j W/\Stp M w M (w.setCell ⟨c.rb,0,none⟩ a)/\∀b,O b->(w.setCell ⟨c.rb,0,none⟩ a).heap[b]?=w.heap[b]? := by
 obtain⟨g,i,k,l,d,m,o⟩:=h.mc;have f:=d.mf 0 a;refine⟨⟨h.fw.mf f,⟨g,i,k,l,⟨by have:=aD d.blk 0 a;exact this,d.m⟩,m.set d _ _,o.setF d _ _⟩,h.bd⟩,f.AQ,fun b p=>?_⟩;obtain⟨_,⟨q,e⟩,_⟩:=h.fw.oth b p;refine Below.heap_setCell _ _ _ _ (fun x=>?_);have:b=c.rb:=by simpa using x
 subst this;rw [d.blk] at e;simp only [o_,Obj.cells.injEq] at e;exact tMc.1 e.2.1
theorem nx_proc{i:Nat}(h:St c M O w F kv (k+1) W1)(hp:PlF M w F kv S0.AB)(t:c.At k W S)(hn:S.ended=false)(g:Pl.step W S=AH W1 S0 (.proc i) args)(n:W1.out=W.out)(v:F.s.qb[i]?=some b)(hz:b≠0)(ha:ArgsAt M O w F.s gv us)(hs:BY (RV F.s) us args)(hW:WWq W1)(hT:k+1+2100<=c.T) :Q2 197 #[Q0 c.rb,.agg #[.iface 371 (pt b),gv]] w (NxQ c M O w F (k+1) (k+1) 2100):=by
 obtain⟨q,N⟩:∃q,W1.procs[i]?=some q:=⟨_,g_ (by rw [<- h.fw.pql];exact(s_ v).1)⟩
 obtain⟨u,ev,x,sc,p,z,P,Q,A⟩:=h.fw.pqa i b q v N hz;obtain⟨kf,cf,rfl,B,r⟩:=aJY c Q;have C:=hW.1 q (q_ N);have ae:=C.lns;have hx:IU x<=1001:=(C.KG (by rw [z];simp)).nd;have hl:=hs.1;obtain⟨f,a,rfl,ac⟩:∃f a,gv=.slice f us.length a/\us.length<=a:=by obtain⟨f,a,e,hc,_⟩:=ha;exact⟨f,a,e,hc⟩
 rw [aNB N] at g;by_cases l:us.length=q.1.ns.length
 ·rw [if_neg x8] at g;obtain⟨G,K,R,af,ad,T,ag,U⟩:=h.fw.enter ha hs;rw [show us.length=args.length from hl] at T;simp only [Value.slice.injEq,true_and] at T;obtain⟨rfl,rfl⟩:=T;obtain⟨D,rfl⟩:=A.ptr;have E:=t.next hn g (fun _=>n) x8;obtain⟨X,H⟩:∃X,X=(((w.alloc (.cells #[.iface 371 (pt b),.slice f us.length a] TApp)).alloc (.cells #[.slice f us.length a,.pointer D] TPlc)).drew).drew:=⟨_,rfl⟩
  have V:Q3 w X:=by rw [H];exact((b_.alloc w9 _).drew).drew
  have Y:X.heap[w.heap.size]?=some (.cells #[.iface 371 (pt b),.slice f us.length a] TApp (0,0)):=by rw [H];exact(k_ w9).trans (heap_alloc_new w _)
  have Z:X.heap[w.heap.size+1]?=some (.cells #[.slice f us.length a,.pointer D] TPlc (0,0)):=by
   rw [H];have:=heap_alloc_new (w.alloc (.cells #[.iface 371 (pt b),.slice f us.length a] TApp)) (.cells #[.slice f us.length a,.pointer D] TPlc)
   rwa [World.size_alloc] at this
  have m:=Stp.AA (M:=M) V;have I:St c M O w G kv (k+1) {W1 with places:=W1.places++args}:=by obtain⟨lv,av,gv,ov,m1,m2,m3⟩:=h.mc;exact⟨R,⟨lv,av,gv,ov,m1,m2,m3⟩,h.bd⟩
  have J:EnvF M X G.s (pt (w.heap.size+1)) (q.2++Pl.C1 q.1.ns W1.places.length) (q.1.ns::sc):=by refine .cons (w.heap.size+1) (.pointer D) f a W1.places.length q.1.ns q.2 sc ⟨fun y=>by have:=h.fw.CY.mlt _ y;omega,?_⟩ x8 P (fun j hj=>U j x8) ((A.go m K.s));rw [<- l];exact Z
  have hC:Q2 kf (#[pt c.rb,pt (w.heap.size+1)]++cf) X (fun e s=>NxQ c M O w F (k+1) (k+1) 2100 e s/\∃M',Stp M X M' s):=by refine(r M O X G kv (pt (w.heap.size+1)) S0.AB (k+1) _ _ m K (I.below V) J E (by rw [z];rfl) rfl x8).mono (fun e s d=>⟨?_,d.stp9⟩);exact((d.nx (PlF.go m K _ _ hp)).after m (fun b hb=>V.block b (h.fw.olt hb)) K x8 x8 x8)
  have aa:Bk M X w.heap.size #[.iface 371 (pt b),.slice f us.length a] TApp:=⟨fun y=>by have:=h.fw.CY.mlt _ y;omega,Y⟩
  have o:=p.go m;rw [H] at hC
  have ab:=aMX w c.rb b us.length kf cf D f a x8 (by rw [l];exact p.2) B (fun e s d=>d.1.tup) hC (fun e s d=>by
   obtain⟨_,M',L⟩:=d;rw [<- H] at L
   exact⟨(o.go L).cell 1,(o.go L).cell 2,(aa.go L).cell 1⟩)
  exact ab.mono (fun e s d=>d.1)
 ·rw [if_pos x8] at g
  exact(aKG w c.rb b q.1.ns.length us.length _ ev f a x8 l p.2).mono (fun e s ⟨⟨es,h1⟩,h2⟩=>by
   subst h1
   exact aGW h h2 t hn es (x:=10) w8 g n x8)
theorem aLG{i:Nat}(h:St c M O w F kv (k+1) W1)(s:c.At k W S)(H:S.ended=false)(t:Pl.step W S=AH W1 S0 (.cont i) args)(m:W1.out=W.out)(z:F.s.cb[i]?=some b)(Q:ArgsAt M O w F.s gv us)(I:BY (RV F.s) us args) :Q2 197 #[Q0 c.rb,.agg #[.iface 384 (pt b),gv]] w (NxQ c M O w F (k+1) (k+1) 2100):=by
 obtain⟨R,A,f,B,v⟩:=h.fw.AG.get z;obtain⟨T,n,rfl,J,C⟩:=Q;have y:=I.1;by_cases d:us.length=1
 ·obtain⟨u,rfl⟩:=List.length_eq_one_iff.1 d;obtain⟨a,rfl⟩:∃a,args=[a]:=List.length_eq_one_iff.1 (by rw [<- y];exact d);have o:RV F.s u a:=I.2 0 u a rfl rfl;rcases C with C | ⟨g,l,U,rfl,hm,_,K,V,_⟩
  ·simp at C
  ·have p:w.cell? ⟨g,l,none⟩=some u:=(aA K l).trans (by have:=V 0 u rfl;simpa using this);obtain⟨lv,av,gv,ov,D,m2,m3⟩:=h.mc;have E:c.rb≠g:=aGF D.blk K tMc.1;have j:Pl.step W S=⟨0,W1,({S0 with AB:=R}:PS).A1 a⟩:=by rw [t];show(⟨0,W1,({S0 with AB:=W1.AG[i]?.getD []}:PS).A1 a⟩:SR)=_;rw [A];rfl
   refine(aMZ w c.rb b g l f kv u n (PlF.ptr v) B.2 (aA D.blk 0) (aF D.blk 0) E p o.iface).mono ?_;rintro e X ⟨rfl,rfl⟩;obtain⟨L,Y,Z⟩:=h.setK f;have G:Below (w.setCell ⟨c.rb,0,none⟩ f).heap.size (w.setCell ⟨c.rb,0,none⟩ f) ((w.setCell ⟨c.rb,0,none⟩ f).alloc (.cells #[.iface 384 (pt b),.slice (some ⟨g,l,none⟩) 1 n] TApp)):=b_;have N:=Y.trans (Stp.AA (M:=M) G);exact⟨M,F,k,W,S,N,fun b P=>(G.block b (L.fw.olt P)).trans (Z b P),Fg.Le.refl _,s,H,n_,x8,fun q=>absurd (by simp at q;exact q) o.notNil,.val u f W1 _ j (fun _=>m) rfl (PlF.go N (Fg.Le.refl _) _ _ v) o (L.below G)⟩
 ·have j:Pl.step W S=⟨10,W1,S0⟩:=by
   rw [t]
   match args,y with
   | [],_=>rfl
   | [a],y=>simp at y;exact absurd y d
   | a::b::r,_=>rfl
  exact(aKH w c.rb us.length (pt b) trivial T n d).mono (fun e X ⟨⟨es,h1⟩,h2⟩=>by
   subst h1
   exact aGW h h2 s H es (x:=10) w8 j m x8)
theorem nx_B(h:St c M O w F kv (k+1) W1)(hp:PlF M w F kv S0.AB)(g:c.At k W S)(z:S.ended=false)(j:Pl.step W S=AH W1 S0 fx args)(a:W1.out=W.out)(C:∀t,fx≠.AZ t)(I:RV F.s av fx)(A:ArgsAt M O w F.s gv us)(J:BY (RV F.s) us args)(l:BL W1 fx)(B:WWq W1)(K:k+1+2100<=c.T) :Q2 197 #[Q0 c.rb,.agg #[av,gv]] w (NxQ c M O w F (k+1) (k+1) 2100):=by
 have D:=h.fw.tq;have E:=h.fw.tc;have m:=I
 cases I with
 | proc i b G L=>rw [D];exact nx_proc h hp g z j a G L A J B K
 | cont i b H=>rw [E];exact aLG h g z j a H A J
 | AZ _ t _ _=>exact absurd rfl (C t)
 | EC=>exact absurd rfl (C _)
 | num n =>
  obtain⟨p,d,rfl,_⟩:=A;have f:∀o,Q3 w (w.alloc o):=fun o=>b_
  exact(aKI w c.rb us.length _ p d _ (Pl.FL _) ((hH W1 B.2 F.s _ _ _ (h.fw.below (f _)).TJ m l).mono (fun e q ⟨r,s⟩=>⟨r,(f _).trans (s.mono (f _).size)⟩))).mono (fun e q ⟨⟨u,v⟩,y⟩=>by
   subst v
   exact aGW h y g z u (x:=9) w8 j a x8)
 | AT b =>
  obtain⟨p,d,rfl,_⟩:=A;have f:∀o,Q3 w (w.alloc o):=fun o=>b_
  exact(aI3 w c.rb us.length _ p d _ (Pl.FL _) ((hH W1 B.2 F.s _ _ _ (h.fw.below (f _)).TJ m l).mono (fun e q ⟨r,s⟩=>⟨r,(f _).trans (s.mono (f _).size)⟩))).mono (fun e q ⟨⟨u,v⟩,y⟩=>by
   subst v
   exact aGW h y g z u (x:=9) w8 j a x8)
 | name P =>
  obtain⟨p,d,rfl,_⟩:=A;have f:∀o,Q3 w (w.alloc o):=fun o=>b_
  exact(aJF w c.rb us.length _ p d _ (Pl.FL _) ((hH W1 B.2 F.s _ _ _ (h.fw.below (f _)).TJ m l).mono (fun e q ⟨r,s⟩=>⟨r,(f _).trans (s.mono (f _).size)⟩))).mono (fun e q ⟨⟨u,v⟩,y⟩=>by
   subst v
   exact aGW h y g z u (x:=9) w8 j a x8)
 | empty  =>
  obtain⟨p,d,rfl,_⟩:=A;have f:∀o,Q3 w (w.alloc o):=fun o=>b_
  exact(aI4 w c.rb us.length _ p d _ (Pl.FL _) ((hH W1 B.2 F.s _ _ _ (h.fw.below (f _)).TJ m l).mono (fun e q ⟨r,s⟩=>⟨r,(f _).trans (s.mono (f _).size)⟩))).mono (fun e q ⟨⟨u,v⟩,y⟩=>by
   subst v
   exact aGW h y g z u (x:=9) w8 j a x8)
 | nothing  =>
  obtain⟨p,d,rfl,_⟩:=A;have f:∀o,Q3 w (w.alloc o):=fun o=>b_
  exact(aH9 w c.rb us.length _ p d _ (Pl.FL _) ((hH W1 B.2 F.s _ _ _ (h.fw.below (f _)).TJ m l).mono (fun e q ⟨r,s⟩=>⟨r,(f _).trans (s.mono (f _).size)⟩))).mono (fun e q ⟨⟨u,v⟩,y⟩=>by
   subst v
   exact aGW h y g z u (x:=9) w8 j a x8)
 | pair i b N =>
  obtain⟨p,d,rfl,_⟩:=A;have f:∀o,Q3 w (w.alloc o):=fun o=>b_
  exact(aJE w c.rb us.length _ p d _ (Pl.FL _) ((hH W1 B.2 F.s _ _ _ (h.fw.below (f _)).TJ m l).mono (fun e q ⟨r,s⟩=>⟨r,(f _).trans (s.mono (f _).size)⟩))).mono (fun e q ⟨⟨u,v⟩,y⟩=>by
   subst v
   exact aGW h y g z u (x:=9) w8 j a x8)
def PoN(e:Ending):Prop:=e≠aGG .nilIface .nilIface
theorem GZ.n{s:Sg}{a:PS->SR}(h:GZ W s a e):PoN e:=by
 rcases h with⟨v,q,rfl,b,_⟩ | ⟨c,x,d,rfl,_⟩
 ·intro e;simp at e;exact b.notNil e
 ·intro e;simp [aY] at e
theorem OR.n{o:Nat}{sv:Value}{out:AE}{p:PV}(h:OR W w b o sv out p e w'):PoN e:=by rcases h with⟨_,_,a,rfl⟩ | ⟨_,rfl,_⟩<;>intro e<;>simp [aY] at e
theorem k_apply{u0:Value}{a0:PV}(h:Pm c M O w F kv K k W S S0 t av [u0] [a0])(A:k<c.z)(p:Nat)(b:AO[p]?=some t)(m:p<12) :Q2 235 #[Q1 p,av,.pointer (some ⟨c.rb,6,none⟩)] w (fun e o=>Post c M O w F kv K (k+1) 1 e o/\PoN e):=by
 by_cases l:arity t=1
 ·obtain⟨u,a,g,j,d,v,rfl,r,s⟩:=h.one rfl;simp only [List.cons.injEq,and_true] at v;subst v
  match p,m,b with
  | 0,_,b=>exact zK6
  | 1,_,b=>exact zK6
  | 2,_,b=>exact zK6
  | 3,_,b=>exact zK6
  | 4,_,b=>exact zK6
  | 5,_,b=>exact zK6
  | 6,_,b =>obtain rfl:=i_ b;exact(y8 M w F.s W g j d u _ a0 h.st.fw.JQ h.st.fw.CY.pairs h.st.fw.NH r s).mono (fun e o ⟨i,f⟩=>⟨h.pure i f (jX W S0 DN a0 w8),f.n⟩)
  | 7,_,b =>obtain rfl:=i_ b;exact(p_apply7 M w F.s W g j d u _ a0 h.st.fw.JQ h.st.fw.CY.pairs h.st.fw.NH r s).mono (fun e o ⟨i,f⟩=>⟨h.pure i f (jX W S0 C8 a0 w8),f.n⟩)
  | 8,_,b =>obtain rfl:=i_ b;exact(p_apply8 M w F.s W g j d u _ a0 h.st.fw.JQ h.st.fw.CY.pairs h.st.fw.NH r s).mono (fun e o ⟨i,f⟩=>⟨h.pure i f (jX W S0 DY a0 w8),f.n⟩)
  | 9,_,b =>obtain rfl:=i_ b;exact(yZ M w F.s W g j d u _ a0 h.st.fw.JQ h.st.fw.CY.pairs h.st.fw.NH r s).mono (fun e o ⟨i,f⟩=>⟨h.pure i f (jX W S0 DW a0 w8),f.n⟩)
  | 10,_,b=>exact zK6
  | 11,_,b =>obtain rfl:=i_ b;obtain⟨J,B,L,C,i,f,y⟩:=h.st.mc;obtain⟨D,t,E,_⟩:=h.at_.inv;exact(vD w F.s W (aC2 E) c.rb 6 _ TFMc C W.out g j d u a0 h.st.fw.JQ h.st.fw.TJ s (h.wf a0 w9) i.blk rfl y.1 tMc.2.2.2.2.2 D r).mono (fun e o z=>⟨h.disp A i f y z (jX W S0 A7 a0 w8),z.n⟩)
  | n+12,m,_=>omega
 ·have G:AH W S0 (.AZ t) [a0]=⟨10,W,S0⟩:=by
   show(if([a0]:List PV).length≠arity t then _ else _)=_;rw [if_pos (fun q=>l q.symm)]
  obtain⟨H,d,rfl,_,_⟩:=h.row;exact(vC p t w H 1 d _ h.st.fw.JQ b m (fun q=>l q.symm)).mono (fun e o ⟨i,I,f⟩=>by subst f;exact⟨h.no i (x:=10) w8 G I,by intro e;simp [aY] at e⟩)
theorem k_prim{u0:Value}{a0:PV}(h:Pm c M O w F kv K k W S S0 t av [u0] [a0])(f:Nat)(x:AO[f]?=some t)(m:f<12) :Q2 220 #[Q0 c.rb,Q1 f,av] w (fun e j=>Post c M O w F kv K (k+1) 1 e j/\PoN e):=by
 have n:Q3 w w.drew:=r_.drew;have l:Pm c M O w.drew F kv K k W S S0 t av [u0] [a0]:=by obtain⟨o,a,p,q,r⟩:=h.row;exact⟨h.st.below n,h.at_,h.ne,h.step,h.fr,⟨o,a,p,q,fun i u y=>r i u y⟩,h.CH,h.wf⟩
 obtain⟨G,H,_⟩:=h.st.cells;have z:=h.st.bd;have A:=h.at_.le;obtain⟨o,a,rfl,_,_⟩:=h.row;by_cases B:k<c.z
 ·have C:Hid (Q2 235 #[Q1 f,.slice o 1 a,.pointer (some ⟨c.rb,6,none⟩)] w.drew (fun e j=>Post c M O w F kv K (k+1) 1 e j/\PoN e)):=(k_apply l B f x m).mono (fun e j d=>⟨d.1.after (Stp.AA n) (fun b _=>rfl) (Fg.Le.refl _) n_ n_,d.2⟩);have s:((k+1:Nat):Int)<=(c.z:Int):=by omega
  clear h l;go_enter func220,ntmps220;go_wp2_with fail
  go_region
  go_wp2_with (go_at_call 235;refine(Calls.mono C ?_);intro e D d;obtain⟨I,J,rfl⟩:=d.1.tup;have v:=(show Hid _ from d);clear d)
  go_ret2;exact v
 ·have E:Hid (∀g,Post c M O w F kv K (k+1) 1 (aGG .nilIface (aY g 7)) w.drew/\PoN (aGG .nilIface (aY g 7))):=fun g=>⟨⟨M,F,k,W,S,Stp.AA n,fun _ _=>rfl,Fg.Le.refl _,h.at_,h.ne,x8,x8,.spent g x8 l.st⟩,by intro e;simp [aY] at e⟩
  have s:(c.z:Int)<((k+1:Nat):Int):=by omega
  clear h l;go_enter func220,ntmps220;go_wp2_with fail
  go_region
  go_wp2_with (go_at_call 185;refine(aJD _).mono ?_;rintro e D ⟨g,rfl,rfl⟩)
  go_ret2;exact E.out _
theorem aMW{kp:Nat}{W2:PW}(h:St c M O w F kv (k+1) W2)(hp:PlF M w F kv S0.AB)(z:c.At k W S)(hn:S.ended=false)(d:Pl.step W S=AH W2 S0 (.AZ t) [a])(b:W2.out=W.out)(V:AO[kp]?=some t)(A:kp<12)(ha:ArgsAt M O w F.s gv [u])(hu:RV F.s u a)(B:BL W2 a)(hT:k+1<=c.T) :Q2 220 #[Q0 c.rb,Q1 kp,gv] w (NxQ c M O w F (k+1) (k+1) 2100):=by
 obtain⟨ho,t0,hW,hS,m,hm,hX⟩:=z.inv;have C:=aII V A;obtain⟨D,p,g3,o,g4⟩:=aJJ W2 ⟨none,[],a,[]⟩ S0 t a;have E:=(jQ hW hS).2.1;have i:Sm (Pl.step W S).W (Pl.step W S).S (m+1):=ML W S hm;rw [d,p,g4] at E;rw [d,p,g4] at i;have X:=E.outW;have H:OV W2 (m+1):=⟨i.w.pairs,i.w.globals,i.w.AG⟩
 have Y:BL W2 (.AZ t):=q_ V;obtain⟨r,j⟩:∃r,r=({c with W0:=W2,S0:=addD k (aMQ t a),T:=c.T-1}:Cx):=⟨_,rfl⟩
 have I:r.At k W2 (aMQ t a):=by
  subst j;refine⟨?_,⟨by rw [b];exact ho,t0+310+1,X.later x8,⟨fun f hf=>(by cases hf),fun x J=>(by cases J),Nat.zero_le _,fun _=>B,fun fr Z=>?_,by simp [aMQ]⟩,m+1,⟨H,by simp [aMQ]⟩,?_⟩,by show k<=c.T-1;omega⟩
  ·have:=aLQ W2 (aMQ t a) rfl c.z k k n_;rw [Nat.sub_self] at this;exact this
  ·have:fr=⟨calF,[.AZ t],2,[]⟩:=by simpa [aMQ] using Z
   subst this;exact⟨wf_calF W2,fun x J=>(by cases J),Nat.zero_le _,.inr (.inr (.inr (.inr rfl))),fun e=>a8,fun _=>⟨rfl,n_,fun v hv=>by rw [List.mem_singleton.1 hv];exact Y⟩⟩
  ·show m+1+(c.T-1-k)<=6500000000000000000;omega
 have l:∀{K:Q5} {R:World} {G:Fg} {U:PW},St c K O R G kv (k+1) U↔St r K O R G kv (k+1) U:=fun {K} {R} {G} {U}=>by
  subst j;constructor
  ·intro q;obtain⟨lv,av,gv,ov,L,m2,m3⟩:=q.mc;exact⟨q.fw,⟨lv,av,gv,ov,⟨L.blk,L.m⟩,m2,m3⟩,⟨by have:=q.bd;show c.B+(c.T-1)<=9000000000000000000;omega,by have:=q.bd;show c.T-1<=1010000;omega,q.bd.2.2⟩⟩
  ·intro q;obtain⟨lv,av,gv,ov,L,m2,m3⟩:=q.mc;exact⟨q.fw,⟨lv,av,gv,ov,⟨L.blk,L.m⟩,m2,m3⟩,h.bd⟩
 have aa:r.rb=c.rb:=by rw [j]
 have N:r.z=c.z:=by rw [j]
 have pm:Pm r M O w F kv [] k W2 (aMQ t a) ⟨none,[],a,[]⟩ t gv [u] [a]:=⟨l.1 h,I,rfl,aI1 W2 C,rfl,ha.r,(BY.nil _).cons hu,fun v hv=>by rw [List.mem_singleton.1 hv];exact B⟩
 have P:=k_prim pm kp V A;rw [aa] at P;refine P.mono (fun e R ab=>?_);obtain⟨⟨K,G,k',U,S',h1,h2,h3,h4,h5,h6,h7,h8⟩,Q⟩:=ab;obtain rfl:k'=k:=by omega
 obtain⟨e1,e2⟩:=I.go.same h4.go;subst e1 e2;refine⟨K,G,k',W,S,h1,h2,h3,z,hn,x8,x8,fun q=>absurd q Q,?_⟩;have s:=aI1 (a:=a) W2 C
 cases h8 with
 | val v W3 S3 n ac ag ah ad g =>
  rw [s] at n;rw [n] at D p g3;obtain⟨v',q1,q2⟩:=g3 rfl
  have y:Pl.step W S=⟨0,W3,S0.A1 v'⟩:=by
   rw [d]
   cases hr:AH W2 S0 (.AZ t) [a] with
   | mk e9 W9 S9 =>rw [hr] at D p q2;simp only at D p q2;subst D p q2;rfl
  have ae:RV G.s v v':=by
   have:S3.val=v':=by rw [show S3=_ from q1];rfl
   rw [<- this];exact ad
  exact .val v kv W3 _ y (fun q=>(ac (by rw [N];exact q)).trans b) rfl (PlF.go h1 h3 _ _ hp) ae (l.2 g)
 | err es x J n af g=>exact .err es x kv W2 J (by rw [d,D,<-s];exact n) (by rw [d,p,<-s];exact af) b (l.2 g)
 | spent es hz g=>exact .spent es kv W2 (by rw [<- N];exact hz) b (l.2 g)
 | pend=>exact absurd rfl Q
theorem aLH(h:St c M O w F kv (k+1) W1)(hp:PlF M w F kv S0.AB)(U:ArgsAt M O w F.s gv [u])(P:RV F.s u a)
  (v:∀(A:Q5)(Y:World)(G:Fg)(x Q:Value),St c A O Y G kv (k+1) (W1.keep S0)->PlF A Y G kv S0.AB->RV G.s u a->ArgsAt A O Y G.s x [Q]->RV G.s Q (.cont W1.AG.length)->Q2 197 #[Q0 c.rb,.agg #[u,x]] Y (NxQ c A O Y G (k+1) (k+1) 2100)) :
  Q2 197 #[Q0 c.rb,.agg #[.iface 146 (.agg #[]),gv]] w (NxQ c M O w F (k+1) (k+1) 2100):=by
 obtain⟨lv,V,W,ov,X,m2,m3⟩:=h.mc;obtain⟨ao,m,rfl,R,D⟩:=U;rcases D with D | ⟨g,d,Z,rfl,hm,_,E,hc,_⟩
 ·simp at D
 have o:w.cell? ⟨g,d,none⟩=some u:=(aA E d).trans (by have:=hc 0 u rfl;simpa using this);obtain⟨f,i⟩:∃f,f=((w.alloc (.cells #[.iface 146 (.agg #[]),.slice (some ⟨g,d,none⟩) 1 m] TApp)).alloc (.cells #[] 146)).alloc (.cells #[kv] TFCo):=⟨_,rfl⟩
 have B:Q3 w f:=by rw [i];exact(b_.alloc w9 _).alloc r7 _
 have H:f.heap.size=w.heap.size+1+1+1:=by rw [i];simp
 have I:f.heap[w.heap.size+1+1]?=some (.cells #[kv] TFCo (0,0)):=by
  rw [i];have:=heap_alloc_new ((w.alloc (.cells #[.iface 146 (.agg #[]),.slice (some ⟨g,d,none⟩) 1 m] TApp)).alloc (.cells #[] 146)) (.cells #[kv] TFCo)
  rwa [World.size_alloc,World.size_alloc] at this
 obtain⟨f1,f2⟩:=h.fw.IJ B (p:=w.heap.size+1+1) x8 I S0.AB hp;have l:Fg.Le F {F with s:=F.s.IJ (w.heap.size+1+1),pr:=F.pr++[]}:=Fg.le_s (F.s.LD _);have q:=h.fwd B f1 rfl;have y:(f.alloc (.cells #[.iface 384 (pt (w.heap.size+1+1))] B9)).ownsRow 0 B9 1 (.slice (some ⟨f.heap.size,0,none⟩) 1 1) 1 [.iface 384 (pt (w.heap.size+1+1))] :=⟨rfl,.inr ⟨_,1,_,rfl,Nat.zero_le _,heap_alloc_new _ _,n_,o6,rfl,rfl⟩⟩
 have J:Stt c M (Ow O (.slice none 0 0)) f {F with s:=F.s.IJ (w.heap.size+1+1),pr:=F.pr++[]} kv (k+1) (k+1) {W1 with AG:=W1.AG++[S0.AB]}:=⟨q.fw.less (fun k K=>K.elim id (fun e=>by cases e)),q.mc,q.bd⟩
 obtain⟨C,y2,y3,y4⟩:=J.ownApp (World.ownsRow_nil _ _ _ _) (World.grownBy_alloc f _ _) y (fun g' L=>.inr (by simp only [Value.ownBlock,o_] at L;omega)) (fun g E=>by cases E);have r:=aLY C.fw y y4;have s1:=Stp.AA (M:=M) B;have S:=s1.trans y2;have N:=v _ _ _ _ _ (⟨C.fw.less (fun k K=>.inl K),C.mc,C.bd⟩:St c _ O _ _ kv (k+1) (W1.keep S0)) (PlF.go S l _ _ hp) (P.le l.s) r f2;refine nxW_cc w c.rb g d kv u m (PlF.ptr hp) (aA X.blk 0) o P.iface (fun e w' t=>t.tup) ?_;have j:=N.mono (fun e w' t=>NxQ.after (n:=k+1) (p:=k+1) (z:=2100) S (fun b T=>(y3 b T).trans (B.block b (h.fw.olt T))) l t n_ n_ n_);rw [H] at j;rw [<- i];exact j
theorem p_next(h:Pend c M O w F kv (k+1) W [] fx args)(hp:PlF M w F kv S0.AB)(j:c.At k W S)(z:S.ended=false)(d:Pl.step W S=Pl.apply W S0 fx args)(hT:k+1+2100<=c.T) :∃s A,w.cell? ⟨c.rb,2,none⟩=some s/\w.cell? ⟨c.rb,3,none⟩=some A/\(∃T x,s=.iface T x)/\(∃a l k,A=.slice a l k)/\Q2 197 #[Q0 c.rb,.agg #[s,A]] w (NxQ c M O w F (k+1) (k+1) 2100):=by
 obtain⟨lv,s,A,ov,fs,C,U,h2,h3,h4,V,B,p⟩:=h.mc;have X:fs=[]:=e_ (by have:=h3.1;simpa using this);subst X;have D:St c M O w F kv (k+1) W:=⟨h.fw,⟨lv,s,A,ov,U,h2,h4⟩,h.bd⟩
 refine⟨s,A,aA U.blk 2,aA U.blk 3,V.iface,by obtain⟨a,b,e,_⟩:=B;exact⟨a,_,b,e⟩,?_⟩;obtain⟨t,hW,hS⟩:=j.ww;obtain⟨p1,p2,p3⟩:=h.wf;by_cases v:fx=.AZ AU
 ·subst v
  have Z:s=.iface 146 (.agg #[]):=by
   cases V with
   | AZ L _ E m=>exact absurd rfl (aII E m)
   | EC=>rfl
  subst Z;unfold Pl.apply at d;rw [if_pos rfl] at d
  match args,C,p,d with
  | [a],[u],p,d =>
   have hu:RV F.s u a:=p.2 0 u a rfl rfl;have aa:BL W a:=p1 a w9;by_cases n:a=.AZ AU
   ·have f:Pl.step W S=AH ((W.keep S0).keep S0) S0 (.cont W.AG.length) [.cont (W.AG.length+1)]:=by
     rw [d];simp only [n,if_true]
    subst n;refine aLH D hp B hu (fun M2 Y G ab u2 H N q3 P Q=>?_)
    have ac:u=.iface 146 (.agg #[]):=by
     cases hu with
     | AZ L _ E m=>exact absurd rfl (aII E m)
     | EC=>rfl
    subst ac;refine aLH H N P Q (fun M3 Y3 G3 ai u3 r1 r2 r3 r4 r5=>?_);have I:(W.keep S0).AG.length=W.AG.length+1:=by simp [Pl.PW.keep]
    rw [I] at r5;have ad:=r1.fw.tc
    cases r3 with
    | cont i b ae =>rw [ad];exact aLG r1 j z f rfl ae r4 ((BY.nil _).cons r5)
   ·have f:Pl.step W S=AH (W.keep S0) S0 a [.cont W.AG.length]:=by
     rw [d];simp only [n,if_false]
    refine aLH D hp B hu (fun M2 Y G ab u2 H N q3 P Q=>?_);have af:BL (W.keep S0) a:=aa.TT;by_cases J:∃t,a=.AZ t
    ·obtain⟨t1,rfl⟩:=J
     cases q3 with
     | EC=>exact absurd rfl n
     | AZ L _ E m =>
      obtain⟨q,g,rfl,K,ag⟩:=P;have R:∀o,Q3 Y (Y.alloc o):=fun o=>b_;refine aMY Y c.rb L 1 q g (fun e w' y=>y.tup) ?_;have ah:ArgsAt M2 O Y G.s (.slice q 1 g) [u2]:=⟨q,g,rfl,K,ag⟩
      have s1:=Stp.AA (M:=M2) (R (.cells #[.iface 149 (.int .i64 (L:Int)),.slice q 1 g] TApp));exact(aMW (H.below (R _)) (PlF.go s1 (Fg.Le.refl _) _ _ N) j z f rfl E m (ah.mf (Mf.below (R _))) Q (BL.TO) x8).mono (fun e w' y=>y.after s1 (fun b hb=>(R _).block b (H.fw.olt hb)) (Fg.Le.refl _) n_ n_ n_)
    ·exact nx_B H N j z f rfl (fun t e=>J ⟨t,e⟩) q3 P ((BY.nil _).cons Q) af hW.q.keep hT
  | [],C,p,d =>exact zK7
  | a::b::r,C,p,d =>exact zK7
 ·have f:Pl.step W S=AH W S0 fx args:=by
   rw [d];unfold Pl.apply;rw [if_neg v]
  exact nx_B D hp j z f rfl (fun t e=>v (by rw [e,p2 t e])) V B p (p1 fx w9) hW.q hT
theorem p_frame(c:Cx){fr:CW}(h:FrF M w F u fr):FrFOk c M w F u fr:=by
 cases h with
 | hand b r I q _ H f g l s=>exact fr_hand f g l s
 | row b r d i j J q K _ H m f g x l y z n A B=>exact fr_row m f g x l y z n A B
 | gath b r d e J q O I K P a _ H m f g x l C y z D E L o n A B=>exact fr_gath m f g x l C y z D E L o n A B
 | two b r k t v p _ m N D n s G f g q=>exact fr_two m N D n s G f g q
theorem aMU(f:c.At k W S)(m:S.ended=false)(g:Pl.step W S=Pl.apply W S0 fx args)(n:S0.AB=Fs++K)(hp:PlF M w F kv K)(o:Fs.length<=1010000)(h:Pend c M O w F kv (k+1) W Fs fx args)(p:k+1+2100<=c.T) :Q2 184 #[Q0 c.rb,.nilIface] w (NxQ c M O w F (k+1) (k+1) 2100):=by
 have s:Hid (Q2 196 #[Q0 c.rb] w fun e i=>(∃v,e=.returned v)/\∃b d,i.cell? ⟨c.rb,2,none⟩=some b/\i.cell? ⟨c.rb,3,none⟩=some d/\(∃T x,b=.iface T x)/\(∃a l k,d=.slice a l k)/\Q2 197 #[Q0 c.rb,.agg #[b,d]] i (NxQ c M O w F (k+1) (k+1) 2100)):=(aMS h hp o).mono (fun e i ⟨t,u,y,z,q,A⟩=>by
  rw [<- n] at q;obtain⟨b,d,B,C,D,E,G⟩:=p_next A q f m g p
  exact⟨t,b,d,B,C,D,E,G.mono (fun e J H=>H.after y z (Fg.Le.refl _) n_ n_ n_)⟩)
 clear f m g n hp o h p;go_enter func184,ntmps184
 go_wp2_with (first
  | (go_at_call 196;refine(Calls.mono s ?_);rintro e L ⟨⟨v,rfl⟩,b,d,N,P,⟨T,x,rfl⟩,⟨a,l,Q,rfl⟩,r⟩;have I:=(show Hid _ from r);clear r)
  | (go_at_call 197;refine(Calls.mono I ?_);intro e R hp;obtain⟨U,V,rfl⟩:=hp.tup;have j:=(show Hid _ from hp);clear hp))
 go_ret2;exact j
theorem p_goVal{v:Value}{n:Nat}{fr:CW}(h:St c M O w F kv n W)(hp:PlF M w F kv (fr::K))(f:c.At n W S)(y:S.form=none)(q:S.AB=fr::K)(r:RV F.s v S.val)(H:n+1+2100<=c.T) :Q2 184 #[Q0 c.rb,v] w (NxQ c M O w F (n+1) n 2100):=by
 obtain⟨b,I,m,rfl,g,j,i⟩:=hp;have s:=(f.frW q).nd;obtain⟨k,l,rfl,z,a⟩:=p_frame c j;obtain⟨A,B,C⟩:=h.setK m;obtain⟨D,E,G⟩:=A.tick (n+1);have p:=B.trans E;have J:Hid (Q2 k (#[pt c.rb,v]++l) ((w.setCell ⟨c.rb,0,none⟩ m).setCell ⟨c.rb,4,none⟩ (.int .i64 ((n+1:Nat):Int))) (NxQ c M O w F (n+1) n 2100)) :=(a M O _ F m v K n W S p (Fg.Le.refl _) D f y q r x8).mono (fun e Q L=>(L.nx (PlF.go p (Fg.Le.refl _) _ _ i)).after p (fun b g=>(G b g).trans (C b g)) (Fg.Le.refl _) n_ x8 x8);have N:∀(d:Array Value)(w:World),(callFunc k d).run prog w=.ok (.enter k d) w:=z;obtain⟨R,_,U⟩:=h.cells;obtain⟨V,X,Y,Z,t,_,_⟩:=h.mc;have c0:w.cell? ⟨c.rb,0,none⟩=some (Q0 b):=aA t.blk 0;have f0:w.frozen? ⟨c.rb,0,none⟩=false:=aF t.blk 0;have d0:w.cell? ⟨b,0,none⟩=some (.func (.func k) #[] l):=aA g.2 0;have d1:w.cell? ⟨b,1,none⟩=some m:=aA g.2 1;have P:b≠c.rb:=h.ne g.1;have hn:n<=1010000:=by have:=h.bd.2.1;omega
 obtain⟨o,rfl⟩:=PlF.ptr i;obtain⟨T,x,rfl⟩:=r.iface;clear h g j i f y q r H a A B C D E G p t s z;go_enter func184,ntmps184;go_wp2_with (go_at_fn k;refine(Calls.mono J ?_);intro e w4 hp;obtain⟨v',x',rfl⟩:=hp.tup;have u:=(show Hid _ from hp);clear hp);go_ret2;exact u
structure Fin(c:Cx)(M O:Q5)(w:World)(F:Fg)(n:Nat)(W:PW):Prop where
 fw:FW c.L M O w F (c.B+n) W
 mc:∃kv lv av gv ov,Mch c M w kv lv av gv n ov/\DS M w ov W.out
theorem Stt.fin{n:Nat}(h:St c M O w F kv n W):Fin c M O w F n W:=by obtain⟨a,b,d,e,f,_,g⟩:=h.mc;exact⟨h.fw,kv,a,b,d,e,f,g⟩
theorem Pend.fin{n:Nat}(h:Pend c M O w F kv n W Fs fx args):Fin c M O w F n W:=by obtain⟨a,b,d,e,i,j,f,_,_,g,_⟩:=h.mc;exact⟨h.fw,kv,a,b,d,e,f,g⟩
theorem Fin.below{n:Nat}(h:Fin c M O w F n W)(a:Q3 w w'):Fin c M O w' F n W:=by obtain⟨b,d,e,f,g,i,j⟩:=h.mc;exact⟨h.fw.below a,b,d,e,f,g,i.below a,j.belowF a⟩
inductive RnR (c:Cx) (M O:Q5) (w:World) (F:Fg):Ending->Prop
 | val (v:Value) (n:Nat) (W':PW) (S':PS) (hn:n<=c.T) (hg:A8 c.z c.W0 c.S0=⟨0,W',S'⟩) (hv:RV F.s v S'.val) (h:Fin c M O w F n W'):RnR c M O w F (aGG v .nilIface)
 | err (es:Q8) (x:Nat) (n:Nat) (W':PW) (hn:n<=c.T) (hx:x≠0) (h7:x≠7) (hg:(A8 c.z c.W0 c.S0).e=x) (hw:(A8 c.z c.W0 c.S0).W=W') (h:Fin c M O w F n W'):RnR c M O w F (aGG .nilIface (aY es (x:Int)))
 | spent (es:Q8) (n:Nat) (W':PW) (hn:n<=c.T) (hg:(A8 c.z c.W0 c.S0).e=7) (ho:(A8 c.z c.W0 c.S0).W.out=W'.out) (h:Fin c M O w F n W'):RnR c M O w F (aGG .nilIface (aY es 7))
def RnQ(c:Cx)(M O:Q5)(w:World)(F:Fg)(e:Ending)(w':World):Prop:=∃M' G,Stp M w M' w'/\(∀b,O b->w'.heap[b]?=w.heap[b]?)/\Fg.Le F G/\RnR c M' O w' G e
def rkL(v er:Value):Nat:=match er with
 | .nilIface=>match v with
  | .nilIface=>2
  | _=>1
 | _=>0
def stpL(c:Cx)(w:World):Nat:=match w.cell? ⟨c.rb,4,none⟩ with
 | some (.int _ i)=>i.toNat
 | _=>0
def muL(c:Cx)(v er:Value)(w:World):Nat:=3*(c.T+1-stpL c w)+rkL v er
abbrev LpI(c:Cx)(M O:Q5)(w:World)(F:Fg)(v er:Value)(wr:World):Prop:=NxQ c M O w F 0 0 (c.z+2200) (aGG v er) wr
theorem aHV{n m:Nat}(h:Stt c M O w F kv n m W):stpL c w=n:=by unfold stpL;rw [h.cells.1];simp
theorem Pend.cells{n:Nat}(h:Pend c M O w F kv n W Fs fx args):w.cell? ⟨c.rb,4,none⟩=some (Q1 n)/\w.cell? ⟨c.rb,5,none⟩=some (Q1 c.z)/\w.cell? ⟨c.rb,0,none⟩=some kv:=by obtain⟨b,d,e,f,g,i,a,_⟩:=h.mc;exact⟨aA a.blk 4,aA a.blk 5,aA a.blk 0⟩
theorem Stt.cell0{n m:Nat}(h:Stt c M O w F kv n m W):w.cell? ⟨c.rb,0,none⟩=some kv:=by obtain⟨b,d,e,f,a,_⟩:=h.mc;exact aA a.blk 0
inductive Lp (c:Cx) (M O:Q5) (w:World) (F:Fg) (v er:Value) (wr:World):Prop
 | go (n:Nat) (kv:Value) (hn:n<=c.z) (he:er=.nilIface) (hk:v=.nilIface\/((∃T x,v=.iface T x)/\∃a,kv=.pointer (some a))) (hkp:∃o,kv=.pointer o) (c4:wr.cell? ⟨c.rb,4,none⟩=some (.int .i64 (n:Int))) (c5:wr.cell? ⟨c.rb,5,none⟩=some (.int .i64 (c.z:Int))) (c0:wr.cell? ⟨c.rb,0,none⟩=some kv)
   (hC:∀nq,Q2 184 #[Q0 c.rb,v] (wr.drewN nq) (fun e w'=>∃v' er',e=aGG v' er'/\LpI c M O w F v' er' w'/\muL c v' er' w'<muL c v er wr))
 | off (n:Nat) (kv:Value) (hn:n<=c.z) (he:(er=.nilIface/\(∃T x,v=.iface T x)/\kv=.pointer none)\/(v=.nilIface/\∃es x,er=aY es x)) (c4:wr.cell? ⟨c.rb,4,none⟩=some (.int .i64 (n:Int))) (c5:wr.cell? ⟨c.rb,5,none⟩=some (.int .i64 (c.z:Int))) (c0:wr.cell? ⟨c.rb,0,none⟩=some kv)
   (hQ:∀wx,Q3 wr wx->RnQ c M O w F (aGG v er) wx)
 | spent (n:Nat) (hn:c.z<n) (hn2:n<=1020000) (he:(er=.nilIface/\(v=.nilIface\/∃T x,v=.iface T x))\/(v=.nilIface/\∃es x,er=aY es x)) (c4:wr.cell? ⟨c.rb,4,none⟩=some (.int .i64 (n:Int))) (c5:wr.cell? ⟨c.rb,5,none⟩=some (.int .i64 (c.z:Int)))
   (hQ:∀es wx,Q3 wr wx->RnQ c M O w F (aGG .nilIface (aY es 7)) wx)
theorem aGV(w:World)(n:Nat):Q3 w (w.drewN n):=⟨rfl,rfl,rfl,n_,fun _ _=>rfl⟩
theorem RnQ.drew{M':Q5}{wr:World}{G:Fg}(i:Stp M w M' wr)(j:∀b,O b->wr.heap[b]?=w.heap[b]?)(l:Fg.Le F G)(h:∀a,Q3 wr a->RnR c M' O a G e)(d:∀b,O b->b<wr.heap.size)(a:World)(f:Q3 wr a):RnQ c M O w F e a:=⟨M',G,i.trans (Stp.AA f),fun b g=>(f.block b (d b g)).trans (j b g),l,h _ f⟩
theorem lp_of{v er:Value}{wr:World}(ah:c.T=c.z+5000)(hz:c.z<=1000000)(h:LpI c M O w F v er wr):Lp c M O w F v er wr:=by
 obtain⟨M',G,k,W,S,t,u,y,B,N,h6,h7,h9,h8⟩:=h;have hB:=aGV wr;have Z:=fun n=>Stp.AA (M:=M') (hB n);have i:k<c.T:=by omega
 have aa:(Pl.step W S).e≠7:=by have hi:=B.inv;rw [show c.T-k=(c.T-(k+1))+1 from by omega] at hi;exact(wF hi).1
 generalize z:aGG v er=E at h8
 cases h8 with
 | val P A C S' D U hf s Q d =>
  simp only [Ending.returned.injEq,Value.tuple.injEq,Array.mk.injEq,List.cons.injEq,and_true] at z;obtain⟨rfl,rfl⟩:=z;have ha:=B.next N D U i;obtain⟨l,m,_⟩:=d.cells;by_cases H:k+1<=c.z
  ·cases R:S'.AB with
   | nil =>
    rw [R] at s;have:A=.pointer none:=s;subst this;have V:S'.ended=true:=by simp [Pl.PS.ended,hf,R]
    exact .off (k+1) _ H (.inl ⟨rfl,Q.iface,rfl⟩) l m d.cell0 (RnQ.drew t u y (fun X f=>.val v (k+1) C S' i (ha.go.done V H) Q (d.fin.below f)) (fun b o=>d.fw.olt o))
   | cons fr K =>
    rw [R] at s;have ab:∃a,A=.pointer (some a):=by obtain⟨b,_,_,e,_⟩:=s;exact⟨_,e⟩
    refine .go (k+1) A H rfl (.inr ⟨Q.iface,ab⟩) (PlF.ptr s) l m d.cell0 (fun I=>?_);refine(p_goVal (d.below (hB I)) (PlF.go (Z I) (Fg.Le.refl _) _ _ s) ha hf R Q x8).mono (fun e w' J=>?_);obtain⟨P,p,rfl⟩:=J.tup;refine⟨P,p,rfl,J.after (t.trans (Z I)) u y (Nat.zero_le _) (Nat.zero_le _) x8,?_⟩;obtain⟨M2,G2,k2,W2,S2,j1,j2,j3,j4,j5,j6,j7,j9,j8⟩:=J
    have Y:stpL c w'=k2+1:=by
     cases j8 with
     | val _ _ _ _ _ _ _ _ _ q=>exact aHV q
     | err _ _ _ _ _ _ _ _ q=>exact aHV q
     | spent _ _ _ _ _ q=>exact aHV q
     | pend _ _ _ _ _ _ _ _ _ _ q=>unfold stpL;rw [q.cells.1];simp
    have ai:rkL P p<=2:=by unfold rkL;split<;>(try split)<;>omega
    have ac:rkL v .nilIface=1:=by obtain⟨T,x,rfl⟩:=Q.iface;rfl
    have:=j4.le;unfold muL;rw [Y,aHV d,ac];omega
  ·refine .spent (k+1) x8 x8 (.inl ⟨rfl,.inr Q.iface⟩) l m (fun j=>RnQ.drew t u y (fun X f=>?_) (fun b o=>d.fw.olt o));obtain⟨Wz,Sz,r,L⟩:=ha.go.off x8;exact .spent j (k+1) C i (by rw [r]) (by rw [r];exact L) (d.fin.below f)
 | err j x A C hx D hw U d =>
  simp only [Ending.returned.injEq,Value.tuple.injEq,Array.mk.injEq,List.cons.injEq,and_true] at z;obtain⟨rfl,rfl⟩:=z;obtain⟨l,m,_⟩:=d.cells;by_cases H:k+1<=c.z
  ·have hg:=B.go.err N (by rw [D];exact hx) x8;exact .off (k+1) A H (.inr ⟨rfl,j,_,rfl⟩) l m d.cell0 (RnQ.drew t u y (fun X f=>.err j x (k+1) C i hx (by rw [<- D];exact aa) (by rw [hg];exact D) (by rw [hg];exact hw) (d.fin.below f)) (fun b o=>d.fw.olt o))
  ·refine .spent (k+1) x8 x8 (.inr ⟨rfl,j,_,rfl⟩) l m (fun j=>RnQ.drew t u y (fun X f=>?_) (fun b o=>d.fw.olt o));obtain⟨Wz,Sz,r,L⟩:=B.go.spent N x8;exact .spent j (k+1) C i (by rw [r]) (by rw [r,U];exact L) (d.fin.below f)
 | spent j A C ad U d =>simp only [Ending.returned.injEq,Value.tuple.injEq,Array.mk.injEq,List.cons.injEq,and_true] at z;obtain⟨rfl,rfl⟩:=z;obtain⟨l,m,_⟩:=d.cells;refine .spent (k+1) x8 x8 (.inr ⟨rfl,j,_,rfl⟩) l m (fun j=>RnQ.drew t u y (fun X f=>?_) (fun b o=>d.fw.olt o));obtain⟨Wz,Sz,r,L⟩:=B.go.spent N ad;exact .spent j (k+1) C i (by rw [r]) (by rw [r,U];exact L) (d.fin.below f)
 | pend Fs K A S0 fx ag D R s hl d =>
  simp only [Ending.returned.injEq,Value.tuple.injEq,Array.mk.injEq,List.cons.injEq,and_true] at z;obtain⟨rfl,rfl⟩:=z;obtain⟨l,m,c0⟩:=d.cells;by_cases H:k+1<=c.z
  ·refine .go (k+1) A H rfl (.inl rfl) (PlF.ptr s) l m c0 (fun I=>?_);refine(aMU B N D R (PlF.go (Z I) (Fg.Le.refl _) _ _ s) x8 (d.below (hB I)) x8).mono (fun e w' J=>?_);obtain⟨P,p,rfl⟩:=J.tup;refine⟨P,p,rfl,J.after (t.trans (Z I)) u y (Nat.zero_le _) (Nat.zero_le _) x8,?_⟩;obtain⟨M2,G2,k2,W2,S2,j1,j2,j3,j4,j5,j6,j7,j9,j8⟩:=J;have aj:=j4.le;have hm:muL c .nilIface .nilIface wr=3*(c.T+1-(k+1))+2:=by unfold muL stpL;rw [l];simp [rkL]
   rw [hm];generalize g:aGG P p=E2 at j8 j9
   cases j8 with
   | val v9 _ _ _ _ _ _ _ ae q =>simp only [Ending.returned.injEq,Value.tuple.injEq,Array.mk.injEq,List.cons.injEq,and_true] at g;obtain⟨rfl,rfl⟩:=g;obtain⟨T,x,rfl⟩:=ae.iface;unfold muL;rw [aHV q];show 3*_+1<_;omega
   | err _ _ _ _ _ _ _ _ q =>exact zK8
   | spent _ _ _ _ _ q =>exact zK8
   | pend _ _ _ _ _ _ _ _ _ _ q =>
    have:=j9 rfl;simp only [Ending.returned.injEq,Value.tuple.injEq,Array.mk.injEq,List.cons.injEq,and_true] at g;obtain⟨rfl,rfl⟩:=g;have af:muL c .nilIface .nilIface w'=3*(c.T+1-(k2+1))+2:=by unfold muL stpL;rw [q.cells.1];simp [rkL]
    rw [af];omega
  ·refine .spent (k+1) x8 x8 (.inl ⟨rfl,.inl rfl⟩) l m (fun j=>RnQ.drew t u y (fun X f=>?_) (fun b o=>d.fw.olt o));obtain⟨Wz,Sz,r,L⟩:=B.go.spent N x8;exact .spent j (k+1) W i (by rw [r]) (by rw [r];exact L) (d.fin.below f)
end
end Go.Proofs.YtbgghmjmcapmlaaGreatDoor
