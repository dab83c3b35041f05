import Derived.Test.YtkgbdddkcjpgfaaGreatDoorT06
import Derived.BigRegion
import Derived.Deep.RegionLaw
namespace Go.Proofs.YtkgbdddkcjpgfaaGreatDoor
set_option maxHeartbeats 1000000
set_option maxRecDepth 100000
open Go.Proofs.Tryz
open Pl (PV PW PF CW AE Env)
section
open Go.RowKit
variable {w w3 w2:World} {wb n k:Nat} {lv pv qv cv gv:Value} {qs cs:List Value} {cw:Array Value}
theorem mJ{row:Option Nat}{Tr:TypeId}(b:w.heap[wb]?=some (.cells cw MG (0,0)))(f:Below w.heap.size w w2)(g:w2.grownBy w3 row)(h:∀k,row=some k->∃d,w.heap[k]?=some (.cells d Tr (0,0)))(i:Tr≠MG):w3.heap[wb]?=some (.cells cw MG (0,0)):=by have a:=aB b;rw [g.block wb (l_ a f.size) ?_,f.block wb a,b];intro e;obtain⟨c,j⟩:=h wb e.symm;exact i (aK j b).2
theorem dJ{row:Option Nat}(a:Below w.heap.size w w2)(b:w2.grownBy w3 row)(o:Nat)(v:Value):Chg w (w3.setCell ⟨wb,o,none⟩ v) wb row :=
 ⟨b.os.trans a.os,b.tape.trans a.tape,b.output.trans a.output,by have:=b.size;have:=a.size;simp [World.setCell];omega,fun k c d f=>by
  rw [Below.heap_setCell _ _ _ _ (fun e=>d (by simpa using e)),b.block k (l_ c a.size) f,a.block k c]⟩
theorem fH{T:TypeId}{sz:Nat}{v:Value}{xs:List Value}(f:w.heap[wb]?=some (.cells cw MG (0,0)))(i:T≠MG)(o:Nat)(u:Value)(h:w.ownsRow 0 T sz v n xs):(w.setCell ⟨wb,o,none⟩ u).ownsRow 0 T sz v n xs:=by
 refine⟨h.1,?_⟩;rcases h.2 with j | ⟨g,b,c,rfl,k,d,a⟩
 ·exact .inl j
 ·refine .inr ⟨g,b,c,rfl,k,?_,a⟩;rw [Below.heap_setCell _ _ _ _ ?_,d];intro e;have e:g=wb:=by simpa using e
  subst e;exact i (aK d f).2
theorem dH{α:Type}{l:List α}{x y:α}{i:Nat}(h:(l++[x])[i]?=some y):l[i]?=some y\/(i=l.length/\y=x):=by
 by_cases a:i<l.length
 ·left;rwa [List.getElem?_append_left a] at h
 ·right;rw [List.getElem?_append_right (by omega)] at h;by_cases b:i-l.length=0
  ·rw [b] at h;simp at h;exact⟨by omega,h.symm⟩
  ·rw [List.getElem?_eq_none (by simp;omega)] at h;simp at h
theorem mB{l r:List Value}{i:Nat}(a:l.length=n)(hi:i<n):(l++r)[i]?=l[i]? := List.getElem?_append_left (by omega)
theorem EV.NO{W:PW}(h:EV w wb W pv qv cv lv gv qs cs)(f:Below w.heap.size w w2)(g:w2.grownBy w3 (Value.ownBlock lv))(sl:Value)(x:PV)
  (m:w3.ownsRow 0 TV 3 sl (W.places.length+1) (W.places.flatMap cZ++cZ x)) (d:∀k,sl.ownBlock=some k->lv.ownBlock=some k\/w.heap.size<=k) :
  EV (w3.setCell ⟨wb,3,none⟩ sl) wb {W with places:=W.places++[x]} pv qv cv sl gv qs cs/\Stp (CQ wb [pv,qv,cv,lv,gv]) w (CQ wb [pv,qv,cv,sl,gv]) (w3.setCell ⟨wb,3,none⟩ sl):=by
 have a:=aN h.pl;have b:=mJ h.blk f g a (by decide);have c:=dJ f g (wb:=wb) 3 sl;have j:Stp (CQ wb [pv,qv,cv,lv,gv]) w (CQ wb [pv,qv,cv,sl,gv]) (w3.setCell ⟨wb,3,none⟩ sl) :=c.AQ (fun k n=>.inr ⟨lv,by simp,n⟩) (fJ (v:=lv) (v':=sl) (by simp) (by intro x l;simp only [List.mem_cons,List.not_mem_nil,or_false] at l ⊢;rcases l with rfl | rfl | rfl | rfl | rfl<;>simp) d);refine⟨h.upd j (by rw [aD b];rfl) (aL h.pr c h.blk a (by decide) (by decide)) (aL h.pc c h.blk a (by decide) (by decide)) (aL h.cn c h.blk a (by decide) (by decide)) ?_ (aL h.gl c h.blk a (by decide) (by decide)) h.out (fun i p e=>.inl ⟨e,rfl,rfl⟩) (fun i o e=>.inl ⟨e,rfl⟩),j⟩;have:=fH b (by decide) 3 sl m;simpa using this
theorem EV.MU{W:PW}(h:EV w wb W pv qv cv lv gv qs cs)(f:Below w.heap.size w w2)(g:w2.grownBy w3 (Value.ownBlock gv))(sl:Value)(x:AE×Nat)
  (m:w3.ownsRow 0 TB 2 sl (W.globals.length+1) (W.globals.flatMap iM++iM x)) (d:∀k,sl.ownBlock=some k->gv.ownBlock=some k\/w.heap.size<=k) :
  EV (w3.setCell ⟨wb,4,none⟩ sl) wb {W with globals:=W.globals++[x]} pv qv cv lv sl qs cs/\Stp (CQ wb [pv,qv,cv,lv,gv]) w (CQ wb [pv,qv,cv,lv,sl]) (w3.setCell ⟨wb,4,none⟩ sl):=by
 have a:=aN h.gl;have b:=mJ h.blk f g a (by decide);have c:=dJ f g (wb:=wb) 4 sl;have j:Stp (CQ wb [pv,qv,cv,lv,gv]) w (CQ wb [pv,qv,cv,lv,sl]) (w3.setCell ⟨wb,4,none⟩ sl) :=c.AQ (fun k n=>.inr ⟨gv,by simp,n⟩) (fJ (v:=gv) (v':=sl) (by simp) (by intro x l;simp only [List.mem_cons,List.not_mem_nil,or_false] at l ⊢;rcases l with rfl | rfl | rfl | rfl | rfl<;>simp) d);refine⟨h.upd j (by rw [aD b];rfl) (aL h.pr c h.blk a (by decide) (by decide)) (aL h.pc c h.blk a (by decide) (by decide)) (aL h.cn c h.blk a (by decide) (by decide)) (aL h.pl c h.blk a (by decide) (by decide)) ?_ h.out (fun i p e=>.inl ⟨e,rfl,rfl⟩) (fun i o e=>.inl ⟨e,rfl⟩),j⟩;have:=fH b (by decide) 4 sl m;simpa using this
theorem EV.O4{W:PW}(h:EV w wb W pv qv cv lv gv qs cs)(f:Below w.heap.size w w2)(g:w2.grownBy w3 (Value.ownBlock pv))(sl:Value)(x:PV×PV)
  (m:w3.ownsRow 0 VR 6 sl (W.pairs.length+1) (W.pairs.flatMap mG++mG x)) (d:∀k,sl.ownBlock=some k->pv.ownBlock=some k\/w.heap.size<=k) :
  EV (w3.setCell ⟨wb,0,none⟩ sl) wb {W with pairs:=W.pairs++[x]} sl qv cv lv gv qs cs/\Stp (CQ wb [pv,qv,cv,lv,gv]) w (CQ wb [sl,qv,cv,lv,gv]) (w3.setCell ⟨wb,0,none⟩ sl):=by
 have a:=aN h.pr;have b:=mJ h.blk f g a (by decide);have c:=dJ f g (wb:=wb) 0 sl;have j:Stp (CQ wb [pv,qv,cv,lv,gv]) w (CQ wb [sl,qv,cv,lv,gv]) (w3.setCell ⟨wb,0,none⟩ sl) :=c.AQ (fun k n=>.inr ⟨pv,by simp,n⟩) (fJ (v:=pv) (v':=sl) (by simp) (by intro x l;simp only [List.mem_cons,List.not_mem_nil,or_false] at l ⊢;rcases l with rfl | rfl | rfl | rfl | rfl<;>simp) d);refine⟨h.upd j (by rw [aD b];rfl) ?_ (aL h.pc c h.blk a (by decide) (by decide)) (aL h.cn c h.blk a (by decide) (by decide)) (aL h.pl c h.blk a (by decide) (by decide)) (aL h.gl c h.blk a (by decide) (by decide)) h.out (fun i p e=>.inl ⟨e,rfl,rfl⟩) (fun i o e=>.inl ⟨e,rfl⟩),j⟩;have:=fH b (by decide) 0 sl m;simpa using this
theorem EV.O3{W:PW}(h:EV w wb W pv qv cv lv gv qs cs)(m:Below w.heap.size w w2)(n:w2.grownBy w3 (Value.ownBlock qv))(sl d e:Value)(x:PF×Env)
  (r:w3.ownsRow 0 VQ 2 sl (W.procs.length+1) (qs++[d,e])) (j:∀k,sl.ownBlock=some k->qv.ownBlock=some k\/w.heap.size<=k)
  (s:RF w d x.1) (t:x.1.k=.lambda) (u:DF (CQ wb [pv,qv,cv,lv,gv]) w e x.2) :
  EV (w3.setCell ⟨wb,1,none⟩ sl) wb {W with procs:=W.procs++[x]} pv sl cv lv gv (qs++[d,e]) cs/\Stp (CQ wb [pv,qv,cv,lv,gv]) w (CQ wb [pv,sl,cv,lv,gv]) (w3.setCell ⟨wb,1,none⟩ sl):=by
 have a:=aN h.pc;have b:=mJ h.blk m n a (by decide);have c:=dJ m n (wb:=wb) 1 sl;have f:qs.length=W.procs.length*2:=h.pc.1;have g:Stp (CQ wb [pv,qv,cv,lv,gv]) w (CQ wb [pv,sl,cv,lv,gv]) (w3.setCell ⟨wb,1,none⟩ sl) :=c.AQ (fun k y=>.inr ⟨qv,by simp,y⟩) (fJ (v:=qv) (v':=sl) (by simp) (by intro x o;simp only [List.mem_cons,List.not_mem_nil,or_false] at o ⊢;rcases o with rfl | rfl | rfl | rfl | rfl<;>simp) j);refine⟨h.upd g (by rw [aD b];rfl) (aL h.pr c h.blk a (by decide) (by decide)) ?_ (aL h.cn c h.blk a (by decide) (by decide)) (aL h.pl c h.blk a (by decide) (by decide)) (aL h.gl c h.blk a (by decide) (by decide)) h.out (fun i p l=>?_) (fun i z l=>.inl ⟨l,rfl⟩),g⟩
 ·have:=fH b (by decide) 1 sl r;simpa using this
 ·rcases dH l with q | ⟨rfl,rfl⟩
  ·have:=(s_ q).1;exact .inl ⟨q,mB f (by omega),mB f (by omega)⟩
  ·right;refine⟨d,e,?_,?_,s.keep (g.MD h.X5),t,u.AQ g⟩
   ·rw [List.getElem?_append_right (by omega),f];simp
   ·rw [List.getElem?_append_right (by omega),f];simp [Nat.add_sub_cancel_left]
theorem EV.P1{W:PW}(h:EV w wb W pv qv cv lv gv qs cs)(g:Below w.heap.size w w2)(j:w2.grownBy w3 (Value.ownBlock cv))(sl u:Value)(x:List CW)
  (o:w3.ownsRow 0 RX 1 sl (W.AG.length+1) (cs++[u])) (d:∀k,sl.ownBlock=some k->cv.ownBlock=some k\/w.heap.size<=k)
  (q:DT (CQ wb [pv,qv,cv,lv,gv]) w u x) :
  EV (w3.setCell ⟨wb,2,none⟩ sl) wb {W with AG:=W.AG++[x]} pv qv sl lv gv qs (cs++[u])/\Stp (CQ wb [pv,qv,cv,lv,gv]) w (CQ wb [pv,qv,sl,lv,gv]) (w3.setCell ⟨wb,2,none⟩ sl):=by
 have a:=aN h.cn;have b:=mJ h.blk g j a (by decide);have c:=dJ g j (wb:=wb) 2 sl;have s:cs.length=W.AG.length*1:=h.cn.1;have e:Stp (CQ wb [pv,qv,cv,lv,gv]) w (CQ wb [pv,qv,sl,lv,gv]) (w3.setCell ⟨wb,2,none⟩ sl) :=c.AQ (fun k r=>.inr ⟨cv,by simp,r⟩) (fJ (v:=cv) (v':=sl) (by simp) (by intro x l;simp only [List.mem_cons,List.not_mem_nil,or_false] at l ⊢;rcases l with rfl | rfl | rfl | rfl | rfl<;>simp) d);refine⟨h.upd e (by rw [aD b];rfl) (aL h.pr c h.blk a (by decide) (by decide)) (aL h.pc c h.blk a (by decide) (by decide)) ?_ (aL h.pl c h.blk a (by decide) (by decide)) (aL h.gl c h.blk a (by decide) (by decide)) h.out (fun i p f=>.inl ⟨f,rfl,rfl⟩) (fun i t f=>?_),e⟩
 ·have:=fH b (by decide) 2 sl o;simpa using this
 ·rcases dH f with m | ⟨rfl,rfl⟩
  ·have:=(s_ m).1;exact .inl ⟨m,mB (n:=W.AG.length) (by omega) (by omega)⟩
  ·right;refine⟨u,?_,DT.AQ e h.X5 _ _ q⟩;rw [List.getElem?_append_right (by omega)];simp [show cs.length=W.AG.length from by omega]
theorem bM{b o:Nat}(d:b<w.heap.size):(∀a:Obj,(w.alloc a).cell? ⟨b,o,none⟩=w.cell? ⟨b,o,none⟩)/\(∀a:Obj,(w.alloc a).frozen? ⟨b,o,none⟩=w.frozen? ⟨b,o,none⟩)/\(∀a c:Obj,((w.alloc a).alloc c).cell? ⟨b,o,none⟩=w.cell? ⟨b,o,none⟩)/\(∀a c:Obj,((w.alloc a).alloc c).frozen? ⟨b,o,none⟩=w.frozen? ⟨b,o,none⟩):=by have e:∀a:Obj,Below w.heap.size w (w.alloc a):=fun a=>b_;have f:∀a c:Obj,Below w.heap.size w ((w.alloc a).alloc c):=fun a c=>(e a).alloc (by simp) _;exact⟨fun a=>(e a).cell (p:=⟨b,o,none⟩) d,fun a=>(e a).frozen (p:=⟨b,o,none⟩) d,fun a c=>(f a c).cell (p:=⟨b,o,none⟩) d,fun a c=>(f a c).frozen (p:=⟨b,o,none⟩) d⟩
theorem zN(w:World)(o:Obj)(cs:Array Value)(T:TypeId):((w.alloc o).alloc (.cells cs T)).drew.heap[w.heap.size+1]?=some (.cells cs T (0,0)):=by have:=heap_alloc_new (w.alloc o) (.cells cs T);rw [show(w.alloc o).heap.size=w.heap.size+1 from by simp] at this;exact this
theorem TC(w:World)(cs:Array Value)(T:TypeId):(w.alloc (.cells cs T)).drew.heap[w.heap.size]?=some (.cells cs T (0,0)):=heap_alloc_new w _
theorem jV(w:World)(a b:Obj):Below w.heap.size w ((w.alloc a).alloc b).drew:=(b_.alloc (by simp) _).drew
theorem cM(w:World)(a:Obj):Below w.heap.size w (w.alloc a).drew:=b_.drew
theorem fD{row:Option Nat}{Tr:TypeId}(d:w.heap[wb]?=some (.cells cw MG (0,0)))(e:Below w.heap.size w w2)(f:w2.grownBy w3 row)(g:∀k,row=some k->∃a,w.heap[k]?=some (.cells a Tr (0,0)))(h:Tr≠MG)(o:Nat)(v:Value)(c:cw[o]?=some v) :w3.cell? ⟨wb,o,none⟩=some v/\w3.frozen? ⟨wb,o,none⟩=false/\∀u:Value,(w3.setCell ⟨wb,o,none⟩ u).cell? ⟨wb,o,none⟩=some u:=by have b:=mJ d e f g h;refine⟨(aA b o).trans c,aF b o,fun u=>?_⟩;rw [aA (aD b o u) o];have:=(Array.getElem?_eq_some_iff.1 c).1;simp [this]
theorem tH{g H cap N:Nat}(h:Value.ownBlock lv=some g\/g=H)(b:N<=H):∀k,Value.ownBlock (.slice (some ⟨g,0,none⟩) n cap)=some k->lv.ownBlock=some k\/N<=k:=by intro k a;simp only [Value.ownBlock,o_] at a;subst a;exact h.imp id (fun e=>by omega)
theorem uB(w:World)(wb:Nat)(M:Nat->Prop)(W:PW)(x:PV)(h:RW w wb M W)(y:W.places.length<=1000000000) :Calls prog 125 #[.pointer (some ⟨wb,0,none⟩),bT x] w fun e m=>e=.returned (.int .i64 (W.places.length:Int))/\∃n,RW m wb n {W with places:=W.places++[x]}/\Stp M w n m:=by
 obtain⟨s,f,g,i,j⟩:=info_parts Tryz.TU;obtain⟨z,A,B,k,C,D,E,rfl,h⟩:=h;have H:=h_ h;have l:=aB h.blk;have F:w.cell? ⟨wb,3,none⟩=some k:=aA h.blk 3;obtain⟨G,I,J,K⟩:=bM (o:=3) l;clear h;unfold bT AM;go_enter func125,ntmps125;go_wp2_with fail
 go_region_law ((refine step_append_lies _ (by rfl) _ _ _ (by rfl) 0 154 s _ 3 40 underlying93 f g i j rfl (by omega) k W.places.length (W.places.flatMap cZ) (by rfl) (((H.pl.alloc _).alloc _).drew) ⟨w.heap.size+1,0,none⟩ 1 1 (cZ x) (by rfl) (by rfl) (World.news_of_block (cs:=#[AM (vK x),.int .i64 (vN x),AM (vS x)]) (t:=154) (fr:=(0,0)) (zN w _ _ _)) (by simp [Value.oneCell',cZ,AM]) (by omega) (by unfold maxLen;omega) (by omega) (by simp) (w.heap.size+2) (by simp) ?_;intro L p N b a c d;obtain⟨O,P,Q⟩:=fD H.blk (jV w _ _) a (aN H.pl) (by decide) 3 k rfl))
 all_goals
  obtain⟨q,r⟩:=H.NO (jV w _ _) a _ x b (tH c (by omega));have u:=h_ q;have v:=h_ r;clear q r b a c d H;go_wp2_with fail;go_ret;exact⟨by go_num,_,⟨_,_,_,_,_,_,_,rfl,u⟩,v⟩
theorem EV.after{X w':World}{W W':PW}{pv' qv' cv' lv' gv':Value}(h:EV w wb W pv qv cv lv gv qs cs)(a:EV X wb W' pv' qv' cv' lv' gv' qs cs)(c:Stp (CQ wb [pv,qv,cv,lv,gv]) w (CQ wb [pv',qv',cv',lv',gv']) X)
  (z:W'.procs=W.procs) (A:W'.AG=W.AG) {R:Nat} (b:X.grownBy w' (some R)) (F:w.heap.size<=R) (x:¬CQ wb [pv',qv',cv',lv',gv'] R):EV w' wb W' pv' qv' cv' lv' gv' qs cs/\Stp (CQ wb [pv,qv,cv,lv,gv]) w (CQ wb [pv',qv',cv',lv',gv']) w':=by
 have d:Stp (CQ wb [pv,qv,cv,lv,gv]) w (CQ wb [pv',qv',cv',lv',gv']) w' :=
  ⟨b.os.trans c.os,b.tape.trans c.tape,b.output.trans c.output,t_ c.size b.size,fun k y m=>by
   obtain⟨B,C⟩:=c.block k y m
   exact⟨(b.block k (l_ y c.size) (by simp;omega)).trans B,C⟩⟩
 have f:∀{T:TypeId} {o:Nat} {v:Value} {n:Nat} {q:List Value},v∈[pv',qv',cv',lv',gv']->X.ownsRow 0 T o v n q->w'.ownsRow 0 T o v n q:=by
  intro T o v n q D h;refine⟨h.1,?_⟩;rcases h.2 with m | ⟨g,r,s,rfl,E,j,l⟩
  ·exact .inl m
  ·refine .inr ⟨g,r,s,rfl,E,(b.block g (aB j) ?_).trans j,l⟩;intro e;have e:g=R:=by simpa using e
   subst e;exact x (.inr ⟨_,D,rfl⟩)
 have t:wb≠R:=fun e=>x (.inl e.symm);refine⟨h.upd d ((b.block wb (aB a.blk) (by simpa using t)).trans a.blk) (f (by simp) a.pr) (f (by simp) a.pc) (f (by simp) a.cn) (f (by simp) a.pl) (f (by simp) a.gl) a.out (fun i p u=>.inl ⟨by rw [<- z];exact u,rfl,rfl⟩) (fun i G u=>.inl ⟨by rw [<- A];exact u,rfl⟩),d⟩
theorem jU(w:World)(a b c d:Obj):Below w.heap.size w ((((w.alloc a).alloc b).alloc c).alloc d).drew:=(((b_.alloc (by simp) _).alloc (by simp;omega) _).alloc (by simp;omega) _).drew
theorem B_(w:World)(a b c:Obj)(cs:Array Value)(T:TypeId):((((w.alloc a).alloc b).alloc c).alloc (.cells cs T)).drew.heap[w.heap.size+3]?=some (.cells cs T (0,0)):=by have:=heap_alloc_new (((w.alloc a).alloc b).alloc c) (.cells cs T);rw [show(((w.alloc a).alloc b).alloc c).heap.size=w.heap.size+3 from by simp] at this;exact this
theorem YW{b o:Nat}(e:b<w.heap.size)(a c d f:Obj):(((w.alloc a).alloc c).alloc d).cell? ⟨b,o,none⟩=w.cell? ⟨b,o,none⟩/\((((w.alloc a).alloc c).alloc d).alloc f).cell? ⟨b,o,none⟩=w.cell? ⟨b,o,none⟩/\((((w.alloc a).alloc c).alloc d).alloc f).frozen? ⟨b,o,none⟩=w.frozen? ⟨b,o,none⟩:=by have g:Below w.heap.size w (((w.alloc a).alloc c).alloc d):=(b_.alloc (by simp) _).alloc (by simp;omega) _;have h:=g.alloc (by simp;omega) f;exact⟨g.cell (p:=⟨b,o,none⟩) e,h.cell (p:=⟨b,o,none⟩) e,h.frozen (p:=⟨b,o,none⟩) e⟩
theorem aO{c:Func}{p:Tmp}{ty:TypeId}(h:c.results=#[.cell p ty])(b:Array Value)(P:Program)(w:World) :(results c b).run P w=((asAddr (b.getD p undef)).run P w).andThen fun a d=>(loadVar ty a).run P d:=by simp only [results,h];simp [Sem.run_bind]
theorem new3(w:World)(a b:Obj)(cs:Array Value)(T:TypeId)(c:Obj):((((w.alloc a).alloc b).alloc (.cells cs T)).alloc c).drew.heap[w.heap.size+2]?=some (.cells cs T (0,0)):=by have:=heap_alloc_new ((w.alloc a).alloc b) (.cells cs T);rw [show((w.alloc a).alloc b).heap.size=w.heap.size+2 from by simp] at this;show((((w.alloc a).alloc b).alloc (.cells cs T)).alloc c).heap[w.heap.size+2]?=_;rw [k_ (aB this),this]
theorem wO{row:Option Nat}{o:Obj}(b:w2.grownBy w3 row)(a:w2.heap[k]?=some o)(c:row=some k->False):w3.heap[k]?=some o:=(b.block k (aB a) (fun e=>c e.symm)).trans a
theorem tV{o:Obj}(b:w3.heap[k]?=some o)(a:k≠wb)(i:Nat)(v:Value):(w3.setCell ⟨wb,i,none⟩ v).heap[k]?=some o:=by rw [Below.heap_setCell _ _ _ _ (fun e=>a (by simpa using e)),b]
theorem jM{W:PW}(h:EV w wb W pv qv cv lv gv qs cs){l:List Value}{sl:Value}(c:∀x∈l,x∈[pv,qv,cv,lv,gv]\/x=sl){R:Nat}(j:w.heap.size<=R)(d:sl.ownBlock≠some R):¬CQ wb l R:=by
 have a:∀k,CQ wb [pv,qv,cv,lv,gv] k->k<w.heap.size:=fun k f=>RW.lt ⟨_,_,_,_,_,_,_,rfl,h⟩ f;rintro(e | ⟨x,g,b⟩)
 ·have:=aB h.blk;omega
 ·rcases c x g with i | rfl
  ·have:=a R (.inr ⟨x,i,b⟩);omega
  ·exact d b
theorem FA{X:World}{R:Nat}{c0 c1 c2:Value}{T:TypeId}(h:X.heap[R]?=some (.cells #[c0,c1,c2] T (0,0))):X.cell? ⟨R,0,none⟩=some c0/\X.cell? ⟨R,1,none⟩=some c1/\X.cell? ⟨R,2,none⟩=some c2/\X.frozen? ⟨R,0,none⟩=false/\X.frozen? ⟨R,1,none⟩=false/\X.frozen? ⟨R,2,none⟩=false /\
  (∀a:Value,(X.setCell ⟨R,0,none⟩ a).cell? ⟨R,1,none⟩=some c1/\(X.setCell ⟨R,0,none⟩ a).frozen? ⟨R,1,none⟩=false) /\
  (∀a b:Value,((X.setCell ⟨R,0,none⟩ a).setCell ⟨R,1,none⟩ b).cell? ⟨R,2,none⟩=some c2/\((X.setCell ⟨R,0,none⟩ a).setCell ⟨R,1,none⟩ b).frozen? ⟨R,2,none⟩=false) /\
  (∀a b c:Value,(((X.setCell ⟨R,0,none⟩ a).setCell ⟨R,1,none⟩ b).setCell ⟨R,2,none⟩ c).cell? ⟨R,0,none⟩=some a/\(((X.setCell ⟨R,0,none⟩ a).setCell ⟨R,1,none⟩ b).setCell ⟨R,2,none⟩ c).cell? ⟨R,1,none⟩=some b/\(((X.setCell ⟨R,0,none⟩ a).setCell ⟨R,1,none⟩ b).setCell ⟨R,2,none⟩ c).cell? ⟨R,2,none⟩=some c):=by
 refine⟨aA h 0,aA h 1,aA h 2,aF h 0,aF h 1,aF h 2,fun a=>⟨?_,?_⟩,fun a b=>⟨?_,?_⟩,fun a b c=>⟨?_,?_,?_⟩⟩
 ·exact aA (aD h 0 a) 1
 ·exact aF (aD h 0 a) 1
 ·exact aA (aD (aD h 0 a) 1 b) 2
 ·exact aF (aD (aD h 0 a) 1 b) 2
 ·exact aA (aD (aD (aD h 0 a) 1 b) 2 c) 0
 ·exact aA (aD (aD (aD h 0 a) 1 b) 2 c) 1
 ·exact aA (aD (aD (aD h 0 a) 1 b) 2 c) 2
theorem e6(X:World)(R:Nat)(a b c:Value):X.grownBy (((X.setCell ⟨R,0,none⟩ a).setCell ⟨R,1,none⟩ b).setCell ⟨R,2,none⟩ c) (some R):=aC (aC (aE _ _ _ _) (aE _ _ _ _)) (aE _ _ _ _)
theorem n6(l:List PV)(k:Nat)(x:PV)(a:k<l.length):(l.set k x).flatMap cZ=(((l.flatMap cZ).set (k*3) (AM (vK x))).set (k*3+1) (.int .i64 (vN x))).set (k*3+2) (AM (vS x)):=by
 induction l generalizing k with
 | nil=>simp at a
 | cons y l b =>
  cases k with
  | zero=>simp [cZ]
  | succ k =>have:=b k (by simpa using a);simp only [List.set_cons_succ,List.flatMap_cons,this];simp only [cZ,List.cons_append,List.nil_append];rw [show(k+1)*3=k*3+3 from by omega];simp [List.set_cons_succ,show k*3+3+1=k*3+1+3 from by omega,show k*3+3+2=k*3+2+3 from by omega]
theorem take_set{α:Type}(l:List α)(n i:Nat)(a:α):(l.set i a).take n=(l.take n).set i a:=by rw [List.take_set]
def gN(X:World)(g o:Nat)(x:PV):World:=((X.setCell ⟨g,o,none⟩ (AM (vK x))).setCell ⟨g,o+1,none⟩ (.int .i64 (vN x))).setCell ⟨g,o+2,none⟩ (AM (vS x))
theorem EV.K0{W:PW}(h:EV w wb W pv qv cv lv gv qs cs)(g b:Nat)(y:lv=.slice (some ⟨g,0,none⟩) W.places.length b)(k:Nat)(m:k<W.places.length)(x:PV) :EV (gN w g (k*3) x) wb {W with places:=W.places.set k x} pv qv cv lv gv qs cs/\Stp (CQ wb [pv,qv,cv,lv,gv]) w (CQ wb [pv,qv,cv,lv,gv]) (gN w g (k*3) x):=by
 subst y;have z:=aN h.pl;have n:=h.pl;obtain⟨l,n⟩:=n;rcases n with⟨e,_⟩ | ⟨F,t,f,e,_,u,A,B,o,q⟩
 ·simp at e
 ·simp only [Value.slice.injEq,o_,Addr.mk.injEq,and_true] at e;obtain⟨rfl,_,rfl⟩:=e;have C:(gN w g (k*3) x).heap[g]?=some (.cells (((f.setIfInBounds (k*3) (AM (vK x))).setIfInBounds (k*3+1) (.int .i64 (vN x))).setIfInBounds (k*3+2) (AM (vS x))) TV (0,0)) :=aD (aD (aD u _ _) _ _) _ _;have a:w.grownBy (gN w g (k*3) x) (some g):=aC (aC (aE _ _ _ _) (aE _ _ _ _)) (aE _ _ _ _);have c:Chg w (gN w g (k*3) x) wb (some g):=⟨a.os,a.tape,a.output,a.size,fun k m _ D=>a.block k m D⟩
  have d:∀j,some g=some j->∃f,w.heap[j]?=some (.cells f TV (0,0)):=fun j e=>z j e;have v:Stp (CQ wb [pv,qv,cv,.slice (some ⟨g,0,none⟩) W.places.length b,gv]) w (CQ wb [pv,qv,cv,.slice (some ⟨g,0,none⟩) W.places.length b,gv]) (gN w g (k*3) x) :=c.AQ (fun j E=>.inr ⟨.slice (some ⟨g,0,none⟩) W.places.length b,by simp,E⟩) (fun _ _ h=>h);have r:wb≠g:=fun e=>by subst e;exact absurd (aK u h.blk).2 (by decide)
  refine⟨h.upd v ((a.block wb (aB h.blk) (by simpa using r)).trans h.blk) (aL h.pr c h.blk d (by decide) (by decide)) (aL h.pc c h.blk d (by decide) (by decide)) (aL h.cn c h.blk d (by decide) (by decide)) ?_ (aL h.gl c h.blk d (by decide) (by decide)) h.out (fun i p s=>.inl ⟨s,rfl,rfl⟩) (fun i G s=>.inl ⟨s,rfl⟩),v⟩;refine⟨by rw [List.length_set,n6 _ _ _ m];simpa using l,.inr ⟨g,b,_,by rw [List.length_set],Nat.zero_le _,C,by rw [List.length_set];exact A,B,by simpa using o,?_⟩⟩;rw [List.length_set,n6 _ _ _ m,<-q];simp only [Array.toList_setIfInBounds];rw [take_set,take_set,take_set]
theorem H9(l:Env)(s:AE)(k:Nat)(h:Pl.find l s=some k):∃b∈l,b.2=k:=by
 induction l with
 | nil=>simp [Pl.find] at h
 | cons b l d =>
  unfold Pl.find at h
  cases a:Pl.find l s with
  | some j =>rw [a] at h;obtain⟨c,f,e⟩:=d (by rw [a];exact h);exact⟨c,List.mem_cons_of_mem _ f,e⟩
  | none =>
   rw [a] at h;dsimp only at h;split at h
   ·exact⟨b,List.mem_cons_self,i_ h⟩
   ·simp at h
theorem S3{W:PW}(h:EV w wb W pv qv cv lv gv qs cs)(f:k<W.places.length):∃g b,lv=.slice (some ⟨g,0,none⟩) W.places.length b/\W.places.length<=b/\g<w.heap.size/\g≠wb/\∃x,W.places[k]?=some x/\w.cell? ⟨g,k*3,none⟩=some (AM (vK x))/\w.cell? ⟨g,k*3+1,none⟩=some (.int .i64 (vN x))/\w.cell? ⟨g,k*3+2,none⟩=some (AM (vS x))/\∀o,w.frozen? ⟨g,o,none⟩=false:=by
 rcases h.pl.2 with⟨_,l⟩ | ⟨g,b,i,e,_,d,j,_⟩
 ·omega
 ·have c:W.places[k]?=some (W.places[k]):=g_ f;have a:=h.pl.cells (g:=g) (by rw [e];rfl);refine⟨g,b,e,j,aB d,fun e=>by subst e;exact absurd (aK d h.blk).2 (by decide),_,c,?_,?_,?_,fun o=>aF d o⟩
  ·have:=a (k*3) _ (aX cZ 3 (fun _=>rfl) _ _ 0 _ c (by decide));rwa [Addr.add_lit,Nat.zero_add] at this
  ·have:=a (k*3+1) _ (aX cZ 3 (fun _=>rfl) _ _ 1 _ c (by decide));rwa [Addr.add_lit,Nat.zero_add] at this
  ·have:=a (k*3+2) _ (aX cZ 3 (fun _=>rfl) _ _ 2 _ c (by decide));rwa [Addr.add_lit,Nat.zero_add] at this
theorem UF{W:PW}(h:EV w wb W pv qv cv lv gv qs cs):DF (fun _=>False) w gv W.globals:=gT h.gl
theorem qH(w:World)(wb:Nat)(M d:Nat->Prop)(W:PW)(f:Value)(env:Env)(s:AE)(h:RW w wb M W)(g:DF d w f env)(m:env.length<=1000000000000)(n:W.globals.length<=1000000000000) :Calls prog 89 #[.pointer (some ⟨wb,0,none⟩),f,.string ⟨s.toArray⟩] w fun e b=>e=.returned (.int .i64 (fW (Pl.DL W env s)))/\w=b:=by
 obtain⟨o,p,q,r,i,t,u,rfl,h⟩:=h;have H:=h_ h;have v:w.cell? ⟨wb,4,none⟩=some i:=aA h.blk 4;have j:=h_ g;clear h g;go_enter func89,ntmps89;go_wp2_with fail;refine(lM d _ _ env s j (by omega)).mono ?_;rintro e b ⟨rfl,rfl⟩
 cases a:Pl.find env s with
 | some k =>
  have c:Hid (Pl.DL W env s=some k):=by simp [Hid,Pl.DL,a]
  have l:(0:Int)<=(k:Int):=by omega
  simp only [d6];clear a;go_wp2_with fail;go_ret;exact⟨by rw [c.out];rfl,rfl⟩
 | none =>
  have c:Hid (Pl.DL W env s=Pl.find W.globals s):=by simp [Hid,Pl.DL,a]
  simp only [show fW none=(-1:Int) from rfl];clear a;go_wp2_with fail;refine(lM _ _ _ W.globals s (UF H) (by omega)).mono ?_;rintro e b ⟨rfl,rfl⟩;go_wp2_with fail;go_ret;exact⟨by rw [c.out];rfl,rfl⟩
theorem qI(w:World)(wb:Nat)(M:Nat->Prop)(W:PW)(s:AE)(x:PV)(h:RW w wb M W)(U:LG W W.globals)(V:W.places.length<=1000000000)(h2:W.globals.length<=1000000000) :Calls prog 77 #[.pointer (some ⟨wb,0,none⟩),.string ⟨s.toArray⟩,bT x] w fun e z=>e=.returned (.tuple #[])/\∃K,RW z wb K (Pl.bind W s x)/\Stp M w K z:=by
 obtain⟨X,A,B,C,D⟩:=info_parts Tryz.G_;obtain⟨Y,Z,cv,L,N,qs,cs,rfl,h⟩:=h;have l:=aB h.blk;have c4:w.cell? ⟨wb,4,none⟩=some N:=aA h.blk 4;have c3:w.cell? ⟨wb,3,none⟩=some L:=aA h.blk 3;obtain⟨a1,_,_,_⟩:=bM (o:=4) l;obtain⟨b1,_,_,_⟩:=bM (o:=3) l;have H:=h_ h;clear h;have m:∀o:Obj,Below w.heap.size w (w.alloc o):=fun o=>b_;have E:=h_ m;have O:Hid (∀o:Obj,EV (w.alloc o) wb W Y Z cv L N qs cs):=fun o=>H.later (fun k n=>(E o).block k n) (Stp.AA (E o));clear m;unfold bT AM;go_enter func77,ntmps77;go_wp2_with fail;refine(lM _ _ _ W.globals s (UF (O _)) (by omega)).mono ?_;rintro e z ⟨rfl,rfl⟩
 cases p:Pl.find W.globals s with
 | some k =>
  have F:Hid (Pl.bind W s x={W with places:=W.places.set k x}):=by simp [Hid,Pl.bind,p]
  obtain⟨b,P,rfl⟩:=H9 _ _ _ p;have n:=U b P;simp only [d6];obtain⟨g,G,rfl,Q,i,aa,y,hy,d0,d1,d2,d3⟩:=S3 H n;have HK:=h_ n;have ab:((b.2:Nat):Int)<(W.places.length:Int):=by omega
  obtain⟨e0,g0,_,_⟩:=bM (o:=b.2*3) i;obtain⟨e1,g1,_,_⟩:=bM (o:=b.2*3+1) i;obtain⟨e2,g2,_,_⟩:=bM (o:=b.2*3+2) i;clear p P n hy;go_wp2_with fail
  go_region
  all_goals
   go_wp2_with fail
   (try simp only [Exit.inBlock,Exit.then])
   refine bodyPost_ret (results_none rfl _ _ _) rfl ?_;rw [F.out];obtain⟨z1,z2⟩:=H.K0 g G rfl b.2 HK x;have R:=cM (gN w g (b.2*3) x) (.cells #[AM (vK x),.int .i64 (vN x),AM (vS x)] 154);exact⟨rfl,_,RW.later ⟨_,_,_,_,_,_,_,rfl,z1⟩ R,z2.trans (Stp.AA R)⟩
 | none =>
  have F:Hid (Pl.bind W s x={W with places:=W.places++[x],globals:=W.globals++[(s,W.places.length)]}):=by simp [Hid,Pl.bind,p]
  simp only [show fW none=(-1:Int) from rfl];clear p;go_wp2_with fail;refine(uB _ wb _ W x ⟨_,_,_,_,_,_,_,rfl,O _⟩ V).mono ?_;rintro e q ⟨rfl,M1,⟨ac,ad,ae,af,c,ag,ah,rfl,d⟩,r⟩;have I:q.cell? ⟨wb,4,none⟩=some c:=aA d.blk 4;have u:=aB d.blk;have f:=h_ d;have J:=(show Hid _ from(Stp.AA (E _)).trans r)
  clear d r c3 c4 a1 b1;have f4:∀o:Obj,(q.alloc o).cell? ⟨wb,4,none⟩=some c:=fun o=>((bM (o:=4) u).1 o).trans I;go_wp2_with (first | (at_builtin;refine wpList_append_lies _ rfl _ _ 94 rfl 0 249 X _ 2 24 underlying94 A B C D rfl (by decide) c W.globals.length (W.globals.flatMap iM) rfl (f.gl.alloc _) ⟨q.heap.size,0,none⟩ 1 1 (iM (s,W.places.length)) rfl rfl (World.news_of_block (cs:=#[AM s,.int .i64 (W.places.length:Nat)]) (t:=249) (fr:=(0,0)) (heap_alloc_new q _)) (by simp [Value.oneCell',iM,AM]) (by decide) (by unfold maxLen;omega) (by omega) (by simp) (q.heap.size+1) (by simp) ?_;intro g3 S w3 j a v T;obtain⟨k1,k2,k3⟩:=fD f.blk b_ a (aN f.gl) (by decide) 4 c rfl));obtain⟨q1,q2⟩:=f.MU b_ a _ (s,W.places.length) j (tH v (by omega))
  go_end0
  rw [F.out];exact⟨rfl,_,⟨_,_,_,_,_,_,_,rfl,q1⟩,J.trans q2⟩
end
end Go.Proofs.YtkgbdddkcjpgfaaGreatDoor
