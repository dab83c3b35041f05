import Derived.Test.YtkgbdddkcjpgfaaGreatDoorS05
import Derived.BigRegion
import Derived.Deep.RegionLaw
namespace Go.Proofs.YtkgbdddkcjpgfaaGreatDoor
set_option maxHeartbeats 1000000
set_option maxRecDepth 100000
open Go.Proofs.Tryz
open Pl (PV PW PF PFr Byt Env)
section
open Go.RowKit
variable {w w3 w2:World} {wb n k:Nat} {lv pv qv cv gv:Value} {qs cs:List Value} {cw:Array Value}
theorem mJ{row:Option Nat}{Tr:TypeId}(hw:w.heap[wb]?=some (.cells cw TWd (0,0)))(hB:Below w.heap.size w w2)(hg:w2.grownBy w3 row)(hr:∀k,row=some k->∃cur,w.heap[k]?=some (.cells cur Tr (0,0)))(ht:Tr≠TWd):w3.heap[wb]?=some (.cells cw TWd (0,0)):=by have hlt:=aB hw;rw [hg.block wb (Nat.lt_of_lt_of_le hlt hB.size) ?_,hB.block wb hlt,hw];intro e;obtain⟨c,hc⟩:=hr wb e.symm;exact ht (aK hc hw).2
theorem dJ{row:Option Nat}(hB:Below w.heap.size w w2)(hg:w2.grownBy w3 row)(o:Nat)(v:Value):Chg w (w3.setCell ⟨wb,o,none⟩ v) wb row :=
 ⟨hg.os.trans hB.os,hg.tape.trans hB.tape,hg.output.trans hB.output,by have:=hg.size;have:=hB.size;simp [World.setCell];omega,fun k hk h1 h2=>by
  rw [Below.heap_setCell _ _ _ _ (fun e=>h1 (by simpa using e)),hg.block k (Nat.lt_of_lt_of_le hk hB.size) h2,hB.block k hk]⟩
theorem fH{T:TypeId}{sz:Nat}{v:Value}{xs:List Value}(hw:w.heap[wb]?=some (.cells cw TWd (0,0)))(ht:T≠TWd)(o:Nat)(u:Value)(h:w.ownsRow 0 T sz v n xs):(w.setCell ⟨wb,o,none⟩ u).ownsRow 0 T sz v n xs:=by
 refine⟨h.1,?_⟩;rcases h.2 with hn | ⟨g,cap,cur,rfl,hb,hg,rest⟩
 ·exact .inl hn
 ·refine .inr ⟨g,cap,cur,rfl,hb,?_,rest⟩;rw [Below.heap_setCell _ _ _ _ ?_,hg];intro e;have e:g=wb:=by simpa using e
  subst e;exact ht (aK hg hw).2
theorem dH{α:Type}{l:List α}{x y:α}{i:Nat}(h:(l++[x])[i]?=some y):l[i]?=some y\/(i=l.length/\y=x):=by
 by_cases hi:i<l.length
 ·left;rwa [List.getElem?_append_left hi] at h
 ·right;rw [List.getElem?_append_right (by omega)] at h;by_cases h0:i-l.length=0
  ·rw [h0] at h;simp at h;exact⟨by omega,h.symm⟩
  ·rw [List.getElem?_eq_none (by simp;omega)] at h;simp at h
theorem mB{l r:List Value}{i:Nat}(hl:l.length=n)(hi:i<n):(l++r)[i]?=l[i]? := List.getElem?_append_left (by omega)
theorem RWs.places_push{W:PW}(h:RWs w wb W pv qv cv lv gv qs cs)(hB:Below w.heap.size w w2)(hg:w2.grownBy w3 (Value.ownBlock lv))(sl:Value)(x:PV)
  (ho:w3.ownsRow 0 TV 3 sl (W.places.length+1) (W.places.flatMap cZ++cZ x)) (hat:∀k,sl.ownBlock=some k->lv.ownBlock=some k\/w.heap.size<=k) :
  RWs (w3.setCell ⟨wb,3,none⟩ sl) wb {W with places:=W.places++[x]} pv qv cv sl gv qs cs/\Stp (Mof wb [pv,qv,cv,lv,gv]) w (Mof wb [pv,qv,cv,sl,gv]) (w3.setCell ⟨wb,3,none⟩ sl):=by
 have ht:=aN h.pl;have hw3:=mJ h.blk hB hg ht (by decide);have hc:=dJ hB hg (wb:=wb) 3 sl;have hs:Stp (Mof wb [pv,qv,cv,lv,gv]) w (Mof wb [pv,qv,cv,sl,gv]) (w3.setCell ⟨wb,3,none⟩ sl) :=hc.stp (fun k hk=>.inr ⟨lv,by simp,hk⟩) (fJ (v:=lv) (v':=sl) (by simp) (by intro x hx;simp only [List.mem_cons,List.not_mem_nil,or_false] at hx ⊢;rcases hx with rfl | rfl | rfl | rfl | rfl<;>simp) hat);refine⟨h.upd hs (by rw [aD hw3];rfl) (aL h.pr hc h.blk ht (by decide) (by decide)) (aL h.pc hc h.blk ht (by decide) (by decide)) (aL h.cn hc h.blk ht (by decide) (by decide)) ?_ (aL h.gl hc h.blk ht (by decide) (by decide)) h.out (fun i p hi=>.inl ⟨hi,rfl,rfl⟩) (fun i fs hi=>.inl ⟨hi,rfl⟩),hs⟩;have:=fH hw3 (by decide) 3 sl ho;simpa using this
theorem RWs.globals_push{W:PW}(h:RWs w wb W pv qv cv lv gv qs cs)(hB:Below w.heap.size w w2)(hg:w2.grownBy w3 (Value.ownBlock gv))(sl:Value)(x:Byt×Nat)
  (ho:w3.ownsRow 0 TB 2 sl (W.globals.length+1) (W.globals.flatMap iM++iM x)) (hat:∀k,sl.ownBlock=some k->gv.ownBlock=some k\/w.heap.size<=k) :
  RWs (w3.setCell ⟨wb,4,none⟩ sl) wb {W with globals:=W.globals++[x]} pv qv cv lv sl qs cs/\Stp (Mof wb [pv,qv,cv,lv,gv]) w (Mof wb [pv,qv,cv,lv,sl]) (w3.setCell ⟨wb,4,none⟩ sl):=by
 have ht:=aN h.gl;have hw3:=mJ h.blk hB hg ht (by decide);have hc:=dJ hB hg (wb:=wb) 4 sl;have hs:Stp (Mof wb [pv,qv,cv,lv,gv]) w (Mof wb [pv,qv,cv,lv,sl]) (w3.setCell ⟨wb,4,none⟩ sl) :=hc.stp (fun k hk=>.inr ⟨gv,by simp,hk⟩) (fJ (v:=gv) (v':=sl) (by simp) (by intro x hx;simp only [List.mem_cons,List.not_mem_nil,or_false] at hx ⊢;rcases hx with rfl | rfl | rfl | rfl | rfl<;>simp) hat);refine⟨h.upd hs (by rw [aD hw3];rfl) (aL h.pr hc h.blk ht (by decide) (by decide)) (aL h.pc hc h.blk ht (by decide) (by decide)) (aL h.cn hc h.blk ht (by decide) (by decide)) (aL h.pl hc h.blk ht (by decide) (by decide)) ?_ h.out (fun i p hi=>.inl ⟨hi,rfl,rfl⟩) (fun i fs hi=>.inl ⟨hi,rfl⟩),hs⟩;have:=fH hw3 (by decide) 4 sl ho;simpa using this
theorem RWs.pairs_push{W:PW}(h:RWs w wb W pv qv cv lv gv qs cs)(hB:Below w.heap.size w w2)(hg:w2.grownBy w3 (Value.ownBlock pv))(sl:Value)(x:PV×PV)
  (ho:w3.ownsRow 0 TPa 6 sl (W.pairs.length+1) (W.pairs.flatMap mG++mG x)) (hat:∀k,sl.ownBlock=some k->pv.ownBlock=some k\/w.heap.size<=k) :
  RWs (w3.setCell ⟨wb,0,none⟩ sl) wb {W with pairs:=W.pairs++[x]} sl qv cv lv gv qs cs/\Stp (Mof wb [pv,qv,cv,lv,gv]) w (Mof wb [sl,qv,cv,lv,gv]) (w3.setCell ⟨wb,0,none⟩ sl):=by
 have ht:=aN h.pr;have hw3:=mJ h.blk hB hg ht (by decide);have hc:=dJ hB hg (wb:=wb) 0 sl;have hs:Stp (Mof wb [pv,qv,cv,lv,gv]) w (Mof wb [sl,qv,cv,lv,gv]) (w3.setCell ⟨wb,0,none⟩ sl) :=hc.stp (fun k hk=>.inr ⟨pv,by simp,hk⟩) (fJ (v:=pv) (v':=sl) (by simp) (by intro x hx;simp only [List.mem_cons,List.not_mem_nil,or_false] at hx ⊢;rcases hx with rfl | rfl | rfl | rfl | rfl<;>simp) hat);refine⟨h.upd hs (by rw [aD hw3];rfl) ?_ (aL h.pc hc h.blk ht (by decide) (by decide)) (aL h.cn hc h.blk ht (by decide) (by decide)) (aL h.pl hc h.blk ht (by decide) (by decide)) (aL h.gl hc h.blk ht (by decide) (by decide)) h.out (fun i p hi=>.inl ⟨hi,rfl,rfl⟩) (fun i fs hi=>.inl ⟨hi,rfl⟩),hs⟩;have:=fH hw3 (by decide) 0 sl ho;simpa using this
theorem RWs.procs_push{W:PW}(h:RWs w wb W pv qv cv lv gv qs cs)(hB:Below w.heap.size w w2)(hg:w2.grownBy w3 (Value.ownBlock qv))(sl fv ev:Value)(x:PF×Env)
  (ho:w3.ownsRow 0 TPc 2 sl (W.procs.length+1) (qs++[fv,ev])) (hat:∀k,sl.ownBlock=some k->qv.ownBlock=some k\/w.heap.size<=k)
  (h1:RF w fv x.1) (h2:x.1.k=.lambda) (h3:EnvAt (Mof wb [pv,qv,cv,lv,gv]) w ev x.2) :
  RWs (w3.setCell ⟨wb,1,none⟩ sl) wb {W with procs:=W.procs++[x]} pv sl cv lv gv (qs++[fv,ev]) cs/\Stp (Mof wb [pv,qv,cv,lv,gv]) w (Mof wb [pv,sl,cv,lv,gv]) (w3.setCell ⟨wb,1,none⟩ sl):=by
 have ht:=aN h.pc;have hw3:=mJ h.blk hB hg ht (by decide);have hc:=dJ hB hg (wb:=wb) 1 sl;have hl:qs.length=W.procs.length*2:=h.pc.1;have hs:Stp (Mof wb [pv,qv,cv,lv,gv]) w (Mof wb [pv,sl,cv,lv,gv]) (w3.setCell ⟨wb,1,none⟩ sl) :=hc.stp (fun k hk=>.inr ⟨qv,by simp,hk⟩) (fJ (v:=qv) (v':=sl) (by simp) (by intro x hx;simp only [List.mem_cons,List.not_mem_nil,or_false] at hx ⊢;rcases hx with rfl | rfl | rfl | rfl | rfl<;>simp) hat);refine⟨h.upd hs (by rw [aD hw3];rfl) (aL h.pr hc h.blk ht (by decide) (by decide)) ?_ (aL h.cn hc h.blk ht (by decide) (by decide)) (aL h.pl hc h.blk ht (by decide) (by decide)) (aL h.gl hc h.blk ht (by decide) (by decide)) h.out (fun i p hi=>?_) (fun i fs hi=>.inl ⟨hi,rfl⟩),hs⟩
 ·have:=fH hw3 (by decide) 1 sl ho;simpa using this
 ·rcases dH hi with h0 | ⟨rfl,rfl⟩
  ·have:=(List.getElem?_eq_some_iff.1 h0).1;exact .inl ⟨h0,mB hl (by omega),mB hl (by omega)⟩
  ·right;refine⟨fv,ev,?_,?_,h1.keep (hs.keepI h.mty),h2,h3.stp hs⟩
   ·rw [List.getElem?_append_right (by omega),hl];simp
   ·rw [List.getElem?_append_right (by omega),hl];simp [Nat.add_sub_cancel_left]
theorem RWs.conts_push{W:PW}(h:RWs w wb W pv qv cv lv gv qs cs)(hB:Below w.heap.size w w2)(hg:w2.grownBy w3 (Value.ownBlock cv))(sl u:Value)(x:List PFr)
  (ho:w3.ownsRow 0 TFrP 1 sl (W.conts.length+1) (cs++[u])) (hat:∀k,sl.ownBlock=some k->cv.ownBlock=some k\/w.heap.size<=k)
  (h1:FrAt (Mof wb [pv,qv,cv,lv,gv]) w u x) :
  RWs (w3.setCell ⟨wb,2,none⟩ sl) wb {W with conts:=W.conts++[x]} pv qv sl lv gv qs (cs++[u])/\Stp (Mof wb [pv,qv,cv,lv,gv]) w (Mof wb [pv,qv,sl,lv,gv]) (w3.setCell ⟨wb,2,none⟩ sl):=by
 have ht:=aN h.cn;have hw3:=mJ h.blk hB hg ht (by decide);have hc:=dJ hB hg (wb:=wb) 2 sl;have hl:cs.length=W.conts.length*1:=h.cn.1;have hs:Stp (Mof wb [pv,qv,cv,lv,gv]) w (Mof wb [pv,qv,sl,lv,gv]) (w3.setCell ⟨wb,2,none⟩ sl) :=hc.stp (fun k hk=>.inr ⟨cv,by simp,hk⟩) (fJ (v:=cv) (v':=sl) (by simp) (by intro x hx;simp only [List.mem_cons,List.not_mem_nil,or_false] at hx ⊢;rcases hx with rfl | rfl | rfl | rfl | rfl<;>simp) hat);refine⟨h.upd hs (by rw [aD hw3];rfl) (aL h.pr hc h.blk ht (by decide) (by decide)) (aL h.pc hc h.blk ht (by decide) (by decide)) ?_ (aL h.pl hc h.blk ht (by decide) (by decide)) (aL h.gl hc h.blk ht (by decide) (by decide)) h.out (fun i p hi=>.inl ⟨hi,rfl,rfl⟩) (fun i fs hi=>?_),hs⟩
 ·have:=fH hw3 (by decide) 2 sl ho;simpa using this
 ·rcases dH hi with h0 | ⟨rfl,rfl⟩
  ·have:=(List.getElem?_eq_some_iff.1 h0).1;exact .inl ⟨h0,mB (n:=W.conts.length) (by omega) (by omega)⟩
  ·right;refine⟨u,?_,FrAt.stp hs h.mty _ _ h1⟩;rw [List.getElem?_append_right (by omega)];simp [show cs.length=W.conts.length from by omega]
theorem bM{b o:Nat}(hb:b<w.heap.size):(∀ob:Obj,(w.alloc ob).cell? ⟨b,o,none⟩=w.cell? ⟨b,o,none⟩)/\(∀ob:Obj,(w.alloc ob).frozen? ⟨b,o,none⟩=w.frozen? ⟨b,o,none⟩)/\(∀ob ob2:Obj,((w.alloc ob).alloc ob2).cell? ⟨b,o,none⟩=w.cell? ⟨b,o,none⟩)/\(∀ob ob2:Obj,((w.alloc ob).alloc ob2).frozen? ⟨b,o,none⟩=w.frozen? ⟨b,o,none⟩):=by have h1:∀ob:Obj,Below w.heap.size w (w.alloc ob):=fun ob=>(Below.refl _ _).alloc (Nat.le_refl _) _;have h2:∀ob ob2:Obj,Below w.heap.size w ((w.alloc ob).alloc ob2):=fun ob ob2=>(h1 ob).alloc (by simp) _;exact⟨fun ob=>(h1 ob).cell (p:=⟨b,o,none⟩) hb,fun ob=>(h1 ob).frozen (p:=⟨b,o,none⟩) hb,fun ob ob2=>(h2 ob ob2).cell (p:=⟨b,o,none⟩) hb,fun ob ob2=>(h2 ob ob2).frozen (p:=⟨b,o,none⟩) hb⟩
theorem zN(w:World)(o:Obj)(cs:Array Value)(T:TypeId):((w.alloc o).alloc (.cells cs T)).drew.heap[w.heap.size+1]?=some (.cells cs T (0,0)):=by have:=heap_alloc_new (w.alloc o) (.cells cs T);rw [show(w.alloc o).heap.size=w.heap.size+1 from by simp] at this;exact this
theorem news1(w:World)(cs:Array Value)(T:TypeId):(w.alloc (.cells cs T)).drew.heap[w.heap.size]?=some (.cells cs T (0,0)):=heap_alloc_new w _
theorem jV(w:World)(o1 o2:Obj):Below w.heap.size w ((w.alloc o1).alloc o2).drew:=(((Below.refl _ _).alloc (Nat.le_refl _) _).alloc (by simp) _).drew
theorem cM(w:World)(o1:Obj):Below w.heap.size w (w.alloc o1).drew:=((Below.refl _ _).alloc (Nat.le_refl _) _).drew
theorem fD{row:Option Nat}{Tr:TypeId}(hw:w.heap[wb]?=some (.cells cw TWd (0,0)))(hB:Below w.heap.size w w2)(hg:w2.grownBy w3 row)(hr:∀k,row=some k->∃cur,w.heap[k]?=some (.cells cur Tr (0,0)))(ht:Tr≠TWd)(o:Nat)(v:Value)(hv:cw[o]?=some v) :w3.cell? ⟨wb,o,none⟩=some v/\w3.frozen? ⟨wb,o,none⟩=false/\∀u:Value,(w3.setCell ⟨wb,o,none⟩ u).cell? ⟨wb,o,none⟩=some u:=by have h3:=mJ hw hB hg hr ht;refine⟨(aA h3 o).trans hv,aF h3 o,fun u=>?_⟩;rw [aA (aD h3 o u) o];have:=(Array.getElem?_eq_some_iff.1 hv).1;simp [this]
theorem tH{g H cap N:Nat}(h:Value.ownBlock lv=some g\/g=H)(hN:N<=H):∀k,Value.ownBlock (.slice (some ⟨g,0,none⟩) n cap)=some k->lv.ownBlock=some k\/N<=k:=by intro k hk;simp only [Value.ownBlock,Option.some.injEq] at hk;subst hk;exact h.imp id (fun e=>by omega)
theorem uB(w:World)(wb:Nat)(M:Nat->Prop)(W:PW)(x:PV)(h:RW w wb M W)(hn:W.places.length<=1000000000) :Calls prog 125 #[.pointer (some ⟨wb,0,none⟩),bT x] w fun e w'=>e=.returned (.int .i64 (W.places.length:Int))/\∃M',RW w' wb M' {W with places:=W.places++[x]}/\Stp M w M' w':=by
 obtain⟨i0,hi0,hz0,hz1,hz2⟩:=info_parts Tryz.infoV;obtain⟨pv,qv,cv,lv,gv,qs,cs,rfl,h⟩:=h;have H:Hid (RWs w wb W pv qv cv lv gv qs cs):=h;have hlt:=aB h.blk;have c3:w.cell? ⟨wb,3,none⟩=some lv:=aA h.blk 3;obtain⟨a1,a2,a3,a4⟩:=bM (o:=3) hlt;clear h;unfold bT byV;go_enter func125,ntmps125;go_wp2_with fail
 go_region_law ((refine step_append_lies _ (by rfl) _ _ _ (by rfl) 0 154 i0 _ 3 40 underlying93 hi0 hz0 hz1 hz2 rfl (by omega) lv W.places.length (W.places.flatMap cZ) (by rfl) (((H.out.pl.alloc _).alloc _).drew) ⟨w.heap.size+1,0,none⟩ 1 1 (cZ x) (by rfl) (by rfl) (World.news_of_block (cs:=#[byV (vK x),.int .i64 (vN x),byV (vS x)]) (t:=154) (fr:=(0,0)) (zN w _ _ _)) (by simp [Value.oneCell',cZ,byV]) (by omega) (by unfold maxLen;omega) (by omega) (by simp) (w.heap.size+2) (by simp) ?_;intro g3 cap3 w3 hown3 hgrow3 hat3 hlt3;obtain⟨k1,k2,k3⟩:=fD H.out.blk (jV w _ _) hgrow3 (aN H.out.pl) (by decide) 3 lv rfl))
 all_goals
  obtain⟨q1,q2⟩:=H.out.places_push (jV w _ _) hgrow3 _ x hown3 (tH hat3 (by omega));have Q1:Hid _:=q1;have Q2:Hid _:=q2;clear q1 q2 hown3 hgrow3 hat3 hlt3 H;go_wp2_with fail;go_ret;exact⟨by go_num,_,⟨_,_,_,_,_,_,_,rfl,Q1.out⟩,Q2.out⟩
theorem RWs.after{X w':World}{W W':PW}{pv' qv' cv' lv' gv':Value}(h:RWs w wb W pv qv cv lv gv qs cs)(hX:RWs X wb W' pv' qv' cv' lv' gv' qs cs)(hs:Stp (Mof wb [pv,qv,cv,lv,gv]) w (Mof wb [pv',qv',cv',lv',gv']) X)
  (h1:W'.procs=W.procs) (h2:W'.conts=W.conts) {R:Nat} (hg:X.grownBy w' (some R)) (hR:w.heap.size<=R) (hm:¬Mof wb [pv',qv',cv',lv',gv'] R):RWs w' wb W' pv' qv' cv' lv' gv' qs cs/\Stp (Mof wb [pv,qv,cv,lv,gv]) w (Mof wb [pv',qv',cv',lv',gv']) w':=by
 have hs':Stp (Mof wb [pv,qv,cv,lv,gv]) w (Mof wb [pv',qv',cv',lv',gv']) w' :=
  ⟨hg.os.trans hs.os,hg.tape.trans hs.tape,hg.output.trans hs.output,Nat.le_trans hs.size hg.size,fun k hk hn=>by
   obtain⟨e1,e2⟩:=hs.block k hk hn
   exact⟨(hg.block k (Nat.lt_of_lt_of_le hk hs.size) (by simp;omega)).trans e1,e2⟩⟩
 have hr:∀{T:TypeId} {sz:Nat} {v:Value} {n:Nat} {xs:List Value},v∈[pv',qv',cv',lv',gv']->X.ownsRow 0 T sz v n xs->w'.ownsRow 0 T sz v n xs:=by
  intro T sz v n xs hv h;refine⟨h.1,?_⟩;rcases h.2 with hn | ⟨g,cap,cur,rfl,h0,hgg,rest⟩
  ·exact .inl hn
  ·refine .inr ⟨g,cap,cur,rfl,h0,(hg.block g (aB hgg) ?_).trans hgg,rest⟩;intro e;have e:g=R:=by simpa using e
   subst e;exact hm (.inr ⟨_,hv,rfl⟩)
 have hwb:wb≠R:=fun e=>hm (.inl e.symm);refine⟨h.upd hs' ((hg.block wb (aB hX.blk) (by simpa using hwb)).trans hX.blk) (hr (by simp) hX.pr) (hr (by simp) hX.pc) (hr (by simp) hX.cn) (hr (by simp) hX.pl) (hr (by simp) hX.gl) hX.out (fun i p hi=>.inl ⟨by rw [<- h1];exact hi,rfl,rfl⟩) (fun i fs hi=>.inl ⟨by rw [<- h2];exact hi,rfl⟩),hs'⟩
theorem jU(w:World)(o1 o2 o3 o4:Obj):Below w.heap.size w ((((w.alloc o1).alloc o2).alloc o3).alloc o4).drew:=(((((Below.refl _ _).alloc (Nat.le_refl _) _).alloc (by simp) _).alloc (by simp;omega) _).alloc (by simp;omega) _).drew
theorem news4(w:World)(o1 o2 o3:Obj)(cs:Array Value)(T:TypeId):((((w.alloc o1).alloc o2).alloc o3).alloc (.cells cs T)).drew.heap[w.heap.size+3]?=some (.cells cs T (0,0)):=by have:=heap_alloc_new (((w.alloc o1).alloc o2).alloc o3) (.cells cs T);rw [show(((w.alloc o1).alloc o2).alloc o3).heap.size=w.heap.size+3 from by simp] at this;exact this
theorem far4{b o:Nat}(hb:b<w.heap.size)(o1 o2 o3 o4:Obj):(((w.alloc o1).alloc o2).alloc o3).cell? ⟨b,o,none⟩=w.cell? ⟨b,o,none⟩/\((((w.alloc o1).alloc o2).alloc o3).alloc o4).cell? ⟨b,o,none⟩=w.cell? ⟨b,o,none⟩/\((((w.alloc o1).alloc o2).alloc o3).alloc o4).frozen? ⟨b,o,none⟩=w.frozen? ⟨b,o,none⟩:=by have h3:Below w.heap.size w (((w.alloc o1).alloc o2).alloc o3):=(((Below.refl _ _).alloc (Nat.le_refl _) _).alloc (by simp) _).alloc (by simp;omega) _;have h4:=h3.alloc (by simp;omega) o4;exact⟨h3.cell (p:=⟨b,o,none⟩) hb,h4.cell (p:=⟨b,o,none⟩) hb,h4.frozen (p:=⟨b,o,none⟩) hb⟩
theorem aO{fn:Func}{p:Tmp}{ty:TypeId}(h:fn.results=#[.cell p ty])(tmps:Array Value)(P:Program)(w:World) :(results fn tmps).run P w=((asAddr (tmps.getD p undef)).run P w).andThen fun a w₁=>(loadVar ty a).run P w₁:=by simp only [results,h];simp [Sem.run_bind]
theorem new3(w:World)(o1 o2:Obj)(cs:Array Value)(T:TypeId)(o4:Obj):((((w.alloc o1).alloc o2).alloc (.cells cs T)).alloc o4).drew.heap[w.heap.size+2]?=some (.cells cs T (0,0)):=by have:=heap_alloc_new ((w.alloc o1).alloc o2) (.cells cs T);rw [show((w.alloc o1).alloc o2).heap.size=w.heap.size+2 from by simp] at this;show((((w.alloc o1).alloc o2).alloc (.cells cs T)).alloc o4).heap[w.heap.size+2]?=_;rw [Below.heap_alloc _ _ _ (aB this),this]
theorem wO{row:Option Nat}{o:Obj}(hg:w2.grownBy w3 row)(hk:w2.heap[k]?=some o)(hr:row=some k->False):w3.heap[k]?=some o:=(hg.block k (aB hk) (fun e=>hr e.symm)).trans hk
theorem tV{o:Obj}(hk:w3.heap[k]?=some o)(hne:k≠wb)(i:Nat)(v:Value):(w3.setCell ⟨wb,i,none⟩ v).heap[k]?=some o:=by rw [Below.heap_setCell _ _ _ _ (fun e=>hne (by simpa using e)),hk]
theorem jM{W:PW}(h:RWs w wb W pv qv cv lv gv qs cs){l:List Value}{sl:Value}(hl:∀x∈l,x∈[pv,qv,cv,lv,gv]\/x=sl){R:Nat}(hR:w.heap.size<=R)(hs:sl.ownBlock≠some R):¬Mof wb l R:=by
 have hlt:∀k,Mof wb [pv,qv,cv,lv,gv] k->k<w.heap.size:=fun k hk=>RW.lt ⟨_,_,_,_,_,_,_,rfl,h⟩ hk;rintro(e | ⟨x,hx,hb⟩)
 ·have:=aB h.blk;omega
 ·rcases hl x hx with h1 | rfl
  ·have:=hlt R (.inr ⟨x,h1,hb⟩);omega
  ·exact hs hb
theorem set3{X:World}{R:Nat}{c0 c1 c2:Value}{T:TypeId}(h:X.heap[R]?=some (.cells #[c0,c1,c2] T (0,0))):X.cell? ⟨R,0,none⟩=some c0/\X.cell? ⟨R,1,none⟩=some c1/\X.cell? ⟨R,2,none⟩=some c2/\X.frozen? ⟨R,0,none⟩=false/\X.frozen? ⟨R,1,none⟩=false/\X.frozen? ⟨R,2,none⟩=false /\
  (∀a:Value,(X.setCell ⟨R,0,none⟩ a).cell? ⟨R,1,none⟩=some c1/\(X.setCell ⟨R,0,none⟩ a).frozen? ⟨R,1,none⟩=false) /\
  (∀a b:Value,((X.setCell ⟨R,0,none⟩ a).setCell ⟨R,1,none⟩ b).cell? ⟨R,2,none⟩=some c2/\((X.setCell ⟨R,0,none⟩ a).setCell ⟨R,1,none⟩ b).frozen? ⟨R,2,none⟩=false) /\
  (∀a b c:Value,(((X.setCell ⟨R,0,none⟩ a).setCell ⟨R,1,none⟩ b).setCell ⟨R,2,none⟩ c).cell? ⟨R,0,none⟩=some a/\(((X.setCell ⟨R,0,none⟩ a).setCell ⟨R,1,none⟩ b).setCell ⟨R,2,none⟩ c).cell? ⟨R,1,none⟩=some b/\(((X.setCell ⟨R,0,none⟩ a).setCell ⟨R,1,none⟩ b).setCell ⟨R,2,none⟩ c).cell? ⟨R,2,none⟩=some c):=by
 refine⟨aA h 0,aA h 1,aA h 2,aF h 0,aF h 1,aF h 2,fun a=>⟨?_,?_⟩,fun a b=>⟨?_,?_⟩,fun a b c=>⟨?_,?_,?_⟩⟩
 ·exact aA (aD h 0 a) 1
 ·exact aF (aD h 0 a) 1
 ·exact aA (aD (aD h 0 a) 1 b) 2
 ·exact aF (aD (aD h 0 a) 1 b) 2
 ·exact aA (aD (aD (aD h 0 a) 1 b) 2 c) 0
 ·exact aA (aD (aD (aD h 0 a) 1 b) 2 c) 1
 ·exact aA (aD (aD (aD h 0 a) 1 b) 2 c) 2
theorem e6(X:World)(R:Nat)(a b c:Value):X.grownBy (((X.setCell ⟨R,0,none⟩ a).setCell ⟨R,1,none⟩ b).setCell ⟨R,2,none⟩ c) (some R):=aC (aC (aE _ _ _ _) (aE _ _ _ _)) (aE _ _ _ _)
theorem n6(l:List PV)(k:Nat)(x:PV)(hk:k<l.length):(l.set k x).flatMap cZ=(((l.flatMap cZ).set (k*3) (byV (vK x))).set (k*3+1) (.int .i64 (vN x))).set (k*3+2) (byV (vS x)):=by
 induction l generalizing k with
 | nil=>simp at hk
 | cons y l ih =>
  cases k with
  | zero=>simp [cZ]
  | succ k =>have:=ih k (by simpa using hk);simp only [List.set_cons_succ,List.flatMap_cons,this];simp only [cZ,List.cons_append,List.nil_append];rw [show(k+1)*3=k*3+3 from by omega];simp [List.set_cons_succ,show k*3+3+1=k*3+1+3 from by omega,show k*3+3+2=k*3+2+3 from by omega]
theorem take_set{α:Type}(l:List α)(n i:Nat)(a:α):(l.set i a).take n=(l.take n).set i a:=by rw [List.take_set]
def gN(X:World)(g o:Nat)(x:PV):World:=((X.setCell ⟨g,o,none⟩ (byV (vK x))).setCell ⟨g,o+1,none⟩ (.int .i64 (vN x))).setCell ⟨g,o+2,none⟩ (byV (vS x))
theorem RWs.places_set{W:PW}(h:RWs w wb W pv qv cv lv gv qs cs)(g cap:Nat)(hl:lv=.slice (some ⟨g,0,none⟩) W.places.length cap)(k:Nat)(hk:k<W.places.length)(x:PV) :RWs (gN w g (k*3) x) wb {W with places:=W.places.set k x} pv qv cv lv gv qs cs/\Stp (Mof wb [pv,qv,cv,lv,gv]) w (Mof wb [pv,qv,cv,lv,gv]) (gN w g (k*3) x):=by
 subst hl;have ht:=aN h.pl;have hp:=h.pl;obtain⟨hlen,hp⟩:=hp;rcases hp with⟨e,_⟩ | ⟨g',cap',cur,e,_,hg,hc,hm,hcs,htk⟩
 ·simp at e
 ·simp only [Value.slice.injEq,Option.some.injEq,Addr.mk.injEq,and_true] at e;obtain⟨rfl,_,rfl⟩:=e;have hb:(gN w g (k*3) x).heap[g]?=some (.cells (((cur.setIfInBounds (k*3) (byV (vK x))).setIfInBounds (k*3+1) (.int .i64 (vN x))).setIfInBounds (k*3+2) (byV (vS x))) TV (0,0)) :=aD (aD (aD hg _ _) _ _) _ _;have hgr:w.grownBy (gN w g (k*3) x) (some g):=aC (aC (aE _ _ _ _) (aE _ _ _ _)) (aE _ _ _ _);have hch:Chg w (gN w g (k*3) x) wb (some g):=⟨hgr.os,hgr.tape,hgr.output,hgr.size,fun k hk _ h2=>hgr.block k hk h2⟩
  have ht':∀j,some g=some j->∃cur,w.heap[j]?=some (.cells cur TV (0,0)):=fun j e=>ht j e;have hs:Stp (Mof wb [pv,qv,cv,.slice (some ⟨g,0,none⟩) W.places.length cap,gv]) w (Mof wb [pv,qv,cv,.slice (some ⟨g,0,none⟩) W.places.length cap,gv]) (gN w g (k*3) x) :=hch.stp (fun j hj=>.inr ⟨.slice (some ⟨g,0,none⟩) W.places.length cap,by simp,hj⟩) (fun _ _ h=>h);have hwb:wb≠g:=fun e=>by subst e;exact absurd (aK hg h.blk).2 (by decide)
  refine⟨h.upd hs ((hgr.block wb (aB h.blk) (by simpa using hwb)).trans h.blk) (aL h.pr hch h.blk ht' (by decide) (by decide)) (aL h.pc hch h.blk ht' (by decide) (by decide)) (aL h.cn hch h.blk ht' (by decide) (by decide)) ?_ (aL h.gl hch h.blk ht' (by decide) (by decide)) h.out (fun i p hi=>.inl ⟨hi,rfl,rfl⟩) (fun i fs hi=>.inl ⟨hi,rfl⟩),hs⟩;refine⟨by rw [List.length_set,n6 _ _ _ hk];simpa using hlen,.inr ⟨g,cap,_,by rw [List.length_set],Nat.zero_le _,hb,by rw [List.length_set];exact hc,hm,by simpa using hcs,?_⟩⟩;rw [List.length_set,n6 _ _ _ hk,<-htk];simp only [Array.toList_setIfInBounds];rw [take_set,take_set,take_set]
theorem mC(l:Env)(s:Byt)(k:Nat)(h:Pl.find l s=some k):∃b∈l,b.2=k:=by
 induction l with
 | nil=>simp [Pl.find] at h
 | cons b l ih =>
  unfold Pl.find at h
  cases hf:Pl.find l s with
  | some j =>rw [hf] at h;obtain⟨c,hc,e⟩:=ih (by rw [hf];exact h);exact⟨c,List.mem_cons_of_mem _ hc,e⟩
  | none =>
   rw [hf] at h;dsimp only at h;split at h
   ·exact⟨b,List.mem_cons_self,Option.some.inj h⟩
   ·simp at h
theorem pl_at{W:PW}(h:RWs w wb W pv qv cv lv gv qs cs)(hk:k<W.places.length):∃g cap,lv=.slice (some ⟨g,0,none⟩) W.places.length cap/\W.places.length<=cap/\g<w.heap.size/\g≠wb/\∃x,W.places[k]?=some x/\w.cell? ⟨g,k*3,none⟩=some (byV (vK x))/\w.cell? ⟨g,k*3+1,none⟩=some (.int .i64 (vN x))/\w.cell? ⟨g,k*3+2,none⟩=some (byV (vS x))/\∀o,w.frozen? ⟨g,o,none⟩=false:=by
 rcases h.pl.2 with⟨_,h0⟩ | ⟨g,cap,cur,e,_,hg,hc,_⟩
 ·omega
 ·have hx:W.places[k]?=some (W.places[k]):=List.getElem?_eq_getElem hk;have hcell:=h.pl.cells (g:=g) (by rw [e];rfl);refine⟨g,cap,e,hc,aB hg,fun e=>by subst e;exact absurd (aK hg h.blk).2 (by decide),_,hx,?_,?_,?_,fun o=>aF hg o⟩
  ·have:=hcell (k*3) _ (aX cZ 3 (fun _=>rfl) _ _ 0 _ hx (by decide));rwa [Addr.add_lit,Nat.zero_add] at this
  ·have:=hcell (k*3+1) _ (aX cZ 3 (fun _=>rfl) _ _ 1 _ hx (by decide));rwa [Addr.add_lit,Nat.zero_add] at this
  ·have:=hcell (k*3+2) _ (aX cZ 3 (fun _=>rfl) _ _ 2 _ hx (by decide));rwa [Addr.add_lit,Nat.zero_add] at this
theorem gl_env{W:PW}(h:RWs w wb W pv qv cv lv gv qs cs):EnvAt (fun _=>False) w gv W.globals:=gT h.gl
theorem qH(w:World)(wb:Nat)(M M2:Nat->Prop)(W:PW)(ev:Value)(env:Env)(s:Byt)(h:RW w wb M W)(he:EnvAt M2 w ev env)(h1:env.length<=1000000000000)(h2:W.globals.length<=1000000000000) :Calls prog 89 #[.pointer (some ⟨wb,0,none⟩),ev,.string ⟨s.toArray⟩] w fun e w'=>e=.returned (.int .i64 (fW (Pl.seek W env s)))/\w=w':=by
 obtain⟨pv,qv,cv,lv,gv,qs,cs,rfl,h⟩:=h;have H:Hid (RWs w wb W pv qv cv lv gv qs cs):=h;have c4:w.cell? ⟨wb,4,none⟩=some gv:=aA h.blk 4;have HE:Hid (EnvAt M2 w ev env):=he;clear h he;go_enter func89,ntmps89;go_wp2_with fail;refine(lM M2 _ _ env s HE.out (by omega)).mono ?_;rintro e w' ⟨rfl,rfl⟩
 cases hf:Pl.find env s with
 | some k =>
  have HS:Hid (Pl.seek W env s=some k):=by simp [Hid,Pl.seek,hf]
  have hk0:(0:Int)<=(k:Int):=by omega
  simp only [d6];clear hf;go_wp2_with fail;go_ret;exact⟨by rw [HS.out];rfl,rfl⟩
 | none =>
  have HS:Hid (Pl.seek W env s=Pl.find W.globals s):=by simp [Hid,Pl.seek,hf]
  simp only [show fW none=(-1:Int) from rfl];clear hf;go_wp2_with fail;refine(lM _ _ _ W.globals s (gl_env H.out) (by omega)).mono ?_;rintro e w' ⟨rfl,rfl⟩;go_wp2_with fail;go_ret;exact⟨by rw [HS.out];rfl,rfl⟩
theorem qI(w:World)(wb:Nat)(M:Nat->Prop)(W:PW)(s:Byt)(x:PV)(h:RW w wb M W)(hg:WfE W W.globals)(h1:W.places.length<=1000000000)(h2:W.globals.length<=1000000000) :Calls prog 77 #[.pointer (some ⟨wb,0,none⟩),.string ⟨s.toArray⟩,bT x] w fun e w'=>e=.returned (.tuple #[])/\∃M',RW w' wb M' (Pl.bind W s x)/\Stp M w M' w':=by
 obtain⟨i0,hi0,hz0,hz1,hz2⟩:=info_parts Tryz.infoB;obtain⟨pv,qv,cv,lv,gv,qs,cs,rfl,h⟩:=h;have hlt:=aB h.blk;have c4:w.cell? ⟨wb,4,none⟩=some gv:=aA h.blk 4;have c3:w.cell? ⟨wb,3,none⟩=some lv:=aA h.blk 3;obtain⟨a1,_,_,_⟩:=bM (o:=4) hlt;obtain⟨b1,_,_,_⟩:=bM (o:=3) hlt;have H:Hid (RWs w wb W pv qv cv lv gv qs cs):=h;clear h;have hBx:∀o:Obj,Below w.heap.size w (w.alloc o):=fun o=>(Below.refl _ _).alloc (Nat.le_refl _) _;have HB:Hid (∀o:Obj,Below w.heap.size w (w.alloc o)):=hBx;have HR:Hid (∀o:Obj,RWs (w.alloc o) wb W pv qv cv lv gv qs cs):=fun o=>H.out.later (fun k hk=>(HB.out o).block k hk) (Stp.of_below (HB.out o));clear hBx;unfold bT byV;go_enter func77,ntmps77;go_wp2_with fail;refine(lM _ _ _ W.globals s (gl_env (HR.out _)) (by omega)).mono ?_;rintro e w' ⟨rfl,rfl⟩
 cases hf:Pl.find W.globals s with
 | some k =>
  have HS:Hid (Pl.bind W s x={W with places:=W.places.set k x}):=by simp [Hid,Pl.bind,hf]
  obtain⟨b,hb,rfl⟩:=mC _ _ _ hf;have hk:=hg b hb;simp only [d6];obtain⟨g,cap,rfl,hcap,hgl,hgw,y,hy,d0,d1,d2,d3⟩:=pl_at H.out hk;have HK:Hid (b.2<W.places.length):=hk;have hki:((b.2:Nat):Int)<(W.places.length:Int):=by omega
  obtain⟨e0,g0,_,_⟩:=bM (o:=b.2*3) hgl;obtain⟨e1,g1,_,_⟩:=bM (o:=b.2*3+1) hgl;obtain⟨e2,g2,_,_⟩:=bM (o:=b.2*3+2) hgl;clear hf hb hk hy;go_wp2_with fail
  go_region
  all_goals
   go_wp2_with fail
   (try simp only [Exit.inBlock,Exit.then])
   refine bodyPost_ret (results_none rfl _ _ _) rfl ?_;rw [HS.out];obtain⟨z1,z2⟩:=H.out.places_set g cap rfl b.2 HK.out x;have hz:=cM (gN w g (b.2*3) x) (.cells #[byV (vK x),.int .i64 (vN x),byV (vS x)] 154);exact⟨rfl,_,RW.later ⟨_,_,_,_,_,_,_,rfl,z1⟩ hz,z2.trans (Stp.of_below hz)⟩
 | none =>
  have HS:Hid (Pl.bind W s x={W with places:=W.places++[x],globals:=W.globals++[(s,W.places.length)]}):=by simp [Hid,Pl.bind,hf]
  simp only [show fW none=(-1:Int) from rfl];clear hf;go_wp2_with fail;refine(uB _ wb _ W x ⟨_,_,_,_,_,_,_,rfl,HR.out _⟩ h1).mono ?_;rintro e w1 ⟨rfl,M1,⟨pv1,qv1,cv1,lv1,gv1,qs1,cs1,rfl,hw1⟩,hs1⟩;have c4':w1.cell? ⟨wb,4,none⟩=some gv1:=aA hw1.blk 4;have hlt1:=aB hw1.blk;have HW1:Hid _:=hw1;have HS1:=(show Hid _ from(Stp.of_below (HB.out _)).trans hs1)
  clear hw1 hs1 c3 c4 a1 b1;have f4:∀o:Obj,(w1.alloc o).cell? ⟨wb,4,none⟩=some gv1:=fun o=>((bM (o:=4) hlt1).1 o).trans c4';go_wp2_with (first | (at_builtin;refine wpList_append_lies _ rfl _ _ 94 rfl 0 249 i0 _ 2 24 underlying94 hi0 hz0 hz1 hz2 rfl (by decide) gv1 W.globals.length (W.globals.flatMap iM) rfl (HW1.out.gl.alloc _) ⟨w1.heap.size,0,none⟩ 1 1 (iM (s,W.places.length)) rfl rfl (World.news_of_block (cs:=#[byV s,.int .i64 (W.places.length:Nat)]) (t:=249) (fr:=(0,0)) (heap_alloc_new w1 _)) (by simp [Value.oneCell',iM,byV]) (by decide) (by unfold maxLen;omega) (by omega) (by simp) (w1.heap.size+1) (by simp) ?_;intro g3 cap3 w3 hown3 hgrow3 hat3 hlt3;obtain⟨k1,k2,k3⟩:=fD HW1.out.blk ((Below.refl _ _).alloc (Nat.le_refl _) _) hgrow3 (aN HW1.out.gl) (by decide) 4 gv1 rfl));obtain⟨q1,q2⟩:=HW1.out.globals_push ((Below.refl _ _).alloc (Nat.le_refl _) _) hgrow3 _ (s,W.places.length) hown3 (tH hat3 (by omega))
  go_end0
  rw [HS.out];exact⟨rfl,_,⟨_,_,_,_,_,_,_,rfl,q1⟩,HS1.out.trans q2⟩
end
end Go.Proofs.YtkgbdddkcjpgfaaGreatDoor
