import Derived.Test.YtkgbdddkcjpgfaaGreatDoorC12
import Derived.BigRegion
import Derived.Deep.RegionLaw
namespace Go.Proofs.YtkgbdddkcjpgfaaGreatDoor
open Pl (PW PS PF PFr SR Byt Env)
section
open Go.RowKit
variable {w w':World} {wb xb sz n k:Nat} {M M':Nat->Prop} {T:TypeId} {v pv qv cv lv gv c0 c1 c2:Value} {qs cs xs:List Value} {cx:Array Value}
def Mof(wb:Nat)(l:List Value)(k:Nat):Prop:=k=wb\/∃v∈l,Value.ownBlock v=some k
structure RWs(w:World)(wb:Nat)(W:PW)(pv qv cv lv gv:Value)(qs cs:List Value):Prop where
 blk:w.heap[wb]?=some (.cells #[pv,qv,cv,lv,gv,byV W.out] TWd (0,0))
 pr:w.ownsRow 0 TPa 6 pv W.pairs.length (W.pairs.flatMap encP)
 pc:w.ownsRow 0 TPc 2 qv W.procs.length qs
 pcs:∀(i:Nat)(p:PF×Env),W.procs[i]?=some p->∃fv ev,qs[i*2]?=some fv/\qs[i*2+1]?=some ev/\RF w fv p.1/\p.1.k=.lambda/\EnvAt (Mof wb [pv,qv,cv,lv,gv]) w ev p.2
 cn:w.ownsRow 0 TFrP 1 cv W.conts.length cs
 cns:∀(i:Nat)(fs:List PFr),W.conts[i]?=some fs->∃u,cs[i]?=some u/\FrAt (Mof wb [pv,qv,cv,lv,gv]) w u fs
 pl:w.ownsRow 0 TV 3 lv W.places.length (W.places.flatMap cZ)
 gl:w.ownsRow 0 TB 2 gv W.globals.length (W.globals.flatMap encB)
 out:W.out.length<=1000
def RW(w:World)(wb:Nat)(M:Nat->Prop)(W:PW):Prop:=∃pv qv cv lv gv qs cs,M=Mof wb [pv,qv,cv,lv,gv]/\RWs w wb W pv qv cv lv gv qs cs
theorem aN{b:Nat}(h:w.ownsRow b T sz v n xs):∀k,v.ownBlock=some k->∃cur,w.heap[k]?=some (.cells cur T (0,0)):=by
 intro k hk;rcases h.2 with⟨rfl,_⟩ | ⟨g,cap,cur,rfl,_,hg,_⟩
 ·simp [Value.ownBlock] at hk
 ·simp only [Value.ownBlock,Option.some.injEq] at hk;subst hk;exact⟨cur,hg⟩
theorem aK{c1 c2:Array Value}{T1 T2:TypeId}(h1:w.heap[k]?=some (.cells c1 T1 (0,0)))(h2:w.heap[k]?=some (.cells c2 T2 (0,0))):c1=c2/\T1=T2:=by rw [h1] at h2;simp only [Option.some.injEq,Obj.cells.injEq,and_true] at h2;exact h2
theorem RWs.mty{W:PW}(h:RWs w wb W pv qv cv lv gv qs cs):Mty (Mof wb [pv,qv,cv,lv,gv]) w:=by
 intro k cur e hm hk hi
 have hT:e=TWd\/e=TPa\/e=TPc\/e=TFrP\/e=TV\/e=TB:=by
  rcases hm with rfl | ⟨v,hv,hb⟩
  ·exact .inl (aK hk h.blk).2
  ·simp only [List.mem_cons,List.not_mem_nil,or_false] at hv;rcases hv with rfl | rfl | rfl | rfl | rfl
   ·obtain⟨c,hc⟩:=aN h.pr k hb;exact .inr (.inl (aK hk hc).2)
   ·obtain⟨c,hc⟩:=aN h.pc k hb;exact .inr (.inr (.inl (aK hk hc).2))
   ·obtain⟨c,hc⟩:=aN h.cn k hb;exact .inr (.inr (.inr (.inl (aK hk hc).2)))
   ·obtain⟨c,hc⟩:=aN h.pl k hb;exact .inr (.inr (.inr (.inr (.inl (aK hk hc).2))))
   ·obtain⟨c,hc⟩:=aN h.gl k hb;exact .inr (.inr (.inr (.inr (.inr (aK hk hc).2))))
 revert hi
 rcases hT with rfl | rfl | rfl | rfl | rfl | rfl<;>(unfold imT;decide)
theorem RW.mty{W:PW}(h:RW w wb M W):Mty M w:=by obtain⟨pv,qv,cv,lv,gv,qs,cs,rfl,h⟩:=h;exact h.mty
theorem RW.notM{W:PW}(h:RW w wb M W){cur:Array Value}{e:TypeId}(hk:w.heap[k]?=some (.cells cur e (0,0)))(h1:¬(e=TWd\/e=TPa\/e=TPc\/e=TFrP\/e=TV\/e=TB)):¬M k:=by
 obtain⟨pv,qv,cv,lv,gv,qs,cs,rfl,h⟩:=h;intro hm;apply h1;rcases hm with rfl | ⟨v,hv,hb⟩
 ·exact .inl (aK hk h.blk).2
 ·simp only [List.mem_cons,List.not_mem_nil,or_false] at hv;rcases hv with rfl | rfl | rfl | rfl | rfl
  ·obtain⟨c,hc⟩:=aN h.pr k hb;exact .inr (.inl (aK hk hc).2)
  ·obtain⟨c,hc⟩:=aN h.pc k hb;exact .inr (.inr (.inl (aK hk hc).2))
  ·obtain⟨c,hc⟩:=aN h.cn k hb;exact .inr (.inr (.inr (.inl (aK hk hc).2)))
  ·obtain⟨c,hc⟩:=aN h.pl k hb;exact .inr (.inr (.inr (.inr (.inl (aK hk hc).2))))
  ·obtain⟨c,hc⟩:=aN h.gl k hb;exact .inr (.inr (.inr (.inr (.inr (aK hk hc).2))))
theorem RW.lt{W:PW}(h:RW w wb M W)(hm:M k):k<w.heap.size:=by
 obtain⟨pv,qv,cv,lv,gv,qs,cs,rfl,h⟩:=h;rcases hm with rfl | ⟨v,hv,hb⟩
 ·exact aB h.blk
 ·simp only [List.mem_cons,List.not_mem_nil,or_false] at hv;rcases hv with rfl | rfl | rfl | rfl | rfl
  ·exact(h.pr.lt k hb).2
  ·exact(h.pc.lt k hb).2
  ·exact(h.cn.lt k hb).2
  ·exact(h.pl.lt k hb).2
  ·exact(h.gl.lt k hb).2
structure Chg(w w':World)(wb:Nat)(row:Option Nat):Prop where
 os:w'.os=w.os
 tape:w'.tape=w.tape
 output:w'.output=w.output
 size:w.heap.size<=w'.heap.size
 block:∀k,k<w.heap.size->k≠wb->some k≠row->w'.heap[k]?=w.heap[k]?
theorem aL{row:Option Nat}{Tr:TypeId}{cw:Array Value}(h:w.ownsRow 0 T sz v n xs)(hc:Chg w w' wb row)(hw:w.heap[wb]?=some (.cells cw TWd (0,0)))
  (hrow:∀k,row=some k->∃cur,w.heap[k]?=some (.cells cur Tr (0,0))) (h1:T≠TWd) (h2:T≠Tr):w'.ownsRow 0 T sz v n xs:=by
 refine⟨h.1,?_⟩;rcases h.2 with hn | ⟨g,cap,cur,rfl,hb,hg,rest⟩
 ·exact .inl hn
 ·refine .inr ⟨g,cap,cur,rfl,hb,?_,rest⟩;rw [hc.block g (aB hg) ?_ ?_]
  ·exact hg
  ·rintro rfl;exact h1 (aK hg hw).2
  ·intro e;obtain⟨c,hc⟩:=hrow g e.symm;exact h2 (aK hg hc).2
theorem Chg.stp{row:Option Nat}{l l':List Value}(hc:Chg w w' wb row)(hrow:∀k,row=some k->Mof wb l k)(hl:∀k,k<w.heap.size->Mof wb l' k->Mof wb l k):Stp (Mof wb l) w (Mof wb l') w' :=⟨hc.os,hc.tape,hc.output,hc.size,fun k hk hn=>⟨hc.block k hk (fun e=>hn (.inl e)) (fun e=>hn (hrow k e.symm)),fun h=>hn (hl k hk h)⟩⟩
theorem RWs.upd{W W':PW}{pv' qv' cv' lv' gv':Value}{qs' cs':List Value}(h:RWs w wb W pv qv cv lv gv qs cs)
  (hs:Stp (Mof wb [pv,qv,cv,lv,gv]) w (Mof wb [pv',qv',cv',lv',gv']) w')
  (hb:w'.heap[wb]?=some (.cells #[pv',qv',cv',lv',gv',byV W'.out] TWd (0,0)))
  (h1:w'.ownsRow 0 TPa 6 pv' W'.pairs.length (W'.pairs.flatMap encP)) (h2:w'.ownsRow 0 TPc 2 qv' W'.procs.length qs') (h3:w'.ownsRow 0 TFrP 1 cv' W'.conts.length cs')
  (h4:w'.ownsRow 0 TV 3 lv' W'.places.length (W'.places.flatMap cZ)) (h5:w'.ownsRow 0 TB 2 gv' W'.globals.length (W'.globals.flatMap encB)) (h6:W'.out.length<=1000)
  (hp:∀(i:Nat)(p:PF×Env),W'.procs[i]?=some p->(W.procs[i]?=some p/\qs'[i*2]?=qs[i*2]? /\ qs'[i*2+1]?=qs[i*2+1]?)\/∃fv ev,qs'[i*2]?=some fv/\qs'[i*2+1]?=some ev/\RF w' fv p.1/\p.1.k=.lambda/\EnvAt (Mof wb [pv',qv',cv',lv',gv']) w' ev p.2)
  (hk:∀(i:Nat)(fs:List PFr),W'.conts[i]?=some fs->(W.conts[i]?=some fs/\cs'[i]?=cs[i]?)\/∃u,cs'[i]?=some u/\FrAt (Mof wb [pv',qv',cv',lv',gv']) w' u fs):RWs w' wb W' pv' qv' cv' lv' gv' qs' cs':=by
 refine⟨hb,h1,h2,?_,h3,?_,h4,h5,h6⟩
 ·intro i p hi;rcases hp i p hi with⟨e1,e2,e3⟩ | h
  ·obtain⟨fv,ev,a,b,c,d,e⟩:=h.pcs i p e1;exact⟨fv,ev,e2.trans a,e3.trans b,c.keep (hs.keepI h.mty),d,e.stp hs⟩
  ·exact h
 ·intro i fs hi;rcases hk i fs hi with⟨e1,e2⟩ | h
  ·obtain⟨u,a,b⟩:=h.cns i fs e1;exact⟨u,e2.trans a,FrAt.stp hs h.mty _ _ b⟩
  ·exact h
theorem RWs.later{W:PW}(h:RWs w wb W pv qv cv lv gv qs cs)(hb:∀k,k<w.heap.size->w'.heap[k]?=w.heap[k]?)(hs:Stp (Mof wb [pv,qv,cv,lv,gv]) w (Mof wb [pv,qv,cv,lv,gv]) w'):RWs w' wb W pv qv cv lv gv qs cs:=by
 have hr:∀{T:TypeId} {sz:Nat} {v:Value} {n:Nat} {xs:List Value},w.ownsRow 0 T sz v n xs->w'.ownsRow 0 T sz v n xs:=by
  intro T sz v n xs h;refine⟨h.1,?_⟩;rcases h.2 with hn | ⟨g,cap,cur,rfl,h0,hg,rest⟩
  ·exact .inl hn
  ·exact .inr ⟨g,cap,cur,rfl,h0,(hb g (aB hg)).trans hg,rest⟩
 exact h.upd hs ((hb wb (aB h.blk)).trans h.blk) (hr h.pr) (hr h.pc) (hr h.cn) (hr h.pl) (hr h.gl) h.out (fun i p hi=>.inl ⟨hi,rfl,rfl⟩) (fun i fs hi=>.inl ⟨hi,rfl⟩)
theorem RW.later{W:PW}(h:RW w wb M W)(hb:Below w.heap.size w w'):RW w' wb M W:=by obtain⟨pv,qv,cv,lv,gv,qs,cs,rfl,h⟩:=h;exact⟨pv,qv,cv,lv,gv,qs,cs,rfl,h.later (fun k hk=>hb.block k hk) (Stp.of_below hb)⟩
theorem fJ{l l':List Value}{v':Value}(hv:v∈l)(hl:∀x∈l',x∈l\/x=v')(hat:∀k,v'.ownBlock=some k->v.ownBlock=some k\/w.heap.size<=k):∀k,k<w.heap.size->Mof wb l' k->Mof wb l k:=by
 intro k hk hm;rcases hm with e | ⟨x,hx,hb⟩
 ·exact .inl e
 ·rcases hl x hx with h1 | rfl
  ·exact .inr ⟨x,h1,hb⟩
  ·rcases hat k hb with h2 | h2
   ·exact .inr ⟨v,hv,h2⟩
   ·omega
theorem dH{α:Type}{l:List α}{x y:α}{i:Nat}(h:(l++[x])[i]?=some y):l[i]?=some y\/(i=l.length/\y=x):=by
 by_cases hi:i<l.length
 ·left;rwa [List.getElem?_append_left hi] at h
 ·right;rw [List.getElem?_append_right (by omega)] at h;by_cases h0:i-l.length=0
  ·rw [h0] at h;simp at h;exact⟨by omega,h.symm⟩
  ·rw [List.getElem?_eq_none (by simp;omega)] at h;simp at h
theorem RWs.after{X:World}{W W':PW}{pv' qv' cv' lv' gv':Value}(h:RWs w wb W pv qv cv lv gv qs cs)(hX:RWs X wb W' pv' qv' cv' lv' gv' qs cs)(hs:Stp (Mof wb [pv,qv,cv,lv,gv]) w (Mof wb [pv',qv',cv',lv',gv']) X)
  (h1:W'.procs=W.procs) (h2:W'.conts=W.conts) {R:Nat} (hg:X.grownBy w' (some R)) (hR:w.heap.size<=R) (hm:¬Mof wb [pv',qv',cv',lv',gv'] R):RWs w' wb W' pv' qv' cv' lv' gv' qs cs/\Stp (Mof wb [pv,qv,cv,lv,gv]) w (Mof wb [pv',qv',cv',lv',gv']) w':=by
 have hs':Stp (Mof wb [pv,qv,cv,lv,gv]) w (Mof wb [pv',qv',cv',lv',gv']) w' :=
  ⟨hg.os.trans hs.os,hg.tape.trans hs.tape,hg.output.trans hs.output,Nat.le_trans hs.size hg.size,fun k hk hn=>by
   obtain⟨e1,e2⟩:=hs.block k hk hn
   exact⟨(hg.block k (Nat.lt_of_lt_of_le hk hs.size) (by simp;omega)).trans e1,e2⟩⟩
 have hr:∀{T:TypeId} {sz:Nat} {v:Value} {n:Nat} {xs:List Value},v∈[pv',qv',cv',lv',gv']->X.ownsRow 0 T sz v n xs->w'.ownsRow 0 T sz v n xs:=by
  intro T sz v n xs hv h;refine⟨h.1,?_⟩;rcases h.2 with hn | ⟨g,cap,cur,rfl,h0,hgg,rest⟩
  ·exact .inl hn
  ·refine .inr ⟨g,cap,cur,rfl,h0,(hg.block g (aB hgg) ?_).trans hgg,rest⟩;intro e;have e:g=R:=by simpa using e
   subst e;exact hm (.inr ⟨_,hv,rfl⟩)
 have hwb:wb≠R:=fun e=>hm (.inl e.symm);refine⟨h.upd hs' ((hg.block wb (aB hX.blk) (by simpa using hwb)).trans hX.blk) (hr (by simp) hX.pr) (hr (by simp) hX.pc) (hr (by simp) hX.cn) (hr (by simp) hX.pl) (hr (by simp) hX.gl) hX.out (fun i p hi=>.inl ⟨by rw [<- h1];exact hi,rfl,rfl⟩) (fun i fs hi=>.inl ⟨by rw [<- h2];exact hi,rfl⟩),hs'⟩
theorem aO{fn:Func}{p:Tmp}{ty:TypeId}(h:fn.results=#[.cell p ty])(tmps:Array Value)(P:Program)(w:World) :(results fn tmps).run P w=((asAddr (tmps.getD p undef)).run P w).andThen fun a w₁=>(loadVar ty a).run P w₁:=by simp only [results,h];simp [Sem.run_bind]
theorem set3{X:World}{R:Nat}(h:X.heap[R]?=some (.cells #[c0,c1,c2] T (0,0))):X.cell? ⟨R,0,none⟩=some c0/\X.cell? ⟨R,1,none⟩=some c1/\X.cell? ⟨R,2,none⟩=some c2/\X.frozen? ⟨R,0,none⟩=false/\X.frozen? ⟨R,1,none⟩=false/\X.frozen? ⟨R,2,none⟩=false /\
  (∀a:Value,(X.setCell ⟨R,0,none⟩ a).cell? ⟨R,1,none⟩=some c1/\(X.setCell ⟨R,0,none⟩ a).frozen? ⟨R,1,none⟩=false) /\
  (∀a b:Value,((X.setCell ⟨R,0,none⟩ a).setCell ⟨R,1,none⟩ b).cell? ⟨R,2,none⟩=some c2/\((X.setCell ⟨R,0,none⟩ a).setCell ⟨R,1,none⟩ b).frozen? ⟨R,2,none⟩=false) /\
  (∀a b c:Value,(((X.setCell ⟨R,0,none⟩ a).setCell ⟨R,1,none⟩ b).setCell ⟨R,2,none⟩ c).cell? ⟨R,0,none⟩=some a/\(((X.setCell ⟨R,0,none⟩ a).setCell ⟨R,1,none⟩ b).setCell ⟨R,2,none⟩ c).cell? ⟨R,1,none⟩=some b/\(((X.setCell ⟨R,0,none⟩ a).setCell ⟨R,1,none⟩ b).setCell ⟨R,2,none⟩ c).cell? ⟨R,2,none⟩=some c):=by
 refine⟨aA h 0,aA h 1,aA h 2,aF h 0,aF h 1,aF h 2,fun a=>⟨?_,?_⟩,fun a b=>⟨?_,?_⟩,fun a b c=>⟨?_,?_,?_⟩⟩
 ·exact aA (aD h 0 a) 1
 ·exact aF (aD h 0 a) 1
 ·exact aA (aD (aD h 0 a) 1 b) 2
 ·exact aF (aD (aD h 0 a) 1 b) 2
 ·exact aA (aD (aD (aD h 0 a) 1 b) 2 c) 0
 ·exact aA (aD (aD (aD h 0 a) 1 b) 2 c) 1
 ·exact aA (aD (aD (aD h 0 a) 1 b) 2 c) 2
theorem find_mem(l:Env)(s:Byt)(k:Nat)(h:Pl.find l s=some k):∃b∈l,b.2=k:=by
 induction l with
 | nil=>simp [Pl.find] at h
 | cons b l ih =>
  unfold Pl.find at h
  cases hf:Pl.find l s with
  | some j =>rw [hf] at h;obtain⟨c,hc,e⟩:=ih (by rw [hf];exact h);exact⟨c,List.mem_cons_of_mem _ hc,e⟩
  | none =>
   rw [hf] at h;dsimp only at h;split at h
   ·exact⟨b,List.mem_cons_self,Option.some.inj h⟩
   ·simp at h
structure Kp(M:Nat->Prop)(w:World)(M':Nat->Prop)(w':World):Prop where
 im:KeepI w w'
 rows:∀(k:Nat)(cur:Array Value)(e:TypeId),e=TB\/e=TV->¬M k->w.heap[k]?=some (.cells cur e (0,0))->w'.heap[k]?=some (.cells cur e (0,0))/\¬M' k
theorem Kp.refl(M:Nat->Prop)(w:World):Kp M w M w:=⟨fun _ _ _ _ h=>h,fun _ _ _ _ hm h=>⟨h,hm⟩⟩
theorem Kp.trans{M1 M2 M3:Nat->Prop}{a b c:World}(h:Kp M1 a M2 b)(k:Kp M2 b M3 c):Kp M1 a M3 c :=⟨fun i cur e hi hb=>k.im i cur e hi (h.im i cur e hi hb),fun i cur e he hm hb=>k.rows i cur e he (h.rows i cur e he hm hb).2 (h.rows i cur e he hm hb).1⟩
theorem Stp.kp(h:Stp M w M' w')(ht:Mty M w):Kp M w M' w':=⟨h.keepI ht,fun k _ _ _ hm hb=>⟨(h.block k (aB hb) hm).1.trans hb,(h.block k (aB hb) hm).2⟩⟩
theorem Sl.kp(h:Kp M w M' w')(hT:T=TB\/T=TV)(hs:Sl M w T sz v n xs):Sl M' w' T sz v n xs:=by obtain⟨h0,ao,cap,rfl,h2,h3⟩:=hs;refine⟨h0,ao,cap,rfl,h2,h3.imp id ?_⟩;rintro⟨g,off,cur,rfl,hm,hg,hc⟩;obtain⟨e1,e2⟩:=h.rows g cur T hT hm hg;exact⟨g,off,cur,rfl,e2,e1,hc⟩
theorem FrAt.kp(h:Kp M w M' w'):∀(v:Value)(l:List PFr),FrAt M w v l->FrAt M' w' v l
 | _,[],hf=>hf
 | _,_::r,hf=>by obtain⟨b,fv,gv,ev,up,hv,hb,h1,h2,h3,h4⟩:=hf;exact⟨b,fv,gv,ev,up,hv,h.im b _ _ (.inr (.inr (.inr (.inr (.inr rfl))))) hb,h1.keep h.im,h2.kp h (.inr rfl),h3.kp h (.inl rfl),FrAt.kp h up r h4⟩
theorem eV(hg:w.grownBy w' (some xb))(hx:w.heap[xb]?=some (.cells cx T (0,0)))(ht:¬imT T)(h1:T≠TB)(h2:T≠TV):Kp M w M w':=by
 refine⟨fun k cur e hi hb=>(hg.block k (aB hb) ?_).trans hb,fun k cur e he hm hb=>⟨(hg.block k (aB hb) ?_).trans hb,hm⟩⟩
 ·intro e1;have e1:k=xb:=by simpa using e1
  subst e1;exact ht ((aK hb hx).2▸hi)
 ·intro e1;have e1:k=xb:=by simpa using e1
  subst e1;rcases he with rfl | rfl
  ·exact h1 (aK hb hx).2.symm
  ·exact h2 (aK hb hx).2.symm
def stT(T:TypeId):Prop:=T≠TWd/\T≠TPa/\T≠TPc/\T≠TFrP/\T≠TV/\T≠TB/\¬imT T
theorem stT_st:stT TSt:=by unfold stT imT;decide
theorem RW.grown{W:PW}(h:RW w wb M W)(hg:w.grownBy w' (some xb))(hx:w.heap[xb]?=some (.cells cx T (0,0)))(ht:stT T):RW w' wb M W:=by
 have hm:¬M xb:=h.notM hx (by obtain⟨h1,h2,h3,h4,h5,h6,_⟩:=ht;rintro(e | e | e | e | e | e)<;>contradiction);obtain⟨pv,qv,cv,lv,gv,qs,cs,rfl,h⟩:=h;have hk:Kp (Mof wb [pv,qv,cv,lv,gv]) w (Mof wb [pv,qv,cv,lv,gv]) w':=eV hg hx ht.2.2.2.2.2.2 ht.2.2.2.2.2.1 ht.2.2.2.2.1
 have hr:∀{T:TypeId} {sz:Nat} {v:Value} {n:Nat} {xs:List Value},v∈[pv,qv,cv,lv,gv]->w.ownsRow 0 T sz v n xs->w'.ownsRow 0 T sz v n xs:=by
  intro T sz v n xs hv h;refine⟨h.1,?_⟩;rcases h.2 with hn | ⟨g,cap,cur,rfl,h0,hgg,rest⟩
  ·exact .inl hn
  ·refine .inr ⟨g,cap,cur,rfl,h0,(hg.block g (aB hgg) ?_).trans hgg,rest⟩;intro e;have e:g=xb:=by simpa using e
   subst e;exact hm (.inr ⟨_,hv,rfl⟩)
 refine⟨pv,qv,cv,lv,gv,qs,cs,rfl,⟨(hg.block wb (aB h.blk) (fun e=>hm (.inl (by simpa using e.symm)))).trans h.blk,hr (by simp) h.pr,hr (by simp) h.pc,?_,hr (by simp) h.cn,?_,hr (by simp) h.pl,hr (by simp) h.gl,h.out⟩⟩
 ·intro i p hi;obtain⟨fv,ev,a,b,c,d,e⟩:=h.pcs i p hi;exact⟨fv,ev,a,b,c.keep hk.im,d,e.kp hk (.inl rfl)⟩
 ·intro i fs hi;obtain⟨u,a,b⟩:=h.cns i fs hi;exact⟨u,a,FrAt.kp hk _ _ b⟩
def StV(w:World)(S:PS)(fv c0 c1 c2:Value):Prop:=match S.form with
 | some f=>RF w fv f
 | none=>fv=.pointer none/\[c0,c1,c2]=cZ S.val
def RS(M:Nat->Prop)(w:World)(xb:Nat)(S:PS):Prop:=∃fv ev c0 c1 c2 frv,w.heap[xb]?=some (.cells #[fv,ev,c0,c1,c2,frv] TSt (0,0))/\StV w S fv c0 c1 c2/\EnvAt M w ev S.env/\FrAt M w frv S.frames
theorem StV.keep{S:PS}{fv:Value}(h:KeepI w w')(hs:StV w S fv c0 c1 c2):StV w' S fv c0 c1 c2:=by
 unfold StV at hs ⊢
 cases hf:S.form with
 | some f=>rw [hf] at hs;exact RF.keep h hs
 | none=>rw [hf] at hs;exact hs
theorem RS.kp{S:PS}(h:RS M w xb S)(hk:Kp M w M' w')(hx:w'.heap[xb]?=w.heap[xb]?):RS M' w' xb S:=by obtain⟨fv,ev,c0,c1,c2,frv,hb,h1,h2,h3⟩:=h;exact⟨fv,ev,c0,c1,c2,frv,hx.trans hb,h1.keep hk.im,h2.kp hk (.inl rfl),FrAt.kp hk _ _ h3⟩
theorem RS.notM{W:PW}{S:PS}(h:RS M w xb S)(hW:RW w wb M W):¬M xb:=by obtain⟨fv,ev,c0,c1,c2,frv,hb,_⟩:=h;exact hW.notM hb (by decide)
theorem RS.stp{W:PW}{S:PS}(h:RS M w xb S)(hW:RW w wb M W)(hs:Stp M w M' w'):RS M' w' xb S:=by
 have hm:=h.notM hW;have hx:xb<w.heap.size:=by obtain⟨fv,ev,c0,c1,c2,frv,hb,_⟩:=h;exact aB hb
 exact h.kp (hs.kp hW.mty) (hs.block xb hx hm).1
theorem RS.later{W:PW}{S:PS}(h:RS M w xb S)(hW:RW w wb M W)(hb:Below w.heap.size w w'):RS M w' xb S:=h.stp hW (Stp.of_below hb)
def Mx(M:Nat->Prop)(xb:Nat)(k:Nat):Prop:=M k\/k=xb
theorem Stp.mx(h:Stp M w M' w')(xb:Nat):Stp (Mx M xb) w (Mx M' xb) w' :=
 ⟨h.os,h.tape,h.output,h.size,fun k hk hn=>⟨(h.block k hk (fun e=>hn (.inl e))).1,by
  rintro(e | e)
  ·exact(h.block k hk (fun e=>hn (.inl e))).2 e
  ·exact hn (.inr e)⟩⟩
def Res(M:Nat->Prop)(w:World)(wb xb:Nat)(r:SR)(e:Ending)(w':World):Prop :=e=.returned (.int .i64 (r.e:Int))/\∃M',RW w' wb M' r.W/\Stp (Mx M xb) w (Mx M' xb) w'/\(r.e=0->RS M' w' xb r.S)
theorem RS.grown{S S':PS}{fv ev frv:Value}(hg:w.grownBy w' (some xb))(hx:w.heap[xb]?=some (.cells cx TSt (0,0)))(hb:w'.heap[xb]?=some (.cells #[fv,ev,c0,c1,c2,frv] TSt (0,0)))
  (h1:StV w S' fv c0 c1 c2) (h2:EnvAt M w ev S'.env) (h3:FrAt M w frv S'.frames) (_h:S=S'):RS M w' xb S' :=
 have hk:Kp M w M w':=eV hg hx stT_st.2.2.2.2.2.2 (by decide) (by decide)
 ⟨fv,ev,c0,c1,c2,frv,hb,h1.keep hk.im,h2.kp hk (.inl rfl),FrAt.kp hk _ _ h3⟩
end
end Go.Proofs.YtkgbdddkcjpgfaaGreatDoor
