import Derived.Test.YtkgbdddkcjpgfaaGreatDoorProg
import Derived.Conc.MuLone
import Derived.KernelRfl
import Derived.Maps.OwnSet
import Derived.Test.YtkgbdddkcjpgfaaGreatDoorC01
import Derived.Deep.AppendLies
namespace Go.Proofs.YtkgbdddkcjpgfaaGreatDoor
set_option maxHeartbeats 2000000
set_option maxRecDepth 100000
open Go.Proofs.Tryz
section
abbrev muLink:Go.Conc.Locks.MuLink:={lock:=166,unlock:=167,ilock:=191,iunlock:=192,lockSlow:=209,unlockSlow:=211,disable:=97,enable:=99,acquire:=100,relMerge:=132,cas32:=208,add32:=210,tMutex:=125,tIMutex:=123,tPMutex:=370,tPIMutex:=381,tPI32:=383,tUP:=198,tNoCopy:=98,tU32:=104}
theorem zR:Go.Conc.Locks.MuLib prog muLink :=
 ⟨func166,func167,func191,func192,func97,func99,func100,func132,func208,func210,
  underlying123,Tryz.runUnderlying123,Tryz.sizeOf123,Tryz.isAgg123,Tryz.zeroValue123,underlying125,Tryz.runUnderlying125,Tryz.sizeOf125,Tryz.isAgg125,Tryz.zeroValue125,underlying370,Tryz.runUnderlying370,Tryz.sizeOf370,Tryz.isAgg370,Tryz.zeroValue370,underlying381,Tryz.runUnderlying381,Tryz.sizeOf381,Tryz.isAgg381,Tryz.zeroValue381,underlying383,Tryz.runUnderlying383,Tryz.sizeOf383,Tryz.isAgg383,Tryz.zeroValue383,underlying198,Tryz.runUnderlying198,Tryz.sizeOf198,Tryz.isAgg198,Tryz.zeroValue198,underlying98,Tryz.runUnderlying98,Tryz.sizeOf98,Tryz.isAgg98,Tryz.zeroValue98,underlying21,Tryz.runUnderlying21,Tryz.sizeOf21,Tryz.isAgg21,Tryz.zeroValue21,(by kernel_rfl)⟩
end
section
open Go.RowKit Go.Maps Go.MuLone
variable {ns:List (List UInt8)} {w:World} {tb mb:Nat}
def TTab:TypeId:=127
theorem lawS:Keyed prog 9:=string_keyed underlying9
theorem lawI:Keyed prog 3:=int_keyed underlying3
theorem zeroI(w:World):(zeroValue 3).run prog w=.ok (.int .i64 0) w:=by kernel_rfl
structure TabD(D:DataW Unit)(ns:List (List UInt8)):Prop where
 tidy:Tidy D
 size:Maps.size D=ns.length
 yes:∀(k:Nat)(s:List UInt8),ns[k]?=some s->Maps.has D (.string s)=true/\∀z,D.atKey (.string s) z=.lit (.int .i64 k)
 no:∀s,s∉ns->Maps.has D (.string s)=false
 nodup:ns.Nodup
theorem TabD.nil:TabD (.map []) []:=⟨tidy_empty,rfl,fun k s h=>by simp at h,fun s _=>rfl,List.nodup_nil⟩
theorem TabD.push{D:DataW Unit}(h:TabD D ns){s:List UInt8}(hs:s∉ns):TabD (D.put (.string s) (.lit (.int .i64 (ns.length:Int)))) (ns++[s]):=by
 have hk:WideAt.IsKeyLit (.string s):=trivial;refine⟨h.tidy.put hk _,by rw [size_put h.tidy,h.no s hs,h.size];simp,?_,?_,?_⟩
 ·intro k t ht;by_cases e:t=s
  ·subst e
   have:k=ns.length:=by
    rcases Nat.lt_or_ge k ns.length with hl | hl
    ·rw [List.getElem?_append_left hl] at ht;exact absurd (List.mem_of_getElem? ht) hs
    ·have:=(List.getElem?_eq_some_iff.1 ht).1;simp at this;omega
   subst this;exact⟨has_put_same h.tidy.isMap hk _,fun z=>atKey_put_same h.tidy.isMap hk _ z⟩
  ·have hne:(Lit.string t)≠.string s:=fun x=>e (by simpa using x)
   have hl:k<ns.length:=by
    rcases Nat.lt_or_ge k ns.length with hl | hl
    ·exact hl
    ·rw [List.getElem?_append_right hl] at ht;have hm:=List.mem_of_getElem? ht;simp at hm;exact absurd hm e
   rw [List.getElem?_append_left hl] at ht;obtain⟨h1,h2⟩:=h.yes k t ht;exact⟨by rw [has_put_other hne];exact h1,fun z=>by rw [atKey_put_other hne];exact h2 z⟩
 ·intro t ht;simp only [List.mem_append,List.mem_singleton,not_or] at ht;rw [has_put_other (fun x=>ht.2 (by simpa using x))];exact h.no t ht.1
 ·rw [List.nodup_append];refine⟨h.nodup,by simp,?_⟩;rintro a ha b hb;rintro rfl;simp at hb;subst hb;exact hs ha
structure Tab(w:World)(tb mb:Nat)(ns:List (List UInt8)):Prop where
 blk:w.heap[tb]?=some (.cells #[.int .i32 0,.int .u32 0,.map (some mb)] TTab (0,0))
 map:∃D:DataW Unit,w.ownsMap prog 9 (plainElem prog 3) mb ns.length D/\TabD D ns
theorem Tab.ne(h:Tab w tb mb ns):mb≠tb:=by rintro rfl;obtain⟨D,⟨es,cl,hb,_⟩,_⟩:=h.map;rw [h.blk] at hb;simp at hb
theorem Tab.lt(h:Tab w tb mb ns):tb<w.heap.size/\mb<w.heap.size:=⟨aB h.blk,by obtain⟨D,h1,_⟩:=h.map;exact h1.lt⟩
theorem Tab.keep{w':World}(h:Tab w tb mb ns)(h1:w'.heap[tb]?=w.heap[tb]?)(h2:w'.heap[mb]?=w.heap[mb]?):Tab w' tb mb ns:=by obtain⟨D,⟨es,cl,hb,r⟩,hD⟩:=h.map;exact⟨h1.trans h.blk,D,⟨es,cl,h2.trans hb,r⟩,hD⟩
def b9(ns:List (List UInt8))(s:List UInt8):List (List UInt8):=if s∈ns then ns else ns++[s]
theorem d8(ns:List (List UInt8))(s:List UInt8):(b9 ns s)[ns.idxOf s]?=some s:=by
 unfold b9;by_cases h:s∈ns
 ·rw [if_pos h];have hl:=List.idxOf_lt_length_of_mem h;rw [List.getElem?_eq_getElem hl,List.getElem_idxOf hl]
 ·rw [if_neg h,List.idxOf_eq_length h];simp
theorem pL(ns:List (List UInt8))(s:List UInt8):ns <+: b9 ns s:=by
 unfold b9;split
 ·exact List.prefix_refl _
 ·exact List.prefix_append _ _
theorem dE(ns:List (List UInt8))(s:List UInt8):(b9 ns s).length<=ns.length+1:=by unfold b9;split<;>simp
theorem sE(w:World):Calls prog 41 #[] w fun e w'=>e=.returned (.pointer (some ⟨w.heap.size+1,0,none⟩))/\Below w.heap.size w w'/\Tab w' (w.heap.size+1) w.heap.size []:=by
 have hmm:=@run_makeMap prog;go_enter func41,ntmps41;go_wp2;go_ret;refine⟨rfl,((Below.refl _ _).alloc (Nat.le_refl _) _).alloc (by simp) _,⟨?_,.map [],?_,TabD.nil⟩⟩
 ·have:=heap_alloc_new (w.alloc (.map #[] 0)) (.cells #[.int .i32 0,.int .u32 0,.map (some w.heap.size)] TTab);simpa [TTab] using this
 ·exact(World.ownsMap_made w _ _ _).alloc _
theorem nT{c:Array Value}{T:TypeId}(h:w.heap[tb]?=some (.cells c T (0,0)))(h0:c[0]?=some (.int .i32 0))(x:Value){w1:World}(hg:(w.setCell ⟨tb,0,none⟩ x).grownBy w1 (some mb))(hne:mb≠tb) :(w1.setCell ⟨tb,0,none⟩ (.int .i32 0)).heap[tb]?=w.heap[tb]? /\ w.grownBy (w1.setCell ⟨tb,0,none⟩ (.int .i32 0)) (some mb):=by
 have hlt:=aB h;have e0:w1.heap[tb]?=some (.cells (c.setIfInBounds 0 x) T (0,0)):=by rw [hg.block tb (by simpa [World.setCell] using hlt) (fun e=>hne (Option.some.inj e).symm)];exact aD h 0 x
 have e1:(w1.setCell ⟨tb,0,none⟩ (.int .i32 0)).heap[tb]?=w.heap[tb]? := by
  rw [aD e0 0,h,Array.setIfInBounds_setIfInBounds]
  congr 2
  apply Array.ext_getElem?;intro i;rw [Array.getElem?_setIfInBounds];split
  ·rename_i hi;subst hi;split
   ·exact h0.symm
   ·rw [Array.getElem?_eq_none (by omega)]
  ·rfl
 refine⟨e1,⟨hg.os,hg.tape,hg.output,by have:=hg.size;simpa [World.setCell] using this,fun i hi hn=>?_⟩⟩;by_cases e:i=tb
 ·subst e;exact e1
 ·rw [Below.heap_setCell _ _ _ _ (fun x=>e (by simpa using x)),hg.block i (by simpa [World.setCell] using hi) hn,Below.heap_setCell _ _ _ _ (fun x=>e (by simpa using x))]
theorem jE(w:World)(tb mb:Nat)(ns:List (List UInt8))(s:List UInt8)(h:Tab w tb mb ns)(hs:s.length<=1000000)(hn:ns.length<=1000000000000000000) :Calls prog 123 #[.pointer (some ⟨tb,0,none⟩),.string ⟨s.toArray⟩] w fun e w'=>e=.returned (.int .i64 (ns.idxOf s:Nat))/\Tab w' tb mb (b9 ns s)/\w.grownBy w' (some mb):=by
 have HT:Hid (Tab w tb mb ns):=h;have hne:=h.ne;obtain⟨hb,D,hown,hD⟩:=h;have c0:w.cell? ⟨tb,0,none⟩=some (.int .i32 0):=aA hb 0;have f0:w.frozen? ⟨tb,0,none⟩=false:=aF hb 0;have c2:w.cell? ⟨tb,0+2,none⟩=some (.map (some mb)):=aA hb 2;have hkey:keyOf prog 9 (.string ⟨s.toArray⟩)=some (.string s):=WideMaps.keyOf_string_mk underlying9 (by unfold maxLen;show s.toArray.size<=_;simp;omega);have hown1:=hown.setCell (a:=⟨tb,0,none⟩) hne (.int .i32 1);have HB:Hid (w.heap[tb]?=some (.cells #[.int .i32 0,.int .u32 0,.map (some mb)] TTab (0,0))):=hb;have HD:Hid (TabD D ns):=hD;by_cases hm:s∈ns
 ·obtain⟨hh,hat0⟩:=hD.yes _ _ (show ns[ns.idxOf s]?=some s by rw [List.getElem?_eq_getElem (List.idxOf_lt_length_of_mem hm),List.getElem_idxOf]);have HI:Hid (b9 ns s=ns):=show b9 ns s=ns from by unfold b9;rw [if_pos hm]
  have HA:Hid (∀z,D.atKey (.string s) z=.lit (.int .i64 (ns.idxOf s:Nat))):=hat0;clear hb hD hm hat0
  go_enter_defers func123,ntmps123
  go_wp2_with (first
   | (go_at_call 166;refine(lock_free zR ⟨tb,0,none⟩ _ c0 f0).mono ?_;rintro e w' ⟨rfl,rfl⟩)
   | (at_lookup;refine wpList_lookup_own_ok_int _ rfl _ _ 121 rfl 9 3 .i64 lawS underlying121 underlying3 (zeroI _) mb ns.length D rfl hown1 _ _ rfl hkey ?_;intro c hat hwc))
  refine leaves_cons (f:=167) (args:=#[.pointer (some ⟨tb,0,none⟩)]) (by simp) (by simp [go_sem]) ?_;refine(unlock_deferred zR ⟨tb,0,none⟩ .returning _ (World.cell?_setCell_same w ⟨tb,0,none⟩ (.int .i32 1) c0) (by simp [f0])).mono ?_;rintro e u' w'' ⟨rfl,rfl,rfl⟩;have hc:c=(ns.idxOf s:Nat):=by rw [HA.out] at hat;simpa using hat.symm
  obtain⟨e1,e2⟩:=nT HB.out rfl (.int .i32 1) (w1:=w.setCell ⟨tb,0,none⟩ (.int .i32 1)) (mb:=mb) ⟨rfl,rfl,rfl,Nat.le_refl _,fun _ _ _=>rfl⟩ hne;refine⟨_,results_tmp rfl _ _ _,by rw [hc];rfl,?_,e2⟩;rw [HI.out];exact HT.out.keep e1 (by rw [Below.heap_setCell _ _ _ _ hne,Below.heap_setCell _ _ _ _ hne])
 ·have hh:=hD.no s hm;have HI:Hid (b9 ns s=ns++[s]):=show b9 ns s=_ from by unfold b9;rw [if_neg hm]
  have HX:Hid ((ns.idxOf s:Nat)=ns.length):=List.idxOf_eq_length hm;have HM:Hid (s∉ns):=hm;have hsz:=hD.size;have hwl:(Lit.int .i64 ((ns.length:Nat):Int)).wf=true:=WalkArith.wf_i64 (by omega);clear hb hD hm
  go_enter_defers func123,ntmps123
  go_wp2_with (first
   | (go_at_call 166;refine(lock_free zR ⟨tb,0,none⟩ _ c0 f0).mono ?_;rintro e w' ⟨rfl,rfl⟩)
   | (at_lookup;refine wpList_lookup_own_ok_int _ rfl _ _ 121 rfl 9 3 .i64 lawS underlying121 underlying3 (zeroI _) mb ns.length D rfl hown1 _ _ rfl hkey ?_;intro c hat hwc)
   | (at_len;refine wpList_len_own _ rfl _ 121 rfl 9 3 underlying121 _ mb ns.length D rfl hown1 ?_;rw [hsz])
   | (at_mapUpdate;refine wpList_mapUpdate_own _ rfl _ _ _ 121 rfl 9 3 lawS underlying121 _ mb ns.length D rfl hown1 (by unfold maxLen;omega) _ _ _ rfl rfl hkey _ [] (plainElem_int underlying3 hwl) ?_;intro w1 hown2 hgrow))
  have hk:w1.cell? ⟨tb,0,none⟩=some (.int .i32 1):=by have e0:=hgrow.block tb (by simpa [World.setCell] using aB HB.out) (fun e=>hne (Option.some.inj e).symm);rw [aD HB.out 0] at e0;exact aA e0 0
  have hf:w1.frozen? ⟨tb,0,none⟩=false:=by have e0:=hgrow.block tb (by simpa [World.setCell] using aB HB.out) (fun e=>hne (Option.some.inj e).symm);rw [aD HB.out 0] at e0;exact aF e0 0
  refine leaves_cons (f:=167) (args:=#[.pointer (some ⟨tb,0,none⟩)]) (by simp) (by simp [go_sem]) ?_;refine(unlock_deferred zR ⟨tb,0,none⟩ .returning _ hk hf).mono ?_;rintro e u' w'' ⟨rfl,rfl,rfl⟩;obtain⟨e1,e2⟩:=nT HB.out rfl (.int .i32 1) hgrow hne;refine⟨_,results_tmp rfl _ _ _,by rw [HX.out];rfl,?_,e2⟩;rw [HI.out];obtain⟨es,cl,hb2,hr⟩:=hown2;refine⟨e1.trans HB.out,_,⟨es,cl,?_,by simpa using hr⟩,HD.out.push HM.out⟩;rw [Below.heap_setCell _ _ _ _ hne];exact hb2
end
section
open Go.RowKit
variable {n b dp de G dpk:Nat} {w wr:World} {L kids v:Value} {all r q:List (List UInt8)} {g gk:Bool} {vs:List Value}
theorem RepR.ptr{ok:Nat->Prop}{t:Tr}(h:RepR ok n w v t):∃b,v=.pointer (some ⟨b,0,none⟩):=by
 cases n with
 | zero=>exact h.elim
 | succ n=>obtain⟨b,hv,_⟩:=h;exact⟨b,hv⟩
structure LInv(n:Nat)(w wr:World)(b G:Nat)(L:Value)(all r:List (List UInt8))(dp de:Nat)(g:Bool)(q:List (List UInt8))(kids:Value)(ts:List Tr)(vs:List Value)(dpk:Nat)(gk:Bool):Prop where
 suf:q <:+ all
 len:ts.length+q.length<=r.length
 lf:Pl.LF (Pl.pd n) r ts dpk gk q
 rd:Rd wr b L ((all.length-q.length:Nat):Int) ((max dp (de+1+dpk):Nat):Int) (g||gk)
 toks:ToksAt wr L all
 out:wr.heap[G]?=some (.cells #[s6,.int .i64 0,tI,kids] TD (0,0))
 row:wr.ownsRow (G+1) TP 1 kids ts.length vs
 kid:∀(i:Nat)(u:Value)(x:Tr),vs[i]?=some u->ts[i]?=some x->RepR (fun k=>G<k/\kids.ownBlock≠some k) n wr u x
 grown:w.grownBy wr (some b)
 sizeG:w.heap.size<=G
 bG:b<w.heap.size
theorem LInv.start{w1:World}(hsuf:r <:+ all)(hR:Rd w1 b L ((all.length-r.length:Nat):Int) ((max dp (de+1):Nat):Int) g)(hT:ToksAt w1 L all)
  (hg:w.grownBy w1 (some b)) (hb:b<w.heap.size) (o:Obj) (ho:o=.cells #[s6,.int .i64 0,tI,.slice none 0 0] TD (0,0)) (G:Nat) (hG:G=w1.heap.size) :
  LInv n w (w1.alloc o) b G L all r dp de g r (.slice none 0 0) [] [] 0 false where
 suf:=hsuf
 len:=by simp
 lf:=Pl.LF.start _ _
 rd:=(hR.alloc o).cast rfl (by omega) (by simp)
 toks:=World.ownsRow.alloc hT o
 out:=by rw [cB hG,ho]
 row:=World.ownsRow_nil _ _ _ _
 kid:=fun i u x hu=>by simp at hu
 grown:=aC hg (World.grownBy_alloc _ _ _)
 sizeG:=by rw [hG];exact hg.size
 bG:=hb
theorem LInv.ltG{ts:List Tr}(h:LInv n w wr b G L all r dp de g q kids ts vs dpk gk):G<wr.heap.size:=aB h.out
theorem LInv.drewN{ts:List Tr}(h:LInv n w wr b G L all r dp de g q kids ts vs dpk gk)(m:Nat):LInv n w (wr.drewN m) b G L all r dp de g q kids ts vs dpk gk :=⟨h.suf,h.len,h.lf,h.rd,h.toks,h.out,h.row,fun i u x hu hx=>RepR.drewN (h.kid i u x hu hx),bK h.grown m,h.sizeG,h.bG⟩
structure LMid(n:Nat)(w w2:World)(b G:Nat)(L:Value)(all r:List (List UInt8))(dp de:Nat)(g:Bool)(t:List UInt8)(q0:List (List UInt8))(kids:Value)(ts:List Tr)(vs:List Value)(p:Pl.PR)(v:Value)(dpk:Nat)(gk:Bool):Prop where
 suf:p.q <:+ all
 len:ts.length+1+p.q.length<=r.length
 lf:Pl.LF (Pl.pd n) r (ts++[p.t]) (max dpk p.dp) (gk||p.gr) p.q
 rd:Rd w2 b L ((all.length-p.q.length:Nat):Int) ((max dp (de+1+max dpk p.dp):Nat):Int) (g||(gk||p.gr))
 toks:ToksAt w2 L all
 out:w2.heap[G]?=some (.cells #[s6,.int .i64 0,tI,kids] TD (0,0))
 row:w2.ownsRow (G+1) TP 1 kids ts.length vs
 kid:∀(i:Nat)(u:Value)(x:Tr),vs[i]?=some u->ts[i]?=some x->RepR (fun k=>G<k/\kids.ownBlock≠some k) n w2 u x
 new:RepR (fun k=>G<k/\kids.ownBlock≠some k) n w2 v p.t
 grown:w.grownBy w2 (some b)
 sizeG:w.heap.size<=G
 bG:b<w.heap.size
 lenq:q0.length<q0.length+1/\t=t
 q_lt:p.q.length<q0.length+1
theorem LInv.call{w2:World}{t:List UInt8}{q0:List (List UInt8)}{ts:List Tr}{p:Pl.PR}
  (h:LInv n w wr b G L all r dp de g (t::q0) kids ts vs dpk gk) (ht:¬t=[41]) (hp:Pl.pd n (t::q0)=some p) (hg:wr.grownBy w2 (some b)) (hrep:RepR (fun k=>wr.heap.size<=k) n w2 v p.t)
  (hrd:Rd w2 b L ((all.length-p.q.length:Nat):Int) ((max (max dp (de+1+dpk)) (de+1+p.dp):Nat):Int) ((g||gk)||p.gr)) :
  LMid n w w2 b G L all r dp de g t q0 kids ts vs p v dpk gk:=by
 have htl:=Pl.pd_tail n _ _ hp;have hneb:some G≠some b:=by have:=h.sizeG;have:=h.bG;intro e;simp only [Option.some.injEq] at e;omega
 have hTR:∀ok,KeepD ok wr w2:=fun ok=>KeepD.of_grown hg h.rd (by decide) (by decide);have hlen:=h.len;have hq:=htl.2;simp only [List.length_cons] at hlen hq;refine⟨htl.1.trans h.suf,by omega,h.lf.more ht hp htl.2,hrd.cast rfl (by omega) (by rw [Bool.or_assoc]),h.toks.keep hg h.rd,?_,?_,?_,?_,aC h.grown hg,h.sizeG,h.bG,⟨by omega,rfl⟩,hq⟩
 ·exact(hg.block G h.ltG hneb).trans h.out
 ·refine h.row.kept hg ?_;by_cases hk:kids.ownBlock=some b
  ·have:=(h.row.lt b hk).1;have:=h.sizeG;have:=h.bG;omega
  ·exact .inr hk
 ·exact fun i u x hu hx=>RepR.keep (hTR _) _ _ _ (h.kid i u x hu hx)
 ·refine RepR.mono (fun k _ hk=>?_) _ _ _ hrep;have:=h.ltG;refine⟨by omega,fun e=>?_⟩;have:=(h.row.lt k e).2;omega
theorem LMid.push{w2 w3:World}{t:List UInt8}{q0:List (List UInt8)}{ts:List Tr}{p:Pl.PR}{o:Obj}{g' cap':Nat}
  (h:LMid n w w2 b G L all r dp de g t q0 kids ts vs p v dpk gk) (hown:w3.ownsRow (G+1) TP 1 (.slice (some ⟨g',0,none⟩) (ts.length+1) cap') (ts.length+1) (vs++[v])) (hg:(w2.alloc o).grownBy w3 kids.ownBlock) (hat:kids.ownBlock=some g'\/g'=w2.heap.size+1) :
  w3.cell? ⟨G,3,none⟩=some kids/\w3.frozen? ⟨G,3,none⟩=false/\LInv n w (w3.setCell ⟨G,3,none⟩ (.slice (some ⟨g',0,none⟩) (ts.length+1) cap')) b G L all r dp de g p.q (.slice (some ⟨g',0,none⟩) (ts.length+1) cap') (ts++[p.t]) (vs++[v]) (max dpk p.dp) (gk||p.gr):=by
 have hltG:G<w2.heap.size:=aB h.out;have hbG:=h.bG;have hsG:=h.sizeG;have hrl:=h.row.lt;have hneG:some G≠kids.ownBlock:=fun e=>by have:=(hrl G e.symm).1;omega
 have hneB:some b≠kids.ownBlock:=fun e=>by have:=(hrl b e.symm).1;omega
 have hob:∀k,k<w2.heap.size->some k≠kids.ownBlock->w3.heap[k]?=w2.heap[k]? := fun k hk hne=>(hg.block k (by simp;omega) hne).trans (Below.heap_alloc _ _ _ hk);have hout3:w3.heap[G]?=some (.cells #[s6,.int .i64 0,tI,kids] TD (0,0)):=(hob G hltG hneG).trans h.out;generalize hk':Value.slice (some ⟨g',0,none⟩) (ts.length+1) cap'=kids' at *;have hkb:kids'.ownBlock=some g':=by rw [<- hk'];rfl
 have hblk:∀k,k≠G->(w3.setCell ⟨G,3,none⟩ kids').heap[k]?=w3.heap[k]? := fun k hk=>Below.heap_setCell _ _ _ _ hk;have hbl:b<w2.heap.size:=aB h.rd;have hsz3:w2.heap.size<=w3.heap.size:=by have:=hg.size;simp at this;omega
 have hgG:G<g':=by have:=(hown.lt g' hkb).1;omega
 have hkeep:KeepD (fun k=>G<k/\kids.ownBlock≠some k) w2 (w3.setCell ⟨G,3,none⟩ kids'):=fun k cur e hok _ hk=>by rw [hblk k (by omega),hob k (aB hk) (fun e=>hok.2 e.symm)];exact hk
 have hrep:∀(u:Value)(x:Tr),RepR (fun k=>G<k/\kids.ownBlock≠some k) n w2 u x->RepR (fun k=>G<k/\kids'.ownBlock≠some k) n (w3.setCell ⟨G,3,none⟩ kids') u x:=by
  intro u x hr
  have h1:RepR (fun k=>(G<k/\kids.ownBlock≠some k)/\kids'.ownBlock≠some k) n w2 u x:=by
   refine RepR.mono (fun k hk hok=>⟨hok,?_⟩) _ _ _ hr;rw [hkb];intro e;obtain rfl:=Option.some.inj e;rcases hat with h1 | h1
   ·exact hok.2 h1
   ·omega
  have h2:=RepR.keep (hkeep.mono (ok':=fun k=>(G<k/\kids.ownBlock≠some k)/\kids'.ownBlock≠some k) (fun k hok=>hok.1)) _ _ _ h1;exact RepR.mono (fun k _ hok=>⟨hok.1.1,hok.2⟩) _ _ _ h2
 have hrow3:(w3.setCell ⟨G,3,none⟩ kids').ownsRow (G+1) TP 1 kids' (ts.length+1) (vs++[v]):=ownsRow_setCell_below hown (by show G<G+1;omega) _
 have hTok:ToksAt (w3.setCell ⟨G,3,none⟩ kids') L all:=by
  refine⟨h.toks.1,?_⟩;rcases h.toks.2 with hn | ⟨x,cap,cur,hv,h0,hx,rest⟩
  ·exact .inl hn
  ·refine .inr ⟨x,cap,cur,hv,h0,?_,rest⟩;have hxG:x≠G:=by intro e;subst e;rw [h.out] at hx;simp only [Option.some.injEq,Obj.cells.injEq] at hx;have:=hx.2.1;simp [TD] at this
   have hxk:some x≠kids.ownBlock:=by
    intro e;rcases h.row.2 with⟨hv,_⟩ | ⟨y,_,_,hv,_,hy,_⟩
    ·rw [hv] at e;simp [Value.ownBlock] at e
    ·rw [hv] at e;simp only [Value.ownBlock,Option.some.injEq] at e;subst e;rw [hy] at hx;simp only [Option.some.injEq,Obj.cells.injEq] at hx;have:=hx.2.1;simp [TP] at this
   rw [hblk x hxG,hob x (aB hx) hxk];exact hx
 refine⟨aA hout3 3,aF hout3 3,⟨h.suf,by have:=h.len;simp;omega,h.lf,?_,hTok,?_,?_,?_,?_,h.sizeG,h.bG⟩⟩
 ·show(w3.setCell _ _).heap[b]?=_;rw [hblk b (by omega),hob b hbl hneB];exact h.rd
 ·rw [aD hout3 3 kids'];rfl
 ·simpa using hrow3
 ·intro i u x hu hx;by_cases hi:i<vs.length
  ·have hvl:=h.row.1;rw [List.getElem?_append_left hi] at hu;rw [List.getElem?_append_left (by omega)] at hx;exact hrep u x (h.kid i u x hu hx)
  ·have hvl:=h.row.1;have e:i=vs.length:=by have:=(List.getElem?_eq_some_iff.1 hu).1;simp at this;omega
   subst e;rw [List.getElem?_append_right (Nat.le_refl _)] at hu;rw [List.getElem?_append_right (by omega)] at hx;simp at hu;have e2:vs.length-ts.length=0:=by omega
   rw [e2] at hx;simp at hx;subst hu hx;exact hrep _ _ h.new
 ·refine⟨?_,?_,?_,?_,?_⟩
  ·exact hg.os.trans h.grown.os
  ·exact hg.tape.trans h.grown.tape
  ·exact hg.output.trans h.grown.output
  ·have:=h.grown.size;rw [fR];omega
  ·intro k hk hne;have hs2:=h.grown.size;rw [hblk k (by omega),hob k (by omega) (fun e=>by have:=(hrl k e.symm).1;omega)];exact h.grown.block k hk hne
theorem LInv.done{ts:List Tr}(h:LInv n w wr b G L all r dp de g q kids ts vs dpk gk)(hr:r.length<=1000)(x:Int) :RepR (fun k=>w.heap.size<=k) (n+1) (wr.setCell ⟨b,1,none⟩ (.int .i64 x)) (.pointer (some ⟨G,0,none⟩)) (.agg ts):=by
 have hk:∀ok,KeepD ok wr (wr.setCell ⟨b,1,none⟩ (.int .i64 x)):=fun ok=>KeepD.of_grown (aE _ _ _ _) h.rd (by decide) (by decide);have hsG:=h.sizeG;refine RepR.keep (hk _) _ _ _ ⟨G,rfl,hsG,kids,vs,h.out,?_,?_,?_,by have:=h.len;omega⟩
 ·intro r hr;have:=(h.row.lt r hr).1;omega
 ·exact⟨h.row.1,h.row.2.imp id (fun⟨g,cap,cur,a,b,c⟩=>⟨g,cap,cur,a,Nat.zero_le _,c⟩)⟩
 ·intro i u y hu hy;exact RepR.mono (fun k _ hok=>by have:=hok.1;omega) _ _ _ (h.kid i u y hu hy)
end
end Go.Proofs.YtkgbdddkcjpgfaaGreatDoor
