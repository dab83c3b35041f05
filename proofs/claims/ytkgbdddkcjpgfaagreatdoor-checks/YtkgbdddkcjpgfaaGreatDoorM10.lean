/- The program's table of names. -/
import Derived.Test.YtkgbdddkcjpgfaaGreatDoorM01
import Derived.Test.YtkgbdddkcjpgfaaGreatDoorM04
import Derived.Maps.OwnSet
import Derived.Test.YtkgbdddkcjpgfaaGreatDoorM09
import Derived.Test.YtkgbdddkcjpgfaaGreatDoorM08
namespace Go.Proofs.YtkgbdddkcjpgfaaGreatDoor
open Go.RowKit Go.Maps Go.MuLone

def TTab : TypeId := 127
theorem lawS : Keyed Tryz.prog 9 := string_keyed Tryz.underlying9
theorem lawI : Keyed Tryz.prog 3 := int_keyed Tryz.underlying3
theorem zeroI (w : World) : (zeroValue 3).run Tryz.prog w = .ok (.int .i64 0) w := by kernel_rfl
/- A map that holds the number of each name. -/
structure TabD (D : DataW Unit) (ns : List (List UInt8)) : Prop where
  tidy : Tidy D
  size : Maps.size D = ns.length
  yes : ∀ (k : Nat) (s : List UInt8), ns[k]? = some s → Maps.has D (.string s) = true ∧ ∀ z, D.atKey (.string s) z = .lit (.int .i64 k)
  no : ∀ s, s ∉ ns → Maps.has D (.string s) = false
  nodup : ns.Nodup
theorem TabD.nil : TabD (.map []) [] := ⟨tidy_empty, rfl, fun k s h => by simp at h, fun s _ => rfl, List.nodup_nil⟩
theorem TabD.push {D : DataW Unit} {ns : List (List UInt8)} (h : TabD D ns) {s : List UInt8} (hs : s ∉ ns) : TabD (D.put (.string s) (.lit (.int .i64 (ns.length : Int)))) (ns ++ [s]) := by
  have hk : WideAt.IsKeyLit (.string s) := trivial
  refine ⟨h.tidy.put hk _, by rw [size_put h.tidy, h.no s hs, h.size]; simp, ?_, ?_, ?_⟩
  · intro k t ht
    by_cases e : t = s
    · subst e
      have : k = ns.length := by
        rcases Nat.lt_or_ge k ns.length with hl | hl
        · rw [List.getElem?_append_left hl] at ht
          exact absurd (List.mem_of_getElem? ht) hs
        · have := (List.getElem?_eq_some_iff.1 ht).1
          simp at this; omega
      subst this
      exact ⟨has_put_same h.tidy.isMap hk _, fun z => atKey_put_same h.tidy.isMap hk _ z⟩
    · have hne : (Lit.string t) ≠ .string s := fun x => e (by simpa using x)
      have hl : k < ns.length := by
        rcases Nat.lt_or_ge k ns.length with hl | hl
        · exact hl
        · rw [List.getElem?_append_right hl] at ht
          have hm := List.mem_of_getElem? ht
          simp at hm
          exact absurd hm e
      rw [List.getElem?_append_left hl] at ht
      obtain ⟨h1, h2⟩ := h.yes k t ht
      exact ⟨by rw [has_put_other hne]; exact h1, fun z => by rw [atKey_put_other hne]; exact h2 z⟩
  · intro t ht
    simp only [List.mem_append, List.mem_singleton, not_or] at ht
    rw [has_put_other (fun x => ht.2 (by simpa using x))]
    exact h.no t ht.1
  · rw [List.nodup_append]
    refine ⟨h.nodup, by simp, ?_⟩
    rintro a ha b hb
    rintro rfl
    simp at hb
    subst hb
    exact hs ha
/- The table in the block tb, its map in the block mb. -/
structure Tab (w : World) (tb mb : Nat) (ns : List (List UInt8)) : Prop where
  blk : w.heap[tb]? = some (.cells #[.int .i32 0, .int .u32 0, .map (some mb)] TTab (0, 0))
  map : ∃ D : DataW Unit, w.ownsMap Tryz.prog 9 (plainElem Tryz.prog 3) mb ns.length D ∧ TabD D ns
theorem Tab.ne {w : World} {tb mb : Nat} {ns : List (List UInt8)} (h : Tab w tb mb ns) : mb ≠ tb := by
  rintro rfl
  obtain ⟨D, ⟨es, cl, hb, _⟩, _⟩ := h.map
  rw [h.blk] at hb
  simp at hb
theorem Tab.lt {w : World} {tb mb : Nat} {ns : List (List UInt8)} (h : Tab w tb mb ns) : tb < w.heap.size ∧ mb < w.heap.size := ⟨lt_of_some h.blk, by obtain ⟨D, h1, _⟩ := h.map; exact h1.lt⟩
theorem Tab.keep {w w' : World} {tb mb : Nat} {ns : List (List UInt8)} (h : Tab w tb mb ns) (h1 : w'.heap[tb]? = w.heap[tb]?) (h2 : w'.heap[mb]? = w.heap[mb]?) : Tab w' tb mb ns := by
  obtain ⟨D, ⟨es, cl, hb, r⟩, hD⟩ := h.map
  exact ⟨h1.trans h.blk, D, ⟨es, cl, h2.trans hb, r⟩, hD⟩
def internL (ns : List (List UInt8)) (s : List UInt8) : List (List UInt8) := if s ∈ ns then ns else ns ++ [s]
theorem internL_get (ns : List (List UInt8)) (s : List UInt8) : (internL ns s)[ns.idxOf s]? = some s := by
  unfold internL
  by_cases h : s ∈ ns
  · rw [if_pos h]
    have hl := List.idxOf_lt_length_of_mem h
    rw [List.getElem?_eq_getElem hl, List.getElem_idxOf hl]
  · rw [if_neg h, List.idxOf_eq_length h]
    simp
theorem internL_pre (ns : List (List UInt8)) (s : List UInt8) : ns <+: internL ns s := by
  unfold internL
  split
  · exact List.prefix_refl _
  · exact List.prefix_append _ _
theorem internL_len (ns : List (List UInt8)) (s : List UInt8) : (internL ns s).length ≤ ns.length + 1 := by
  unfold internL
  split <;> simp
set_option maxHeartbeats 1000000 in
theorem p_newTable (w : World) : Calls Tryz.prog 41 #[] w fun e w' => e = .returned (.pointer (some ⟨w.heap.size + 1, 0, none⟩)) ∧ Below w.heap.size w w' ∧ Tab w' (w.heap.size + 1) w.heap.size [] := by
  have hmm := @run_makeMap Tryz.prog
  go_enter Tryz.func41, Tryz.ntmps41
  go_wp2
  go_ret
  refine ⟨rfl, ((Below.refl _ _).alloc (Nat.le_refl _) _).alloc (by simp) _, ⟨?_, .map [], ?_, TabD.nil⟩⟩
  · have := heap_alloc_new (w.alloc (.map #[] 0)) (.cells #[.int .i32 0, .int .u32 0, .map (some w.heap.size)] TTab)
    simpa [TTab] using this
  · exact (World.ownsMap_made w _ _ _).alloc _
theorem lock_back {w : World} {tb : Nat} {c : Array Value} {T : TypeId} (h : w.heap[tb]? = some (.cells c T (0, 0))) (h0 : c[0]? = some (.int .i32 0)) (x : Value) {w1 : World} {mb : Nat} (hg : (w.setCell ⟨tb, 0, none⟩ x).grownBy w1 (some mb)) (hne : mb ≠ tb) :
    (w1.setCell ⟨tb, 0, none⟩ (.int .i32 0)).heap[tb]? = w.heap[tb]? ∧ w.grownBy (w1.setCell ⟨tb, 0, none⟩ (.int .i32 0)) (some mb) := by
  have hlt := lt_of_some h
  have e0 : w1.heap[tb]? = some (.cells (c.setIfInBounds 0 x) T (0, 0)) := by rw [hg.block tb (by simpa [World.setCell] using hlt) (fun e => hne (Option.some.inj e).symm)]; exact set_block h 0 x
  have e1 : (w1.setCell ⟨tb, 0, none⟩ (.int .i32 0)).heap[tb]? = w.heap[tb]? := by
    rw [set_block e0 0, h, Array.setIfInBounds_setIfInBounds]
    congr 2
    apply Array.ext_getElem?
    intro i
    rw [Array.getElem?_setIfInBounds]
    split
    · next hi => subst hi; split
                 · exact h0.symm
                 · next hl => rw [Array.getElem?_eq_none (by omega)]
    · rfl
  refine ⟨e1, ⟨hg.os, hg.tape, hg.output, by have := hg.size; simpa [World.setCell] using this, fun i hi hn => ?_⟩⟩
  by_cases e : i = tb
  · subst e; exact e1
  · rw [Below.heap_setCell _ _ _ _ (fun x => e (by simpa using x)), hg.block i (by simpa [World.setCell] using hi) hn, Below.heap_setCell _ _ _ _ (fun x => e (by simpa using x))]
set_option maxHeartbeats 2000000 in
set_option maxRecDepth 100000 in
theorem p_tabNumber (w : World) (tb mb : Nat) (ns : List (List UInt8)) (s : List UInt8) (h : Tab w tb mb ns) (hs : s.length ≤ 1000000) (hn : ns.length ≤ 1000000000000000000) :
    Calls Tryz.prog 123 #[.pointer (some ⟨tb, 0, none⟩), .string ⟨s.toArray⟩] w fun e w' => e = .returned (.int .i64 (ns.idxOf s : Nat)) ∧ Tab w' tb mb (internL ns s) ∧ w.grownBy w' (some mb) := by
  have HT : Hid (Tab w tb mb ns) := h
  have hne := h.ne
  obtain ⟨hb, D, hown, hD⟩ := h
  have c0 : w.cell? ⟨tb, 0, none⟩ = some (.int .i32 0) := cells_at hb 0
  have f0 : w.frozen? ⟨tb, 0, none⟩ = false := free_at hb 0
  have c2 : w.cell? ⟨tb, 0 + 2, none⟩ = some (.map (some mb)) := cells_at hb 2
  have hkey : keyOf Tryz.prog 9 (.string ⟨s.toArray⟩) = some (.string s) := WideMaps.keyOf_string_mk Tryz.underlying9 (by unfold maxLen; show s.toArray.size ≤ _; simp; omega)
  have hown1 := hown.setCell (a := ⟨tb, 0, none⟩) hne (.int .i32 1)
  have HB : Hid (w.heap[tb]? = some (.cells #[.int .i32 0, .int .u32 0, .map (some mb)] TTab (0, 0))) := hb
  have HD : Hid (TabD D ns) := hD
  by_cases hm : s ∈ ns
  · obtain ⟨hh, hat0⟩ := hD.yes _ _ (show ns[ns.idxOf s]? = some s by rw [List.getElem?_eq_getElem (List.idxOf_lt_length_of_mem hm), List.getElem_idxOf])
    have HI : Hid (internL ns s = ns) := show internL ns s = ns from by unfold internL; rw [if_pos hm]
    have HA : Hid (∀ z, D.atKey (.string s) z = .lit (.int .i64 (ns.idxOf s : Nat))) := hat0
    clear hb hD hm hat0
    go_enter_defers Tryz.func123, Tryz.ntmps123
    go_wp2_with (first
      | (go_at_call 166; refine (lock_free muLib ⟨tb, 0, none⟩ _ c0 f0).mono ?_; rintro e w' ⟨rfl, rfl⟩)
      | (at_lookup; refine wpList_lookup_own_ok_int _ rfl _ _ 121 rfl 9 3 .i64 lawS Tryz.underlying121 Tryz.underlying3 (zeroI _) mb ns.length D rfl hown1 _ _ rfl hkey ?_; intro c hat hwc))
    refine leaves_cons (f := 167) (args := #[.pointer (some ⟨tb, 0, none⟩)]) (by simp) (by simp [go_sem]) ?_
    refine (unlock_deferred muLib ⟨tb, 0, none⟩ .returning _ (World.cell?_setCell_same w ⟨tb, 0, none⟩ (.int .i32 1) c0) (by simp [f0])).mono ?_
    rintro e u' w'' ⟨rfl, rfl, rfl⟩
    have hc : c = (ns.idxOf s : Nat) := by rw [HA.out] at hat; simpa using hat.symm
    obtain ⟨e1, e2⟩ := lock_back HB.out rfl (.int .i32 1) (w1 := w.setCell ⟨tb, 0, none⟩ (.int .i32 1)) (mb := mb) ⟨rfl, rfl, rfl, Nat.le_refl _, fun _ _ _ => rfl⟩ hne
    refine ⟨_, results_tmp rfl _ _ _, by rw [hc]; rfl, ?_, e2⟩
    rw [HI.out]
    exact HT.out.keep e1 (by rw [Below.heap_setCell _ _ _ _ hne, Below.heap_setCell _ _ _ _ hne])
  · have hh := hD.no s hm
    have HI : Hid (internL ns s = ns ++ [s]) := show internL ns s = _ from by unfold internL; rw [if_neg hm]
    have HX : Hid ((ns.idxOf s : Nat) = ns.length) := List.idxOf_eq_length hm
    have HM : Hid (s ∉ ns) := hm
    have hsz := hD.size
    have hwl : (Lit.int .i64 ((ns.length : Nat) : Int)).wf = true := WalkArith.wf_i64 (by omega)
    clear hb hD hm
    go_enter_defers Tryz.func123, Tryz.ntmps123
    go_wp2_with (first
      | (go_at_call 166; refine (lock_free muLib ⟨tb, 0, none⟩ _ c0 f0).mono ?_; rintro e w' ⟨rfl, rfl⟩)
      | (at_lookup; refine wpList_lookup_own_ok_int _ rfl _ _ 121 rfl 9 3 .i64 lawS Tryz.underlying121 Tryz.underlying3 (zeroI _) mb ns.length D rfl hown1 _ _ rfl hkey ?_; intro c hat hwc)
      | (at_len; refine wpList_len_own _ rfl _ 121 rfl 9 3 Tryz.underlying121 _ mb ns.length D rfl hown1 ?_; rw [hsz])
      | (at_mapUpdate; refine wpList_mapUpdate_own _ rfl _ _ _ 121 rfl 9 3 lawS Tryz.underlying121 _ mb ns.length D rfl hown1 (by unfold maxLen; omega) _ _ _ rfl rfl hkey _ [] (plainElem_int Tryz.underlying3 hwl) ?_; intro w1 hown2 hgrow))
    have hk : w1.cell? ⟨tb, 0, none⟩ = some (.int .i32 1) := by
      have e0 := hgrow.block tb (by simpa [World.setCell] using lt_of_some HB.out) (fun e => hne (Option.some.inj e).symm)
      rw [set_block HB.out 0] at e0
      exact cells_at e0 0
    have hf : w1.frozen? ⟨tb, 0, none⟩ = false := by
      have e0 := hgrow.block tb (by simpa [World.setCell] using lt_of_some HB.out) (fun e => hne (Option.some.inj e).symm)
      rw [set_block HB.out 0] at e0
      exact free_at e0 0
    refine leaves_cons (f := 167) (args := #[.pointer (some ⟨tb, 0, none⟩)]) (by simp) (by simp [go_sem]) ?_
    refine (unlock_deferred muLib ⟨tb, 0, none⟩ .returning _ hk hf).mono ?_
    rintro e u' w'' ⟨rfl, rfl, rfl⟩
    obtain ⟨e1, e2⟩ := lock_back HB.out rfl (.int .i32 1) hgrow hne
    refine ⟨_, results_tmp rfl _ _ _, by rw [HX.out]; rfl, ?_, e2⟩
    rw [HI.out]
    obtain ⟨es, cl, hb2, hr⟩ := hown2
    refine ⟨e1.trans HB.out, _, ⟨es, cl, ?_, by simpa using hr⟩, HD.out.push HM.out⟩
    rw [Below.heap_setCell _ _ _ _ hne]
    exact hb2
end Go.Proofs.YtkgbdddkcjpgfaaGreatDoor

/- The program's values, forms and surroundings in memory: what they stand for. -/
namespace Go.Proofs.YtkgbdddkcjpgfaaGreatDoor
open Go.RowKit

def TVal : TypeId := 161
def TPair : TypeId := 369
def TForm : TypeId := 61
def TNam : TypeId := 214
/- Where things lie: the types of an engine's procedures and continuations; the blocks of pairs, procedures, continuations; the cells of places (none: a global's); the names by their numbers. -/
structure Sg where
  tq : TypeId
  tc : TypeId
  pb : List Nat
  qb : List Nat
  cb : List Nat
  lp : List (Option (Nat × Nat))
  ns : List Pl.Byt
structure Sg.Le (s t : Sg) : Prop where
  tq : t.tq = s.tq
  tc : t.tc = s.tc
  pb : s.pb <+: t.pb
  qb : s.qb <+: t.qb
  cb : s.cb <+: t.cb
  lp : s.lp <+: t.lp
  ns : s.ns <+: t.ns
theorem Sg.Le.refl (s : Sg) : Sg.Le s s := ⟨rfl, rfl, List.prefix_refl _, List.prefix_refl _, List.prefix_refl _, List.prefix_refl _, List.prefix_refl _⟩
theorem Sg.Le.trans {a b c : Sg} (h : Sg.Le a b) (k : Sg.Le b c) : Sg.Le a c := ⟨k.tq.trans h.tq, k.tc.trans h.tc, h.pb.trans k.pb, h.qb.trans k.qb, h.cb.trans k.cb, h.lp.trans k.lp, h.ns.trans k.ns⟩
theorem pre_get {α : Type} {a b : List α} (h : a <+: b) {i : Nat} {x : α} (hi : a[i]? = some x) : b[i]? = some x := by
  obtain ⟨t, rfl⟩ := h
  rw [List.getElem?_append_left (List.getElem?_eq_some_iff.1 hi).1]
  exact hi
inductive RV (s : Sg) : Value → Pl.PV → Prop
  | num (n : Int) : RV s (.iface 294 (.int .i64 n)) (.num n)
  | truth (b : Bool) : RV s (.iface 296 (.bool b)) (.truth b)
  | name (t : Pl.Byt) : RV s (.iface 297 (.string ⟨t.toArray⟩)) (.name t)
  | empty : RV s (.iface 366 (.agg #[])) .empty
  | nothing : RV s (.iface 299 (.agg #[])) .nothing
  | pair (i b : Nat) (h : s.pb[i]? = some b) : RV s (.iface 367 (.pointer (some ⟨b, 0, none⟩))) (.pair i)
  | proc (i b : Nat) (h : s.qb[i]? = some b) : RV s (.iface s.tq (.pointer (some ⟨b, 0, none⟩))) (.proc i)
  | cont (i b : Nat) (h : s.cb[i]? = some b) : RV s (.iface s.tc (.pointer (some ⟨b, 0, none⟩))) (.cont i)
  | prim (k : Nat) (t : Pl.Byt) (h : Pl.prims[k]? = some t) (hk : k < 12) : RV s (.iface 246 (.int .i64 (k : Int))) (.prim t)
  | callcc : RV s (.iface 243 (.agg #[])) (.prim Pl.callccW)
theorem RV.le {s t : Sg} (l : Sg.Le s t) {v : Value} {p : Pl.PV} (h : RV s v p) : RV t v p := by
  cases h with
  | num n => exact .num n
  | truth b => exact .truth b
  | name t => exact .name t
  | empty => exact .empty
  | nothing => exact .nothing
  | pair i b h => exact .pair i b (pre_get l.pb h)
  | proc i b h => rw [← l.tq]; exact .proc i b (pre_get l.qb h)
  | cont i b h => rw [← l.tc]; exact .cont i b (pre_get l.cb h)
  | prim k t h hk => exact .prim k t h hk
  | callcc => exact .callcc
theorem RV.iface {s : Sg} {v : Value} {p : Pl.PV} (h : RV s v p) : ∃ T x, v = .iface T x := by cases h <;> exact ⟨_, _, rfl⟩
theorem RV.oneCell {s : Sg} {v : Value} {p : Pl.PV} (h : RV s v p) : v.oneCell' = true := by cases h <;> rfl
theorem snoc_old {α : Type} {l : List α} {x y : α} {i : Nat} (h : (l ++ [x])[i]? = some y) : l[i]? = some y ∨ (i = l.length ∧ y = x) := by
  by_cases hi : i < l.length
  · left; rwa [List.getElem?_append_left hi] at h
  · right
    rw [List.getElem?_append_right (by omega)] at h
    by_cases h0 : i - l.length = 0
    · rw [h0] at h; simp at h; exact ⟨by omega, h.symm⟩
    · rw [List.getElem?_eq_none (by simp; omega)] at h; simp at h
/- Two rows, element by element. -/
def All2 {α β : Type} (R : α → β → Prop) (us : List α) (l : List β) : Prop := us.length = l.length ∧ ∀ (i : Nat) (u : α) (x : β), us[i]? = some u → l[i]? = some x → R u x
theorem All2.mono {α β : Type} {R Q : α → β → Prop} {us : List α} {l : List β} (h : All2 R us l) (hm : ∀ u x, R u x → Q u x) : All2 Q us l := ⟨h.1, fun i u x hu hx => hm u x (h.2 i u x hu hx)⟩
theorem All2.nil {α β : Type} (R : α → β → Prop) : All2 R [] [] := ⟨rfl, fun i u x h => by simp at h⟩
theorem All2.snoc {α β : Type} {R : α → β → Prop} {us : List α} {l : List β} (h : All2 R us l) {u : α} {x : β} (hu : R u x) : All2 R (us ++ [u]) (l ++ [x]) := by
  refine ⟨by simp [h.1], fun i a b ha hb => ?_⟩
  by_cases hi : i < us.length
  · rw [List.getElem?_append_left hi] at ha
    rw [List.getElem?_append_left (by rw [← h.1]; exact hi)] at hb
    exact h.2 i a b ha hb
  · rw [List.getElem?_append_right (by omega)] at ha
    rw [List.getElem?_append_right (by rw [← h.1]; omega)] at hb
    have h0 := (List.getElem?_eq_some_iff.1 ha).1
    have h1 : i - us.length = 0 := by simp at h0; omega
    rw [h1] at ha
    rw [← h.1, h1] at hb
    simp at ha hb
    subst ha hb
    exact hu
theorem All2.cons {α β : Type} {R : α → β → Prop} {us : List α} {l : List β} (h : All2 R us l) {u : α} {x : β} (hu : R u x) : All2 R (u :: us) (x :: l) := by
  refine ⟨by simp [h.1], fun i a b ha hb => ?_⟩
  cases i with
  | zero => simp at ha hb; subst ha hb; exact hu
  | succ i => simp at ha hb; exact h.2 i a b ha hb
theorem All2.drop {α β : Type} {R : α → β → Prop} {us : List α} {l : List β} (h : All2 R us l) (k : Nat) : All2 R (us.drop k) (l.drop k) := ⟨by simp [h.1], fun i a b ha hb => h.2 (k + i) a b (by simpa using ha) (by simpa using hb)⟩
theorem All2.append {α β : Type} {R : α → β → Prop} {us vs : List α} {l m : List β} (h : All2 R us l) (k : All2 R vs m) : All2 R (us ++ vs) (l ++ m) := by
  refine ⟨by simp [h.1, k.1], fun i a b ha hb => ?_⟩
  by_cases hi : i < us.length
  · rw [List.getElem?_append_left hi] at ha
    rw [List.getElem?_append_left (by rw [← h.1]; exact hi)] at hb
    exact h.2 i a b ha hb
  · rw [List.getElem?_append_right (by omega)] at ha
    rw [List.getElem?_append_right (by rw [← h.1]; omega), ← h.1] at hb
    exact k.2 _ a b ha hb
theorem All2.at_ {α β : Type} {R : α → β → Prop} {us : List α} {l : List β} (h : All2 R us l) {i : Nat} {x : β} (hx : l[i]? = some x) : ∃ u, us[i]? = some u ∧ R u x := by
  have hl := (List.getElem?_eq_some_iff.1 hx).1
  have := List.getElem?_eq_getElem (l := us) (i := i) (by rw [h.1]; exact hl)
  exact ⟨_, this, h.2 i _ x this hx⟩
/- The pairs. -/
structure PairsAt (M : Nat → Prop) (w : World) (s : Sg) (ps : List (Pl.PV × Pl.PV)) : Prop where
  len : s.pb.length = ps.length
  nodup : s.pb.Nodup
  at_ : ∀ (i b : Nat) (p : Pl.PV × Pl.PV), s.pb[i]? = some b → ps[i]? = some p → ¬ M b ∧ ∃ x y, w.heap[b]? = some (.cells #[x, y] TPair (0, 0)) ∧ RV s x p.1 ∧ RV s y p.2
theorem PairsAt.stp {M M' : Nat → Prop} {w w' : World} {s : Sg} {ps : List (Pl.PV × Pl.PV)} (h : PairsAt M w s ps) (hs : Stp M w M' w') : PairsAt M' w' s ps :=
  ⟨h.len, h.nodup, fun i b p hb hp => by
    obtain ⟨h1, x, y, h2, h3⟩ := h.at_ i b p hb hp
    obtain ⟨e1, e2⟩ := hs.block b (lt_of_some h2) h1
    exact ⟨e2, x, y, e1.trans h2, h3⟩⟩
/- More names, places, procedures, continuations do no harm. -/
theorem PairsAt.le {M : Nat → Prop} {w : World} {s t : Sg} {ps : List (Pl.PV × Pl.PV)} (h : PairsAt M w s ps) (l : Sg.Le s t) (hp : t.pb = s.pb) : PairsAt M w t ps :=
  ⟨by rw [hp]; exact h.len, by rw [hp]; exact h.nodup, fun i b p hb hq => by
    obtain ⟨h1, x, y, h2, h3, h4⟩ := h.at_ i b p (by rw [← hp]; exact hb) hq
    exact ⟨h1, x, y, h2, h3.le l, h4.le l⟩⟩
def Sg.addPair (s : Sg) (b : Nat) : Sg := { s with pb := s.pb ++ [b] }
theorem Sg.addPair_le (s : Sg) (b : Nat) : Sg.Le s (s.addPair b) := ⟨rfl, rfl, List.prefix_append _ _, List.prefix_refl _, List.prefix_refl _, List.prefix_refl _, List.prefix_refl _⟩
theorem PairsAt.push {M : Nat → Prop} {w : World} {s : Sg} {ps : List (Pl.PV × Pl.PV)} (h : PairsAt M w s ps) (hM : ∀ k, M k → k < w.heap.size) {x y : Value} {p : Pl.PV × Pl.PV} (hx : RV s x p.1) (hy : RV s y p.2) :
    PairsAt M (w.alloc (.cells #[x, y] TPair)) (s.addPair w.heap.size) (ps ++ [p]) ∧ RV (s.addPair w.heap.size) (.iface 367 (.pointer (some ⟨w.heap.size, 0, none⟩))) (.pair ps.length) := by
  have hlt : ∀ (i b : Nat), s.pb[i]? = some b → b < w.heap.size := by
    intro i b hb
    have hi := (List.getElem?_eq_some_iff.1 hb).1
    obtain ⟨_, x, y, h2, _⟩ := h.at_ i b _ hb (List.getElem?_eq_getElem (by rw [← h.len]; exact hi))
    exact lt_of_some h2
  refine ⟨⟨by simp [Sg.addPair, h.len], ?_, ?_⟩, .pair _ _ ?_⟩
  · simp only [Sg.addPair, List.nodup_append]
    refine ⟨h.nodup, by simp, ?_⟩
    rintro a ha b hb
    rintro rfl
    simp at hb
    subst hb
    obtain ⟨i, hi⟩ := List.getElem?_of_mem ha
    have := hlt i _ hi
    omega
  · intro i b q hb hq
    rcases Nat.lt_or_ge i ps.length with hi | hi
    · rw [List.getElem?_append_left hi] at hq
      have hb0 : s.pb[i]? = some b := by
        have := hb
        simp only [Sg.addPair] at this
        rwa [List.getElem?_append_left (by rw [h.len]; exact hi)] at this
      obtain ⟨h1, x', y', h2, h3, h4⟩ := h.at_ i b q hb0 hq
      exact ⟨h1, x', y', (Below.heap_alloc w _ b (lt_of_some h2)).trans h2, h3.le (s.addPair_le _), h4.le (s.addPair_le _)⟩
    · have h0 := (List.getElem?_eq_some_iff.1 hq).1
      have hi0 : i = ps.length := by simp at h0; omega
      subst hi0
      simp at hq
      subst hq
      have hb0 : b = w.heap.size := by
        have := hb
        simp only [Sg.addPair] at this
        rw [← h.len] at this
        simpa using this.symm
      subst hb0
      exact ⟨fun hm => by have := hM _ hm; omega, x, y, heap_alloc_new w _, hx.le (s.addPair_le _), hy.le (s.addPair_le _)⟩
  · simp only [Sg.addPair]
    rw [← h.len]
    simp
/- Forms. -/
def isQ : Pl.Tre → Bool
  | .agg _ => true
  | _ => false
def nmCells (s : Pl.Byt) (k : Nat) : List Value := [.string ⟨s.toArray⟩, .int .i64 (k : Int)]
def nmRow (ns : List Pl.Byt) (ks : List Nat) : List Value := (List.zip ns ks).flatMap fun p => nmCells p.1 p.2
structure NmRow (M : Nat → Prop) (w : World) (s : Sg) (sl : Value) (ns : List Pl.Byt) : Prop where
  ex : ∃ ks : List Nat, All2 (fun k t => s.ns[k]? = some t) ks ns ∧ Sl M w TNam 2 sl ns.length (nmRow ns ks)
  nodup : ns.Nodup
  len : ns.length ≤ 1000
inductive RFm (M : Nat → Prop) (w : World) (s : Sg) : Value → Pl.PF → Prop
  | const (x : Value) (q : Bool) (nm : Pl.Byt) (d : Pl.Tre) (v : Pl.PV) (ks : List Pl.PF) (ns : List Pl.Byt) (h : RV s x v) (hq : q = isQ d) : RFm M w s (.iface 223 (.agg #[x, .bool q])) (.mk .const nm d v ks ns)
  | name (k : Nat) (nm : Pl.Byt) (d : Pl.Tre) (v : Pl.PV) (ks : List Pl.PF) (ns : List Pl.Byt) (h : s.ns[k]? = some nm) : RFm M w s (.iface 214 (.agg #[.string ⟨nm.toArray⟩, .int .i64 (k : Int)])) (.mk .name nm d v ks ns)
  | iff (a b c : Value) (x y z : Pl.PF) (nm : Pl.Byt) (d : Pl.Tre) (v : Pl.PV) (ns : List Pl.Byt) (h1 : RFm M w s a x) (h2 : RFm M w s b y) (h3 : RFm M w s c z) : RFm M w s (.iface 335 (.agg #[a, b, c])) (.mk .iff nm d v [x, y, z] ns)
  | begin (sl : Value) (us : List Value) (nm : Pl.Byt) (d : Pl.Tre) (v : Pl.PV) (ks : List Pl.PF) (ns : List Pl.Byt) (h1 : Sl M w TForm 1 sl ks.length us) (h2 : us.length = ks.length) (h3 : ∀ (i : Nat) (u : Value) (x : Pl.PF), us[i]? = some u → ks[i]? = some x → RFm M w s u x) (h4 : 1 ≤ ks.length) (h5 : ks.length ≤ 2000) : RFm M w s (.iface 347 (.agg #[sl])) (.mk .begin nm d v ks ns)
  | call (sl : Value) (us : List Value) (nm : Pl.Byt) (d : Pl.Tre) (v : Pl.PV) (ks : List Pl.PF) (ns : List Pl.Byt) (h1 : Sl M w TForm 1 sl ks.length us) (h2 : us.length = ks.length) (h3 : ∀ (i : Nat) (u : Value) (x : Pl.PF), us[i]? = some u → ks[i]? = some x → RFm M w s u x) (h4 : 1 ≤ ks.length) (h5 : ks.length ≤ 2000) : RFm M w s (.iface 349 (.agg #[sl])) (.mk .call nm d v ks ns)
  | set (k : Nat) (a : Value) (x : Pl.PF) (nm : Pl.Byt) (d : Pl.Tre) (v : Pl.PV) (ns : List Pl.Byt) (h : s.ns[k]? = some nm) (h1 : RFm M w s a x) : RFm M w s (.iface 340 (.agg #[.string ⟨nm.toArray⟩, .int .i64 (k : Int), a])) (.mk .set nm d v [x] ns)
  | define (k : Nat) (a : Value) (x : Pl.PF) (nm : Pl.Byt) (d : Pl.Tre) (v : Pl.PV) (ns : List Pl.Byt) (h : s.ns[k]? = some nm) (h1 : RFm M w s a x) : RFm M w s (.iface 218 (.agg #[.string ⟨nm.toArray⟩, .int .i64 (k : Int), a])) (.mk .define nm d v [x] ns)
  | lambda (sl a : Value) (x : Pl.PF) (nm : Pl.Byt) (d : Pl.Tre) (v : Pl.PV) (ns : List Pl.Byt) (h1 : NmRow M w s sl ns) (h2 : RFm M w s a x) : RFm M w s (.iface 329 (.agg #[sl, a])) (.mk .lambda nm d v [x] ns)
theorem NmRow.go {M M' : Nat → Prop} {w w' : World} {s t : Sg} {sl : Value} {ns : List Pl.Byt} (h : NmRow M w s sl ns) (hs : Stp M w M' w') (l : Sg.Le s t) : NmRow M' w' t sl ns := by
  obtain ⟨⟨ks, h1, h2⟩, h3, h4⟩ := h
  exact ⟨⟨ks, h1.mono (fun k t ht => pre_get l.ns ht), h2.stp hs⟩, h3, h4⟩
theorem RFm.go {M M' : Nat → Prop} {w w' : World} {s t : Sg} (hs : Stp M w M' w') (l : Sg.Le s t) {v : Value} {f : Pl.PF} (h : RFm M w s v f) : RFm M' w' t v f := by
  induction h with
  | const x q nm d v ks ns h hq => exact .const x q nm d v ks ns (h.le l) hq
  | name k nm d v ks ns h => exact .name k nm d v ks ns (pre_get l.ns h)
  | iff a b c x y z nm d v ns _ _ _ i1 i2 i3 => exact .iff a b c x y z nm d v ns i1 i2 i3
  | begin sl us nm d v ks ns h1 h2 _ h4 h5 ih => exact .begin sl us nm d v ks ns (h1.stp hs) h2 ih h4 h5
  | call sl us nm d v ks ns h1 h2 _ h4 h5 ih => exact .call sl us nm d v ks ns (h1.stp hs) h2 ih h4 h5
  | set k a x nm d v ns h _ ih => exact .set k a x nm d v ns (pre_get l.ns h) ih
  | define k a x nm d v ns h _ ih => exact .define k a x nm d v ns (pre_get l.ns h) ih
  | lambda sl a x nm d v ns h1 _ ih => exact .lambda sl a x nm d v ns (h1.go hs l) ih
/- Fewer blocks that may be written. -/
theorem Sl.weaken {M M' : Nat → Prop} {w : World} {T : TypeId} {sz : Nat} {v : Value} {n : Nat} {xs : List Value} (hm : ∀ k, M' k → M k) (h : Sl M w T sz v n xs) : Sl M' w T sz v n xs := by
  obtain ⟨h0, ao, cap, e, h2, h3⟩ := h
  refine ⟨h0, ao, cap, e, h2, h3.imp id ?_⟩
  rintro ⟨g, off, cur, rfl, hn, r⟩
  exact ⟨g, off, cur, rfl, fun x => hn (hm g x), r⟩
theorem NmRow.weaken {M M' : Nat → Prop} {w : World} {s : Sg} {sl : Value} {ns : List Pl.Byt} (hm : ∀ k, M' k → M k) (h : NmRow M w s sl ns) : NmRow M' w s sl ns := by
  obtain ⟨⟨ks, h1, h2⟩, h3, h4⟩ := h
  exact ⟨⟨ks, h1, h2.weaken hm⟩, h3, h4⟩
theorem RFm.weaken {M M' : Nat → Prop} {w : World} {s : Sg} (hm : ∀ k, M' k → M k) {v : Value} {f : Pl.PF} (h : RFm M w s v f) : RFm M' w s v f := by
  induction h with
  | const x q nm d v ks ns h hq => exact .const x q nm d v ks ns h hq
  | name k nm d v ks ns h => exact .name k nm d v ks ns h
  | iff a b c x y z nm d v ns _ _ _ i1 i2 i3 => exact .iff a b c x y z nm d v ns i1 i2 i3
  | begin sl us nm d v ks ns h1 h2 _ h4 h5 ih => exact .begin sl us nm d v ks ns (h1.weaken hm) h2 ih h4 h5
  | call sl us nm d v ks ns h1 h2 _ h4 h5 ih => exact .call sl us nm d v ks ns (h1.weaken hm) h2 ih h4 h5
  | set k a x nm d v ns h _ ih => exact .set k a x nm d v ns h ih
  | define k a x nm d v ns h _ ih => exact .define k a x nm d v ns h ih
  | lambda sl a x nm d v ns h1 _ ih => exact .lambda sl a x nm d v ns (h1.weaken hm) ih
theorem PairsAt.weaken {M M' : Nat → Prop} {w : World} {s : Sg} {ps : List (Pl.PV × Pl.PV)} (hm : ∀ k, M' k → M k) (h : PairsAt M w s ps) : PairsAt M' w s ps :=
  ⟨h.len, h.nodup, fun i b p hb hp => ⟨fun x => (h.at_ i b p hb hp).1 (hm b x), (h.at_ i b p hb hp).2⟩⟩
theorem RFm.iface {M : Nat → Prop} {w : World} {s : Sg} {v : Value} {f : Pl.PF} (h : RFm M w s v f) : ∃ T x, v = .iface T x := by cases h <;> exact ⟨_, _, rfl⟩
end Go.Proofs.YtkgbdddkcjpgfaaGreatDoor
