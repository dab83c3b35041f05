/- The reference's Read and Check: the error that a text is read with. -/
import Derived.Test.YtkgbdddkcjpgfaaGreatDoorM33
import Derived.Test.YtkgbdddkcjpgfaaGreatDoorM02
namespace Go.Proofs.YtkgbdddkcjpgfaaGreatDoor
open Go.RowKit

def ReadPost (w : World) (bs : List UInt8) (e : Ending) (w' : World) : Prop := ∃ po, e = .returned (.tuple #[.pointer po, .int .i64 (Pl.check bs : Int)]) ∧ Below w.heap.size w w'
theorem below_of_new {a b : World} {B : Nat} {o : Obj} (hB : B = a.heap.size) (h : (a.alloc o).grownBy b (some B)) : Below a.heap.size a b := by
  subst hB
  refine ⟨h.os, h.tape, h.output, by have := h.size; simp at this; omega, fun k hk => ?_⟩
  rw [h.block k (by simp; omega) (by simp; omega)]
  exact Below.heap_alloc _ _ _ hk

theorem all_take_succ2 {f : List UInt8 → Bool} {ts : List (List UInt8)} {k : Nat} {x : List UInt8} (h : (ts.take k).all f = true) (hx : ts[k]? = some x) (hf : f x = true) : (ts.take (k + 1)).all f = true := by
  rw [List.take_add_one, hx, List.all_append, h]
  simp [hf]
set_option maxHeartbeats 4000000 in
set_option maxRecDepth 100000 in
theorem ref_read (s : ByteArray) (w : World) (hs0 : s.size ≤ maxLen) : Calls Tryz.prog 43 #[.string s] w fun e w' => ReadPost w s.data.toList e w' := by
  unfold maxLen at hs0
  by_cases hs : 300 < s.size
  · have HE : Hid (Pl.check s.data.toList = 1) := show Pl.check _ = 1 from by unfold Pl.check; rw [if_pos (by simpa using hs)]
    go_enter Tryz.func43, Tryz.ntmps43
    go_wp2_with fail
    go_ret2
    exact ⟨none, by rw [HE.out]; rfl, Below.refl _ _⟩
  · have hs1 : ¬ 300 < s.data.toList.length := by simpa using hs
    have hd300 : decide ((300 : Int) < (s.size : Int)) = false := by simp; omega
    go_enter Tryz.func43, Tryz.ntmps43
    go_wp2_with fail
    refine (ref_tokens s _ (by omega)).mono ?_
    rintro e w1 ⟨v, bo, rfl, hB1, hcase⟩
    have HB1 := (show Hid (Below w.heap.size w w1) from hB1)
    have hsz1 := hB1.size
    clear hB1
    rcases hcase with ⟨ht, rfl⟩ | ⟨l, ht, rfl, hrow⟩
    · have HE : Hid (Pl.check s.data.toList = 2) := show Pl.check _ = 2 from by unfold Pl.check; rw [if_neg hs1, ht]
      clear ht
      go_wp2_with fail
      go_ret2
      exact ⟨none, by rw [HE.out]; rfl, HB1.out⟩
    · have HC : Hid (Pl.check s.data.toList = if l.all Pl.goodTok = false then 2 else match Pl.pd l.length l with
          | none => 2
          | some p => if p.q ≠ [] then 2 else if 20 < p.dp then 3 else if p.gr = true then 4 else if Pl.isTop (l.length - 1) p.t = true then 0 else 5) := show Pl.check _ = _ from by
        unfold Pl.check; rw [if_neg hs1, ht]
        rfl
      have hll := (Pl.toks_size ht)
      have hln : l.length ≤ 300 := by have := hll.1; omega
      have HTs : Hid (∀ t ∈ l, 0 < t.length ∧ t.length ≤ 300) := fun t h => ⟨(hll.2 t h).1, by have := (hll.2 t h).2; omega⟩
      clear hll ht hs1
      have HRow : Hid (ToksAt w1 v l) := ⟨hrow.1, hrow.2.imp id (fun ⟨g, cap, cur, a, b, c⟩ => ⟨g, cap, cur, a, Nat.zero_le _, c⟩)⟩
      obtain ⟨ao, cap, rfl, hcap, hcell⟩ := toks_shape HRow.out
      have HCl := (show Hid (∀ (i : Nat) (t : List UInt8), l[i]? = some t → ∃ g, ao = some ⟨g, 0, none⟩ ∧ w1.cell? ⟨g, i, none⟩ = some (.string ⟨t.toArray⟩)) from hcell)
      clear hcell hrow
      go_wp2_with fail
      go_loopw [6] (fun i wr => ∃ k : Nat, k ≤ l.length ∧ i = .int .i64 k ∧ Hid (Below w1.heap.size w1 wr) ∧ Hid ((l.take k).all Pl.goodTok = true)) (fun i _ => l.length - (intOf i).toNat)
      case atStart => exact ⟨0, Nat.zero_le _, rfl, Below.refl _ _, by simp [Hid]⟩
      case round =>
        obtain ⟨k, hk, rfl, HB, HG⟩ := hrel
        by_cases hlt : k < l.length
        · obtain ⟨t, ht⟩ : ∃ t, l[k]? = some t := ⟨l[k], List.getElem?_eq_getElem hlt⟩
          obtain ⟨g, rfl, hc⟩ := HCl.out k t ht
          have hts := HTs.out t (List.mem_of_getElem? ht)
          have hgl : g < w1.heap.size := World.block_lt_of_cell? _ _ hc
          have hc' : wr.cell? ⟨g, k, none⟩ = some (.string ⟨t.toArray⟩) := (HB.out.cell (p := ⟨g, k, none⟩) hgl).trans hc
          have hcA : ∀ o : Obj, (wr.alloc o).cell? ⟨g, k, none⟩ = some (.string ⟨t.toArray⟩) := fun o => ((HB.out.alloc HB.out.size o).cell (p := ⟨g, k, none⟩) hgl).trans hc
          have HX := (show Hid (l[k]? = some t) from ht)
          have hlt2 : (k : Int) < (l.length : Int) := by omega
          obtain ⟨s0, hs0'⟩ : ∃ s0 : ByteArray, s0 = ⟨t.toArray⟩ := ⟨_, rfl⟩
          have hsz0 : 0 < s0.size := by rw [hs0']; show 0 < t.toArray.size; simpa using hts.1
          have hd0 : s0.data.toList = t := by rw [hs0']
          rw [← hs0'] at hc' hcA
          have HD := (show Hid (s0.data.toList = t) from hd0)
          have hs0l : s0.size ≤ 1000 := by rw [hs0']; show t.toArray.size ≤ 1000; have := hts.2; simp; omega
          clear ht hc hs0' hd0
          go_wp2_with (go_at_call 70; refine (ref_inWord (s0[0]'hsz0) _).mono ?_; rintro e w' ⟨rfl, rfl⟩)
          refine (ref_word wr.heap.size s0 _ (.slice none 0 0) 0 0 false (show Rd _ _ _ _ _ _ from heap_alloc_new _ _) hs0l).mono ?_
          rintro e w2 ⟨v2, g2, rfl, hgr, hRd, hcase⟩
          have HB2 : Hid (Below w1.heap.size w1 w2) := HB.out.trans ((below_of_new rfl hgr).mono HB.out.size)
          have hh0 : t.headD 0 = s0[0]'hsz0 := by
            have h1 : 0 < s0.data.toList.length := by simpa using hsz0
            rw [← HD.out, Pl.head_get _ h1, data_get s0 0 hsz0]
          rw [HD.out] at hcase
          rcases hcase with ⟨h1, _, h3⟩ | ⟨h1, h2, _, h3⟩ | ⟨h1, h2, rfl⟩
          · have HG2 : Hid ((l.take (k + 1)).all Pl.goodTok = true) := all_take_succ2 HG.out HX.out (by simp [Pl.goodTok, h1])
            obtain ⟨bv, rfl⟩ := h3.ptr
            clear hgr hRd h1 h3 hh0 hc' hcA hts
            go_wp2_with fail
            all_goals
              go_roundw
              case rel => exact ⟨k + 1, by omega, by go_num, HB2, HG2⟩
              case measure => simp [intOf]; omega
          · have HG2 : Hid ((l.take (k + 1)).all Pl.goodTok = true) := all_take_succ2 HG.out HX.out (by simp [Pl.goodTok, h2])
            obtain ⟨bv, rfl⟩ := h3.ptr
            clear hgr hRd h1 h2 h3 hh0 hc' hcA hts
            go_wp2_with fail
            all_goals
              go_roundw
              case rel => exact ⟨k + 1, by omega, by go_num, HB2, HG2⟩
              case measure => simp [intOf]; omega
          · by_cases hw : Pl.inW (s0[0]'hsz0) = true
            · have hbad : l.all Pl.goodTok = false := by
                rw [List.all_eq_false]
                exact ⟨t, List.mem_of_getElem? HX.out, by simp only [Pl.goodTok, h1, h2, hh0, hw]; decide⟩
              have HE : Hid (Pl.check s.data.toList = 2) := show Pl.check _ = 2 from by rw [HC.out, if_pos hbad]
              clear hgr hRd h1 h2 hh0 hc' hcA hts hbad
              go_wp2_with fail
              go_ret2
              exact ⟨none, by rw [HE.out]; rfl, HB1.out.trans (HB2.out.mono hsz1)⟩
            · have hw0 : Pl.inW (s0[0]'hsz0) = false := by simpa using hw
              have HG2 : Hid ((l.take (k + 1)).all Pl.goodTok = true) := all_take_succ2 HG.out HX.out (by simp only [Pl.goodTok, hh0, hw0]; rfl)
              clear hgr hRd h1 h2 hh0 hc' hcA hts hw
              go_wp2_with fail
              go_roundw
              case rel => exact ⟨k + 1, by omega, by go_num, HB2, HG2⟩
              case measure => simp [intOf]; omega
        · have hke : k = l.length := by omega
          subst hke
          have hgood : ¬ l.all Pl.goodTok = false := by have := HG.out; rw [List.take_length] at this; simp [this]
          have HC2 : Hid (Pl.check s.data.toList = match Pl.pd l.length l with
              | none => 2
              | some p => if p.q ≠ [] then 2 else if 20 < p.dp then 3 else if p.gr = true then 4 else if Pl.isTop (l.length - 1) p.t = true then 0 else 5) := show Pl.check _ = _ from by rw [HC.out, if_neg hgood]
          have HT2 : Hid (ToksAt wr (.slice ao l.length cap) l) := HRow.out.kept (grown_of_below none HB.out) (by cases hv : Value.ownBlock (.slice ao l.length cap) <;> simp)
          have HBw : Hid (Below w.heap.size w wr) := HB1.out.trans (HB.out.mono hsz1)
          have hszr := HBw.out.size
          clear hgood HC hk hlt HG HCl
          go_wp2_with fail
          refine (ref_datum l.length _ wr.heap.size (.slice ao l.length cap) l l 0 0 false (show Rd _ _ _ _ _ _ from (heap_alloc_new _ _).trans (by simp [TR])) (World.ownsRow.alloc HT2.out _) (List.suffix_refl _) (Nat.le_refl _) (by omega) (by omega) (Nat.le_refl _) (fun t ht => by have := (HTs.out t ht).2; omega) 0 rfl).mono ?_
          rintro e w2 ⟨hgr, hpost⟩
          have HB2 : Hid (Below w.heap.size w w2) := HBw.out.trans ((below_of_new rfl hgr).mono hszr)
          cases hp : Pl.pd l.length l with
          | none =>
            rw [hp] at hpost
            dsimp only at hpost
            subst hpost
            have HE : Hid (Pl.check s.data.toList = 2) := show Pl.check _ = 2 from by rw [HC2.out, hp]
            clear hp hgr
            go_wp2_with fail
            go_ret2
            exact ⟨none, by rw [HE.out]; rfl, HB2.out⟩
          | some p =>
            rw [hp] at hpost
            obtain ⟨v2, rfl, hrep, hRd⟩ := hpost
            have HC3 : Hid (Pl.check s.data.toList = if p.q ≠ [] then 2 else if 20 < p.dp then 3 else if p.gr = true then 4 else if Pl.isTop (l.length - 1) p.t = true then 0 else 5) := show Pl.check _ = _ from by rw [HC2.out, hp]
            have hpl := pd_pos hp
            have HRep : Hid (RepR (fun _ => True) l.length w2 v2 p.t) := RepR.mono (fun _ _ _ => trivial) _ _ _ hrep
            obtain ⟨bv, rfl⟩ := hrep.ptr
            obtain ⟨_, c1, c2, c3⟩ := hRd.cells
            clear hp hgr hrep hRd HC2
            by_cases hq : p.q = []
            · rw [hq] at c1
              simp only [List.length_nil, Nat.sub_zero] at c1
              simp only [Nat.zero_add, Nat.zero_max] at c2
              simp only [Bool.false_or] at c3
              rw [if_neg (by simp [hq])] at HC3
              have hdc : decide ((l.length : Int) < (l.length : Int)) = false := by simp
              clear hq
              by_cases hd20 : 20 < p.dp
              · have HE : Hid (Pl.check s.data.toList = 3) := show Pl.check _ = 3 from by rw [HC3.out, if_pos hd20]
                clear HC3 hpl
                go_wp2_with fail
                go_ret2
                exact ⟨none, by rw [HE.out]; rfl, HB2.out⟩
              · rw [if_neg hd20] at HC3
                by_cases hgr : p.gr = true
                · have HE : Hid (Pl.check s.data.toList = 4) := show Pl.check _ = 4 from by rw [HC3.out, if_pos hgr]
                  clear HC3 hpl
                  go_wp2_with fail
                  go_ret2
                  exact ⟨none, by rw [HE.out]; rfl, HB2.out⟩
                · rw [if_neg hgr] at HC3
                  have hgr0 : p.gr = false := by simpa using hgr
                  obtain ⟨m, hm⟩ := hpl
                  have HRep2 : Hid (RepR (fun _ => True) (m + 1) w2 (.pointer (some ⟨bv, 0, none⟩)) p.t) := by rw [← hm]; exact HRep.out
                  rw [show l.length - 1 = m from by omega] at HC3
                  clear hgr hm
                  go_wp2_with fail
                  refine (ref_top m _ _ _ p.t HRep2.out).mono ?_
                  rintro e w5 ⟨hB5, hcase⟩
                  have HB5 : Hid (Below w.heap.size w w5) := HB2.out.trans (hB5.mono HB2.out.size)
                  rcases hcase with ⟨hf, bf, rfl⟩ | ⟨hf, rfl⟩
                  · have HE : Hid (Pl.check s.data.toList = 0) := show Pl.check _ = 0 from by rw [HC3.out, if_pos hf]
                    clear hB5 hf HC3
                    go_wp2_with fail
                    go_ret2
                    exact ⟨_, by rw [HE.out]; rfl, HB5.out⟩
                  · have HE : Hid (Pl.check s.data.toList = 5) := show Pl.check _ = 5 from by rw [HC3.out, if_neg (by simp [hf])]
                    clear hB5 hf HC3
                    go_wp2_with fail
                    go_ret2
                    exact ⟨none, by rw [HE.out]; rfl, HB5.out⟩
            · have hql : 0 < p.q.length := List.length_pos_iff.2 hq
              have HE : Hid (Pl.check s.data.toList = 2) := show Pl.check _ = 2 from by rw [HC3.out, if_pos hq]
              have hdc : ((l.length - p.q.length : Nat) : Int) < (l.length : Int) := by obtain ⟨m, hm⟩ := hpl; omega
              clear hq HC3 hpl
              go_wp2_with fail
              go_ret2
              exact ⟨none, by rw [HE.out]; rfl, HB2.out⟩

set_option maxHeartbeats 400000 in
theorem ref_check (s : ByteArray) (w : World) (hs0 : s.size ≤ maxLen) : Calls Tryz.prog 16 #[.string s] w fun e w' => e = .returned (.int .i64 (Pl.check s.data.toList : Int)) ∧ Below w.heap.size w w' := by
  go_enter Tryz.func16, Tryz.ntmps16
  go_wp2_with fail
  refine (ref_read s _ hs0).mono ?_
  rintro e w1 ⟨po, rfl, hB⟩
  have HB := (show Hid (Below w.heap.size w w1) from hB)
  clear hB
  go_wp2_with fail
  go_ret
  exact ⟨rfl, HB.out⟩
end Go.Proofs.YtkgbdddkcjpgfaaGreatDoor
