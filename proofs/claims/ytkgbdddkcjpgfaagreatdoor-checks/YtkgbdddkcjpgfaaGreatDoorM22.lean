/- The reference's lambda: its names, none a keyword, no two the same; and its body. -/
import Derived.Test.YtkgbdddkcjpgfaaGreatDoorM07
namespace Go.Proofs.YtkgbdddkcjpgfaaGreatDoor
open Go.RowKit

theorem row_shape {w : World} {base : Nat} {v : Value} {k : Nat} {nm : List (List UInt8)} (h : w.ownsRow base 9 1 v k (nm.map strV)) :
    ∃ ao cap, v = .slice ao k cap ∧ k ≤ cap ∧ ∀ (i : Nat) (t : List UInt8), nm[i]? = some t → ∃ g, ao = some ⟨g, 0, none⟩ ∧ w.cell? ⟨g, i, none⟩ = some (.string ⟨t.toArray⟩) := by
  have hl := h.1
  rw [List.length_map] at hl
  rcases h.2 with ⟨hv, h0⟩ | ⟨g, cap, cur, hv, _, hg, hc, _, _, ht⟩
  · subst h0
    have : nm = [] := List.eq_nil_of_length_eq_zero (by omega)
    subst this
    exact ⟨none, 0, hv, Nat.le_refl _, fun i t hi => by simp at hi⟩
  · refine ⟨some ⟨g, 0, none⟩, cap, hv, hc, fun i t hi => ⟨g, rfl, ?_⟩⟩
    have hx : (nm.map strV)[i]? = some (strV t) := by rw [List.getElem?_map, hi]; rfl
    have := h.cells (g := g) (by rw [hv]; rfl) i (strV t) hx
    rwa [show (⟨g, 0, none⟩ : Addr).add i = ⟨g, i, none⟩ from by rw [Addr.add_lit, Nat.zero_add]] at this
/- What the names' loop has seen. -/
def Seen (ts : List Tr) (k : Nat) (nm : List (List UInt8)) : Prop := nm = (ts.take k).map Pl.strOf ∧ (ts.take k).all Pl.isName = true ∧ nm.Nodup
theorem Seen.start (ts : List Tr) : Seen ts 0 [] := ⟨by simp, by simp, List.nodup_nil⟩
theorem Seen.more {ts : List Tr} {k : Nat} {nm : List (List UInt8)} {x : Tr} (h : Seen ts k nm) (hx : ts[k]? = some x) (hn : Pl.isName x = true) (hm : Pl.strOf x ∉ nm) : Seen ts (k + 1) (nm ++ [Pl.strOf x]) := by
  refine ⟨?_, all_take_succ h.2.1 hx hn, ?_⟩
  · rw [List.take_add_one, hx, h.1]; simp
  · rw [List.nodup_append]
    refine ⟨h.2.2, by simp, ?_⟩
    intro a ha b hb e
    simp only [List.mem_singleton] at hb
    subst hb e
    exact hm ha
theorem Seen.done {ts : List Tr} {k : Nat} {nm : List (List UInt8)} (h : Seen ts k nm) (hk : ts.length ≤ k) : Pl.namesOk ts = true := by
  obtain ⟨h1, h2, h3⟩ := h
  rw [List.take_of_length_le hk] at h1 h2
  unfold Pl.namesOk
  rw [h2, ← h1]
  simpa using h3
theorem Seen.bad {ts : List Tr} {k : Nat} {x : Tr} (hx : ts[k]? = some x) (hn : Pl.isName x = false) : Pl.namesOk ts = false := by
  unfold Pl.namesOk
  rw [all_fail hx hn]; rfl
theorem Seen.twice {ts : List Tr} {k : Nat} {nm : List (List UInt8)} {x : Tr} (h : Seen ts k nm) (hx : ts[k]? = some x) {j : Nat} {t : List UInt8} (hj : nm[j]? = some t) (he : t = Pl.strOf x) : Pl.namesOk ts = false := by
  have hjk : j < k := by
    have := (List.getElem?_eq_some_iff.1 hj).1
    rw [h.1, List.length_map, List.length_take] at this
    omega
  have hd : ¬ (ts.map Pl.strOf).Nodup := by
    intro hd
    have e1 : (ts.map Pl.strOf)[j]? = some t := by
      rw [h.1, List.getElem?_map, List.getElem?_take] at hj
      rw [List.getElem?_map]
      simpa [hjk] using hj
    have e2 : (ts.map Pl.strOf)[k]? = some t := by rw [List.getElem?_map, hx, he]; rfl
    have hjl := (List.getElem?_eq_some_iff.1 e1).1
    have := (List.getElem?_inj hjl hd).1 (e1.trans e2.symm)
    omega
  unfold Pl.namesOk
  rw [Bool.and_eq_false_iff]
  right
  simpa using hd
theorem not_in_of {nm : List (List UInt8)} {t : List UInt8} (h : ∀ (j : Nat) (x : List UInt8), nm[j]? = some x → ¬ x = t) : t ∉ nm := by
  intro hm
  obtain ⟨j, hj⟩ := List.mem_iff_getElem?.1 hm
  exact h j t hj rfl

set_option maxHeartbeats 2000000 in
set_option maxRecDepth 100000 in
theorem ref_lambda (n : Nat) (hF : FormSaid n) (ok ok' : Nat → Prop) (w : World) (nv bv : Value) (ns bd : Tr) (h : RepR ok n w nv ns) (hbd : RepR ok' n w bv bd) :
    Calls Tryz.prog 164 #[nv, bv] w fun e w' => FormPost w (Pl.lamOk (Pl.isForm n) ns bd) e w' := by
  obtain ⟨i0, hi0, hz0, hz1, hz2⟩ := info_parts Tryz.infoStr
  have HF := (show Hid _ from hF)
  have HN := (show Hid _ from h)
  obtain ⟨b, rfl, hb, ck, _⟩ := h.cellS
  obtain ⟨bb, rfl⟩ := hbd.ptr
  have HBd := (show Hid _ from hbd)
  clear hF h hbd
  go_enter Tryz.func164, Tryz.ntmps164
  go_wp2_with fail
  refine (HF.out ok' _ _ bd HBd.out).mono ?_
  rintro e w1 ⟨hB1, hcase⟩
  obtain ⟨q1, _⟩ := bcell hB1
  have HB1 := (show Hid (Below w.heap.size w w1) from hB1)
  clear hB1
  by_cases hls : ∃ ts, ns = .agg ts
  · obtain ⟨ts, rfl⟩ := hls
    have hlen := HN.out.short
    obtain ⟨m, rfl⟩ : ∃ m, n = m + 1 := by
      cases n with
      | zero => exact HN.out.elim
      | succ m => exact ⟨m, rfl⟩
    have ck2 : w.cell? ⟨b, 0, none⟩ = some (.string ⟨#[108, 105, 115, 116]⟩) := ck
    clear ck
    rcases hcase with ⟨hf, bf, rfl⟩ | ⟨hf, rfl⟩
    · obtain ⟨b', kids, vs, e, _, _, c3, hS, hvl, hA⟩ := HN.out.list
      simp only [Value.pointer.injEq, Option.some.injEq, Addr.mk.injEq, and_true] at e
      subst e
      obtain ⟨ao, cap, rfl, hcap, hcell⟩ := hS
      rw [hvl] at c3 hcap
      have HV := (show Hid (vs.length = ts.length) from hvl)
      have HC := (show Hid _ from hcell)
      have HA := (show Hid _ from hA)
      have HE := (show Hid (Pl.isForm (m + 1) bd = true) from hf)
      clear hvl hcell hA hf
      go_wp2_with fail
      go_loopw [6, 7] (fun lv i wr => ∃ (k : Nat) (nm : List (List UInt8)), k ≤ ts.length ∧ i = .int .i64 k ∧ Hid (wr.ownsRow w.heap.size 9 1 lv k (nm.map strV)) ∧ Hid (Below w.heap.size w wr) ∧ Hid (Seen ts k nm)) (fun _ i _ => ts.length - (intOf i).toNat)
      case atStart => exact ⟨0, [], Nat.zero_le _, rfl, World.ownsRow_nil _ _ _ _, HB1.out, Seen.start _⟩
      case round =>
        obtain ⟨k, nm, hk, rfl, HO, HB, HS⟩ := hrel
        clear q1
        obtain ⟨q1, _⟩ := bcell HB.out
        by_cases hlt : k < ts.length
        · obtain ⟨u, hu⟩ : ∃ u, vs[k]? = some u := ⟨vs[k]'(by have := HV.out; omega), List.getElem?_eq_getElem (by have := HV.out; omega)⟩
          obtain ⟨x, hx⟩ : ∃ x, ts[k]? = some x := ⟨ts[k], List.getElem?_eq_getElem hlt⟩
          obtain ⟨g, off, rfl, hg, hc⟩ := HC.out k u hu
          have hr := HA.out k u x hu hx
          have HX := (show Hid _ from hx)
          clear hu hx
          obtain ⟨bu, rfl, hbu, _, cs⟩ := hr.cellS
          have HR : Hid (RepR ok m wr (.pointer (some ⟨bu, 0, none⟩)) x) := hr.later HB.out
          clear hr
          have hlt2 : (k : Int) < (ts.length : Int) := by omega
          go_wp2_with fail
          refine (ref_free ok m _ _ x HR.out).mono ?_
          rintro e w2 ⟨rfl, hB2⟩
          have HB2 : Hid (Below w.heap.size w w2) := HB.out.trans (hB2.mono HB.out.size)
          obtain ⟨q2, _⟩ := bcell HB2.out
          have HO2 : Hid (w2.ownsRow w.heap.size 9 1 u6 k (nm.map strV)) := HO.out.kept (grown_of_below none hB2) (by cases hv : Value.ownBlock u6 <;> simp)
          have hs2 : w.heap.size ≤ w2.heap.size := HB2.out.size
          clear hB2 HO q1
          by_cases hnm : Pl.isName x = true
          · obtain ⟨ao2, cap2, rfl, hcap2, hcell2⟩ := row_shape HO2.out
            have HC2 := (show Hid _ from hcell2)
            have HNM : Hid (nm.length = k) := show nm.length = k from by have := HO2.out.1; simpa using this
            clear hcell2
            go_wp2_with fail
            go_loopw [9] (fun jj wq => ∃ (j mm : Nat), j ≤ k ∧ jj = .int .i64 j ∧ wq = w2.drewN mm ∧ Hid (∀ (i : Nat) (y : List UInt8), i < j → nm[i]? = some y → ¬ y = Pl.strOf x)) (fun jj _ => k - (intOf jj).toNat)
            case atStart => exact ⟨0, 0, Nat.zero_le _, rfl, rfl, fun i y hi => by omega⟩
            case round =>
              obtain ⟨j, mm, hj, rfl, rfl, HJ⟩ := hrel
              by_cases hjl : j < k
              · obtain ⟨y, hy⟩ : ∃ y, nm[j]? = some y := ⟨nm[j]'(by have := HNM.out; omega), List.getElem?_eq_getElem (by have := HNM.out; omega)⟩
                obtain ⟨g2, rfl, hc2⟩ := HC2.out j y hy
                have hjl2 : (j : Int) < (k : Int) := by omega
                by_cases hyx : y = Pl.strOf x
                · have HT : Hid (Pl.lamOk (Pl.isForm (m + 1)) (.agg ts) bd = false) := by
                    have := HS.out.twice HX.out hy hyx
                    simp [Hid, Pl.lamOk, this]
                  have e1 : (y == Pl.strOf x) = true := by simpa using hyx
                  clear hy hyx
                  go_wp2_with fail
                  go_quiet (fail)
                  go_wp2_with fail
                  go_ret
                  refine ⟨⟨HB2.out.os, HB2.out.tape, HB2.out.output, HB2.out.size, HB2.out.block⟩, .inr ⟨HT.out, rfl⟩⟩
                · have HJ2 : Hid (∀ (i : Nat) (z : List UInt8), i < j + 1 → nm[i]? = some z → ¬ z = Pl.strOf x) := by
                    intro i z hi hz
                    by_cases e : i = j
                    · subst e; rw [hy] at hz; obtain rfl := Option.some.inj hz; exact hyx
                    · exact HJ.out i z (by omega) hz
                  have e1 : (y == Pl.strOf x) = false := by simpa using hyx
                  clear hy hyx
                  go_wp2_with fail
                  go_quiet (fail)
                  go_wp2_with fail
                  go_roundw
                  case rel => exact ⟨j + 1, _, by omega, by go_num, rfl, HJ2⟩
                  case measure => simp [intOf]; omega
              · have HS2 : Hid (Seen ts (k + 1) (nm ++ [Pl.strOf x])) := HS.out.more HX.out hnm (not_in_of fun i z hz => HJ.out i z (by have := (List.getElem?_eq_some_iff.1 hz).1; have := HNM.out; omega) hz)
                clear HJ
                go_wp2_with (first | (at_builtin; refine wpList_append_lies _ rfl _ _ 131 rfl w.heap.size 9 i0 (.string ByteArray.empty) 1 16 Tryz.underlying131 hi0 hz0 hz1 hz2 rfl (by decide) _ k (nm.map strV) rfl (World.ownsRow.alloc (w := w2.drewN mm) HO2.out _) ⟨w2.heap.size, 0, none⟩ 1 1 [.string ⟨(Pl.strOf x).toArray⟩] rfl rfl (cell_one_new _ _ _) (fun x hx => by simp at hx; subst hx; rfl) (by decide) (by unfold maxLen; omega) (by omega) (by simp; omega) (w2.heap.size + 1) (by simp) ?_; intro g' cap' w3 hown' hgrow3 hat3 _))
                go_roundw
                case rel =>
                  refine ⟨k + 1, _, by omega, by go_num, ?_, ?_, HS2⟩
                  · have := hown'
                    rw [List.map_append]
                    exact this
                  · exact (Below.alloc (w := w2.drewN mm) ⟨HB2.out.os, HB2.out.tape, HB2.out.output, HB2.out.size, HB2.out.block⟩ hs2 _).grown hgrow3 (by simp; omega) (fun j hj => (HO2.out.lt j hj).1)
                case measure => simp [intOf]; omega
          · have hn0 : Pl.isName x = false := by simpa using hnm
            have HT : Hid (Pl.lamOk (Pl.isForm (m + 1)) (.agg ts) bd = false) := by
              have := Seen.bad HX.out hn0
              simp [Hid, Pl.lamOk, this]
            clear hnm
            go_wp2_with fail
            go_ret
            exact ⟨HB2.out, .inr ⟨HT.out, rfl⟩⟩
        · have HT : Hid (Pl.lamOk (Pl.isForm (m + 1)) (.agg ts) bd = true) := by
            have := HS.out.done (by omega)
            simp [Hid, Pl.lamOk, this, HE.out]
          have hs1 := HB.out.size
          obtain ⟨ao2, cap2, rfl, hcap2, _⟩ := row_shape HO.out
          clear HO
          go_wp2_with fail
          go_ret
          exact ⟨(HB.out.alloc hs1 _).alloc (by simp; omega) _, .inl ⟨HT.out, _, rfl⟩⟩
    · have HE : Hid (Pl.lamOk (Pl.isForm (m + 1)) (.agg ts) bd = false) := by
        simp [Hid, Pl.lamOk, hf]
      clear hf
      go_wp2_with fail
      go_ret
      exact ⟨HB1.out, .inr ⟨HE.out, rfl⟩⟩
  · have HE : Hid (Pl.lamOk (Pl.isForm n) ns bd = false) := by
      show Pl.lamOk _ _ _ = _
      unfold Pl.lamOk
      split
      · exact absurd ⟨_, rfl⟩ hls
      · rfl
    have hkk : ∃ kk : List UInt8, w.cell? ⟨b, 0, none⟩ = some (.string ⟨kk.toArray⟩) ∧ (kk == [108, 105, 115, 116]) = false := by
      cases n with
      | zero => exact HN.out.elim
      | succ m =>
        obtain ⟨_, _, _, hh⟩ := HN.out
        match ns, hh with
        | .lit (.int _ _), _ => exact ⟨[110, 117, 109, 98, 101, 114], ck, by decide⟩
        | .lit (.bool _), _ => exact ⟨[116, 114, 117, 116, 104], ck, by decide⟩
        | .lit (.string _), _ => exact ⟨[110, 97, 109, 101], ck, by decide⟩
        | .agg ts, _ => exact absurd ⟨ts, rfl⟩ hls
    obtain ⟨kk, ck2, hkn⟩ := hkk
    have hkm : (kk != [108, 105, 115, 116]) = true := by rw [bne, hkn]; rfl
    clear ck hls
    rcases hcase with ⟨hf, bf, rfl⟩ | ⟨hf, rfl⟩
    · clear hf
      go_wp2_with fail
      go_ret
      exact ⟨HB1.out, .inr ⟨HE.out, rfl⟩⟩
    · clear hf
      go_wp2_with fail
      go_ret
      exact ⟨HB1.out, .inr ⟨HE.out, rfl⟩⟩
end Go.Proofs.YtkgbdddkcjpgfaaGreatDoor

/- The reference's let: what its loop keeps. -/
namespace Go.Proofs.YtkgbdddkcjpgfaaGreatDoor
open Go.RowKit

structure LetInv (w wr : World) (G a b : Nat) (kn vv : Value) (nvs vvs : List Value) : Prop where
  below : Below w.heap.size w wr
  out : wr.heap[G]? = some (.cells #[kLst, .int .i64 0, kNil, kn] TD (0, 0))
  nrow : wr.ownsRow (G + 1) TP 1 kn a nvs
  vrow : wr.ownsRow (G + 1) TP 1 vv b vvs
  apart : ∀ r, kn.ownBlock = some r → vv.ownBlock ≠ some r
  sizeG : w.heap.size ≤ G

theorem LetInv.start {w : World} (o : Obj) (ho : o = .cells #[kLst, .int .i64 0, kNil, .slice none 0 0] TD (0, 0)) : LetInv w (w.alloc o) w.heap.size 0 0 (.slice none 0 0) (.slice none 0 0) [] [] where
  below := (Below.refl _ _).alloc (Nat.le_refl _) o
  out := by rw [heap_new_of rfl, ho]
  nrow := World.ownsRow_nil _ _ _ _
  vrow := World.ownsRow_nil _ _ _ _
  apart := fun r h => by simp [Value.ownBlock] at h
  sizeG := Nat.le_refl _

theorem grown_of_drew {a b : World} {row : Option Nat} (h : a.drew.grownBy b row) : a.grownBy b row := ⟨h.os, h.tape, h.output, h.size, h.block⟩

theorem LetInv.pushN {w wr w3 : World} {G a b : Nat} {kn vv : Value} {nvs vvs : List Value} (h : LetInv w wr G a b kn vv nvs vvs) {o : Obj} {g' cap' : Nat} {u : Value}
    (hown : w3.ownsRow (G + 1) TP 1 (.slice (some ⟨g', 0, none⟩) (a + 1) cap') (a + 1) (nvs ++ [u])) (hg : (wr.alloc o).grownBy w3 kn.ownBlock) (hat : kn.ownBlock = some g' ∨ g' = wr.heap.size + 1) :
    LetInv w (w3.setCell ⟨G, 3, none⟩ (.slice (some ⟨g', 0, none⟩) (a + 1) cap')) G (a + 1) b (.slice (some ⟨g', 0, none⟩) (a + 1) cap') vv (nvs ++ [u]) vvs := by
  have hltG : G < wr.heap.size := lt_of_some h.out
  have hsG := h.sizeG
  have hrl := h.nrow.lt
  have hneG : some G ≠ kn.ownBlock := fun e => by have := (hrl G e.symm).1; omega
  have hob : ∀ k, k < wr.heap.size → some k ≠ kn.ownBlock → w3.heap[k]? = wr.heap[k]? := fun k hk hne => (hg.block k (by simp; omega) hne).trans (Below.heap_alloc _ _ _ hk)
  have hout3 : w3.heap[G]? = some (.cells #[kLst, .int .i64 0, kNil, kn] TD (0, 0)) := (hob G hltG hneG).trans h.out
  have hblk : ∀ (v : Value) k, k ≠ G → (w3.setCell ⟨G, 3, none⟩ v).heap[k]? = w3.heap[k]? := fun v k hk => Below.heap_setCell _ _ _ _ hk
  refine ⟨?_, ?_, ownsRow_setCell_below hown (by show G < G + 1; omega) _, ?_, ?_, hsG⟩
  · refine (((h.below.alloc h.below.size o).grown hg ?_ ?_).setCell ?_ _)
    · have := h.below.size; simp; omega
    · intro k hk; have := (hrl k hk).1; omega
    · exact hsG
  · rw [set_block hout3 3 _]; rfl
  · refine ownsRow_setCell_below ?_ (by show G < G + 1; omega) _
    refine ⟨h.vrow.1, ?_⟩
    rcases h.vrow.2 with hn | ⟨x, cap, cur, hv, h0, hx, rest⟩
    · exact .inl hn
    · refine .inr ⟨x, cap, cur, hv, h0, ?_, rest⟩
      rw [hob x (lt_of_some hx) (fun e => h.apart x e.symm (by rw [hv]; rfl))]; exact hx
  · intro r hr
    simp only [Value.ownBlock, Option.some.injEq] at hr
    subst hr
    rcases hat with h1 | h1
    · exact h.apart _ h1
    · intro e
      have := (h.vrow.lt _ e).2
      omega
theorem LetInv.pushV {w wr w3 : World} {G a b : Nat} {kn vv : Value} {nvs vvs : List Value} (h : LetInv w wr G a b kn vv nvs vvs) {o : Obj} {g' cap' : Nat} {u : Value}
    (hown : w3.ownsRow (G + 1) TP 1 (.slice (some ⟨g', 0, none⟩) (b + 1) cap') (b + 1) (vvs ++ [u])) (hg : (wr.alloc o).grownBy w3 vv.ownBlock) (hat : vv.ownBlock = some g' ∨ g' = wr.heap.size + 1) :
    LetInv w w3 G a (b + 1) kn (.slice (some ⟨g', 0, none⟩) (b + 1) cap') nvs (vvs ++ [u]) := by
  have hltG : G < wr.heap.size := lt_of_some h.out
  have hsG := h.sizeG
  have hrl := h.vrow.lt
  have hob : ∀ k, k < wr.heap.size → some k ≠ vv.ownBlock → w3.heap[k]? = wr.heap[k]? := fun k hk hne => (hg.block k (by simp; omega) hne).trans (Below.heap_alloc _ _ _ hk)
  refine ⟨?_, ?_, ?_, hown, ?_, hsG⟩
  · refine (h.below.alloc h.below.size o).grown hg ?_ ?_
    · have := h.below.size; simp; omega
    · intro k hk; have := (hrl k hk).1; omega
  · exact (hob G hltG (fun e => by have := (hrl G e.symm).1; omega)).trans h.out
  · refine ⟨h.nrow.1, ?_⟩
    rcases h.nrow.2 with hn | ⟨x, cap, cur, hv, h0, hx, rest⟩
    · exact .inl hn
    · refine .inr ⟨x, cap, cur, hv, h0, ?_, rest⟩
      rw [hob x (lt_of_some hx) (fun e => h.apart x (by rw [hv]; rfl) e.symm)]; exact hx
  · intro r hr e
    simp only [Value.ownBlock, Option.some.injEq] at e
    subst e
    rcases hat with h1 | h1
    · exact h.apart _ hr h1
    · have := (h.nrow.lt _ hr).2
      omega
theorem LetInv.drew {w wr : World} {G a b : Nat} {kn vv : Value} {nvs vvs : List Value} (h : LetInv w wr G a b kn vv nvs vvs) : LetInv w wr.drew G a b kn vv nvs vvs :=
  ⟨h.below.drew, h.out, h.nrow, h.vrow, h.apart, h.sizeG⟩

/- Values that stand for trees, one by one. -/
def ChR (ok : Nat → Prop) (m : Nat) (w : World) (vs : List Value) (xs : List Tr) : Prop := vs.length = xs.length ∧ ∀ (i : Nat) (u : Value) (x : Tr), vs[i]? = some u → xs[i]? = some x → RepR ok m w u x
theorem ChR.nil (ok : Nat → Prop) (m : Nat) (w : World) : ChR ok m w [] [] := ⟨rfl, fun i u x hu => by simp at hu⟩
theorem ChR.snoc {ok : Nat → Prop} {m : Nat} {w : World} {vs : List Value} {xs : List Tr} {u : Value} {x : Tr} (h : ChR ok m w vs xs) (hr : RepR ok m w u x) : ChR ok m w (vs ++ [u]) (xs ++ [x]) := by
  refine ⟨by simp [h.1], fun i u' x' hu hx => ?_⟩
  have hl := h.1
  by_cases hi : i < vs.length
  · rw [List.getElem?_append_left hi] at hu
    rw [List.getElem?_append_left (by omega)] at hx
    exact h.2 i u' x' hu hx
  · have e : i = vs.length := by
      have := (List.getElem?_eq_some_iff.1 hu).1
      simp at this
      omega
    subst e
    rw [List.getElem?_append_right (Nat.le_refl _)] at hu
    rw [List.getElem?_append_right (by omega)] at hx
    have e2 : vs.length - xs.length = 0 := by omega
    rw [e2] at hx
    simp at hu hx
    subst hu hx
    exact hr
theorem ChR.later {ok : Nat → Prop} {m : Nat} {w w' : World} {vs : List Value} {xs : List Tr} (h : ChR ok m w vs xs) (hb : Below w.heap.size w w') : ChR ok m w' vs xs := ⟨h.1, fun i u x hu hx => (h.2 i u x hu hx).later hb⟩
theorem ChR.all {ok : Nat → Prop} {m n : Nat} {w : World} {vs : List Value} {xs : List Tr} (h : ChR ok m w vs xs) (hn : m ≤ n) : AllR n w vs xs := ⟨h.1, ok, fun i u x hu hx => RepR.up m n u x hn (h.2 i u x hu hx)⟩
/- The list of names that let makes. -/
theorem LetInv.names {w wr : World} {G a b : Nat} {kn vv : Value} {nvs vvs : List Value} (h : LetInv w wr G a b kn vv nvs vvs) {ok : Nat → Prop} {m : Nat} {xs : List Tr} (hc : ChR ok m w nvs xs) (ha : xs.length = a) (hl : xs.length ≤ 1000) : RepR (fun _ => True) (m + 1) wr (.pointer (some ⟨G, 0, none⟩)) (.agg xs) := by
  refine ⟨G, rfl, trivial, kn, nvs, h.out, fun _ _ => trivial, ?_, ?_, hl⟩
  · rw [ha]
    exact ⟨h.nrow.1, h.nrow.2.imp id (fun ⟨g, cap, cur, a, b, c⟩ => ⟨g, cap, cur, a, Nat.zero_le _, c⟩)⟩
  · intro i u x hu hx
    exact RepR.mono (fun _ _ _ => trivial) _ _ _ ((hc.2 i u x hu hx).later h.below)
end Go.Proofs.YtkgbdddkcjpgfaaGreatDoor
