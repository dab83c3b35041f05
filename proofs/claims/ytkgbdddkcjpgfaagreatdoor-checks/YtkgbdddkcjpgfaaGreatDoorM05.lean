/- The reference's datum: tokens become a tree in memory. -/
import Derived.Test.YtkgbdddkcjpgfaaGreatDoorM04
import Derived.Test.YtkgbdddkcjpgfaaGreatDoorM02
import Derived.Deep.QuietTactic
import Derived.BigQuiet
namespace Go.Proofs.YtkgbdddkcjpgfaaGreatDoor
open Go.RowKit

def ToksAt (w : World) (L : Value) (all : List (List UInt8)) : Prop := w.ownsRow 0 9 1 L all.length (all.map strV)
theorem ToksAt.keep {w w' : World} {L : Value} {all : List (List UInt8)} {b : Nat} {c : Array Value} {f : Nat × Nat} (h : ToksAt w L all) (hg : w.grownBy w' (some b)) (hb : w.heap[b]? = some (.cells c TR f)) : ToksAt w' L all := by
  refine World.ownsRow.kept h hg ?_
  by_cases hL : L.ownBlock = some b
  · exfalso
    rcases h.2 with ⟨hv, _⟩ | ⟨g, cap, cur, hv, _, hgg, _⟩
    · subst hv; simp [Value.ownBlock] at hL
    · subst hv
      simp only [Value.ownBlock, Option.some.injEq] at hL
      subst hL
      rw [hb] at hgg
      simp only [Option.some.injEq, Obj.cells.injEq] at hgg
      have := hgg.2.1
      simp [TR] at this
  · exact .inr hL

def DatPost (n : Nat) (w : World) (b : Nat) (L : Value) (all : List (List UInt8)) (dp de : Nat) (g : Bool) (l : List (List UInt8)) (e : Ending) (w' : World) : Prop :=
  w.grownBy w' (some b) ∧
  match Pl.pd n l with
  | none => e = .returned (.pointer none)
  | some p => ∃ v, e = .returned v ∧ RepR (fun k => w.heap.size ≤ k) n w' v p.t ∧ Rd w' b L ((all.length - p.q.length : Nat) : Int) ((max dp (de + p.dp) : Nat) : Int) (g || p.gr)

def DatSaid (n : Nat) : Prop := ∀ (w : World) (b : Nat) (L : Value) (all l : List (List UInt8)) (dp de : Nat) (g : Bool), Rd w b L ((all.length - l.length : Nat) : Int) (dp : Int) g → ToksAt w L all → l <:+ all → l.length ≤ n → all.length ≤ 1000 →
  de + l.length ≤ 2000 → de ≤ dp → (∀ t ∈ all, t.length ≤ 1000) → ∀ x : Int, x = (de : Int) → Calls Tryz.prog 72 #[.pointer (some ⟨b, 0, none⟩), .int .i64 x] w fun e w' => DatPost n w b L all dp de g l e w'

theorem toks_shape {w : World} {L : Value} {all : List (List UInt8)} (h : ToksAt w L all) : ∃ ao cap, L = .slice ao all.length cap ∧ all.length ≤ cap ∧ ∀ (i : Nat) (t : List UInt8), all[i]? = some t → ∃ g, ao = some ⟨g, 0, none⟩ ∧ w.cell? ⟨g, i, none⟩ = some (.string ⟨t.toArray⟩) := by
  rcases h.2 with ⟨hv, h0⟩ | ⟨g, cap, cur, hv, _, hg, hc, _, _, ht⟩
  · have : all = [] := List.eq_nil_of_length_eq_zero h0
    subst this
    exact ⟨none, 0, hv, Nat.le_refl _, fun i t hi => by simp at hi⟩
  · refine ⟨some ⟨g, 0, none⟩, cap, hv, hc, fun i t hi => ⟨g, rfl, ?_⟩⟩
    have hx : (all.map strV)[i]? = some (strV t) := by rw [List.getElem?_map, hi]; rfl
    have := h.cells (g := g) (by rw [hv]; rfl) i (strV t) hx
    rwa [show (⟨g, 0, none⟩ : Addr).add i = ⟨g, i, none⟩ from by rw [Addr.add_lit, Nat.zero_add]] at this

set_option maxHeartbeats 1000000 in
set_option maxRecDepth 100000 in
theorem ref_datum_end (n : Nat) (w : World) (b : Nat) (L : Value) (all : List (List UInt8)) (dp de : Nat) (g : Bool) (hR : Rd w b L ((all.length - 0 : Nat) : Int) (dp : Int) g) (hT : ToksAt w L all) :
    Calls Tryz.prog 72 #[.pointer (some ⟨b, 0, none⟩), .int .i64 de] w fun e w' => DatPost n w b L all dp de g [] e w' := by
  obtain ⟨ao, cap, rfl, hcap, hcell⟩ := toks_shape hT
  obtain ⟨c0, c1, c2, c3⟩ := hR.cells
  have hpd : Hid (Pl.pd n [] = none) := by cases n <;> rfl
  clear hR hT hcell
  go_enter Tryz.func72, Tryz.ntmps72
  go_wp2_with fail
  go_quiet (fail)
  go_wp2_with fail
  go_ret
  refine ⟨⟨rfl, rfl, rfl, Nat.le_refl _, fun _ _ _ => rfl⟩, ?_⟩
  rw [hpd.out]
  rfl


theorem grown_drewN {a b : World} {row : Option Nat} (h : a.grownBy b row) (n : Nat) : a.grownBy (b.drewN n) row := ⟨h.os, h.tape, h.output, h.size, h.block⟩
theorem grown_d (a : World) (n : Nat) (row : Option Nat) : a.grownBy (a.drewN n) row := grown_drewN (World.grownBy.refl _ _) n
theorem RepR.drewN {ok : Nat → Prop} {n m : Nat} {w : World} {v : Value} {t : Tr} (h : RepR ok n w v t) : RepR ok n (w.drewN m) v t := RepR.keep (w := w) (w' := w.drewN m) (fun _ _ _ _ _ h => h) n v t h
theorem Rd.drewN {w : World} {b : Nat} {L : Value} {at_ dp : Int} {g : Bool} (h : Rd w b L at_ dp g) (m : Nat) : Rd (w.drewN m) b L at_ dp g := h
theorem Rd.cast {w : World} {b : Nat} {L : Value} {at_ at2 dp dp2 : Int} {g g2 : Bool} (h : Rd w b L at_ dp g) (h1 : at_ = at2) (h2 : dp = dp2) (h3 : g = g2) : Rd w b L at2 dp2 g2 := by subst h1 h2 h3; exact h
theorem suf_len {all r : List (List UInt8)} {t : List UInt8} (h : t :: r <:+ all) : all.length - (t :: r).length + 1 = all.length - r.length := by
  have := h.length_le
  simp only [List.length_cons] at this ⊢
  omega

theorem dat_done {n : Nat} {w w' : World} {b : Nat} {L : Value} {all l : List (List UInt8)} {dp de : Nat} {g : Bool} {p : Pl.PR} {v : Value} {a d : Int} {g' : Bool} (hpd : Pl.pd n l = some p) (hg : w.grownBy w' (some b)) (hrep : RepR (fun k => w.heap.size ≤ k) n w' v p.t)
    (hrd : Rd w' b L a d g') (ha : a = ((all.length - p.q.length : Nat) : Int)) (hd : d = ((max dp (de + p.dp) : Nat) : Int)) (hgr : g' = (g || p.gr)) : DatPost n w b L all dp de g l (.returned v) w' := by
  refine ⟨hg, ?_⟩
  rw [hpd]
  exact ⟨v, rfl, hrep, hrd.cast ha hd hgr⟩
theorem heap_new_of {w : World} {o : Obj} {k : Nat} (h : k = w.heap.size) : (w.alloc o).heap[k]? = some o := by subst h; exact heap_alloc_new _ _
theorem set_size (w : World) (a : Addr) (v : Value) : (w.setCell a v).heap.size = w.heap.size := by simp [World.setCell]

set_option maxHeartbeats 1000000 in
set_option maxRecDepth 100000 in
theorem ref_datum_atom (n : Nat) (w : World) (b : Nat) (L : Value) (all : List (List UInt8)) (t : List UInt8) (r : List (List UInt8)) (dp de : Nat) (g : Bool) (hR : Rd w b L ((all.length - (t :: r).length : Nat) : Int) (dp : Int) g) (hT : ToksAt w L all) (hsuf : t :: r <:+ all) (hall : all.length ≤ 1000) (hsz : ∀ t ∈ all, t.length ≤ 1000) (hde : de ≤ dp) (h40 : ¬ t = [40]) (h39 : ¬ t = [39]) :
    Calls Tryz.prog 72 #[.pointer (some ⟨b, 0, none⟩), .int .i64 de] w fun e w' => DatPost (n + 1) w b L all dp de g (t :: r) e w' := by
  obtain ⟨ao, cap, rfl, hcap, hcell⟩ := toks_shape hT
  obtain ⟨hi, hg⟩ := Pl.suffix_get hsuf rfl
  obtain ⟨G, rfl, hc⟩ := hcell _ t (by rw [List.getElem?_eq_getElem hi, hg])
  obtain ⟨c0, c1, c2, c3⟩ := hR.cells
  have f1 := free_at hR 1
  have f2 := free_at hR 2
  generalize hpos : all.length - (t :: r).length = pos at *
  have HP : Hid (pos + 1 = all.length - r.length) := by have := suf_len hsuf; rw [← hpos]; exact this
  have HR := (show Hid (Rd w b _ _ _ _) from hR)
  have hsz0 : t.length ≤ 1000 := hsz t (hsuf.subset (by simp))
  have HT := (show Hid (ToksAt w _ all) from hT)
  clear hpos hg hT hcell hR hsz
  have e40 : (t == [40]) = false := by simpa using h40
  have e39 : (t == [39]) = false := by simpa using h39
  by_cases h41 : t = [41]
  · have hpd : Hid (Pl.pd (n + 1) (t :: r) = none) := Pl.pd_close n t r h41
    go_enter Tryz.func72, Tryz.ntmps72
    go_wp2_with fail
    go_quiet (fail)
    go_wp2_with fail
    go_quiet (fail)
    go_wp2_with fail
    go_ret
    refine ⟨grown_trans (grown_d _ _ _) (grown_set _ _ _ _), ?_⟩
    rw [hpd.out]; rfl
  have e41 : (t == [41]) = false := by simpa using h41
  by_cases hT1 : t = [35, 116]
  · have hpd : Hid (Pl.pd (n + 1) (t :: r) = some ⟨.lit (.bool true), r, 0, false⟩) := Pl.pd_true n t r hT1
    go_enter Tryz.func72, Tryz.ntmps72
    go_wp2_with fail
    go_quiet (fail)
    go_wp2_with fail
    go_quiet (fail)
    go_wp2_with fail
    go_ret
    refine dat_done hpd.out (grown_trans (grown_d _ _ _) (grown_trans (grown_set _ _ _ _) (World.grownBy_alloc _ _ _))) (RepR.up 1 _ _ _ (Nat.le_add_left _ _) ⟨w.heap.size, rfl, Nat.le_refl _, heap_new_of (by rw [set_size]; rfl)⟩) (((HR.out.drewN _).set1 _).alloc _) ?_ ?_ ?_
    · have := HP.out; dsimp only; omega
    · simp; omega
    · simp
  have eT1 : (t == [35, 116]) = false := by simpa using hT1
  by_cases hF1 : t = [35, 102]
  · have hpd : Hid (Pl.pd (n + 1) (t :: r) = some ⟨.lit (.bool false), r, 0, false⟩) := Pl.pd_false n t r hF1
    go_enter Tryz.func72, Tryz.ntmps72
    go_wp2_with fail
    go_quiet (fail)
    go_wp2_with fail
    go_quiet (fail)
    go_wp2_with fail
    go_ret
    refine dat_done hpd.out (grown_trans (grown_d _ _ _) (grown_trans (grown_set _ _ _ _) (World.grownBy_alloc _ _ _))) (RepR.up 1 _ _ _ (Nat.le_add_left _ _) ⟨w.heap.size, rfl, Nat.le_refl _, heap_new_of (by rw [set_size]; rfl)⟩) (((HR.out.drewN _).set1 _).alloc _) ?_ ?_ ?_
    · have := HP.out; dsimp only; omega
    · simp; omega
    · simp
  · have hpd : Hid (Pl.pd (n + 1) (t :: r) = (Pl.pw t).map fun p => ⟨p.1, r, 0, p.2⟩) := Pl.pd_word n t r h41 hT1 hF1 h39 h40
    have eF1 : (t == [35, 102]) = false := by simpa using hF1
    go_enter Tryz.func72, Tryz.ntmps72
    go_wp2_with fail
    go_quiet (fail)
    go_wp2_with fail
    go_quiet (fail)
    go_wp2_with fail
    refine (ref_word b _ _ _ _ _ g ((HR.out.drewN _).set1 _) (show t.toArray.size ≤ 1000 from by simpa using hsz0)).mono ?_
    rintro e w' ⟨v, g', rfl, hgr, hRd, hcase⟩
    have HG : Hid (w.grownBy w' (some b)) := grown_trans (grown_d _ _ _) (grown_trans (grown_set _ _ _ _) hgr)
    have HRd := (show Hid (Rd w' b _ _ _ g') from hRd)
    have HC := (show Hid (_ ∨ _) from hcase)
    clear hgr hRd hcase
    go_wp2_with fail
    go_ret
    rcases HC.out with ⟨h1, h2, h3⟩ | ⟨h1, h2, h3, h4⟩ | ⟨h1, h2, h3⟩
    · have hp : Pl.pd (n + 1) (t :: r) = some ⟨.lit (.int .i64 (Pl.sval t)), r, 0, Pl.great t⟩ := by rw [hpd.out]; unfold Pl.pw; rw [if_pos h1]; rfl
      refine dat_done hp HG.out (RepR.up 1 _ _ _ (Nat.le_add_left _ _) (RepR.mono (fun k _ hk => ?_) _ _ _ h3)) HRd.out ?_ ?_ ?_
      · rw [set_size] at hk; exact hk
      · have := HP.out; dsimp only; omega
      · simp; omega
      · exact h2
    · have hp : Pl.pd (n + 1) (t :: r) = some ⟨.lit (.string t), r, 0, false⟩ := by rw [hpd.out]; unfold Pl.pw; rw [if_neg (by simp [h1]), if_pos h2]; rfl
      refine dat_done hp HG.out (RepR.up 1 _ _ _ (Nat.le_add_left _ _) (RepR.mono (fun k _ hk => ?_) _ _ _ h4)) HRd.out ?_ ?_ ?_
      · rw [set_size] at hk; exact hk
      · have := HP.out; dsimp only; omega
      · simp; omega
      · simp [h3]
    · have hp : Pl.pd (n + 1) (t :: r) = none := by rw [hpd.out]; unfold Pl.pw; rw [if_neg (by simp [h1]), if_neg (by simp [h2])]; rfl
      refine ⟨HG.out, ?_⟩
      rw [hp, h3]; rfl
end Go.Proofs.YtkgbdddkcjpgfaaGreatDoor

/- The reference's datum behind a quote sign. -/
namespace Go.Proofs.YtkgbdddkcjpgfaaGreatDoor
open Go.RowKit

theorem pd_pos {n : Nat} {l : List (List UInt8)} {p : Pl.PR} (h : Pl.pd n l = some p) : ∃ m, n = m + 1 := by
  cases n with
  | zero => simp [Pl.pd] at h
  | succ m => exact ⟨m, rfl⟩

/- Three new blocks make a list of a name and of what was read. -/
theorem rep_quote {ok : Nat → Prop} {n : Nat} {w : World} {v : Value} {t : Tr} (h : RepR ok (n + 1) w v t) (hok : ∀ k, w.heap.size ≤ k → ok k) (o1 o2 o3 : Obj)
    (h1 : o1 = .cells #[kNam, .int .i64 0, .string ⟨#[113, 117, 111, 116, 101]⟩, .slice none 0 0] TD (0, 0))
    (h2 : o2 = .cells #[.pointer (some ⟨w.heap.size, 0, none⟩), v] TP (0, 0))
    (h3 : o3 = .cells #[kLst, .int .i64 0, kNil, .slice (some ⟨w.heap.size + 1, 0, none⟩) 2 2] TD (0, 0)) :
    RepR ok (n + 2) (((w.alloc o1).alloc o2).alloc o3) (.pointer (some ⟨w.heap.size + 1 + 1, 0, none⟩)) (.agg [.lit (.string Pl.quoteW), t]) := by
  have b1 : Below w.heap.size w (((w.alloc o1).alloc o2).alloc o3) := (((Below.refl _ w).alloc (Nat.le_refl _) o1).alloc (by simp) o2).alloc (by simp; omega) o3
  have e1 : (((w.alloc o1).alloc o2).alloc o3).heap[w.heap.size]? = some o1 := by
    rw [Below.heap_alloc _ _ _ (by simp; omega), Below.heap_alloc _ _ _ (by simp)]; exact heap_new_of rfl
  have e2 : (((w.alloc o1).alloc o2).alloc o3).heap[w.heap.size + 1]? = some o2 := by
    rw [Below.heap_alloc _ _ _ (by simp)]; exact heap_new_of (by simp)
  have e3 : (((w.alloc o1).alloc o2).alloc o3).heap[w.heap.size + 1 + 1]? = some o3 := heap_new_of (by simp)
  refine ⟨w.heap.size + 1 + 1, rfl, hok _ (by omega), .slice (some ⟨w.heap.size + 1, 0, none⟩) 2 2, [.pointer (some ⟨w.heap.size, 0, none⟩), v], by rw [e3, h3], ?_, ?_, ?_, by simp⟩
  · intro r hr
    simp only [Value.ownBlock, Option.some.injEq] at hr
    exact hok r (by omega)
  · refine ⟨rfl, .inr ⟨w.heap.size + 1, 2, _, rfl, Nat.zero_le _, by rw [e2, h2], by simp, by simp [maxLen], rfl, rfl⟩⟩
  · intro i u x hu hx
    match i, hu, hx with
    | 0, hu, hx =>
      simp only [List.getElem?_cons_zero, Option.some.injEq] at hu hx
      subst hu hx
      exact RepR.up 1 _ _ _ (by omega) ⟨w.heap.size, rfl, hok _ (Nat.le_refl _), by rw [e1, h1]; rfl⟩
    | 1, hu, hx =>
      simp only [List.getElem?_cons_succ, List.getElem?_cons_zero, Option.some.injEq] at hu hx
      subst hu hx
      exact RepR.keep (KeepD.of_below b1) _ _ _ h
    | (i + 2), hu, hx => simp at hu


set_option maxHeartbeats 1000000 in
set_option maxRecDepth 100000 in
theorem ref_datum_quote (n : Nat) (ih : DatSaid n) (w : World) (b : Nat) (L : Value) (all : List (List UInt8)) (r : List (List UInt8)) (dp de : Nat) (g : Bool) (hR : Rd w b L ((all.length - ([39] :: r).length : Nat) : Int) (dp : Int) g) (hT : ToksAt w L all) (hsuf : [39] :: r <:+ all) (hln : ([39] :: r).length ≤ n + 1) (hall : all.length ≤ 1000) (hdel : de + ([39] :: r).length ≤ 2000) (hde : de ≤ dp) (hsz : ∀ t ∈ all, t.length ≤ 1000) :
    Calls Tryz.prog 72 #[.pointer (some ⟨b, 0, none⟩), .int .i64 de] w fun e w' => DatPost (n + 1) w b L all dp de g ([39] :: r) e w' := by
  have hsz' := hsz
  have HI : Hid (DatSaid n) := ih
  clear ih
  obtain ⟨t, ht⟩ : ∃ t : List UInt8, t = [39] := ⟨_, rfl⟩
  rw [← ht] at hR hsuf
  obtain ⟨ao, cap, rfl, hcap, hcell⟩ := toks_shape hT
  obtain ⟨hi, hg⟩ := Pl.suffix_get hsuf rfl
  obtain ⟨G, rfl, hc⟩ := hcell _ t (by rw [List.getElem?_eq_getElem hi, hg])
  obtain ⟨c0, c1, c2, c3⟩ := hR.cells
  have f1 := free_at hR 1
  have f2 := free_at hR 2
  generalize hpos : all.length - (t :: r).length = pos at *
  have HP : Hid (pos + 1 = all.length - r.length) := by have := suf_len hsuf; rw [← hpos]; exact this
  have HR := (show Hid (Rd w b _ _ _ _) from hR)
  have hsz0 : t.length ≤ 1000 := hsz t (hsuf.subset (by simp))
  have HT := (show Hid (ToksAt w _ all) from hT)
  clear hpos hg hT hcell hR hsz
  subst ht
  have hsz := hsz'
  clear hsz' hsz0
  have hr1 : r.length ≤ 1000 := by have := hsuf.length_le; simp at this; omega
  by_cases hd : dp < de + 1
  · go_enter Tryz.func72, Tryz.ntmps72
    go_wp2_with fail
    go_quiet (fail)
    go_wp2_with fail
    go_quiet (fail)
    go_wp2_with fail
    refine (HI.out _ b (.slice (some ⟨G, 0, none⟩) all.length cap) all r (max dp (de + 1)) (de + 1) g ((((HR.out.drewN _).set1 _).set2 _).cast (by have := HP.out; omega) (by omega) rfl) (HT.out.keep (grown_trans (grown_d w _ (some b)) (grown_trans (grown_set _ _ _ _) (grown_set _ _ _ _))) HR.out) ((List.suffix_cons _ _).trans hsuf) (by simp at hln; omega) hall (by simp at hdel; omega) (by omega) hsz _ (by omega)).mono ?_
    rintro e w2 ⟨hgr, hpost⟩
    have HG : Hid (w.grownBy w2 (some b)) := grown_trans (grown_trans (grown_d w _ (some b)) (grown_trans (grown_set _ _ _ _) (grown_set _ _ _ _))) hgr
    cases hp : Pl.pd n r with
    | none =>
      rw [hp] at hpost
      dsimp only at hpost
      subst hpost
      have hpd : Hid (Pl.pd (n + 1) ([39] :: r) = none) := by show Pl.pd _ _ = _; rw [Pl.pd_quote n _ r rfl, hp]; rfl
      clear hp hgr
      go_wp2_with fail
      go_ret
      refine ⟨HG.out, ?_⟩
      rw [hpd.out]; rfl
    | some p =>
      rw [hp] at hpost
      obtain ⟨v, rfl, hrep, hRd2⟩ := hpost
      have hpd : Hid (Pl.pd (n + 1) ([39] :: r) = some ⟨.agg [.lit (.string Pl.quoteW), p.t], p.q, p.dp + 1, p.gr⟩) := by show Pl.pd _ _ = _; rw [Pl.pd_quote n _ r rfl, hp]; rfl
      obtain ⟨m, rfl⟩ := pd_pos hp
      clear hp hgr
      have HRep : Hid (RepR (fun k => w.heap.size ≤ k) (m + 1) w2 v p.t) := by
        refine RepR.mono ?_ _ _ _ hrep
        intro k _ hk
        exact Nat.le_trans (grown_trans (grown_d w _ (some b)) (grown_trans (grown_set _ _ _ _) (grown_set _ _ _ _))).size hk
      have HRd2 := (show Hid (Rd _ _ _ _ _ _) from hRd2)
      obtain ⟨vb, rfl, _⟩ := hrep
      clear hRd2
      go_wp2_with fail
      go_ret
      refine dat_done hpd.out (grown_trans HG.out (grown_trans (World.grownBy_alloc _ _ _) (grown_trans (World.grownBy_alloc _ _ _) (World.grownBy_alloc _ _ _)))) (rep_quote HRep.out (fun k hk => Nat.le_trans HG.out.size hk) _ _ _ rfl rfl rfl) (((HRd2.out.alloc _).alloc _).alloc _) ?_ ?_ ?_
      · rfl
      · dsimp only; omega
      · rfl
  · go_enter Tryz.func72, Tryz.ntmps72
    go_wp2_with fail
    go_quiet (fail)
    go_wp2_with fail
    go_quiet (fail)
    go_wp2_with fail
    refine (HI.out _ b (.slice (some ⟨G, 0, none⟩) all.length cap) all r (max dp (de + 1)) (de + 1) g (((HR.out.drewN _).set1 _).cast (by have := HP.out; omega) (by omega) rfl) (HT.out.keep (grown_trans (grown_d w _ (some b)) (grown_set _ _ _ _)) HR.out) ((List.suffix_cons _ _).trans hsuf) (by simp at hln; omega) hall (by simp at hdel; omega) (by omega) hsz _ (by omega)).mono ?_
    rintro e w2 ⟨hgr, hpost⟩
    have HG : Hid (w.grownBy w2 (some b)) := grown_trans (grown_trans (grown_d w _ (some b)) (grown_set _ _ _ _)) hgr
    cases hp : Pl.pd n r with
    | none =>
      rw [hp] at hpost
      dsimp only at hpost
      subst hpost
      have hpd : Hid (Pl.pd (n + 1) ([39] :: r) = none) := by show Pl.pd _ _ = _; rw [Pl.pd_quote n _ r rfl, hp]; rfl
      clear hp hgr
      go_wp2_with fail
      go_ret
      refine ⟨HG.out, ?_⟩
      rw [hpd.out]; rfl
    | some p =>
      rw [hp] at hpost
      obtain ⟨v, rfl, hrep, hRd2⟩ := hpost
      have hpd : Hid (Pl.pd (n + 1) ([39] :: r) = some ⟨.agg [.lit (.string Pl.quoteW), p.t], p.q, p.dp + 1, p.gr⟩) := by show Pl.pd _ _ = _; rw [Pl.pd_quote n _ r rfl, hp]; rfl
      obtain ⟨m, rfl⟩ := pd_pos hp
      clear hp hgr
      have HRep : Hid (RepR (fun k => w.heap.size ≤ k) (m + 1) w2 v p.t) := by
        refine RepR.mono ?_ _ _ _ hrep
        intro k _ hk
        exact Nat.le_trans (grown_trans (grown_d w _ (some b)) (grown_set _ _ _ _)).size hk
      have HRd2 := (show Hid (Rd _ _ _ _ _ _) from hRd2)
      obtain ⟨vb, rfl, _⟩ := hrep
      clear hRd2
      go_wp2_with fail
      go_ret
      refine dat_done hpd.out (grown_trans HG.out (grown_trans (World.grownBy_alloc _ _ _) (grown_trans (World.grownBy_alloc _ _ _) (World.grownBy_alloc _ _ _)))) (rep_quote HRep.out (fun k hk => Nat.le_trans HG.out.size hk) _ _ _ rfl rfl rfl) (((HRd2.out.alloc _).alloc _).alloc _) ?_ ?_ ?_
      · rfl
      · dsimp only; omega
      · rfl
end Go.Proofs.YtkgbdddkcjpgfaaGreatDoor
