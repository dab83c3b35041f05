/- The program's whole and datum.Read. -/
import Derived.Test.YtkgbdddkcjpgfaaGreatDoorM16
namespace Go.Proofs.YtkgbdddkcjpgfaaGreatDoor
open Go.RowKit

def PWPost (n : Nat) (w : World) (b dpst : Nat) (g : Bool) (l : List (List UInt8)) (e : Ending) (w' : World) : Prop :=
  w.grownBy w' (some b) ∧
  ((∃ s, e = .returned (.tuple #[.nilIface, errV s 2]) ∧ ∀ p, Pl.pd n l = some p → p.q ≠ []) ∨
   ∃ p v rest', Pl.pd n l = some p ∧ p.q = [] ∧ e = .returned (.tuple #[v, .nilIface]) ∧ RepP (fun k => w.heap.size ≤ k) n w' v p.t ∧ PRd w' b rest' 0 ((max dpst p.dp : Nat) : Int) (g || p.gr))

set_option maxHeartbeats 2000000 in
set_option maxRecDepth 100000 in
theorem p_whole (n : Nat) (w : World) (b : Nat) (rest : Value) (l : List (List UInt8)) (g : Bool) (h : PRd w b rest 0 0 g) (ht : TkSl w rest l) (hge : GE w) (hb2 : 6 < b) (hn : l.length ≤ n) (hr : l.length ≤ 1000) (hok : ∀ t ∈ l, OkT t) :
    Calls Tryz.prog 109 #[.pointer (some ⟨b, 0, none⟩)] w fun e w' => PWPost n w b 0 g l e w' := by
  have HH := (show Hid (PRd w b rest 0 0 g) from h)
  have HT := (show Hid (TkSl w rest l) from ht)
  have HGe := (show Hid (GE w) from hge)
  have HOk := (show Hid (∀ t ∈ l, OkT t) from hok)
  clear h ht hge hok
  go_enter Tryz.func109, Tryz.ntmps109
  go_wp2_with fail
  refine (p_datum n w b rest l 0 0 g HH.out HT.out HGe.out hb2 hn hr (by omega) (by omega) HOk.out).mono ?_
  rintro e w2 ⟨hg2, hpost⟩
  have HG2 := (show Hid (w.grownBy w2 (some b)) from hg2)
  clear hg2
  cases hp : Pl.pd n l with
  | none =>
    rw [hp] at hpost
    obtain ⟨s, rfl⟩ := hpost
    unfold errV
    have HP := (show Hid (_ = _) from hp)
    clear hp
    go_wp2_with fail
    go_ret2
    exact ⟨HG2.out, .inl ⟨_, rfl, fun p hq => by rw [HP.out] at hq; simp at hq⟩⟩
  | some p =>
    rw [hp] at hpost
    obtain ⟨v, rst', rfl, hrep, hrd2, htk2⟩ := hpost
    obtain ⟨T, x, rfl, hv1⟩ := hrep.iface
    have HP := (show Hid (_ = _) from hp)
    have HRp := (show Hid (RepP _ _ _ _ _) from hrep)
    have HR2 := (show Hid (PRd _ _ _ _ _ _) from hrd2)
    obtain ⟨c0, c1, c2, c3⟩ := hrd2.cells
    obtain ⟨ao, cap, rfl, _⟩ := htk2
    clear hrep hrd2 hp hv1
    by_cases hq : p.q = []
    · have hlen : (p.q.length : Int) = 0 := by simp [hq]
      have hgt : ((0:Int) < (p.q.length : Int)) = False := by simp [hq]
      have HQ := (show Hid (_ = _) from hq)
      clear hq
      go_wp2_with fail
      go_ret2
      exact ⟨HG2.out, .inr ⟨p, _, _, HP.out, HQ.out, rfl, HRp.out, HR2.out.cast (by simp) (by simp) rfl⟩⟩
    · have hgt : (0:Int) < (p.q.length : Int) := by have := List.length_pos_iff.2 hq; omega
      have HQ := (show Hid _ from hq)
      clear hq
      go_wp2_with (go_at_call 78; refine (p_While _ _ _).mono ?_; rintro e w' ⟨rfl, rfl⟩)
      go_ret2
      exact ⟨HG2.out, .inl ⟨_, rfl, fun p' hq => by rw [HP.out] at hq; obtain rfl := Option.some.inj hq; exact HQ.out⟩⟩
end Go.Proofs.YtkgbdddkcjpgfaaGreatDoor

/- The program's datum.Read. -/
namespace Go.Proofs.YtkgbdddkcjpgfaaGreatDoor
open Go.RowKit

theorem tkF_head : ∀ (n : Nat) (bs : List UInt8) (l : List (List UInt8)), Pl.tkF n bs = some l → ∀ t ∈ l, kindT t < 4 ∨ Pl.inW (t.headD 0) = true
  | 0, _, _, h => by obtain rfl := Option.some.inj h; simp
  | _ + 1, [], _, h => by obtain rfl := Option.some.inj h; simp
  | n + 1, c :: r, l, h => by
    unfold Pl.tkF at h
    split at h
    · exact tkF_head n r l h
    split at h
    · rename_i hc
      cases r with
      | nil => simp at h
      | cons d q =>
        dsimp only at h
        split at h
        · rename_i hd
          simp only [Option.map_eq_some_iff] at h
          obtain ⟨l1, h1, rfl⟩ := h
          have ih := tkF_head n q l1 h1
          intro t ht
          rcases List.mem_cons.1 ht with rfl | ht
          · left
            simp only [Bool.or_eq_true, beq_iff_eq] at hd hc
            subst hc
            rcases hd with rfl | rfl <;> decide
          · exact ih t ht
        · simp at h
    split at h
    · rename_i hw
      simp only [Option.map_eq_some_iff] at h
      obtain ⟨l1, h1, rfl⟩ := h
      have ih := tkF_head n _ l1 h1
      intro t ht
      rcases List.mem_cons.1 ht with rfl | ht
      · exact .inr hw
      · exact ih t ht
    split at h
    · rename_i hp
      simp only [Option.map_eq_some_iff] at h
      obtain ⟨l1, h1, rfl⟩ := h
      have ih := tkF_head n r l1 h1
      intro t ht
      rcases List.mem_cons.1 ht with rfl | ht
      · left
        simp only [Pl.punct, Bool.or_eq_true, beq_iff_eq] at hp
        rcases hp with (rfl | rfl) | rfl <;> decide
      · exact ih t ht
    · simp at h
theorem okSplit_is {bs : List UInt8} {l : List (List UInt8)} (h : okSplit bs = some l) : Pl.toks bs = some l ∧ l.all Pl.goodTok = true := by
  unfold okSplit at h
  split at h
  · simp at h
  · rename_i l' h1
    split at h
    · obtain rfl := Option.some.inj h; exact ⟨h1, by assumption⟩
    · simp at h
theorem okSplit_none' {bs : List UInt8} (h : okSplit bs = none) : Pl.toks bs = none ∨ ∃ l, Pl.toks bs = some l ∧ l.all Pl.goodTok = false := by
  unfold okSplit at h
  split at h
  · left; assumption
  · rename_i l' h1
    split at h
    · simp at h
    · rename_i h2; exact .inr ⟨_, h1, by simpa using h2⟩
theorem okSplit_ok {bs : List UInt8} {l : List (List UInt8)} (h : okSplit bs = some l) (hb : bs.length ≤ 1000) : l.length ≤ bs.length ∧ ∀ t ∈ l, OkT t := by
  obtain ⟨h1, h2⟩ := okSplit_is h
  obtain ⟨h3, h4⟩ := Pl.toks_size h1
  refine ⟨h3, fun t ht => ?_⟩
  obtain ⟨h5, h6⟩ := h4 t ht
  refine ⟨?_, h5, by omega⟩
  rcases tkF_head _ _ _ h1 t ht with h7 | h7
  · exact .inl h7
  · have h8 := List.all_eq_true.1 h2 t ht
    unfold Pl.goodTok at h8
    rw [h7] at h8
    right
    simpa using h8
theorem check_long {bs : List UInt8} (h : 300 < bs.length) : Pl.check bs = 1 := by unfold Pl.check; rw [if_pos h]
theorem check_split {bs : List UInt8} (h : ¬ 300 < bs.length) (hk : okSplit bs = none) : Pl.check bs = 2 := by
  unfold Pl.check
  rw [if_neg h]
  rcases okSplit_none' hk with h1 | ⟨l, h1, h2⟩
  · rw [h1]
  · rw [h1]; dsimp only; rw [if_pos h2]
theorem check_pd {bs : List UInt8} {l : List (List UInt8)} (h : ¬ 300 < bs.length) (hk : okSplit bs = some l) (hq : ∀ p, Pl.pd l.length l = some p → p.q ≠ []) : Pl.check bs = 2 := by
  obtain ⟨h1, h2⟩ := okSplit_is hk
  unfold Pl.check
  rw [if_neg h, h1]
  dsimp only
  rw [if_neg (by simp [h2])]
  cases hp : Pl.pd l.length l with
  | none => rfl
  | some p => dsimp only; rw [if_pos (hq p hp)]
theorem check_at {bs : List UInt8} {l : List (List UInt8)} {p : Pl.PR} (h : ¬ 300 < bs.length) (hk : okSplit bs = some l) (hp : Pl.pd l.length l = some p) (hq : p.q = []) : Pl.check bs = if 20 < p.dp then 3 else if p.gr = true then 4 else if Pl.isTop (l.length - 1) p.t = true then 0 else 5 := by
  obtain ⟨h1, h2⟩ := okSplit_is hk
  unfold Pl.check
  rw [if_neg h, h1]
  dsimp only
  rw [if_neg (by simp [h2]), hp]
  dsimp only
  rw [if_neg (by simp [hq])]

theorem below_grown_at {a b c : World} {B : Nat} {B2 : Nat} (h1 : Below B a b) (h : b.grownBy c (some B2)) (h2 : B ≤ B2) (hB : B ≤ a.heap.size) : Below B a c :=
  ⟨h.os.trans h1.os, h.tape.trans h1.tape, h.output.trans h1.output, Nat.le_trans h1.size h.size, fun k hk => (h.block k (Nat.lt_of_lt_of_le hk (Nat.le_trans hB h1.size)) (fun e => by obtain rfl := Option.some.inj e; omega)).trans (h1.block k hk)⟩

def RdPost (w : World) (bs : List UInt8) (e : Ending) (w' : World) : Prop :=
  Below w.heap.size w w' ∧
  ((∃ (c : Nat) (s : ByteArray), Pl.check bs = c ∧ 0 < c ∧ c ≤ 5 ∧ e = .returned (.tuple #[.nilIface, errV s c])) ∨
   ∃ l p v, okSplit bs = some l ∧ l.length ≤ 300 ∧ Pl.pd l.length l = some p ∧ p.gr = false ∧ Pl.check bs = (if Pl.isTop (l.length - 1) p.t = true then 0 else 5) ∧ e = .returned (.tuple #[v, .nilIface]) ∧ RepP (fun k => w.heap.size ≤ k) l.length w' v p.t)

set_option maxHeartbeats 2000000 in
set_option maxRecDepth 100000 in
theorem p_dread (s : ByteArray) (w : World) (hge : GE w) :
    Calls Tryz.prog 64 #[.string s] w fun e w' => RdPost w s.data.toList e w' := by
  have HGe := (show Hid (GE w) from hge)
  have hsz : s.data.toList.length = s.size := by simp
  clear hge
  by_cases hl : 300 < s.size
  · have HC : Hid (Pl.check s.data.toList = 1) := check_long (by omega)
    have hl2 : (300:Int) < (s.size : Int) := by omega
    go_enter Tryz.func64, Tryz.ntmps64
    go_wp2_with (go_at_call 78; refine (p_While _ _ _).mono ?_; rintro e w' ⟨rfl, rfl⟩)
    go_ret2
    exact ⟨Below.refl _ _, .inl ⟨1, _, HC.out, by omega, by omega, rfl⟩⟩
  · have hl2 : ¬ (300:Int) < (s.size : Int) := by omega
    have HL : Hid (¬ 300 < s.data.toList.length) := by rw [hsz]; exact hl
    have HSz := (show Hid (_ = _) from hsz)
    clear hsz
    go_enter Tryz.func64, Tryz.ntmps64
    go_wp2_with fail
    refine (p_split s w (by omega)).mono ?_
    rintro e w1 ⟨hb1, hpost⟩
    have HB1 := (show Hid (Below _ _ _) from hb1)
    clear hb1
    rcases hpost with ⟨hno, v, es, rfl⟩ | ⟨l, v, hsome, rfl, hrow⟩
    · have HC : Hid (Pl.check s.data.toList = 2) := check_split HL.out hno
      clear hno
      unfold errV
      go_wp2_with fail
      go_ret2
      exact ⟨HB1.out, .inl ⟨2, _, HC.out, by omega, by omega, rfl⟩⟩
    · have HO := (show Hid (_ = _) from hsome)
      have HT : Hid (TkSl w1 v l) := TkSl.of_own hrow
      obtain ⟨ao, cap, rfl, _⟩ := HT.out
      obtain ⟨hln, hok⟩ := okSplit_ok hsome (by rw [HSz.out]; omega)
      rw [HSz.out] at hln
      have HOk := (show Hid (∀ t ∈ l, OkT t) from hok)
      have HG1 : Hid (GE w1) := HGe.out.below HB1.out
      have hw1 := HG1.out.lt
      clear hok hsome hrow
      go_wp2_with fail
      have HB2 : Hid (Below w.heap.size w (w1.alloc (.cells #[.slice ao l.length cap, .int .i64 0, .int .i64 0, .bool false] PR (0, 0)))) := HB1.out.alloc (HB1.out.size) _
      have hb1s := HB1.out.size
      refine (p_whole l.length _ w1.heap.size (.slice ao l.length cap) l false (heap_alloc_new _ _) (HT.out.below ((Below.refl _ _).alloc (Nat.le_refl _) _)) (HG1.out.below ((Below.refl _ _).alloc (Nat.le_refl _) _)) hw1 (Nat.le_refl _) (by omega) HOk.out).mono ?_
      rintro e w2 ⟨hg2, hpost⟩
      have HB3 : Hid (Below w.heap.size w w2) := below_grown_at HB2.out hg2 hb1s (Nat.le_refl _)
      clear hg2
      rcases hpost with ⟨es, rfl, hno⟩ | ⟨p, v, rst', hp, hq, rfl, hrep, hrd⟩
      · have HC : Hid (Pl.check s.data.toList = 2) := check_pd HL.out HO.out hno
        clear hno
        unfold errV
        go_wp2_with fail
        go_ret2
        exact ⟨HB3.out, .inl ⟨2, _, HC.out, by omega, by omega, rfl⟩⟩
      · have HC := (show Hid (_ = _) from check_at HL.out HO.out hp hq)
        have HRp := (show Hid (RepP _ _ _ _ _) from hrep)
        have HP := (show Hid (_ = _) from hp)
        obtain ⟨T, x, rfl, _⟩ := hrep.iface
        obtain ⟨c0, c1, c2, c3⟩ := hrd.cells
        rw [show max 0 p.dp = p.dp by omega] at c2
        rw [Bool.false_or] at c3
        clear hrep hrd hp hq
        by_cases hd : 20 < p.dp
        · have hd2 : (20:Int) < (p.dp : Int) := by omega
          go_wp2_with (go_at_call 78; refine (p_While _ _ _).mono ?_; rintro e w' ⟨rfl, rfl⟩)
          go_ret2
          exact ⟨HB3.out, .inl ⟨3, _, HC.out.trans (if_pos hd), by omega, by omega, rfl⟩⟩
        · have hd2 : ¬ (20:Int) < (p.dp : Int) := by omega
          cases hgr : p.gr
          · rw [hgr] at c3
            have HGr := (show Hid (_ = _) from hgr)
            clear hgr
            go_wp2_with fail
            go_ret2
            refine ⟨HB3.out, .inr ⟨l, p, _, HO.out, by omega, HP.out, HGr.out, HC.out.trans ?_, rfl, RepP.mono (fun _ _ hk => Nat.le_trans HB2.out.size hk) _ _ _ HRp.out⟩⟩
            rw [if_neg hd, if_neg (by simp [HGr.out])]
          · rw [hgr] at c3
            have HGr := (show Hid (_ = _) from hgr)
            clear hgr
            go_wp2_with (go_at_call 78; refine (p_While _ _ _).mono ?_; rintro e w' ⟨rfl, rfl⟩)
            go_ret2
            exact ⟨HB3.out, .inl ⟨4, _, HC.out.trans (by rw [if_neg hd, if_pos HGr.out]), by omega, by omega, rfl⟩⟩
end Go.Proofs.YtkgbdddkcjpgfaaGreatDoor
