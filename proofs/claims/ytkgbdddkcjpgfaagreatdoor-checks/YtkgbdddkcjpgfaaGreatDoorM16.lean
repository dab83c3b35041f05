/- The program's datum, whole and datum.Read. -/
import Derived.Test.YtkgbdddkcjpgfaaGreatDoorM15
namespace Go.Proofs.YtkgbdddkcjpgfaaGreatDoor
open Go.RowKit

theorem pd_done {n : Nat} {w w' : World} {b dep dpst : Nat} {g : Bool} {l : List (List UInt8)} {p : Pl.PR} {v rest' : Value} {d : Int} {g' : Bool} (hpd : Pl.pd n l = some p) (hg : w.grownBy w' (some b)) (hrep : RepP (fun k => w.heap.size ≤ k) n w' v p.t) (hrd : PRd w' b rest' dep d g') (hd : d = ((max dpst (dep + p.dp) : Nat) : Int)) (hgr : g' = (g || p.gr)) (htk : TkSl w' rest' p.q) : PDPost n w b dep dpst g l (.returned (.tuple #[v, .nilIface])) w' := by
  refine ⟨hg, ?_⟩
  rw [hpd]
  exact ⟨v, rest', rfl, hrep, hrd.cast rfl hd hgr, htk⟩

set_option maxHeartbeats 1000000 in
set_option maxRecDepth 100000 in
theorem p_datum_nil (n : Nat) (w : World) (b : Nat) (rest : Value) (dep dpst : Nat) (g : Bool) (h : PRd w b rest dep dpst g) (ht : TkSl w rest []) :
    Calls Tryz.prog 148 #[.pointer (some ⟨b, 0, none⟩)] w fun e w' => PDPost n w b dep dpst g [] e w' := by
  obtain ⟨ao, cap, rfl, _⟩ := ht
  obtain ⟨c0, c1, c2, c3⟩ := h.cells
  have hpd : Hid (Pl.pd n [] = none) := by cases n <;> rfl
  simp only [List.length_nil] at c0
  clear h
  go_enter Tryz.func148, Tryz.ntmps148
  go_wp2_with (go_at_call 78; refine (p_While _ _ _).mono ?_; rintro e w' ⟨rfl, rfl⟩)
  go_ret2
  refine ⟨World.grownBy.refl _ _, ?_⟩
  rw [hpd.out]
  exact ⟨_, rfl⟩

theorem world_w1 {w : World} {b : Nat} {x : Value} {o : Obj} : w.grownBy ((w.setCell ⟨b, 0, none⟩ x).alloc o) (some b) := grown_trans (grown_set _ _ _ _) (World.grownBy_alloc _ _ _)
set_option maxHeartbeats 2000000 in
set_option maxRecDepth 100000 in
theorem p_datum_true (n : Nat) (w : World) (b : Nat) (rest : Value) (r : List (List UInt8)) (dep dpst : Nat) (g : Bool) (h : PRd w b rest dep dpst g) (ht : TkSl w rest ([35, 116] :: r)) (hdd : dep ≤ dpst) :
    Calls Tryz.prog 148 #[.pointer (some ⟨b, 0, none⟩)] w fun e w' => PDPost (n + 1) w b dep dpst g ([35, 116] :: r) e w' := by
  have hpd := (show Hid (_ = _) from Pl.pd_true n [35, 116] r rfl)
  obtain ⟨g0, off, cap, hrst, hcap, hg0, k0, k1, htl⟩ := ht.cons
  subst hrst
  have HTl := (show Hid (∀ (ao : Option Addr) (c : Nat), r.length ≤ c → (r.length ≠ 0 → ao = some ⟨g0, off + 2, none⟩) → TkSl w (.slice ao r.length c) r) from htl)
  have HH := (show Hid (PRd w b _ dep dpst g) from h)
  obtain ⟨c0, c1, c2, c3⟩ := h.cells
  have f0 := free_at h 0
  have hbw : b < w.heap.size := lt_of_some h
  have hz : ((r.length : Int) + 1 == 0) = false := by simp; omega
  clear htl h ht
  rw [show kindT [35, 116] = 3 from rfl] at k0
  go_enter Tryz.func148, Tryz.ntmps148
  go_wp2_with fail
  · go_ret2
    exact pd_done hpd.out (grown_trans (grown_set _ _ _ _) (World.grownBy_alloc _ _ _)) (RepP.up 1 _ _ _ (by omega) rfl) ((HH.out.set0 _).alloc _) (by dsimp only; omega) (by simp) (((HTl.out _ _ (by omega) (by intro hh; first | rfl | (exfalso; omega))).grown (grown_set _ _ _ _) HH.out).below ((Below.refl _ _).alloc (Nat.le_refl _) _))
  · go_ret2
    exact pd_done hpd.out (grown_trans (grown_set _ _ _ _) (World.grownBy_alloc _ _ _)) (RepP.up 1 _ _ _ (by omega) rfl) ((HH.out.set0 _).alloc _) (by dsimp only; omega) (by simp) (((HTl.out _ _ (by omega) (by intro hh; first | rfl | (exfalso; omega))).grown (grown_set _ _ _ _) HH.out).below ((Below.refl _ _).alloc (Nat.le_refl _) _))
set_option maxHeartbeats 2000000 in
set_option maxRecDepth 100000 in
theorem p_datum_false (n : Nat) (w : World) (b : Nat) (rest : Value) (r : List (List UInt8)) (dep dpst : Nat) (g : Bool) (h : PRd w b rest dep dpst g) (ht : TkSl w rest ([35, 102] :: r)) (hdd : dep ≤ dpst) :
    Calls Tryz.prog 148 #[.pointer (some ⟨b, 0, none⟩)] w fun e w' => PDPost (n + 1) w b dep dpst g ([35, 102] :: r) e w' := by
  have hpd := (show Hid (_ = _) from Pl.pd_false n [35, 102] r rfl)
  obtain ⟨g0, off, cap, hrst, hcap, hg0, k0, k1, htl⟩ := ht.cons
  subst hrst
  have HTl := (show Hid (∀ (ao : Option Addr) (c : Nat), r.length ≤ c → (r.length ≠ 0 → ao = some ⟨g0, off + 2, none⟩) → TkSl w (.slice ao r.length c) r) from htl)
  have HH := (show Hid (PRd w b _ dep dpst g) from h)
  obtain ⟨c0, c1, c2, c3⟩ := h.cells
  have f0 := free_at h 0
  have hbw : b < w.heap.size := lt_of_some h
  have hz : ((r.length : Int) + 1 == 0) = false := by simp; omega
  clear htl h ht
  rw [show kindT [35, 102] = 3 from rfl] at k0
  go_enter Tryz.func148, Tryz.ntmps148
  go_wp2_with fail
  · go_ret2
    exact pd_done hpd.out (grown_trans (grown_set _ _ _ _) (World.grownBy_alloc _ _ _)) (RepP.up 1 _ _ _ (by omega) rfl) ((HH.out.set0 _).alloc _) (by dsimp only; omega) (by simp) (((HTl.out _ _ (by omega) (by intro hh; first | rfl | (exfalso; omega))).grown (grown_set _ _ _ _) HH.out).below ((Below.refl _ _).alloc (Nat.le_refl _) _))
  · go_ret2
    exact pd_done hpd.out (grown_trans (grown_set _ _ _ _) (World.grownBy_alloc _ _ _)) (RepP.up 1 _ _ _ (by omega) rfl) ((HH.out.set0 _).alloc _) (by dsimp only; omega) (by simp) (((HTl.out _ _ (by omega) (by intro hh; first | rfl | (exfalso; omega))).grown (grown_set _ _ _ _) HH.out).below ((Below.refl _ _).alloc (Nat.le_refl _) _))

set_option maxHeartbeats 2000000 in
set_option maxRecDepth 100000 in
theorem p_datum_close (n : Nat) (w : World) (b : Nat) (rest : Value) (r : List (List UInt8)) (dep dpst : Nat) (g : Bool) (h : PRd w b rest dep dpst g) (ht : TkSl w rest ([41] :: r)) :
    Calls Tryz.prog 148 #[.pointer (some ⟨b, 0, none⟩)] w fun e w' => PDPost (n + 1) w b dep dpst g ([41] :: r) e w' := by
  have hpd := (show Hid (_ = _) from Pl.pd_close n [41] r rfl)
  obtain ⟨g0, off, cap, hrst, hcap, hg0, k0, k1, htl⟩ := ht.cons
  subst hrst
  have HTl := (show Hid (∀ (ao : Option Addr) (c : Nat), r.length ≤ c → (r.length ≠ 0 → ao = some ⟨g0, off + 2, none⟩) → TkSl w (.slice ao r.length c) r) from htl)
  have HH := (show Hid (PRd w b _ dep dpst g) from h)
  obtain ⟨c0, c1, c2, c3⟩ := h.cells
  have f0 := free_at h 0
  have hbw : b < w.heap.size := lt_of_some h
  have hz : ((r.length : Int) + 1 == 0) = false := by simp; omega
  clear htl h ht
  rw [show kindT [41] = 1 from rfl] at k0
  go_enter Tryz.func148, Tryz.ntmps148
  go_wp2_with (go_at_call 78; refine (p_While _ _ _).mono ?_; rintro e w' ⟨rfl, rfl⟩)
  · go_ret2
    refine ⟨world_w1, ?_⟩
    rw [hpd.out]
    exact ⟨_, rfl⟩
  · go_ret2
    refine ⟨world_w1, ?_⟩
    rw [hpd.out]
    exact ⟨_, rfl⟩

set_option maxHeartbeats 2000000 in
set_option maxRecDepth 100000 in
theorem p_datum_open (n : Nat) (ih : PDSaid n) (w : World) (b : Nat) (rest : Value) (r : List (List UInt8)) (dep dpst : Nat) (g : Bool) (h : PRd w b rest dep dpst g) (ht : TkSl w rest ([40] :: r)) (hge : GE w) (hb2 : 6 < b) (hn : ([40] :: r).length ≤ n + 1) (hr : ([40] :: r).length ≤ 1000) (hd : dep + ([40] :: r).length ≤ 2000) (hdd : dep ≤ dpst) (hok : ∀ t ∈ [40] :: r, OkT t) :
    Calls Tryz.prog 148 #[.pointer (some ⟨b, 0, none⟩)] w fun e w' => PDPost (n + 1) w b dep dpst g ([40] :: r) e w' := by
  have hpd := Pl.pd_open n [40] r rfl
  obtain ⟨g0, off, cap, hrst, hcap, hg0, k0, k1, htl⟩ := ht.cons
  subst hrst
  have HTl := (show Hid (∀ (ao : Option Addr) (c : Nat), r.length ≤ c → (r.length ≠ 0 → ao = some ⟨g0, off + 2, none⟩) → TkSl w (.slice ao r.length c) r) from htl)
  have HH := (show Hid (PRd w b _ dep dpst g) from h)
  obtain ⟨c0, c1, c2, c3⟩ := h.cells
  have f0 := free_at h 0
  have hbw : b < w.heap.size := lt_of_some h
  have hz : ((r.length : Int) + 1 == 0) = false := by simp; omega
  clear htl h ht
  have HGe := (show Hid (GE w) from hge)
  have HOk := (show Hid (∀ t ∈ [40] :: r, OkT t) from hok)
  clear hge hok
  rw [show kindT [40] = 0 from rfl] at k0
  go_enter Tryz.func148, Tryz.ntmps148
  go_wp2_with fail
  · refine (p_list n ih _ b _ r dep dpst g ((HH.out.set0 _).alloc _) ((((HTl.out _ _ (by omega) (by intro hh; first | rfl | (exfalso; omega))).grown (grown_set _ _ _ _) HH.out).below ((Below.refl _ _).alloc (Nat.le_refl _) _))) (HGe.out.grown world_w1 hb2) hb2 (by simp at hn; omega) (by simp at hr; omega) (by simp at hd; omega) hdd (fun t ht => HOk.out t (List.mem_cons_of_mem _ ht))).mono ?_
    rintro e w2 ⟨hg2, hpost⟩
    have HG2 : Hid (w.grownBy w2 (some b)) := grown_trans world_w1 hg2
    cases hp : Pl.pls (Pl.pd n) r.length r with
    | none =>
      rw [hp] at hpost hpd
      obtain ⟨s, rfl⟩ := hpost
      clear hg2 hp
      have hpd2 := (show Hid (_ = _) from hpd)
      clear hpd
      unfold errV
      go_wp2_with fail
      go_ret2
      refine ⟨HG2.out, ?_⟩
      rw [hpd2.out]
      exact ⟨s, rfl⟩
    | some p =>
      rw [hp] at hpost hpd
      obtain ⟨v, rst', rfl, hrep, hrd2, htk2⟩ := hpost
      have HRp := (show Hid (RepP _ _ _ _ _) from hrep)
      have HR2 := (show Hid (PRd _ _ _ _ _ _) from hrd2)
      have HT2 := (show Hid (TkSl _ _ _) from htk2)
      have hpd2 := (show Hid (_ = _) from hpd)
      clear hg2 hrep hrd2 htk2 hp hpd
      go_wp2_with fail
      go_ret2
      exact pd_done hpd2.out HG2.out (RepP.mono (fun k _ hk => by simp at hk; omega) _ _ _ HRp.out) HR2.out (by dsimp only; omega) rfl HT2.out
  · refine (p_list n ih _ b _ r dep dpst g ((HH.out.set0 _).alloc _) ((((HTl.out _ _ (by omega) (by intro hh; first | rfl | (exfalso; omega))).grown (grown_set _ _ _ _) HH.out).below ((Below.refl _ _).alloc (Nat.le_refl _) _))) (HGe.out.grown world_w1 hb2) hb2 (by simp at hn; omega) (by simp at hr; omega) (by simp at hd; omega) hdd (fun t ht => HOk.out t (List.mem_cons_of_mem _ ht))).mono ?_
    rintro e w2 ⟨hg2, hpost⟩
    have HG2 : Hid (w.grownBy w2 (some b)) := grown_trans world_w1 hg2
    cases hp : Pl.pls (Pl.pd n) r.length r with
    | none =>
      rw [hp] at hpost hpd
      obtain ⟨s, rfl⟩ := hpost
      clear hg2 hp
      have hpd2 := (show Hid (_ = _) from hpd)
      clear hpd
      unfold errV
      go_wp2_with fail
      go_ret2
      refine ⟨HG2.out, ?_⟩
      rw [hpd2.out]
      exact ⟨s, rfl⟩
    | some p =>
      rw [hp] at hpost hpd
      obtain ⟨v, rst', rfl, hrep, hrd2, htk2⟩ := hpost
      have HRp := (show Hid (RepP _ _ _ _ _) from hrep)
      have HR2 := (show Hid (PRd _ _ _ _ _ _) from hrd2)
      have HT2 := (show Hid (TkSl _ _ _) from htk2)
      have hpd2 := (show Hid (_ = _) from hpd)
      clear hg2 hrep hrd2 htk2 hp hpd
      go_wp2_with fail
      go_ret2
      exact pd_done hpd2.out HG2.out (RepP.mono (fun k _ hk => by simp at hk; omega) _ _ _ HRp.out) HR2.out (by dsimp only; omega) rfl HT2.out
set_option maxHeartbeats 2000000 in
set_option maxRecDepth 100000 in
theorem p_datum_quote (n : Nat) (ih : PDSaid n) (w : World) (b : Nat) (rest : Value) (r : List (List UInt8)) (dep dpst : Nat) (g : Bool) (h : PRd w b rest dep dpst g) (ht : TkSl w rest ([39] :: r)) (hge : GE w) (hb2 : 6 < b) (hn : ([39] :: r).length ≤ n + 1) (hr : ([39] :: r).length ≤ 1000) (hd : dep + ([39] :: r).length ≤ 2000) (hdd : dep ≤ dpst) (hok : ∀ t ∈ [39] :: r, OkT t) :
    Calls Tryz.prog 148 #[.pointer (some ⟨b, 0, none⟩)] w fun e w' => PDPost (n + 1) w b dep dpst g ([39] :: r) e w' := by
  have hpd := Pl.pd_quote n [39] r rfl
  obtain ⟨g0, off, cap, hrst, hcap, hg0, k0, k1, htl⟩ := ht.cons
  subst hrst
  have HTl := (show Hid (∀ (ao : Option Addr) (c : Nat), r.length ≤ c → (r.length ≠ 0 → ao = some ⟨g0, off + 2, none⟩) → TkSl w (.slice ao r.length c) r) from htl)
  have HH := (show Hid (PRd w b _ dep dpst g) from h)
  obtain ⟨c0, c1, c2, c3⟩ := h.cells
  have f0 := free_at h 0
  have hbw : b < w.heap.size := lt_of_some h
  have hz : ((r.length : Int) + 1 == 0) = false := by simp; omega
  clear htl h ht
  have HGe := (show Hid (GE w) from hge)
  have HOk := (show Hid (∀ t ∈ [39] :: r, OkT t) from hok)
  clear hge hok
  rw [show kindT [39] = 2 from rfl] at k0
  go_enter Tryz.func148, Tryz.ntmps148
  go_wp2_with fail
  · refine (p_quoted n ih _ b _ r dep dpst g ((HH.out.set0 _).alloc _) ((((HTl.out _ _ (by omega) (by intro hh; first | rfl | (exfalso; omega))).grown (grown_set _ _ _ _) HH.out).below ((Below.refl _ _).alloc (Nat.le_refl _) _))) (HGe.out.grown world_w1 hb2) hb2 (by simp at hn; omega) (by simp at hr; omega) (by simp at hd; omega) hdd (fun t ht => HOk.out t (List.mem_cons_of_mem _ ht))).mono ?_
    rintro e w2 ⟨hg2, hpost⟩
    have HG2 : Hid (w.grownBy w2 (some b)) := grown_trans world_w1 hg2
    cases hp : Pl.pd n r with
    | none =>
      rw [hp] at hpost hpd
      obtain ⟨s, rfl⟩ := hpost
      clear hg2 hp
      have hpd2 := (show Hid (_ = _) from hpd)
      clear hpd
      unfold errV
      go_wp2_with fail
      go_ret2
      refine ⟨HG2.out, ?_⟩
      rw [hpd2.out]
      exact ⟨s, rfl⟩
    | some p =>
      rw [hp] at hpost hpd
      obtain ⟨v, rst', rfl, hrep, hrd2, htk2⟩ := hpost
      have HRp := (show Hid (RepP _ _ _ _ _) from hrep)
      have HR2 := (show Hid (PRd _ _ _ _ _ _) from hrd2)
      have HT2 := (show Hid (TkSl _ _ _) from htk2)
      have hpd2 := (show Hid (_ = _) from hpd)
      clear hg2 hrep hrd2 htk2 hp hpd
      go_wp2_with fail
      go_ret2
      exact pd_done hpd2.out HG2.out (RepP.mono (fun k _ hk => by simp at hk; omega) _ _ _ HRp.out) HR2.out (by dsimp only; omega) rfl HT2.out
  · refine (p_quoted n ih _ b _ r dep dpst g ((HH.out.set0 _).alloc _) ((((HTl.out _ _ (by omega) (by intro hh; first | rfl | (exfalso; omega))).grown (grown_set _ _ _ _) HH.out).below ((Below.refl _ _).alloc (Nat.le_refl _) _))) (HGe.out.grown world_w1 hb2) hb2 (by simp at hn; omega) (by simp at hr; omega) (by simp at hd; omega) hdd (fun t ht => HOk.out t (List.mem_cons_of_mem _ ht))).mono ?_
    rintro e w2 ⟨hg2, hpost⟩
    have HG2 : Hid (w.grownBy w2 (some b)) := grown_trans world_w1 hg2
    cases hp : Pl.pd n r with
    | none =>
      rw [hp] at hpost hpd
      obtain ⟨s, rfl⟩ := hpost
      clear hg2 hp
      have hpd2 := (show Hid (_ = _) from hpd)
      clear hpd
      unfold errV
      go_wp2_with fail
      go_ret2
      refine ⟨HG2.out, ?_⟩
      rw [hpd2.out]
      exact ⟨s, rfl⟩
    | some p =>
      rw [hp] at hpost hpd
      obtain ⟨v, rst', rfl, hrep, hrd2, htk2⟩ := hpost
      have HRp := (show Hid (RepP _ _ _ _ _) from hrep)
      have HR2 := (show Hid (PRd _ _ _ _ _ _) from hrd2)
      have HT2 := (show Hid (TkSl _ _ _) from htk2)
      have hpd2 := (show Hid (_ = _) from hpd)
      clear hg2 hrep hrd2 htk2 hp hpd
      go_wp2_with fail
      go_ret2
      exact pd_done hpd2.out HG2.out (RepP.mono (fun k _ hk => by simp at hk; omega) _ _ _ HRp.out) HR2.out (by dsimp only; omega) rfl HT2.out
end Go.Proofs.YtkgbdddkcjpgfaaGreatDoor

/- The program's datum: words; every datum. -/
namespace Go.Proofs.YtkgbdddkcjpgfaaGreatDoor
open Go.RowKit

theorem kind_word2 {t : List UInt8} (h : ¬ kindT t < 4) : ¬ t = [41] ∧ ¬ t = [35, 116] ∧ ¬ t = [35, 102] ∧ ¬ t = [39] ∧ ¬ t = [40] ∧ kindT t = if Pl.isNum t then 4 else 5 := by
  unfold kindT at h ⊢
  by_cases h1 : t = [40]
  · exact absurd (by simp [h1]) h
  by_cases h2 : t = [41]
  · exact absurd (by simp [h2]) h
  by_cases h3 : t = [39]
  · exact absurd (by simp [h3]) h
  by_cases h4 : t = [35, 116]
  · exact absurd (by simp [h4]) h
  by_cases h5 : t = [35, 102]
  · exact absurd (by simp [h5]) h
  rw [if_neg h1, if_neg h2, if_neg h3, if_neg (by simp [h4, h5])]
  exact ⟨h2, h4, h5, h3, h1, rfl⟩
theorem kind_low {t : List UInt8} (h : kindT t < 4) : t = [41] ∨ t = [35, 116] ∨ t = [35, 102] ∨ t = [39] ∨ t = [40] := by
  unfold kindT at h
  by_cases h1 : t = [40]
  · exact .inr (.inr (.inr (.inr h1)))
  by_cases h2 : t = [41]
  · exact .inl h2
  by_cases h3 : t = [39]
  · exact .inr (.inr (.inr (.inl h3)))
  by_cases h4 : t = [35, 116]
  · exact .inr (.inl h4)
  by_cases h5 : t = [35, 102]
  · exact .inr (.inr (.inl h5))
  rw [if_neg h1, if_neg h2, if_neg h3, if_neg (by simp [h4, h5])] at h
  split at h <;> omega

set_option maxHeartbeats 2000000 in
set_option maxRecDepth 100000 in
theorem p_datum_name (n : Nat) (w : World) (b : Nat) (rest : Value) (t : List UInt8) (r : List (List UInt8)) (dep dpst : Nat) (g : Bool) (h : PRd w b rest dep dpst g) (ht : TkSl w rest (t :: r)) (hdd : dep ≤ dpst) (hk : kindT t = 5) (hp0 : Pl.pd (n + 1) (t :: r) = some ⟨.lit (.string t), r, 0, false⟩) :
    Calls Tryz.prog 148 #[.pointer (some ⟨b, 0, none⟩)] w fun e w' => PDPost (n + 1) w b dep dpst g (t :: r) e w' := by
  have hpd := (show Hid (_ = _) from hp0)
  clear hp0
  obtain ⟨g0, off, cap, hrst, hcap, hg0, k0, k1, htl⟩ := ht.cons
  subst hrst
  have HTl := (show Hid (∀ (ao : Option Addr) (c : Nat), r.length ≤ c → (r.length ≠ 0 → ao = some ⟨g0, off + 2, none⟩) → TkSl w (.slice ao r.length c) r) from htl)
  have HH := (show Hid (PRd w b _ dep dpst g) from h)
  obtain ⟨c0, c1, c2, c3⟩ := h.cells
  have f0 := free_at h 0
  have hbw : b < w.heap.size := lt_of_some h
  have hz : ((r.length : Int) + 1 == 0) = false := by simp; omega
  clear htl h ht
  rw [hk] at k0
  clear hk
  
  go_enter Tryz.func148, Tryz.ntmps148
  go_wp2_with fail
  · go_ret2
    exact pd_done hpd.out (grown_trans (grown_set _ _ _ _) (World.grownBy_alloc _ _ _)) (RepP.up 1 _ _ _ (by omega) rfl) ((HH.out.set0 _).alloc _) (by dsimp only; omega) (by simp) (((HTl.out _ _ (by omega) (by intro hh; first | rfl | (exfalso; omega))).grown (grown_set _ _ _ _) HH.out).below ((Below.refl _ _).alloc (Nat.le_refl _) _))
  · go_ret2
    exact pd_done hpd.out (grown_trans (grown_set _ _ _ _) (World.grownBy_alloc _ _ _)) (RepP.up 1 _ _ _ (by omega) rfl) ((HH.out.set0 _).alloc _) (by dsimp only; omega) (by simp) (((HTl.out _ _ (by omega) (by intro hh; first | rfl | (exfalso; omega))).grown (grown_set _ _ _ _) HH.out).below ((Below.refl _ _).alloc (Nat.le_refl _) _))

set_option maxHeartbeats 2000000 in
set_option maxRecDepth 100000 in
theorem p_datum_num (n : Nat) (w : World) (b : Nat) (rest : Value) (t : List UInt8) (r : List (List UInt8)) (dep dpst : Nat) (g : Bool) (h : PRd w b rest dep dpst g) (ht : TkSl w rest (t :: r)) (hge : GE w) (hb2 : 6 < b) (hdd : dep ≤ dpst) (hk : kindT t = 4) (hn : Pl.isNum t = true) (hl0 : 0 < t.length) (hl1 : t.length ≤ 1000) (hp0 : Pl.pd (n + 1) (t :: r) = some ⟨.lit (.int .i64 (Pl.sval t)), r, 0, Pl.great t⟩) :
    Calls Tryz.prog 148 #[.pointer (some ⟨b, 0, none⟩)] w fun e w' => PDPost (n + 1) w b dep dpst g (t :: r) e w' := by
  have hpd := (show Hid (_ = _) from hp0)
  have HN := (show Hid (_ = _) from hn)
  have HGe := (show Hid (GE w) from hge)
  clear hp0 hn hge
  obtain ⟨g0, off, cap, hrst, hcap, hg0, k0, k1, htl⟩ := ht.cons
  subst hrst
  have HTl := (show Hid (∀ (ao : Option Addr) (c : Nat), r.length ≤ c → (r.length ≠ 0 → ao = some ⟨g0, off + 2, none⟩) → TkSl w (.slice ao r.length c) r) from htl)
  have HH := (show Hid (PRd w b _ dep dpst g) from h)
  obtain ⟨c0, c1, c2, c3⟩ := h.cells
  have f0 := free_at h 0
  have hbw : b < w.heap.size := lt_of_some h
  have hz : ((r.length : Int) + 1 == 0) = false := by simp; omega
  clear htl h ht
  rw [hk] at k0
  clear hk
  
  go_enter Tryz.func148, Tryz.ntmps148
  go_wp2_with fail
  · refine (p_number _ b _ dep dpst g _ ((HH.out.set0 _).alloc _) (HGe.out.grown world_w1 hb2) (by simpa [ByteArray.size] using hl1) (by simpa [ByteArray.size] using hl0) (by simpa using HN.out)).mono ?_
    rintro e w2 ⟨k, rfl, hk2, hg2, hrd2⟩
    have HK := (show Hid (_ → _) from hk2)
    have HG := (show Hid (World.grownBy _ w2 (some b)) from hg2)
    have HR := (show Hid (PRd w2 b _ _ _ _) from hrd2)
    clear hk2 hg2 hrd2
    go_wp2_with fail
    go_ret2
    refine pd_done hpd.out (grown_trans world_w1 HG.out) ⟨_, rfl, HK.out⟩ HR.out (by dsimp only; omega) (by simp) ?_
    exact ((((HTl.out _ _ (by omega) (by intro hh; first | rfl | (exfalso; omega))).grown (grown_set _ _ _ _) HH.out).below ((Below.refl _ _).alloc (Nat.le_refl _) _))).grown HG.out ((HH.out.set0 _).alloc _)
  · refine (p_number _ b _ dep dpst g _ ((HH.out.set0 _).alloc _) (HGe.out.grown world_w1 hb2) (by simpa [ByteArray.size] using hl1) (by simpa [ByteArray.size] using hl0) (by simpa using HN.out)).mono ?_
    rintro e w2 ⟨k, rfl, hk2, hg2, hrd2⟩
    have HK := (show Hid (_ → _) from hk2)
    have HG := (show Hid (World.grownBy _ w2 (some b)) from hg2)
    have HR := (show Hid (PRd w2 b _ _ _ _) from hrd2)
    clear hk2 hg2 hrd2
    go_wp2_with fail
    go_ret2
    refine pd_done hpd.out (grown_trans world_w1 HG.out) ⟨_, rfl, HK.out⟩ HR.out (by dsimp only; omega) (by simp) ?_
    exact ((((HTl.out _ _ (by omega) (by intro hh; first | rfl | (exfalso; omega))).grown (grown_set _ _ _ _) HH.out).below ((Below.refl _ _).alloc (Nat.le_refl _) _))).grown HG.out ((HH.out.set0 _).alloc _)

theorem p_datum : ∀ n, PDSaid n
  | 0 => by
    intro w b rest l dep dpst g h ht hge hb2 hn hr hd hdd hok
    obtain rfl := List.eq_nil_of_length_eq_zero (Nat.le_zero.1 hn)
    exact p_datum_nil 0 w b rest dep dpst g h ht
  | n + 1 => by
    intro w b rest l dep dpst g h ht hge hb2 hn hr hd hdd hok
    have ih := p_datum n
    cases l with
    | nil => exact p_datum_nil _ w b rest dep dpst g h ht
    | cons t r =>
      by_cases hlow : kindT t < 4
      · rcases kind_low hlow with h1 | h1 | h1 | h1 | h1 <;> subst h1
        · exact p_datum_close n w b rest r dep dpst g h ht
        · exact p_datum_true n w b rest r dep dpst g h ht hdd
        · exact p_datum_false n w b rest r dep dpst g h ht hdd
        · exact p_datum_quote n ih w b rest r dep dpst g h ht hge hb2 hn hr hd hdd hok
        · exact p_datum_open n ih w b rest r dep dpst g h ht hge hb2 hn hr hd hdd hok
      · obtain ⟨h1, h2, h3, h4, h5, hk⟩ := kind_word2 hlow
        have hpd := Pl.pd_word n t r h1 h2 h3 h4 h5
        obtain ⟨hc, hl0, hl1⟩ := hok t (List.mem_cons_self ..)
        unfold Pl.pw at hpd
        by_cases hN : Pl.isNum t = true
        · rw [if_pos hN] at hk hpd
          exact p_datum_num n w b rest t r dep dpst g h ht hge hb2 hdd hk hN hl0 hl1 hpd
        · have hD : Pl.noDig t = true := by
            rcases hc with hc | hc | hc
            · exact absurd hc hlow
            · exact absurd hc hN
            · exact hc
          rw [if_neg hN] at hk hpd
          rw [if_pos hD] at hpd
          exact p_datum_name n w b rest t r dep dpst g h ht hdd hk hpd
end Go.Proofs.YtkgbdddkcjpgfaaGreatDoor
