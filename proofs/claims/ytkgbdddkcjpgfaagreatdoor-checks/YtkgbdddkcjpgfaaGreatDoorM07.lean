/- The reference's keyword and free. -/
import Derived.Test.YtkgbdddkcjpgfaaGreatDoorM06
import Derived.Test.YtkgbdddkcjpgfaaGreatDoorM02
import Derived.BigRegion
namespace Go.Proofs.YtkgbdddkcjpgfaaGreatDoor
open Go.RowKit

theorem kw_hit (k : Nat) (hk : k < 7) (t l : List UInt8) (hl : Pl.kws[k]'hk = l) (h : (l == t) = true) : true = Pl.kwB t := by
  have : l = t := by simpa using h
  subst this
  exact ((Pl.kwB_sound _).2 (hl ▸ List.getElem_mem _)).symm
theorem kw_next (k : Nat) (hk : k < 7) (t l : List UInt8) (hl : Pl.kws[k]'hk = l) (hn : t ∉ Pl.kws.take k) (h : (l == t) = false) : t ∉ Pl.kws.take (k + 1) :=
  Pl.take_step Pl.kws t k hk hn (by rw [hl]; simpa using h)
set_option maxHeartbeats 1000000 in
set_option maxRecDepth 100000 in
theorem ref_keyword (t : List UInt8) (w : World) :
    Calls Tryz.prog 162 #[.string ⟨t.toArray⟩] w fun e w' => e = .returned (.bool (Pl.kwB t)) ∧ Below w.heap.size w w' := by
  go_enter Tryz.func162, Tryz.ntmps162
  go_wp2_with fail
  go_loopw [4] (fun i wr => ∃ k : Nat, k ≤ 7 ∧ i = .int .i64 k ∧ wr = w.alloc (.cells #[.string ⟨#[113, 117, 111, 116, 101]⟩, .string ⟨#[105, 102]⟩, .string ⟨#[108, 97, 109, 98, 100, 97]⟩, .string ⟨#[115, 101, 116, 33]⟩, .string ⟨#[100, 101, 102, 105, 110, 101]⟩, .string ⟨#[98, 101, 103, 105, 110]⟩, .string ⟨#[108, 101, 116]⟩] 9) ∧ Hid (t ∉ Pl.kws.take k)) (fun i _ => 7 - (intOf i).toNat)
  case atStart => exact ⟨0, Nat.zero_le _, rfl, rfl, by simp [Hid]⟩
  case round =>
    obtain ⟨k, hk, rfl, rfl, HA⟩ := hrel
    rcases (show k = 0 ∨ k = 1 ∨ k = 2 ∨ k = 3 ∨ k = 4 ∨ k = 5 ∨ k = 6 ∨ k = 7 from by omega) with rfl | rfl | rfl | rfl | rfl | rfl | rfl | rfl
    · go_wp2_with fail
      · go_ret
        exact ⟨ret_bool (kw_hit 0 (by decide) t _ rfl (by assumption)), (Below.refl _ _).alloc (Nat.le_refl _) _⟩
      · exact ⟨⟨0 + 1, by omega, by go_num, trivial, kw_next 0 (by decide) t _ rfl HA.out (by assumption)⟩, by simp [intOf]⟩
    · go_wp2_with fail
      · go_ret
        exact ⟨ret_bool (kw_hit 1 (by decide) t _ rfl (by assumption)), (Below.refl _ _).alloc (Nat.le_refl _) _⟩
      · exact ⟨⟨1 + 1, by omega, by go_num, trivial, kw_next 1 (by decide) t _ rfl HA.out (by assumption)⟩, by simp [intOf]⟩
    · go_wp2_with fail
      · go_ret
        exact ⟨ret_bool (kw_hit 2 (by decide) t _ rfl (by assumption)), (Below.refl _ _).alloc (Nat.le_refl _) _⟩
      · exact ⟨⟨2 + 1, by omega, by go_num, trivial, kw_next 2 (by decide) t _ rfl HA.out (by assumption)⟩, by simp [intOf]⟩
    · go_wp2_with fail
      · go_ret
        exact ⟨ret_bool (kw_hit 3 (by decide) t _ rfl (by assumption)), (Below.refl _ _).alloc (Nat.le_refl _) _⟩
      · exact ⟨⟨3 + 1, by omega, by go_num, trivial, kw_next 3 (by decide) t _ rfl HA.out (by assumption)⟩, by simp [intOf]⟩
    · go_wp2_with fail
      · go_ret
        exact ⟨ret_bool (kw_hit 4 (by decide) t _ rfl (by assumption)), (Below.refl _ _).alloc (Nat.le_refl _) _⟩
      · exact ⟨⟨4 + 1, by omega, by go_num, trivial, kw_next 4 (by decide) t _ rfl HA.out (by assumption)⟩, by simp [intOf]⟩
    · go_wp2_with fail
      · go_ret
        exact ⟨ret_bool (kw_hit 5 (by decide) t _ rfl (by assumption)), (Below.refl _ _).alloc (Nat.le_refl _) _⟩
      · exact ⟨⟨5 + 1, by omega, by go_num, trivial, kw_next 5 (by decide) t _ rfl HA.out (by assumption)⟩, by simp [intOf]⟩
    · go_wp2_with fail
      · go_ret
        exact ⟨ret_bool (kw_hit 6 (by decide) t _ rfl (by assumption)), (Below.refl _ _).alloc (Nat.le_refl _) _⟩
      · exact ⟨⟨6 + 1, by omega, by go_num, trivial, kw_next 6 (by decide) t _ rfl HA.out (by assumption)⟩, by simp [intOf]⟩
    · go_wp2_with fail
      go_ret
      exact ⟨ret_bool (by have := HA.out; simp only [Pl.kwB]; symm; rw [decide_eq_false_iff_not]; exact this), (Below.refl _ _).alloc (Nat.le_refl _) _⟩

/- A datum's first cells. -/
def kindOf : Tr → Value
  | .lit (.int _ _) => kNum
  | .lit (.bool _) => kTru
  | .lit (.string _) => kNam
  | _ => kLst
theorem RepR.open_ {ok : Nat → Prop} {n : Nat} {w : World} {v : Value} {t : Tr} (h : RepR ok n w v t) :
    ∃ (b : Nat) (N : Int) (kids : Value), v = .pointer (some ⟨b, 0, none⟩) ∧ w.heap[b]? = some (.cells #[kindOf t, .int .i64 N, strV (Pl.strOf t), kids] TD (0, 0)) := by
  cases n with
  | zero => exact h.elim
  | succ n =>
    obtain ⟨b, hv, _, h⟩ := h
    match t, h with
    | .lit (.int _ m), ⟨k, h1, _⟩ => exact ⟨b, k, _, hv, h1⟩
    | .lit (.bool x), h => exact ⟨b, _, _, hv, h⟩
    | .lit (.string s), h => exact ⟨b, _, _, hv, h⟩
    | .agg ts, ⟨kids, vs, h1, _⟩ => exact ⟨b, _, kids, hv, h1⟩
theorem isName_kind (t : Tr) {ok : Nat → Prop} {n : Nat} {w : World} {v : Value} (h : RepR ok n w v t) : (kindOf t = kNam ∧ Pl.isName t = !Pl.kwB (Pl.strOf t)) ∨ ((kindOf t = kNum ∨ kindOf t = kTru ∨ kindOf t = kLst) ∧ Pl.isName t = false) := by
  cases n with
  | zero => exact h.elim
  | succ n =>
    obtain ⟨b, hv, _, h⟩ := h
    match t, h with
    | .lit (.int _ m), h => exact .inr ⟨.inl rfl, rfl⟩
    | .lit (.bool x), h => exact .inr ⟨.inr (.inl rfl), rfl⟩
    | .lit (.string s), h => exact .inl ⟨rfl, rfl⟩
    | .agg ts, h => exact .inr ⟨.inr (.inr rfl), rfl⟩

set_option maxHeartbeats 1000000 in
set_option maxRecDepth 100000 in
theorem ref_free (ok : Nat → Prop) (n : Nat) (w : World) (v : Value) (t : Tr) (h : RepR ok n w v t) :
    Calls Tryz.prog 161 #[v] w fun e w' => e = .returned (.bool (Pl.isName t)) ∧ Below w.heap.size w w' := by
  have hk := isName_kind t h
  obtain ⟨b, N, kids, rfl, hb⟩ := h.open_
  clear h
  have c2 : w.cell? ⟨b, 2, none⟩ = some (.string ⟨(Pl.strOf t).toArray⟩) := cells_at hb 2
  go_enter Tryz.func161, Tryz.ntmps161
  go_wp2_with fail
  refine (ref_keyword (Pl.strOf t) _).mono ?_
  rintro e w' ⟨rfl, hB⟩
  have hb' : w'.heap[b]? = some (.cells #[kindOf t, .int .i64 N, strV (Pl.strOf t), kids] TD (0, 0)) := (hB.block b (lt_of_some hb)).trans hb
  have HB := (show Hid (Below w.heap.size w w') from hB)
  have c0 : w'.cell? ⟨b, 0, none⟩ = some (kindOf t) := cells_at hb' 0
  clear hB hb' hb c2
  rcases hk with ⟨h1, h2⟩ | ⟨h1 | h1 | h1, h2⟩ <;> (rw [h1] at c0; have H2 := (show Hid (Pl.isName t = _) from h2))
  · unfold kNam at c0
    clear h1 h2
    go_wp2_with fail
    go_ret
    exact ⟨ret_bool (by rw [H2.out]), HB.out⟩
  · unfold kNum at c0
    clear h1 h2
    go_wp2_with fail
    go_ret
    exact ⟨ret_bool (by rw [H2.out]), HB.out⟩
  · unfold kTru at c0
    clear h1 h2
    go_wp2_with fail
    go_ret
    exact ⟨ret_bool (by rw [H2.out]), HB.out⟩
  · unfold kLst at c0
    clear h1 h2
    go_wp2_with fail
    go_ret
    exact ⟨ret_bool (by rw [H2.out]), HB.out⟩
end Go.Proofs.YtkgbdddkcjpgfaaGreatDoor

/- The reference's forms: all data of a list are forms, given that form is right one level below. -/
namespace Go.Proofs.YtkgbdddkcjpgfaaGreatDoor
open Go.RowKit

def TF : TypeId := 69
theorem Tryz.infoPF : (Tryz.prog.info? 69).map (fun i => (i.zero, i.size, i.bytes)) = some (some (.pointer none), 1, 8) := by kernel_rfl
def FormPost (w : World) (r : Bool) (e : Ending) (w' : World) : Prop :=
  Below w.heap.size w w' ∧ ((r = true ∧ ∃ b, e = .returned (.pointer (some ⟨b, 0, none⟩))) ∨ (r = false ∧ e = .returned (.pointer none)))
def FormSaid (n : Nat) : Prop := ∀ (ok : Nat → Prop) (w : World) (v : Value) (t : Tr), RepR ok n w v t → Calls Tryz.prog 122 #[v] w fun e w' => FormPost w (Pl.isForm n t) e w'
/- A slice of pointers. -/
def SlOf (w : World) (v : Value) (vs : List Value) : Prop :=
  ∃ ao cap, v = .slice ao vs.length cap ∧ vs.length ≤ cap ∧ ∀ (i : Nat) (u : Value), vs[i]? = some u → ∃ g off, ao = some ⟨g, off, none⟩ ∧ g < w.heap.size ∧ w.cell? ⟨g, off + i, none⟩ = some u
theorem slOf_own {w : World} {base : Nat} {e : TypeId} {v : Value} {n : Nat} {vs : List Value} (h : w.ownsRow base e 1 v n vs) : SlOf w v vs := by
  have hl := h.1
  rcases h.2 with ⟨hv, h0⟩ | ⟨g, cap, cur, hv, _, hg, hc, _, _, ht⟩
  · subst h0
    have : vs = [] := List.eq_nil_of_length_eq_zero (by omega)
    subst this
    exact ⟨none, 0, hv, Nat.le_refl _, fun i u hu => by simp at hu⟩
  · have e : vs.length = n := by omega
    refine ⟨some ⟨g, 0, none⟩, cap, by rw [e]; exact hv, by omega, fun i u hu => ⟨g, 0, rfl, lt_of_some hg, ?_⟩⟩
    have := h.cells (g := g) (by rw [hv]; rfl) i u hu
    rwa [Addr.add_lit] at this
def AllR (n : Nat) (w : World) (vs : List Value) (ts : List Tr) : Prop := vs.length = ts.length ∧ ∃ ok, ∀ (i : Nat) (u : Value) (x : Tr), vs[i]? = some u → ts[i]? = some x → RepR ok n w u x
def FormsPost (w : World) (r : Bool) (len : Nat) (e : Ending) (w' : World) : Prop :=
  Below w.heap.size w w' ∧ ((r = true ∧ ∃ v fs, e = .returned (.tuple #[v, .bool true]) ∧ w'.ownsRow w.heap.size TF 1 v len fs ∧ (len = 0 → v = .slice none 0 0) ∧ ∀ u ∈ fs, u.oneCell' = true) ∨ (r = false ∧ ∃ v, e = .returned (.tuple #[v, .bool false])))
def FormsSaid (n : Nat) : Prop := ∀ (w : World) (v : Value) (vs : List Value) (ts : List Tr), SlOf w v vs → AllR n w vs ts → ts.length ≤ 1000 → Calls Tryz.prog 163 #[v] w fun e w' => FormsPost w (ts.all (Pl.isForm n)) ts.length e w'

theorem all_take_succ {f : Tr → Bool} {ts : List Tr} {k : Nat} {x : Tr} (h : (ts.take k).all f = true) (hx : ts[k]? = some x) (hf : f x = true) : (ts.take (k + 1)).all f = true := by
  rw [List.take_add_one, hx, List.all_append, h]
  simp [hf]
theorem all_fail {f : Tr → Bool} {ts : List Tr} {k : Nat} {x : Tr} (hx : ts[k]? = some x) (hf : f x = false) : ts.all f = false := by
  rw [List.all_eq_false]
  exact ⟨x, List.mem_of_getElem? hx, by simp [hf]⟩
theorem bcell {W w1 : World} (hb : Below W.heap.size W w1) : (∀ b o, b < W.heap.size → w1.cell? ⟨b, o, none⟩ = W.cell? ⟨b, o, none⟩) ∧ (∀ b o, b < W.heap.size → w1.frozen? ⟨b, o, none⟩ = W.frozen? ⟨b, o, none⟩) :=
  ⟨fun b o h => hb.cell (p := ⟨b, o, none⟩) h, fun b o h => hb.frozen (p := ⟨b, o, none⟩) h⟩

set_option maxHeartbeats 1000000 in
set_option maxRecDepth 100000 in
theorem ref_forms (n : Nat) (hF : FormSaid n) : FormsSaid n := by
  intro w v vs ts hS hA hlen
  obtain ⟨i0, hi0, hz0, hz1, hz2⟩ := info_parts Tryz.infoPF
  obtain ⟨ao, cap, rfl, hcap, hcell⟩ := hS
  obtain ⟨hvl, ok, hrep⟩ := hA
  rw [hvl] at hcap ⊢
  have HV := (show Hid (vs.length = ts.length) from hvl)
  clear hvl
  have HC := (show Hid _ from hcell)
  have HRp := (show Hid _ from hrep)
  have HFm := (show Hid _ from hF)
  clear hcell hrep hF
  go_enter Tryz.func163, Tryz.ntmps163
  go_wp2_with fail
  go_loopw [4, 5] (fun sv i wr => ∃ (k : Nat) (fs : List Value), k ≤ ts.length ∧ i = .int .i64 k ∧ Hid (wr.ownsRow w.heap.size TF 1 sv k fs) ∧ Hid (Below w.heap.size w wr) ∧ Hid ((ts.take k).all (Pl.isForm n) = true) ∧ Hid (k = 0 → sv = .slice none 0 0) ∧ Hid (∀ u ∈ fs, u.oneCell' = true)) (fun _ i _ => ts.length - (intOf i).toNat)
  case atStart => exact ⟨0, [], Nat.zero_le _, rfl, World.ownsRow_nil _ _ _ _, Below.refl _ _, by simp [Hid], fun _ => rfl, fun u hu => by simp at hu⟩
  case round =>
    obtain ⟨k, fs, hk, rfl, HO, HB, HT, HZ, HU⟩ := hrel
    by_cases hlt : k < ts.length
    · obtain ⟨u, hu⟩ : ∃ u, vs[k]? = some u := ⟨vs[k]'(by have := HV.out; omega), List.getElem?_eq_getElem (by have := HV.out; omega)⟩
      obtain ⟨x, hx⟩ : ∃ x, ts[k]? = some x := ⟨ts[k], List.getElem?_eq_getElem hlt⟩
      obtain ⟨g, off, rfl, hg, hc⟩ := HC.out k u hu
      have hc' : wr.cell? ⟨g, off + k, none⟩ = some u := (HB.out.cell (p := ⟨g, off + k, none⟩) hg).trans hc
      have hr : RepR ok n wr u x := RepR.keep (KeepD.of_below HB.out) _ _ _ (HRp.out k u x hu hx)
      have hlt2 : (k : Int) < (ts.length : Int) := by omega
      clear hc hu
      have HX := (show Hid _ from hx)
      clear hx
      obtain ⟨bu, rfl⟩ := hr.ptr
      have HR := (show Hid _ from hr)
      clear hr
      go_wp2_with fail
      refine (HFm.out ok _ _ x HR.out).mono ?_
      rintro e w2 ⟨hB2, ⟨hr, bf, rfl⟩ | ⟨hr, rfl⟩⟩
      · have HB2 : Hid (Below w.heap.size w w2) := HB.out.trans (hB2.mono HB.out.size)
        have HO2 : Hid (w2.ownsRow w.heap.size TF 1 u4 k fs) := HO.out.kept (grown_of_below none hB2) (by cases hv : Value.ownBlock u4 <;> simp)
        have HT2 : Hid ((ts.take (k + 1)).all (Pl.isForm n) = true) := all_take_succ HT.out HX.out hr
        have hs2 : w.heap.size ≤ w2.heap.size := HB2.out.size
        clear hB2 hr HO HT hc'
        go_wp2_with (first | (at_builtin; refine wpList_append_lies _ rfl _ _ 180 rfl w.heap.size 69 i0 (.pointer none) 1 8 Tryz.underlying180 hi0 hz0 hz1 hz2 rfl (by decide) u4 k fs rfl (HO2.out.alloc _) ⟨w2.heap.size, 0, none⟩ 1 1 [.pointer (some ⟨bf, 0, none⟩)] rfl rfl (cell_one_new _ _ _) (fun x hx => by simp at hx; subst hx; rfl) (by decide) (by unfold maxLen; omega) (by omega) (by simp; omega) (w2.heap.size + 1) (by simp) ?_; intro g' cap' w3 hown' hgrow3 hat3 _))
        go_roundw
        case rel =>
          refine ⟨k + 1, _, by omega, by go_num, hown', ?_, HT2, fun h => by omega, ?_⟩
          · exact (HB2.out.alloc hs2 _).grown hgrow3 (by simp; omega) (fun j hj => (HO2.out.lt j hj).1)
          · intro u hu
            rcases List.mem_append.1 hu with h1 | h1
            · exact HU.out u h1
            · simp at h1; subst h1; rfl
        case measure => simp [intOf]; omega
      · have HE : Hid (ts.all (Pl.isForm n) = false) := all_fail HX.out hr
        have HB2 : Hid (Below w.heap.size w w2) := HB.out.trans (hB2.mono HB.out.size)
        clear hB2 hr HO HT hc'
        go_wp2_with fail
        go_ret2
        exact ⟨HB2.out, .inr ⟨HE.out, _, rfl⟩⟩
    · have hk2 : k = ts.length := by omega
      have HE : Hid (ts.all (Pl.isForm n) = true) := by have := HT.out; rw [hk2, List.take_length] at this; exact this
      have HO2 : Hid (wr.ownsRow w.heap.size TF 1 u4 ts.length fs) := by have := HO.out; rw [hk2] at this; exact this
      have HZ2 : Hid (ts.length = 0 → u4 = .slice none 0 0) := by have := HZ.out; rw [hk2] at this; exact this
      clear hk2
      go_wp2_with fail
      go_ret2
      exact ⟨HB.out, .inl ⟨HE.out, _, _, rfl, HO2.out, HZ2.out, HU.out⟩⟩
end Go.Proofs.YtkgbdddkcjpgfaaGreatDoor

/- The reference's assigned: a set! or a define. -/
namespace Go.Proofs.YtkgbdddkcjpgfaaGreatDoor
open Go.RowKit

theorem RepR.list {ok : Nat → Prop} {n : Nat} {w : World} {v : Value} {ts : List Tr} (h : RepR ok (n + 1) w v (.agg ts)) :
    ∃ b kids vs, v = .pointer (some ⟨b, 0, none⟩) ∧ b < w.heap.size ∧ w.cell? ⟨b, 0, none⟩ = some kLst ∧ w.cell? ⟨b, 3, none⟩ = some kids ∧ SlOf w kids vs ∧ vs.length = ts.length ∧ ∀ (i : Nat) (u : Value) (x : Tr), vs[i]? = some u → ts[i]? = some x → RepR ok n w u x := by
  obtain ⟨b, hv, _, kids, vs, h1, _, h3, h4, _⟩ := h
  refine ⟨b, kids, vs, hv, lt_of_some h1, cells_at h1 0, cells_at h1 3, slOf_own h3, by have := h3.1; omega, h4⟩
theorem RepR.short {ok : Nat → Prop} {n : Nat} {w : World} {v : Value} {ts : List Tr} (h : RepR ok n w v (.agg ts)) : ts.length ≤ 1000 := by
  cases n with
  | zero => exact h.elim
  | succ n => obtain ⟨_, _, _, _, _, _, _, _, _, h5⟩ := h; exact h5
/- A slice's first cells. -/
theorem SlOf.cell0 {w : World} {v : Value} {u : Value} {us : List Value} (h : SlOf w v (u :: us)) : ∃ g off cap, v = .slice (some ⟨g, off, none⟩) (us.length + 1) cap ∧ us.length + 1 ≤ cap ∧ g < w.heap.size ∧ w.cell? ⟨g, off, none⟩ = some u ∧ ∀ (i : Nat) (x : Value), us[i]? = some x → w.cell? ⟨g, off + (i + 1), none⟩ = some x := by
  obtain ⟨ao, cap, rfl, hcap, hc⟩ := h
  obtain ⟨g, off, rfl, hg, h0⟩ := hc 0 u rfl
  refine ⟨g, off, cap, rfl, by simpa using hcap, hg, by simpa using h0, fun i x hx => ?_⟩
  obtain ⟨g2, off2, e, _, h1⟩ := hc (i + 1) x (by simpa using hx)
  simp only [Option.some.injEq, Addr.mk.injEq, and_true] at e
  obtain ⟨rfl, rfl⟩ := e
  exact h1
theorem RepR.cellS {ok : Nat → Prop} {n : Nat} {w : World} {v : Value} {t : Tr} (h : RepR ok n w v t) : ∃ b, v = .pointer (some ⟨b, 0, none⟩) ∧ b < w.heap.size ∧ w.cell? ⟨b, 0, none⟩ = some (kindOf t) ∧ w.cell? ⟨b, 2, none⟩ = some (.string ⟨(Pl.strOf t).toArray⟩) := by
  obtain ⟨b, N, kids, hv, hb⟩ := h.open_
  exact ⟨b, hv, lt_of_some hb, cells_at hb 0, cells_at hb 2⟩
theorem RepR.later {ok : Nat → Prop} {n : Nat} {w w' : World} {v : Value} {t : Tr} (h : RepR ok n w v t) (hb : Below w.heap.size w w') : RepR ok n w' v t := RepR.keep (KeepD.of_below hb) _ _ _ h

theorem bcellA {W w1 : World} (hb : Below W.heap.size W w1) : ∀ (ob : Obj) b o, b < W.heap.size → (w1.alloc ob).cell? ⟨b, o, none⟩ = W.cell? ⟨b, o, none⟩ :=
  fun ob b o h => (hb.alloc hb.size ob).cell (p := ⟨b, o, none⟩) h
theorem below_drew {a b : World} {B : Nat} (h : Below B a b) : Below B a b.drew := h.drew

set_option maxHeartbeats 1000000 in
set_option maxRecDepth 100000 in
theorem ref_assigned (n : Nat) (hF : FormSaid n) (ok : Nat → Prop) (w : World) (v : Value) (k : Tr) (r : List Tr) (h : RepR ok (n + 1) w v (.agg (k :: r))) :
    Calls Tryz.prog 121 #[v] w fun e w' => FormPost w (Pl.asgOk (Pl.isForm n) r) e w' := by
  have HF := (show Hid _ from hF)
  clear hF
  obtain ⟨b, kids, vs, rfl, hb, c0, c3, hS, hl, hA⟩ := h.list
  clear h
  by_cases h3 : r.length = 2
  · obtain ⟨t1, t2, rfl⟩ : ∃ t1 t2, r = [t1, t2] := by
      match r, h3 with
      | [a, b], _ => exact ⟨a, b, rfl⟩
    obtain ⟨u0, u1, u2, rfl⟩ : ∃ u0 u1 u2, vs = [u0, u1, u2] := by
      match vs, hl with
      | [a, b, c], _ => exact ⟨a, b, c, rfl⟩
    obtain ⟨g, off, cap, rfl, hcap, hg, k0, ks⟩ := hS.cell0
    have k1 := ks 0 u1 rfl
    have k2 := ks 1 u2 rfl
    simp only [Nat.zero_add] at k1 k2
    have r0 := hA 0 u0 k rfl rfl
    have r1 := hA 1 u1 t1 rfl rfl
    have r2 := hA 2 u2 t2 rfl rfl
    obtain ⟨b0, rfl, hb0, _, s0⟩ := r0.cellS
    obtain ⟨b1, rfl, hb1, _, s1⟩ := r1.cellS
    obtain ⟨b2, rfl⟩ := r2.ptr
    have R1 := (show Hid _ from r1)
    have R2 := (show Hid _ from r2)
    clear hA ks hS hl r0 r1 r2 h3
    simp only [List.length_cons, List.length_nil, Nat.zero_add] at c3 hcap
    have hn3 : ((3 : Int) != 3) = false := by decide
    go_enter Tryz.func121, Tryz.ntmps121
    go_wp2_with fail
    refine (ref_free ok n _ _ t1 R1.out).mono ?_
    rintro e w1 ⟨rfl, hB1⟩
    obtain ⟨q1, _⟩ := bcell hB1
    have HB1 := (show Hid (Below w.heap.size w w1) from hB1)
    clear hB1
    go_wp2_with fail
    refine (HF.out ok _ _ t2 (R2.out.later HB1.out)).mono ?_
    rintro e w2 ⟨hB2, hcase⟩
    have HB2 : Hid (Below w.heap.size w w2) := HB1.out.trans (hB2.mono HB1.out.size)
    obtain ⟨q2, _⟩ := bcell HB2.out
    clear q1 hB2
    rcases hcase with ⟨hf, bf, rfl⟩ | ⟨hf, rfl⟩
    · by_cases hn : Pl.isName t1 = true
      · have HE : Hid (Pl.asgOk (Pl.isForm n) [t1, t2] = true) := by simp [Hid, Pl.asgOk, hn, hf]
        have q3 := bcellA HB2.out
        have hsz := HB2.out.size
        clear hf
        go_wp2_with fail
        go_region
        go_wp2_with fail
        go_ret
        exact ⟨((HB2.out.alloc hsz _).alloc (by simp; omega) _).drew, .inl ⟨HE.out, _, rfl⟩⟩
      · have hn0 : Pl.isName t1 = false := by simpa using hn
        have HE : Hid (Pl.asgOk (Pl.isForm n) [t1, t2] = false) := by simp [Hid, Pl.asgOk, hn0]
        clear hf hn
        go_wp2_with fail
        go_ret
        exact ⟨HB2.out, .inr ⟨HE.out, rfl⟩⟩
    · have HE : Hid (Pl.asgOk (Pl.isForm n) [t1, t2] = false) := by simp [Hid, Pl.asgOk, hf]
      clear hf
      go_wp2_with fail
      all_goals
        go_ret
        exact ⟨HB2.out, .inr ⟨HE.out, rfl⟩⟩
  · have HE : Hid (Pl.asgOk (Pl.isForm n) r = false) := by
      show Pl.asgOk _ _ = false
      unfold Pl.asgOk
      split
      · simp at h3
      · rfl
    obtain ⟨ao, cap, rfl, _⟩ := hS
    rw [hl] at c3
    have hne : (((k :: r).length : Int) != 3) = true := by simp; omega
    simp only [List.length_cons] at c3 hne
    clear hl hA
    go_enter Tryz.func121, Tryz.ntmps121
    go_wp2_with fail
    go_ret
    exact ⟨Below.refl _ _, .inr ⟨HE.out, rfl⟩⟩
end Go.Proofs.YtkgbdddkcjpgfaaGreatDoor
