/- The reference's form and top: which data are forms. -/
import Derived.Test.YtkgbdddkcjpgfaaGreatDoorM23
namespace Go.Proofs.YtkgbdddkcjpgfaaGreatDoor
open Go.RowKit

/- A slice behind its first element. -/
theorem SlOf.tail {w : World} {g off cap L : Nat} {u : Value} {us : List Value} (h : SlOf w (.slice (some ⟨g, off, none⟩) L cap) (u :: us)) (m : Nat) (hm : us.length = m) (ao : Option Addr) (c : Nat) (hc : m ≤ c) (ha : m ≠ 0 → ao = some ⟨g, off + 1, none⟩) : SlOf w (.slice ao m c) us := by
  obtain ⟨g', off', cap', e, _, hg, _, hs⟩ := h.cell0
  simp only [Value.slice.injEq, Option.some.injEq, Addr.mk.injEq, and_true] at e
  obtain ⟨⟨rfl, rfl⟩, _, rfl⟩ := e
  subst hm
  refine ⟨ao, c, rfl, hc, fun i x hx => ⟨g, off + 1, ha (by rintro h0; have := List.eq_nil_of_length_eq_zero h0; subst this; simp at hx), hg, ?_⟩⟩
  have := hs i x hx
  rwa [show off + 1 + i = off + (i + 1) from by omega]
theorem RepR.kinds {ok : Nat → Prop} {n : Nat} {w : World} {v : Value} {t : Tr} (h : RepR ok n w v t) : (∃ k m, t = .lit (.int k m)) ∨ (∃ x, t = .lit (.bool x)) ∨ (∃ s, t = .lit (.string s)) ∨ ∃ ts, t = .agg ts := by
  cases n with
  | zero => exact h.elim
  | succ n =>
    obtain ⟨_, _, _, hh⟩ := h
    match t, hh with
    | .lit (.int k m), _ => exact .inl ⟨k, m, rfl⟩
    | .lit (.bool x), _ => exact .inr (.inl ⟨x, rfl⟩)
    | .lit (.string s), _ => exact .inr (.inr (.inl ⟨s, rfl⟩))
    | .agg ts, _ => exact .inr (.inr (.inr ⟨ts, rfl⟩))
set_option maxHeartbeats 2000000 in
set_option maxRecDepth 100000 in
theorem ref_form_atom (n : Nat) (ok : Nat → Prop) (w : World) (v : Value) (t : Tr) (h : RepR ok (n + 1) w v t) (hls : ¬ ∃ ts, t = .agg ts) :
    Calls Tryz.prog 122 #[v] w fun e w' => FormPost w (Pl.isForm (n + 1) t) e w' := by
  have HR := (show Hid (RepR ok (n + 1) w v t) from h)
  obtain ⟨b, rfl, hb, ck, cs⟩ := h.cellS
  rcases h.kinds with ⟨k, m, rfl⟩ | ⟨x, rfl⟩ | ⟨s, rfl⟩ | hts
  · have ck2 : w.cell? ⟨b, 0, none⟩ = some (.string ⟨#[110, 117, 109, 98, 101, 114]⟩) := ck
    clear ck cs h hls
    go_enter Tryz.func122, Tryz.ntmps122
    go_wp2_with fail
    refine (ref_free ok (n + 1) _ _ _ HR.out).mono ?_
    rintro e w1 ⟨rfl, hB1⟩
    obtain ⟨q1, _⟩ := bcell hB1
    have HB1 := (show Hid (Below w.heap.size w w1) from hB1)
    have hsz := hB1.size
    clear hB1
    go_wp2_with fail
    go_ret
    exact ⟨HB1.out.alloc hsz _, .inl ⟨rfl, _, rfl⟩⟩
  · have ck2 : w.cell? ⟨b, 0, none⟩ = some (.string ⟨#[116, 114, 117, 116, 104]⟩) := ck
    clear ck cs h hls
    go_enter Tryz.func122, Tryz.ntmps122
    go_wp2_with fail
    refine (ref_free ok (n + 1) _ _ _ HR.out).mono ?_
    rintro e w1 ⟨rfl, hB1⟩
    obtain ⟨q1, _⟩ := bcell hB1
    have HB1 := (show Hid (Below w.heap.size w w1) from hB1)
    have hsz := hB1.size
    clear hB1
    go_wp2_with fail
    go_ret
    exact ⟨HB1.out.alloc hsz _, .inl ⟨rfl, _, rfl⟩⟩
  · have ck2 : w.cell? ⟨b, 0, none⟩ = some (.string ⟨#[110, 97, 109, 101]⟩) := ck
    have cs2 : w.cell? ⟨b, 2, none⟩ = some (.string ⟨s.toArray⟩) := cs
    clear ck cs h hls
    by_cases hk : Pl.kwB s = true
    · have e1 : Pl.isName (.lit (.string s)) = false := by simp [Pl.isName, hk]
      have HE : Hid (Pl.isForm (n + 1) (.lit (.string s)) = false) := by simp [Hid, Pl.isForm, hk]
      clear hk
      go_enter Tryz.func122, Tryz.ntmps122
      go_wp2_with fail
      refine (ref_free ok (n + 1) _ _ _ HR.out).mono ?_
      rintro e w1 ⟨rfl, hB1⟩
      obtain ⟨q1, _⟩ := bcell hB1
      have HB1 := (show Hid (Below w.heap.size w w1) from hB1)
      have hsz := hB1.size
      clear hB1
      go_wp2_with fail
      go_ret
      exact ⟨HB1.out, .inr ⟨HE.out, rfl⟩⟩
    · have e1 : Pl.isName (.lit (.string s)) = true := by simp [Pl.isName, hk]
      have HE : Hid (Pl.isForm (n + 1) (.lit (.string s)) = true) := by simp [Hid, Pl.isForm, hk]
      clear hk
      go_enter Tryz.func122, Tryz.ntmps122
      go_wp2_with fail
      refine (ref_free ok (n + 1) _ _ _ HR.out).mono ?_
      rintro e w1 ⟨rfl, hB1⟩
      obtain ⟨q1, _⟩ := bcell hB1
      have HB1 := (show Hid (Below w.heap.size w w1) from hB1)
      have hsz := hB1.size
      clear hB1
      go_wp2_with fail
      go_ret
      exact ⟨HB1.out.alloc hsz _, .inl ⟨HE.out, _, rfl⟩⟩
  · exact absurd hts hls

set_option maxHeartbeats 2000000 in
set_option maxRecDepth 100000 in
theorem ref_form_nil (n : Nat) (ok : Nat → Prop) (w : World) (v : Value) (h : RepR ok (n + 1) w v (.agg [])) :
    Calls Tryz.prog 122 #[v] w fun e w' => FormPost w (Pl.isForm (n + 1) (.agg [])) e w' := by
  have HR := (show Hid (RepR ok (n + 1) w v (.agg [])) from h)
  obtain ⟨b, kids, vs, rfl, hb, ck, c3, hS, hl, _⟩ := h.list
  have ck2 : w.cell? ⟨b, 0, none⟩ = some (.string ⟨#[108, 105, 115, 116]⟩) := ck
  obtain ⟨ao, cap, rfl, _⟩ := hS
  rw [hl] at c3
  simp only [List.length_nil] at c3
  clear ck hl h
  go_enter Tryz.func122, Tryz.ntmps122
  go_wp2_with fail
  refine (ref_free ok (n + 1) _ _ _ HR.out).mono ?_
  rintro e w1 ⟨rfl, hB1⟩
  obtain ⟨q1, _⟩ := bcell hB1
  have HB1 := (show Hid (Below w.heap.size w w1) from hB1)
  have hsz := hB1.size
  clear hB1
  go_wp2_with fail
  go_ret
  exact ⟨HB1.out, .inr ⟨rfl, rfl⟩⟩

/- A list's head, opened. -/
theorem RepR.cons {ok : Nat → Prop} {n : Nat} {w : World} {v : Value} {k : Tr} {r : List Tr} (h : RepR ok (n + 1) w v (.agg (k :: r))) :
    ∃ b g off cap u0 us, v = .pointer (some ⟨b, 0, none⟩) ∧ b < w.heap.size ∧ w.cell? ⟨b, 0, none⟩ = some (.string ⟨#[108, 105, 115, 116]⟩) ∧ w.cell? ⟨b, 3, none⟩ = some (.slice (some ⟨g, off, none⟩) (r.length + 1) cap) ∧ r.length + 1 ≤ cap ∧ g < w.heap.size ∧ w.cell? ⟨g, off, none⟩ = some u0 ∧
      SlOf w (.slice (some ⟨g, off, none⟩) (r.length + 1) cap) (u0 :: us) ∧ us.length = r.length ∧ RepR ok n w u0 k ∧ AllR n w (u0 :: us) (k :: r) ∧ AllR n w us r := by
  obtain ⟨b, kids, vs, rfl, hb, ck, c3, hS, hl, hA⟩ := h.list
  match vs, hl with
  | u0 :: us, hl =>
    obtain ⟨g, off, cap, rfl, hcap, hg, k0, _⟩ := hS.cell0
    have hlr : us.length = r.length := by simpa using hl
    rw [hlr] at hS c3 hcap
    exact ⟨b, g, off, cap, u0, us, rfl, hb, ck, c3, hcap, hg, k0, hS, hlr, hA 0 u0 k rfl rfl, ⟨hl, ok, hA⟩, ⟨hlr, ok, fun i u x hu hx => hA (i + 1) u x (by simpa using hu) (by simpa using hx)⟩⟩

/- A later world keeps slices and data. -/
theorem SlOf.later {w w' : World} {v : Value} {vs : List Value} (h : SlOf w v vs) (hb : Below w.heap.size w w') : SlOf w' v vs := by
  obtain ⟨ao, cap, e, hc, hx⟩ := h
  refine ⟨ao, cap, e, hc, fun i u hu => ?_⟩
  obtain ⟨g, off, ea, hg, hcell⟩ := hx i u hu
  exact ⟨g, off, ea, Nat.lt_of_lt_of_le hg hb.size, (hb.cell (p := ⟨g, off + i, none⟩) hg).trans hcell⟩
theorem AllR.later {n : Nat} {w w' : World} {vs : List Value} {ts : List Tr} (h : AllR n w vs ts) (hb : Below w.heap.size w w') : AllR n w' vs ts := by
  obtain ⟨hl, ok, hx⟩ := h
  exact ⟨hl, ok, fun i u x hu hx' => (hx i u x hu hx').later hb⟩
/- A list that begins with no keyword: a call. -/
set_option maxHeartbeats 2000000 in
set_option maxRecDepth 100000 in
theorem ref_form_call (n : Nat) (hF : FormSaid n) (ok : Nat → Prop) (w : World) (v : Value) (k : Tr) (r : List Tr) (h : RepR ok (n + 1) w v (.agg (k :: r))) (hk : Pl.headKw (k :: r) = none) :
    Calls Tryz.prog 122 #[v] w fun e w' => FormPost w (Pl.isForm (n + 1) (.agg (k :: r))) e w' := by
  have HK : Hid (Pl.isForm (n + 1) (.agg (k :: r)) = (k :: r).all (Pl.isForm n)) := show Pl.listForm (Pl.isForm n) (k :: r) = _ from by
    unfold Pl.listForm
    dsimp only
    rw [hk]
    simp
  by_cases hnm : ∃ s, k = .lit (.string s)
  · obtain ⟨s, rfl⟩ := hnm
    have hkw : Pl.kwB s = false := by
      unfold Pl.headKw at hk
      by_cases hq : Pl.kwB s = true
      · simp [hq] at hk
      · simpa using hq
    clear hk
    have HR := (show Hid (RepR ok (n + 1) w v (.agg ((.lit (.string s)) :: r))) from h)
    have HF := (show Hid (FormSaid n) from hF)
    have hlen : ((.lit (.string s)) :: r).length ≤ 1000 := h.short
    simp only [List.length_cons] at hlen
    obtain ⟨b, g, off, cap, u0, us, rfl, hb, ck, c3, hcap, hg, c0, hS, hlr, r0, hA, hA1⟩ := h.cons
    have HS := (show Hid (SlOf w (.slice (some ⟨g, off, none⟩) (r.length + 1) cap) (u0 :: us)) from hS)
    have HA := (show Hid (AllR n w (u0 :: us) ((.lit (.string s)) :: r)) from hA)
    have HA1 := (show Hid (AllR n w us r) from hA1)
    have HL := (show Hid (us.length = r.length) from hlr)
    obtain ⟨b0, rfl, hb0, ck0, cs0⟩ := r0.cellS
    have R0 := (show Hid (RepR ok n w _ (.lit (.string s))) from r0)
    clear h hF hS hA hA1 hlr r0
    have ck1 : w.cell? ⟨b0, 0, none⟩ = some (.string ⟨#[110, 97, 109, 101]⟩) := ck0
    have cs1 : w.cell? ⟨b0, 2, none⟩ = some (.string ⟨s.toArray⟩) := cs0
    clear ck0 cs0
    have e1 : Pl.isName (.agg ((.lit (.string s)) :: r)) = false := rfl
    have hn0 : ((r.length : Int) + 1 == 0) = false := by simp; omega
    go_enter Tryz.func122, Tryz.ntmps122
    go_wp2_with fail
    refine (ref_free ok (n + 1) _ _ _ HR.out).mono ?_
    rintro e w1 ⟨rfl, hB1⟩
    obtain ⟨q1, _⟩ := bcell hB1
    have HB1 := (show Hid (Below w.heap.size w w1) from hB1)
    have hsz := hB1.size
    clear hB1
    go_wp2_with fail
    refine (ref_keyword s _).mono ?_
    rintro e w2 ⟨rfl, hB2⟩
    have HB2 : Hid (Below w.heap.size w w2) := HB1.out.trans (hB2.mono hsz)
    obtain ⟨q2, _⟩ := bcell HB2.out
    have hsz2 := HB2.out.size
    rw [show Pl.kwB s = false from by first | assumption | decide]
    clear hB2 q1 HB1 hsz
    go_wp2_with fail
    refine (ref_forms n HF.out _ _ _ ((.lit (.string s)) :: r) (HS.out.later HB2.out) (HA.out.later HB2.out) (by simpa using hlen)).mono ?_
    rintro e w5 ⟨hB5, hcase⟩
    have HB5 : Hid (Below w.heap.size w w5) := HB2.out.trans (hB5.mono hsz2)
    have hsz5 := HB5.out.size
    rcases hcase with ⟨hfs, rv, fs, rfl, hrow, _, _⟩ | ⟨hfs, rv, rfl⟩
    · have HE : Hid (Pl.isForm (n + 1) (.agg ((.lit (.string s)) :: r)) = true) := HK.out.trans hfs
      obtain ⟨aor, capr, rfl, _⟩ := slOf_own hrow
      clear hB5 hfs hrow
      go_wp2_with fail
      go_ret
      exact ⟨HB5.out.alloc hsz5 _, .inl ⟨HE.out, _, rfl⟩⟩
    · have HE : Hid (Pl.isForm (n + 1) (.agg ((.lit (.string s)) :: r)) = false) := HK.out.trans hfs
      clear hB5 hfs
      go_wp2_with fail
      go_ret
      exact ⟨HB5.out, .inr ⟨HE.out, rfl⟩⟩
  · clear hk
    have HR := (show Hid (RepR ok (n + 1) w v (.agg (k :: r))) from h)
    have HF := (show Hid (FormSaid n) from hF)
    have hlen : (k :: r).length ≤ 1000 := h.short
    simp only [List.length_cons] at hlen
    obtain ⟨b, g, off, cap, u0, us, rfl, hb, ck, c3, hcap, hg, c0, hS, hlr, r0, hA, hA1⟩ := h.cons
    have HS := (show Hid (SlOf w (.slice (some ⟨g, off, none⟩) (r.length + 1) cap) (u0 :: us)) from hS)
    have HA := (show Hid (AllR n w (u0 :: us) (k :: r)) from hA)
    have HA1 := (show Hid (AllR n w us r) from hA1)
    have HL := (show Hid (us.length = r.length) from hlr)
    obtain ⟨b0, rfl, hb0, ck0, cs0⟩ := r0.cellS
    have R0 := (show Hid (RepR ok n w _ k) from r0)
    clear h hF hS hA hA1 hlr r0
    have hkk : ∃ kk : List UInt8, w.cell? ⟨b0, 0, none⟩ = some (.string ⟨kk.toArray⟩) ∧ (kk == [110, 97, 109, 101]) = false := by
      rcases R0.out.kinds with ⟨_, _, rfl⟩ | ⟨_, rfl⟩ | ⟨s, rfl⟩ | ⟨_, rfl⟩
      · exact ⟨[110, 117, 109, 98, 101, 114], ck0, by decide⟩
      · exact ⟨[116, 114, 117, 116, 104], ck0, by decide⟩
      · exact absurd ⟨s, rfl⟩ hnm
      · exact ⟨[108, 105, 115, 116], ck0, by decide⟩
    obtain ⟨kk, ck1, hkk0⟩ := hkk
    clear ck0 hnm
    have e1 : Pl.isName (.agg (k :: r)) = false := rfl
    have hn0 : ((r.length : Int) + 1 == 0) = false := by simp; omega
    go_enter Tryz.func122, Tryz.ntmps122
    go_wp2_with fail
    refine (ref_free ok (n + 1) _ _ _ HR.out).mono ?_
    rintro e w1 ⟨rfl, hB1⟩
    obtain ⟨q1, _⟩ := bcell hB1
    have HB1 := (show Hid (Below w.heap.size w w1) from hB1)
    have hsz := hB1.size
    clear hB1
    go_wp2_with fail
    refine (ref_forms n HF.out _ _ _ (k :: r) (HS.out.later HB1.out) (HA.out.later HB1.out) (by simpa using hlen)).mono ?_
    rintro e w5 ⟨hB5, hcase⟩
    have HB5 : Hid (Below w.heap.size w w5) := HB1.out.trans (hB5.mono hsz)
    have hsz5 := HB5.out.size
    rcases hcase with ⟨hfs, rv, fs, rfl, hrow, _, _⟩ | ⟨hfs, rv, rfl⟩
    · have HE : Hid (Pl.isForm (n + 1) (.agg (k :: r)) = true) := HK.out.trans hfs
      obtain ⟨aor, capr, rfl, _⟩ := slOf_own hrow
      clear hB5 hfs hrow
      go_wp2_with fail
      go_ret
      exact ⟨HB5.out.alloc hsz5 _, .inl ⟨HE.out, _, rfl⟩⟩
    · have HE : Hid (Pl.isForm (n + 1) (.agg (k :: r)) = false) := HK.out.trans hfs
      clear hB5 hfs
      go_wp2_with fail
      go_ret
      exact ⟨HB5.out, .inr ⟨HE.out, rfl⟩⟩
end Go.Proofs.YtkgbdddkcjpgfaaGreatDoor
