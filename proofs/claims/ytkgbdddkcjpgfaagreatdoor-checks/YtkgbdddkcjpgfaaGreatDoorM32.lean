/- The reference's form at lists that begin with a keyword. -/
import Derived.Test.YtkgbdddkcjpgfaaGreatDoorM31
import Derived.Deep.RegionWith
namespace Go.Proofs.YtkgbdddkcjpgfaaGreatDoor
open Go.RowKit

theorem kf (n : Nat) (h : List UInt8) (r : List Tr) (hk : Pl.kwB h = true) : Pl.isForm (n + 1) (.agg (.lit (.string h) :: r)) = Pl.keyForm (Pl.isForm n) h r := by
  show Pl.listForm (Pl.isForm n) (.lit (.string h) :: r) = _
  unfold Pl.listForm
  dsimp only
  have : Pl.headKw (.lit (.string h) :: r) = some h := by unfold Pl.headKw; simp [hk]
  rw [this]

set_option maxHeartbeats 2000000 in
set_option maxRecDepth 100000 in
theorem ref_form_quote (n : Nat) (hF : FormSaid n) (ok : Nat → Prop) (w : World) (v : Value) (r : List Tr) (h : RepR ok (n + 1) w v (.agg (.lit (.string [113, 117, 111, 116, 101]) :: r))) :
    Calls Tryz.prog 122 #[v] w fun e w' => FormPost w (Pl.isForm (n + 1) (.agg (.lit (.string [113, 117, 111, 116, 101]) :: r))) e w' := by
  have HK : Hid (Pl.isForm (n + 1) (.agg (.lit (.string [113, 117, 111, 116, 101]) :: r)) = (r.length == 1)) := kf n _ r (by decide)
  have HR := (show Hid (RepR ok (n + 1) w v (.agg ((.lit (.string [113, 117, 111, 116, 101])) :: r))) from h)
  have HF := (show Hid (FormSaid n) from hF)
  have hlen : ((.lit (.string [113, 117, 111, 116, 101])) :: r).length ≤ 1000 := h.short
  simp only [List.length_cons] at hlen
  obtain ⟨b, g, off, cap, u0, us, rfl, hb, ck, c3, hcap, hg, c0, hS, hlr, r0, hA, hA1⟩ := h.cons
  have HS := (show Hid (SlOf w (.slice (some ⟨g, off, none⟩) (r.length + 1) cap) (u0 :: us)) from hS)
  have HA := (show Hid (AllR n w (u0 :: us) ((.lit (.string [113, 117, 111, 116, 101])) :: r)) from hA)
  have HA1 := (show Hid (AllR n w us r) from hA1)
  have HL := (show Hid (us.length = r.length) from hlr)
  obtain ⟨b0, rfl, hb0, ck0, cs0⟩ := r0.cellS
  have R0 := (show Hid (RepR ok n w _ (.lit (.string [113, 117, 111, 116, 101]))) from r0)
  clear h hF hS hA hA1 hlr r0
  have ck1 : w.cell? ⟨b0, 0, none⟩ = some (.string ⟨#[110, 97, 109, 101]⟩) := ck0
  have cs1 : w.cell? ⟨b0, 2, none⟩ = some (.string ⟨([113, 117, 111, 116, 101]).toArray⟩) := cs0
  clear ck0 cs0
  by_cases hl : r.length = 1
  · have hl2 : ((r.length : Int) + 1 == 2) = true := by simp; omega
    have HE : Hid (Pl.isForm (n + 1) (.agg (.lit (.string [113, 117, 111, 116, 101]) :: r)) = true) := HK.out.trans (by simpa using hl)
    clear hl
    have e1 : Pl.isName (.agg ((.lit (.string [113, 117, 111, 116, 101])) :: r)) = false := rfl
    have hn0 : ((r.length : Int) + 1 == 0) = false := by simp; omega
    go_enter Tryz.func122, Tryz.ntmps122
    go_wp2_with fail
    refine (ref_free ok (n + 1) _ _ _ HR.out).mono ?_
    rintro e w1 ⟨rfl, hB1⟩
    obtain ⟨q1, _⟩ := bcell hB1
    have HB1 := (show Hid (Below w.heap.size w w1) from hB1)
    have hsz := hB1.size
    clear hB1
    go_wp2_with fail
    refine (ref_keyword [113, 117, 111, 116, 101] _).mono ?_
    rintro e w2 ⟨rfl, hB2⟩
    have HB2 : Hid (Below w.heap.size w w2) := HB1.out.trans (hB2.mono hsz)
    obtain ⟨q2, _⟩ := bcell HB2.out
    have hsz2 := HB2.out.size
    rw [show Pl.kwB [113, 117, 111, 116, 101] = true from by first | assumption | decide]
    clear hB2 q1 HB1 hsz
    go_wp2_with fail
    go_ret
    exact ⟨HB2.out.alloc hsz2 _, .inl ⟨HE.out, _, rfl⟩⟩
  · have hl2 : ((r.length : Int) + 1 == 2) = false := by simp; omega
    have HE : Hid (Pl.isForm (n + 1) (.agg (.lit (.string [113, 117, 111, 116, 101]) :: r)) = false) := HK.out.trans (by simpa using hl)
    clear hl
    have e1 : Pl.isName (.agg ((.lit (.string [113, 117, 111, 116, 101])) :: r)) = false := rfl
    have hn0 : ((r.length : Int) + 1 == 0) = false := by simp; omega
    go_enter Tryz.func122, Tryz.ntmps122
    go_wp2_with fail
    refine (ref_free ok (n + 1) _ _ _ HR.out).mono ?_
    rintro e w1 ⟨rfl, hB1⟩
    obtain ⟨q1, _⟩ := bcell hB1
    have HB1 := (show Hid (Below w.heap.size w w1) from hB1)
    have hsz := hB1.size
    clear hB1
    go_wp2_with fail
    refine (ref_keyword [113, 117, 111, 116, 101] _).mono ?_
    rintro e w2 ⟨rfl, hB2⟩
    have HB2 : Hid (Below w.heap.size w w2) := HB1.out.trans (hB2.mono hsz)
    obtain ⟨q2, _⟩ := bcell HB2.out
    have hsz2 := HB2.out.size
    rw [show Pl.kwB [113, 117, 111, 116, 101] = true from by first | assumption | decide]
    clear hB2 q1 HB1 hsz
    go_wp2_with fail
    go_ret
    exact ⟨HB2.out, .inr ⟨HE.out, rfl⟩⟩

set_option maxHeartbeats 2000000 in
set_option maxRecDepth 100000 in
theorem ref_form_define (n : Nat) (hF : FormSaid n) (ok : Nat → Prop) (w : World) (v : Value) (r : List Tr) (h : RepR ok (n + 1) w v (.agg (.lit (.string [100, 101, 102, 105, 110, 101]) :: r))) :
    Calls Tryz.prog 122 #[v] w fun e w' => FormPost w (Pl.isForm (n + 1) (.agg (.lit (.string [100, 101, 102, 105, 110, 101]) :: r))) e w' := by
  have HE : Hid (Pl.isForm (n + 1) (.agg (.lit (.string [100, 101, 102, 105, 110, 101]) :: r)) = false) := (kf n _ r (by decide)).trans rfl
  have HR := (show Hid (RepR ok (n + 1) w v (.agg ((.lit (.string [100, 101, 102, 105, 110, 101])) :: r))) from h)
  have HF := (show Hid (FormSaid n) from hF)
  have hlen : ((.lit (.string [100, 101, 102, 105, 110, 101])) :: r).length ≤ 1000 := h.short
  simp only [List.length_cons] at hlen
  obtain ⟨b, g, off, cap, u0, us, rfl, hb, ck, c3, hcap, hg, c0, hS, hlr, r0, hA, hA1⟩ := h.cons
  have HS := (show Hid (SlOf w (.slice (some ⟨g, off, none⟩) (r.length + 1) cap) (u0 :: us)) from hS)
  have HA := (show Hid (AllR n w (u0 :: us) ((.lit (.string [100, 101, 102, 105, 110, 101])) :: r)) from hA)
  have HA1 := (show Hid (AllR n w us r) from hA1)
  have HL := (show Hid (us.length = r.length) from hlr)
  obtain ⟨b0, rfl, hb0, ck0, cs0⟩ := r0.cellS
  have R0 := (show Hid (RepR ok n w _ (.lit (.string [100, 101, 102, 105, 110, 101]))) from r0)
  clear h hF hS hA hA1 hlr r0
  have ck1 : w.cell? ⟨b0, 0, none⟩ = some (.string ⟨#[110, 97, 109, 101]⟩) := ck0
  have cs1 : w.cell? ⟨b0, 2, none⟩ = some (.string ⟨([100, 101, 102, 105, 110, 101]).toArray⟩) := cs0
  clear ck0 cs0
  have e1 : Pl.isName (.agg ((.lit (.string [100, 101, 102, 105, 110, 101])) :: r)) = false := rfl
  have hn0 : ((r.length : Int) + 1 == 0) = false := by simp; omega
  go_enter Tryz.func122, Tryz.ntmps122
  go_wp2_with fail
  refine (ref_free ok (n + 1) _ _ _ HR.out).mono ?_
  rintro e w1 ⟨rfl, hB1⟩
  obtain ⟨q1, _⟩ := bcell hB1
  have HB1 := (show Hid (Below w.heap.size w w1) from hB1)
  have hsz := hB1.size
  clear hB1
  go_wp2_with fail
  refine (ref_keyword [100, 101, 102, 105, 110, 101] _).mono ?_
  rintro e w2 ⟨rfl, hB2⟩
  have HB2 : Hid (Below w.heap.size w w2) := HB1.out.trans (hB2.mono hsz)
  obtain ⟨q2, _⟩ := bcell HB2.out
  have hsz2 := HB2.out.size
  rw [show Pl.kwB [100, 101, 102, 105, 110, 101] = true from by first | assumption | decide]
  clear hB2 q1 HB1 hsz
  go_wp2_with fail
  go_ret
  exact ⟨HB2.out, .inr ⟨HE.out, rfl⟩⟩

set_option maxHeartbeats 2000000 in
set_option maxRecDepth 100000 in
theorem ref_form_set (n : Nat) (hF : FormSaid n) (ok : Nat → Prop) (w : World) (v : Value) (r : List Tr) (h : RepR ok (n + 1) w v (.agg (.lit (.string [115, 101, 116, 33]) :: r))) :
    Calls Tryz.prog 122 #[v] w fun e w' => FormPost w (Pl.isForm (n + 1) (.agg (.lit (.string [115, 101, 116, 33]) :: r))) e w' := by
  have HK : Hid (Pl.isForm (n + 1) (.agg (.lit (.string [115, 101, 116, 33]) :: r)) = Pl.asgOk (Pl.isForm n) r) := (kf n _ r (by decide)).trans rfl
  have HR := (show Hid (RepR ok (n + 1) w v (.agg ((.lit (.string [115, 101, 116, 33])) :: r))) from h)
  have HF := (show Hid (FormSaid n) from hF)
  have hlen : ((.lit (.string [115, 101, 116, 33])) :: r).length ≤ 1000 := h.short
  simp only [List.length_cons] at hlen
  obtain ⟨b, g, off, cap, u0, us, rfl, hb, ck, c3, hcap, hg, c0, hS, hlr, r0, hA, hA1⟩ := h.cons
  have HS := (show Hid (SlOf w (.slice (some ⟨g, off, none⟩) (r.length + 1) cap) (u0 :: us)) from hS)
  have HA := (show Hid (AllR n w (u0 :: us) ((.lit (.string [115, 101, 116, 33])) :: r)) from hA)
  have HA1 := (show Hid (AllR n w us r) from hA1)
  have HL := (show Hid (us.length = r.length) from hlr)
  obtain ⟨b0, rfl, hb0, ck0, cs0⟩ := r0.cellS
  have R0 := (show Hid (RepR ok n w _ (.lit (.string [115, 101, 116, 33]))) from r0)
  clear h hF hS hA hA1 hlr r0
  have ck1 : w.cell? ⟨b0, 0, none⟩ = some (.string ⟨#[110, 97, 109, 101]⟩) := ck0
  have cs1 : w.cell? ⟨b0, 2, none⟩ = some (.string ⟨([115, 101, 116, 33]).toArray⟩) := cs0
  clear ck0 cs0
  have e1 : Pl.isName (.agg ((.lit (.string [115, 101, 116, 33])) :: r)) = false := rfl
  have hn0 : ((r.length : Int) + 1 == 0) = false := by simp; omega
  go_enter Tryz.func122, Tryz.ntmps122
  go_wp2_with fail
  refine (ref_free ok (n + 1) _ _ _ HR.out).mono ?_
  rintro e w1 ⟨rfl, hB1⟩
  obtain ⟨q1, _⟩ := bcell hB1
  have HB1 := (show Hid (Below w.heap.size w w1) from hB1)
  have hsz := hB1.size
  clear hB1
  go_wp2_with fail
  refine (ref_keyword [115, 101, 116, 33] _).mono ?_
  rintro e w2 ⟨rfl, hB2⟩
  have HB2 : Hid (Below w.heap.size w w2) := HB1.out.trans (hB2.mono hsz)
  obtain ⟨q2, _⟩ := bcell HB2.out
  have hsz2 := HB2.out.size
  rw [show Pl.kwB [115, 101, 116, 33] = true from by first | assumption | decide]
  clear hB2 q1 HB1 hsz
  go_wp2_with fail
  refine (ref_assigned n HF.out ok _ _ _ r (HR.out.later HB2.out)).mono ?_
  rintro e w5 ⟨hB5, ⟨hf, bf, rfl⟩ | ⟨hf, rfl⟩⟩
  · have HB5 : Hid (Below w.heap.size w w5) := HB2.out.trans (hB5.mono hsz2)
    have HE := (show Hid _ from HK.out.trans hf)
    clear hB5 hf
    go_wp2_with fail
    go_ret
    exact ⟨HB5.out, .inl ⟨HE.out, _, rfl⟩⟩
  · have HB5 : Hid (Below w.heap.size w w5) := HB2.out.trans (hB5.mono hsz2)
    have HE := (show Hid _ from HK.out.trans hf)
    clear hB5 hf
    go_wp2_with fail
    go_ret
    exact ⟨HB5.out, .inr ⟨HE.out, rfl⟩⟩

set_option maxHeartbeats 4000000 in
set_option maxRecDepth 100000 in
theorem ref_form_if (n : Nat) (hF : FormSaid n) (ok : Nat → Prop) (w : World) (v : Value) (r : List Tr) (h : RepR ok (n + 1) w v (.agg (.lit (.string [105, 102]) :: r))) :
    Calls Tryz.prog 122 #[v] w fun e w' => FormPost w (Pl.isForm (n + 1) (.agg (.lit (.string [105, 102]) :: r))) e w' := by
  have HK : Hid (Pl.isForm (n + 1) (.agg (.lit (.string [105, 102]) :: r)) = ((r.length == 3) && r.all (Pl.isForm n))) := (kf n _ r (by decide)).trans rfl
  have HR := (show Hid (RepR ok (n + 1) w v (.agg ((.lit (.string [105, 102])) :: r))) from h)
  have HF := (show Hid (FormSaid n) from hF)
  have hlen : ((.lit (.string [105, 102])) :: r).length ≤ 1000 := h.short
  simp only [List.length_cons] at hlen
  obtain ⟨b, g, off, cap, u0, us, rfl, hb, ck, c3, hcap, hg, c0, hS, hlr, r0, hA, hA1⟩ := h.cons
  have HS := (show Hid (SlOf w (.slice (some ⟨g, off, none⟩) (r.length + 1) cap) (u0 :: us)) from hS)
  have HA := (show Hid (AllR n w (u0 :: us) ((.lit (.string [105, 102])) :: r)) from hA)
  have HA1 := (show Hid (AllR n w us r) from hA1)
  have HL := (show Hid (us.length = r.length) from hlr)
  obtain ⟨b0, rfl, hb0, ck0, cs0⟩ := r0.cellS
  have R0 := (show Hid (RepR ok n w _ (.lit (.string [105, 102]))) from r0)
  clear h hF hS hA hA1 hlr r0
  have ck1 : w.cell? ⟨b0, 0, none⟩ = some (.string ⟨#[110, 97, 109, 101]⟩) := ck0
  have cs1 : w.cell? ⟨b0, 2, none⟩ = some (.string ⟨([105, 102]).toArray⟩) := cs0
  clear ck0 cs0
  by_cases hlb : (r.length == 3) = true
  · have hl2 : ((r.length : Int) + 1 == 4) = true := by simp at hlb; simp; omega
    have e1 : Pl.isName (.agg ((.lit (.string [105, 102])) :: r)) = false := rfl
    have hn0 : ((r.length : Int) + 1 == 0) = false := by simp; omega
    go_enter Tryz.func122, Tryz.ntmps122
    go_wp2_with fail
    refine (ref_free ok (n + 1) _ _ _ HR.out).mono ?_
    rintro e w1 ⟨rfl, hB1⟩
    obtain ⟨q1, _⟩ := bcell hB1
    have HB1 := (show Hid (Below w.heap.size w w1) from hB1)
    have hsz := hB1.size
    clear hB1
    go_wp2_with fail
    refine (ref_keyword [105, 102] _).mono ?_
    rintro e w2 ⟨rfl, hB2⟩
    have HB2 : Hid (Below w.heap.size w w2) := HB1.out.trans (hB2.mono hsz)
    obtain ⟨q2, _⟩ := bcell HB2.out
    have hsz2 := HB2.out.size
    rw [show Pl.kwB [105, 102] = true from by first | assumption | decide]
    clear hB2 q1 HB1 hsz
    go_wp2_with fail
    · refine (ref_forms n HF.out _ _ us r ((HS.out.tail r.length HL.out _ _ (by omega) (by intro hh; first | rfl | (exfalso; omega))).later HB2.out) (HA1.out.later HB2.out) (by omega)).mono ?_
      rintro e w5 ⟨hB5, hcase⟩
      have HB5 : Hid (Below w.heap.size w w5) := HB2.out.trans (hB5.mono hsz2)
      have hsz5 := HB5.out.size
      rcases hcase with ⟨hfs, rv, fs, rfl, hrow, _, _⟩ | ⟨hfs, rv, rfl⟩
      · have HE : Hid (Pl.isForm (n + 1) (.agg (.lit (.string [105, 102]) :: r)) = true) := HK.out.trans (by rw [hfs, show (r.length == 3) = true from by assumption]; rfl)
        obtain ⟨aor, capr, rfl, _⟩ := slOf_own hrow
        clear hB5 hfs hrow hlb
        go_wp2_with fail
        go_ret
        exact ⟨HB5.out.alloc hsz5 _, .inl ⟨HE.out, _, rfl⟩⟩
      · have HE : Hid (Pl.isForm (n + 1) (.agg (.lit (.string [105, 102]) :: r)) = false) := HK.out.trans (by rw [hfs, Bool.and_false])
        clear hB5 hfs hlb
        go_wp2_with fail
        go_ret
        exact ⟨HB5.out, .inr ⟨HE.out, rfl⟩⟩
    · refine (ref_forms n HF.out _ _ us r ((HS.out.tail r.length HL.out _ _ (by omega) (by intro hh; first | rfl | (exfalso; omega))).later HB2.out) (HA1.out.later HB2.out) (by omega)).mono ?_
      rintro e w5 ⟨hB5, hcase⟩
      have HB5 : Hid (Below w.heap.size w w5) := HB2.out.trans (hB5.mono hsz2)
      have hsz5 := HB5.out.size
      rcases hcase with ⟨hfs, rv, fs, rfl, hrow, _, _⟩ | ⟨hfs, rv, rfl⟩
      · have HE : Hid (Pl.isForm (n + 1) (.agg (.lit (.string [105, 102]) :: r)) = true) := HK.out.trans (by rw [hfs, show (r.length == 3) = true from by assumption]; rfl)
        obtain ⟨aor, capr, rfl, _⟩ := slOf_own hrow
        clear hB5 hfs hrow hlb
        go_wp2_with fail
        go_ret
        exact ⟨HB5.out.alloc hsz5 _, .inl ⟨HE.out, _, rfl⟩⟩
      · have HE : Hid (Pl.isForm (n + 1) (.agg (.lit (.string [105, 102]) :: r)) = false) := HK.out.trans (by rw [hfs, Bool.and_false])
        clear hB5 hfs hlb
        go_wp2_with fail
        go_ret
        exact ⟨HB5.out, .inr ⟨HE.out, rfl⟩⟩
  · have hlb : (r.length == 3) = false := by simpa using hlb
    have hl2 : ((r.length : Int) + 1 == 4) = false := by simp at hlb; simp; omega
    have e1 : Pl.isName (.agg ((.lit (.string [105, 102])) :: r)) = false := rfl
    have hn0 : ((r.length : Int) + 1 == 0) = false := by simp; omega
    go_enter Tryz.func122, Tryz.ntmps122
    go_wp2_with fail
    refine (ref_free ok (n + 1) _ _ _ HR.out).mono ?_
    rintro e w1 ⟨rfl, hB1⟩
    obtain ⟨q1, _⟩ := bcell hB1
    have HB1 := (show Hid (Below w.heap.size w w1) from hB1)
    have hsz := hB1.size
    clear hB1
    go_wp2_with fail
    refine (ref_keyword [105, 102] _).mono ?_
    rintro e w2 ⟨rfl, hB2⟩
    have HB2 : Hid (Below w.heap.size w w2) := HB1.out.trans (hB2.mono hsz)
    obtain ⟨q2, _⟩ := bcell HB2.out
    have hsz2 := HB2.out.size
    rw [show Pl.kwB [105, 102] = true from by first | assumption | decide]
    clear hB2 q1 HB1 hsz
    go_wp2_with fail
    · refine (ref_forms n HF.out _ _ us r ((HS.out.tail r.length HL.out _ _ (by omega) (by intro hh; first | rfl | (exfalso; omega))).later HB2.out) (HA1.out.later HB2.out) (by omega)).mono ?_
      rintro e w5 ⟨hB5, hcase⟩
      have HB5 : Hid (Below w.heap.size w w5) := HB2.out.trans (hB5.mono hsz2)
      have hsz5 := HB5.out.size
      rcases hcase with ⟨hfs, rv, fs, rfl, hrow, _, _⟩ | ⟨hfs, rv, rfl⟩
      · have HE : Hid (Pl.isForm (n + 1) (.agg (.lit (.string [105, 102]) :: r)) = false) := HK.out.trans (by rw [hfs, show (r.length == 3) = false from by assumption]; rfl)
        obtain ⟨aor, capr, rfl, _⟩ := slOf_own hrow
        clear hB5 hfs hrow hlb
        go_wp2_with fail
        go_ret
        exact ⟨HB5.out, .inr ⟨HE.out, rfl⟩⟩
      · have HE : Hid (Pl.isForm (n + 1) (.agg (.lit (.string [105, 102]) :: r)) = false) := HK.out.trans (by rw [hfs, Bool.and_false])
        clear hB5 hfs hlb
        go_wp2_with fail
        go_ret
        exact ⟨HB5.out, .inr ⟨HE.out, rfl⟩⟩
    · refine (ref_forms n HF.out _ _ us r ((HS.out.tail r.length HL.out _ _ (by omega) (by intro hh; first | rfl | (exfalso; omega))).later HB2.out) (HA1.out.later HB2.out) (by omega)).mono ?_
      rintro e w5 ⟨hB5, hcase⟩
      have HB5 : Hid (Below w.heap.size w w5) := HB2.out.trans (hB5.mono hsz2)
      have hsz5 := HB5.out.size
      rcases hcase with ⟨hfs, rv, fs, rfl, hrow, _, _⟩ | ⟨hfs, rv, rfl⟩
      · have HE : Hid (Pl.isForm (n + 1) (.agg (.lit (.string [105, 102]) :: r)) = false) := HK.out.trans (by rw [hfs, show (r.length == 3) = false from by assumption]; rfl)
        obtain ⟨aor, capr, rfl, _⟩ := slOf_own hrow
        clear hB5 hfs hrow hlb
        go_wp2_with fail
        go_ret
        exact ⟨HB5.out, .inr ⟨HE.out, rfl⟩⟩
      · have HE : Hid (Pl.isForm (n + 1) (.agg (.lit (.string [105, 102]) :: r)) = false) := HK.out.trans (by rw [hfs, Bool.and_false])
        clear hB5 hfs hlb
        go_wp2_with fail
        go_ret
        exact ⟨HB5.out, .inr ⟨HE.out, rfl⟩⟩
set_option maxHeartbeats 4000000 in
set_option maxRecDepth 100000 in
theorem ref_form_begin (n : Nat) (hF : FormSaid n) (ok : Nat → Prop) (w : World) (v : Value) (r : List Tr) (h : RepR ok (n + 1) w v (.agg (.lit (.string [98, 101, 103, 105, 110]) :: r))) :
    Calls Tryz.prog 122 #[v] w fun e w' => FormPost w (Pl.isForm (n + 1) (.agg (.lit (.string [98, 101, 103, 105, 110]) :: r))) e w' := by
  have HK : Hid (Pl.isForm (n + 1) (.agg (.lit (.string [98, 101, 103, 105, 110]) :: r)) = ((!r.isEmpty) && r.all (Pl.isForm n))) := (kf n _ r (by decide)).trans rfl
  have HR := (show Hid (RepR ok (n + 1) w v (.agg ((.lit (.string [98, 101, 103, 105, 110])) :: r))) from h)
  have HF := (show Hid (FormSaid n) from hF)
  have hlen : ((.lit (.string [98, 101, 103, 105, 110])) :: r).length ≤ 1000 := h.short
  simp only [List.length_cons] at hlen
  obtain ⟨b, g, off, cap, u0, us, rfl, hb, ck, c3, hcap, hg, c0, hS, hlr, r0, hA, hA1⟩ := h.cons
  have HS := (show Hid (SlOf w (.slice (some ⟨g, off, none⟩) (r.length + 1) cap) (u0 :: us)) from hS)
  have HA := (show Hid (AllR n w (u0 :: us) ((.lit (.string [98, 101, 103, 105, 110])) :: r)) from hA)
  have HA1 := (show Hid (AllR n w us r) from hA1)
  have HL := (show Hid (us.length = r.length) from hlr)
  obtain ⟨b0, rfl, hb0, ck0, cs0⟩ := r0.cellS
  have R0 := (show Hid (RepR ok n w _ (.lit (.string [98, 101, 103, 105, 110]))) from r0)
  clear h hF hS hA hA1 hlr r0
  have ck1 : w.cell? ⟨b0, 0, none⟩ = some (.string ⟨#[110, 97, 109, 101]⟩) := ck0
  have cs1 : w.cell? ⟨b0, 2, none⟩ = some (.string ⟨([98, 101, 103, 105, 110]).toArray⟩) := cs0
  clear ck0 cs0
  by_cases hlb : (!r.isEmpty) = true
  · have hl2 : (1 : Int) < (r.length : Int) + 1 := by cases r <;> simp at hlb ⊢ <;> omega
    have e1 : Pl.isName (.agg ((.lit (.string [98, 101, 103, 105, 110])) :: r)) = false := rfl
    have hn0 : ((r.length : Int) + 1 == 0) = false := by simp; omega
    go_enter Tryz.func122, Tryz.ntmps122
    go_wp2_with fail
    refine (ref_free ok (n + 1) _ _ _ HR.out).mono ?_
    rintro e w1 ⟨rfl, hB1⟩
    obtain ⟨q1, _⟩ := bcell hB1
    have HB1 := (show Hid (Below w.heap.size w w1) from hB1)
    have hsz := hB1.size
    clear hB1
    go_wp2_with fail
    refine (ref_keyword [98, 101, 103, 105, 110] _).mono ?_
    rintro e w2 ⟨rfl, hB2⟩
    have HB2 : Hid (Below w.heap.size w w2) := HB1.out.trans (hB2.mono hsz)
    obtain ⟨q2, _⟩ := bcell HB2.out
    have hsz2 := HB2.out.size
    rw [show Pl.kwB [98, 101, 103, 105, 110] = true from by first | assumption | decide]
    clear hB2 q1 HB1 hsz
    go_wp2_with fail
    refine (ref_forms n HF.out _ _ us r ((HS.out.tail r.length HL.out _ _ (by omega) (by intro hh; first | rfl | (exfalso; omega))).later HB2.out) (HA1.out.later HB2.out) (by omega)).mono ?_
    rintro e w5 ⟨hB5, hcase⟩
    have HB5 : Hid (Below w.heap.size w w5) := HB2.out.trans (hB5.mono hsz2)
    have hsz5 := HB5.out.size
    rcases hcase with ⟨hfs, rv, fs, rfl, hrow, _, _⟩ | ⟨hfs, rv, rfl⟩
    · have HE : Hid (Pl.isForm (n + 1) (.agg (.lit (.string [98, 101, 103, 105, 110]) :: r)) = true) := HK.out.trans (by rw [hfs, show (!r.isEmpty) = true from by assumption]; rfl)
      obtain ⟨aor, capr, rfl, _⟩ := slOf_own hrow
      clear hB5 hfs hrow hlb
      go_wp2_with fail
      go_ret
      exact ⟨HB5.out.alloc hsz5 _, .inl ⟨HE.out, _, rfl⟩⟩
    · have HE : Hid (Pl.isForm (n + 1) (.agg (.lit (.string [98, 101, 103, 105, 110]) :: r)) = false) := HK.out.trans (by rw [hfs, Bool.and_false])
      clear hB5 hfs hlb
      go_wp2_with fail
      go_ret
      exact ⟨HB5.out, .inr ⟨HE.out, rfl⟩⟩
  · have hlb : (!r.isEmpty) = false := by simpa using hlb
    have hl2 : decide ((1 : Int) < (r.length : Int) + 1) = false := by cases r <;> simp at hlb ⊢ <;> omega
    have e1 : Pl.isName (.agg ((.lit (.string [98, 101, 103, 105, 110])) :: r)) = false := rfl
    have hn0 : ((r.length : Int) + 1 == 0) = false := by simp; omega
    go_enter Tryz.func122, Tryz.ntmps122
    go_wp2_with fail
    refine (ref_free ok (n + 1) _ _ _ HR.out).mono ?_
    rintro e w1 ⟨rfl, hB1⟩
    obtain ⟨q1, _⟩ := bcell hB1
    have HB1 := (show Hid (Below w.heap.size w w1) from hB1)
    have hsz := hB1.size
    clear hB1
    go_wp2_with fail
    refine (ref_keyword [98, 101, 103, 105, 110] _).mono ?_
    rintro e w2 ⟨rfl, hB2⟩
    have HB2 : Hid (Below w.heap.size w w2) := HB1.out.trans (hB2.mono hsz)
    obtain ⟨q2, _⟩ := bcell HB2.out
    have hsz2 := HB2.out.size
    rw [show Pl.kwB [98, 101, 103, 105, 110] = true from by first | assumption | decide]
    clear hB2 q1 HB1 hsz
    go_wp2_with fail
    · refine (ref_forms n HF.out _ _ us r ((HS.out.tail r.length HL.out _ _ (by omega) (by intro hh; first | rfl | (exfalso; omega))).later HB2.out) (HA1.out.later HB2.out) (by omega)).mono ?_
      rintro e w5 ⟨hB5, hcase⟩
      have HB5 : Hid (Below w.heap.size w w5) := HB2.out.trans (hB5.mono hsz2)
      have hsz5 := HB5.out.size
      rcases hcase with ⟨hfs, rv, fs, rfl, hrow, _, _⟩ | ⟨hfs, rv, rfl⟩
      · have HE : Hid (Pl.isForm (n + 1) (.agg (.lit (.string [98, 101, 103, 105, 110]) :: r)) = false) := HK.out.trans (by rw [hfs, show (!r.isEmpty) = false from by assumption]; rfl)
        obtain ⟨aor, capr, rfl, _⟩ := slOf_own hrow
        clear hB5 hfs hrow hlb
        go_wp2_with fail
        go_ret
        exact ⟨HB5.out, .inr ⟨HE.out, rfl⟩⟩
      · have HE : Hid (Pl.isForm (n + 1) (.agg (.lit (.string [98, 101, 103, 105, 110]) :: r)) = false) := HK.out.trans (by rw [hfs, Bool.and_false])
        clear hB5 hfs hlb
        go_wp2_with fail
        go_ret
        exact ⟨HB5.out, .inr ⟨HE.out, rfl⟩⟩
    · refine (ref_forms n HF.out _ _ us r ((HS.out.tail r.length HL.out _ _ (by omega) (by intro hh; first | rfl | (exfalso; omega))).later HB2.out) (HA1.out.later HB2.out) (by omega)).mono ?_
      rintro e w5 ⟨hB5, hcase⟩
      have HB5 : Hid (Below w.heap.size w w5) := HB2.out.trans (hB5.mono hsz2)
      have hsz5 := HB5.out.size
      rcases hcase with ⟨hfs, rv, fs, rfl, hrow, _, _⟩ | ⟨hfs, rv, rfl⟩
      · have HE : Hid (Pl.isForm (n + 1) (.agg (.lit (.string [98, 101, 103, 105, 110]) :: r)) = false) := HK.out.trans (by rw [hfs, show (!r.isEmpty) = false from by assumption]; rfl)
        obtain ⟨aor, capr, rfl, _⟩ := slOf_own hrow
        clear hB5 hfs hrow hlb
        go_wp2_with fail
        go_ret
        exact ⟨HB5.out, .inr ⟨HE.out, rfl⟩⟩
      · have HE : Hid (Pl.isForm (n + 1) (.agg (.lit (.string [98, 101, 103, 105, 110]) :: r)) = false) := HK.out.trans (by rw [hfs, Bool.and_false])
        clear hB5 hfs hlb
        go_wp2_with fail
        go_ret
        exact ⟨HB5.out, .inr ⟨HE.out, rfl⟩⟩
end Go.Proofs.YtkgbdddkcjpgfaaGreatDoor
