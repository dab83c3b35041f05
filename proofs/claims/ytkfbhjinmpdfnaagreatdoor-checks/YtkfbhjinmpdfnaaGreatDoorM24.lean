/- The program's readList, keyword by keyword. -/
import Derived.Test.YtkfbhjinmpdfnaaGreatDoorM23
namespace Go.Proofs.YtkfbhjinmpdfnaaGreatDoor
open Go.RowKit

set_option maxHeartbeats 1000000 in
set_option maxRecDepth 100000 in
theorem p_list_quote (n : Nat) (hF : FSaid n) (w : World) (sl : Value) (u : Value) (us : List Value) (t : Tr) (r : List Tr) (hS : SlOf w sl (u :: us)) (hA : AllP n w (u :: us) (t :: r)) (hk : kwOf (t :: r) = [113, 117, 111, 116, 101]) :
    Calls Tryz.prog 25 #[sl] w fun e w' => FPost (r.length == 1) w e w' := by
  have hkw := p_keywordOf OkA n sl (u :: us) (t :: r) w w hS hA.1 (fun u' x' hu hx => hA.2 0 u' x' (by simpa using hu) (by simpa using hx))
  rw [hk] at hkw
  have HA1 : Hid (AllP n w us r) := ⟨by have := hA.1; simpa using this, fun i u' x' hu hx => hA.2 (i + 1) u' x' (by simpa using hu) (by simpa using hx)⟩
  have HL : Hid (us.length = r.length) := HA1.out.1
  obtain ⟨g, off, cap, rfl, hcap, hg, c0, _⟩ := hS.cell0
  have HK := (show Hid (∀ L c, L = us.length + 1 → c = cap → Calls Tryz.prog 11 #[.slice (some ⟨g, off, none⟩) L c] w fun e w' => e = .returned (.string ⟨([113, 117, 111, 116, 101] : List UInt8).toArray⟩) ∧ w = w') from by rintro _ _ rfl rfl; exact hkw)
  have HT : Hid (∀ (ao : Option Addr) (c : Nat), us.length ≤ c → (us.length ≠ 0 → ao = some ⟨g, off + 1, none⟩) → SlOf w (.slice ao us.length c) us) := fun ao c h1 h2 => hS.tail us.length rfl ao c h1 h2
  have HF := (show Hid (FSaid n) from hF)
  have hz : ((us.length : Int) + 1 == 0) = false := by simp; omega
  clear hS hA hkw hk hF
  go_enter Tryz.func25, Tryz.ntmps25
  go_wp2_with (go_at_call 11; refine (HK.out _ _ (by omega) (by omega)).mono ?_; rintro e w' ⟨rfl, rfl⟩)
  · refine (p_readQuote w _ us (HT.out _ _ (by omega) (by intro hh; first | rfl | (exfalso; omega))) HA1.out.iface).mono ?_
    rintro e w2 ⟨hB, ⟨hr, T, x, rfl⟩ | ⟨hr, v, es, rfl⟩⟩
    · have HR : Hid ((r.length == 1) = true) := by first | exact hr | (rw [← HL.out]; exact hr)
      have HB := (show Hid (Below _ _ _) from hB)
      clear hr hB
      go_wp2_with fail
      go_ret2
      exact ⟨HB.out, .inl ⟨HR.out, _, _, rfl⟩⟩
    · have HR : Hid ((r.length == 1) = false) := by first | exact hr | (rw [← HL.out]; exact hr)
      have HB := (show Hid (Below _ _ _) from hB)
      clear hr hB
      unfold errV
      go_wp2_with fail
      go_ret2
      exact ⟨HB.out, .inr ⟨HR.out, _, _, rfl⟩⟩
  · refine (p_readQuote w _ us (HT.out _ _ (by omega) (by intro hh; first | rfl | (exfalso; omega))) HA1.out.iface).mono ?_
    rintro e w2 ⟨hB, ⟨hr, T, x, rfl⟩ | ⟨hr, v, es, rfl⟩⟩
    · have HR : Hid ((r.length == 1) = true) := by first | exact hr | (rw [← HL.out]; exact hr)
      have HB := (show Hid (Below _ _ _) from hB)
      clear hr hB
      go_wp2_with fail
      go_ret2
      exact ⟨HB.out, .inl ⟨HR.out, _, _, rfl⟩⟩
    · have HR : Hid ((r.length == 1) = false) := by first | exact hr | (rw [← HL.out]; exact hr)
      have HB := (show Hid (Below _ _ _) from hB)
      clear hr hB
      unfold errV
      go_wp2_with fail
      go_ret2
      exact ⟨HB.out, .inr ⟨HR.out, _, _, rfl⟩⟩
set_option maxHeartbeats 1000000 in
set_option maxRecDepth 100000 in
theorem p_list_if (n : Nat) (hF : FSaid n) (w : World) (sl : Value) (u : Value) (us : List Value) (t : Tr) (r : List Tr) (hS : SlOf w sl (u :: us)) (hA : AllP n w (u :: us) (t :: r)) (hlen : r.length ≤ 1000)(hk : kwOf (t :: r) = [105, 102]) :
    Calls Tryz.prog 25 #[sl] w fun e w' => FPost (r.length == 3 && r.all (Pl.isForm n)) w e w' := by
  have hkw := p_keywordOf OkA n sl (u :: us) (t :: r) w w hS hA.1 (fun u' x' hu hx => hA.2 0 u' x' (by simpa using hu) (by simpa using hx))
  rw [hk] at hkw
  have HA1 : Hid (AllP n w us r) := ⟨by have := hA.1; simpa using this, fun i u' x' hu hx => hA.2 (i + 1) u' x' (by simpa using hu) (by simpa using hx)⟩
  have HL : Hid (us.length = r.length) := HA1.out.1
  obtain ⟨g, off, cap, rfl, hcap, hg, c0, _⟩ := hS.cell0
  have HK := (show Hid (∀ L c, L = us.length + 1 → c = cap → Calls Tryz.prog 11 #[.slice (some ⟨g, off, none⟩) L c] w fun e w' => e = .returned (.string ⟨([105, 102] : List UInt8).toArray⟩) ∧ w = w') from by rintro _ _ rfl rfl; exact hkw)
  have HT : Hid (∀ (ao : Option Addr) (c : Nat), us.length ≤ c → (us.length ≠ 0 → ao = some ⟨g, off + 1, none⟩) → SlOf w (.slice ao us.length c) us) := fun ao c h1 h2 => hS.tail us.length rfl ao c h1 h2
  have HF := (show Hid (FSaid n) from hF)
  have hz : ((us.length : Int) + 1 == 0) = false := by simp; omega
  clear hS hA hkw hk hF
  go_enter Tryz.func25, Tryz.ntmps25
  go_wp2_with (go_at_call 11; refine (HK.out _ _ (by omega) (by omega)).mono ?_; rintro e w' ⟨rfl, rfl⟩)
  · refine (p_readIf n HF.out w _ us r (HT.out _ _ (by omega) (by intro hh; first | rfl | (exfalso; omega))) HA1.out hlen).mono ?_
    rintro e w2 ⟨hB, ⟨hr, T, x, rfl⟩ | ⟨hr, v, es, rfl⟩⟩
    · have HR : Hid ((r.length == 3 && r.all (Pl.isForm n)) = true) := by first | exact hr | (rw [← HL.out]; exact hr)
      have HB := (show Hid (Below _ _ _) from hB)
      clear hr hB
      go_wp2_with fail
      go_ret2
      exact ⟨HB.out, .inl ⟨HR.out, _, _, rfl⟩⟩
    · have HR : Hid ((r.length == 3 && r.all (Pl.isForm n)) = false) := by first | exact hr | (rw [← HL.out]; exact hr)
      have HB := (show Hid (Below _ _ _) from hB)
      clear hr hB
      unfold errV
      go_wp2_with fail
      go_ret2
      exact ⟨HB.out, .inr ⟨HR.out, _, _, rfl⟩⟩
  · refine (p_readIf n HF.out w _ us r (HT.out _ _ (by omega) (by intro hh; first | rfl | (exfalso; omega))) HA1.out hlen).mono ?_
    rintro e w2 ⟨hB, ⟨hr, T, x, rfl⟩ | ⟨hr, v, es, rfl⟩⟩
    · have HR : Hid ((r.length == 3 && r.all (Pl.isForm n)) = true) := by first | exact hr | (rw [← HL.out]; exact hr)
      have HB := (show Hid (Below _ _ _) from hB)
      clear hr hB
      go_wp2_with fail
      go_ret2
      exact ⟨HB.out, .inl ⟨HR.out, _, _, rfl⟩⟩
    · have HR : Hid ((r.length == 3 && r.all (Pl.isForm n)) = false) := by first | exact hr | (rw [← HL.out]; exact hr)
      have HB := (show Hid (Below _ _ _) from hB)
      clear hr hB
      unfold errV
      go_wp2_with fail
      go_ret2
      exact ⟨HB.out, .inr ⟨HR.out, _, _, rfl⟩⟩
set_option maxHeartbeats 1000000 in
set_option maxRecDepth 100000 in
theorem p_list_begin (n : Nat) (hF : FSaid n) (w : World) (sl : Value) (u : Value) (us : List Value) (t : Tr) (r : List Tr) (hS : SlOf w sl (u :: us)) (hA : AllP n w (u :: us) (t :: r)) (hlen : r.length ≤ 1000)(hk : kwOf (t :: r) = [98, 101, 103, 105, 110]) :
    Calls Tryz.prog 25 #[sl] w fun e w' => FPost (!r.isEmpty && r.all (Pl.isForm n)) w e w' := by
  have hkw := p_keywordOf OkA n sl (u :: us) (t :: r) w w hS hA.1 (fun u' x' hu hx => hA.2 0 u' x' (by simpa using hu) (by simpa using hx))
  rw [hk] at hkw
  have HA1 : Hid (AllP n w us r) := ⟨by have := hA.1; simpa using this, fun i u' x' hu hx => hA.2 (i + 1) u' x' (by simpa using hu) (by simpa using hx)⟩
  have HL : Hid (us.length = r.length) := HA1.out.1
  obtain ⟨g, off, cap, rfl, hcap, hg, c0, _⟩ := hS.cell0
  have HK := (show Hid (∀ L c, L = us.length + 1 → c = cap → Calls Tryz.prog 11 #[.slice (some ⟨g, off, none⟩) L c] w fun e w' => e = .returned (.string ⟨([98, 101, 103, 105, 110] : List UInt8).toArray⟩) ∧ w = w') from by rintro _ _ rfl rfl; exact hkw)
  have HT : Hid (∀ (ao : Option Addr) (c : Nat), us.length ≤ c → (us.length ≠ 0 → ao = some ⟨g, off + 1, none⟩) → SlOf w (.slice ao us.length c) us) := fun ao c h1 h2 => hS.tail us.length rfl ao c h1 h2
  have HF := (show Hid (FSaid n) from hF)
  have hz : ((us.length : Int) + 1 == 0) = false := by simp; omega
  clear hS hA hkw hk hF
  go_enter Tryz.func25, Tryz.ntmps25
  go_wp2_with (go_at_call 11; refine (HK.out _ _ (by omega) (by omega)).mono ?_; rintro e w' ⟨rfl, rfl⟩)
  · refine (p_readBegin n HF.out w _ us r (HT.out _ _ (by omega) (by intro hh; first | rfl | (exfalso; omega))) HA1.out hlen).mono ?_
    rintro e w2 ⟨hB, ⟨hr, T, x, rfl⟩ | ⟨hr, v, es, rfl⟩⟩
    · have HR : Hid ((!r.isEmpty && r.all (Pl.isForm n)) = true) := by first | exact hr | (rw [← HL.out]; exact hr)
      have HB := (show Hid (Below _ _ _) from hB)
      clear hr hB
      go_wp2_with fail
      go_ret2
      exact ⟨HB.out, .inl ⟨HR.out, _, _, rfl⟩⟩
    · have HR : Hid ((!r.isEmpty && r.all (Pl.isForm n)) = false) := by first | exact hr | (rw [← HL.out]; exact hr)
      have HB := (show Hid (Below _ _ _) from hB)
      clear hr hB
      unfold errV
      go_wp2_with fail
      go_ret2
      exact ⟨HB.out, .inr ⟨HR.out, _, _, rfl⟩⟩
  · refine (p_readBegin n HF.out w _ us r (HT.out _ _ (by omega) (by intro hh; first | rfl | (exfalso; omega))) HA1.out hlen).mono ?_
    rintro e w2 ⟨hB, ⟨hr, T, x, rfl⟩ | ⟨hr, v, es, rfl⟩⟩
    · have HR : Hid ((!r.isEmpty && r.all (Pl.isForm n)) = true) := by first | exact hr | (rw [← HL.out]; exact hr)
      have HB := (show Hid (Below _ _ _) from hB)
      clear hr hB
      go_wp2_with fail
      go_ret2
      exact ⟨HB.out, .inl ⟨HR.out, _, _, rfl⟩⟩
    · have HR : Hid ((!r.isEmpty && r.all (Pl.isForm n)) = false) := by first | exact hr | (rw [← HL.out]; exact hr)
      have HB := (show Hid (Below _ _ _) from hB)
      clear hr hB
      unfold errV
      go_wp2_with fail
      go_ret2
      exact ⟨HB.out, .inr ⟨HR.out, _, _, rfl⟩⟩
set_option maxHeartbeats 1000000 in
set_option maxRecDepth 100000 in
theorem p_list_set (n : Nat) (hF : FSaid n) (w : World) (sl : Value) (u : Value) (us : List Value) (t : Tr) (r : List Tr) (hS : SlOf w sl (u :: us)) (hA : AllP n w (u :: us) (t :: r)) (hk : kwOf (t :: r) = [115, 101, 116, 33]) :
    Calls Tryz.prog 25 #[sl] w fun e w' => FPost (Pl.asgOk (Pl.isForm n) r) w e w' := by
  have hkw := p_keywordOf OkA n sl (u :: us) (t :: r) w w hS hA.1 (fun u' x' hu hx => hA.2 0 u' x' (by simpa using hu) (by simpa using hx))
  rw [hk] at hkw
  have HA1 : Hid (AllP n w us r) := ⟨by have := hA.1; simpa using this, fun i u' x' hu hx => hA.2 (i + 1) u' x' (by simpa using hu) (by simpa using hx)⟩
  have HL : Hid (us.length = r.length) := HA1.out.1
  obtain ⟨g, off, cap, rfl, hcap, hg, c0, _⟩ := hS.cell0
  have HK := (show Hid (∀ L c, L = us.length + 1 → c = cap → Calls Tryz.prog 11 #[.slice (some ⟨g, off, none⟩) L c] w fun e w' => e = .returned (.string ⟨([115, 101, 116, 33] : List UInt8).toArray⟩) ∧ w = w') from by rintro _ _ rfl rfl; exact hkw)
  have HT : Hid (∀ (ao : Option Addr) (c : Nat), us.length ≤ c → (us.length ≠ 0 → ao = some ⟨g, off + 1, none⟩) → SlOf w (.slice ao us.length c) us) := fun ao c h1 h2 => hS.tail us.length rfl ao c h1 h2
  have HF := (show Hid (FSaid n) from hF)
  have hz : ((us.length : Int) + 1 == 0) = false := by simp; omega
  clear hS hA hkw hk hF
  go_enter Tryz.func25, Tryz.ntmps25
  go_wp2_with (go_at_call 11; refine (HK.out _ _ (by omega) (by omega)).mono ?_; rintro e w' ⟨rfl, rfl⟩)
  · refine (p_readSet n HF.out w _ us r (HT.out _ _ (by omega) (by intro hh; first | rfl | (exfalso; omega))) HA1.out).mono ?_
    rintro e w2 ⟨hB, ⟨hr, T, x, rfl⟩ | ⟨hr, v, es, rfl⟩⟩
    · have HR : Hid ((Pl.asgOk (Pl.isForm n) r) = true) := by first | exact hr | (rw [← HL.out]; exact hr)
      have HB := (show Hid (Below _ _ _) from hB)
      clear hr hB
      go_wp2_with fail
      go_ret2
      exact ⟨HB.out, .inl ⟨HR.out, _, _, rfl⟩⟩
    · have HR : Hid ((Pl.asgOk (Pl.isForm n) r) = false) := by first | exact hr | (rw [← HL.out]; exact hr)
      have HB := (show Hid (Below _ _ _) from hB)
      clear hr hB
      unfold errV
      go_wp2_with fail
      go_ret2
      exact ⟨HB.out, .inr ⟨HR.out, _, _, rfl⟩⟩
  · refine (p_readSet n HF.out w _ us r (HT.out _ _ (by omega) (by intro hh; first | rfl | (exfalso; omega))) HA1.out).mono ?_
    rintro e w2 ⟨hB, ⟨hr, T, x, rfl⟩ | ⟨hr, v, es, rfl⟩⟩
    · have HR : Hid ((Pl.asgOk (Pl.isForm n) r) = true) := by first | exact hr | (rw [← HL.out]; exact hr)
      have HB := (show Hid (Below _ _ _) from hB)
      clear hr hB
      go_wp2_with fail
      go_ret2
      exact ⟨HB.out, .inl ⟨HR.out, _, _, rfl⟩⟩
    · have HR : Hid ((Pl.asgOk (Pl.isForm n) r) = false) := by first | exact hr | (rw [← HL.out]; exact hr)
      have HB := (show Hid (Below _ _ _) from hB)
      clear hr hB
      unfold errV
      go_wp2_with fail
      go_ret2
      exact ⟨HB.out, .inr ⟨HR.out, _, _, rfl⟩⟩
set_option maxHeartbeats 1000000 in
set_option maxRecDepth 100000 in
theorem p_list_lambda (n : Nat) (hF : FSaid n) (w : World) (sl : Value) (u : Value) (us : List Value) (t : Tr) (r : List Tr) (hS : SlOf w sl (u :: us)) (hA : AllP n w (u :: us) (t :: r)) (hk : kwOf (t :: r) = [108, 97, 109, 98, 100, 97]) :
    Calls Tryz.prog 25 #[sl] w fun e w' => FPost (Pl.lam2 (Pl.isForm n) r) w e w' := by
  have hkw := p_keywordOf OkA n sl (u :: us) (t :: r) w w hS hA.1 (fun u' x' hu hx => hA.2 0 u' x' (by simpa using hu) (by simpa using hx))
  rw [hk] at hkw
  have HA1 : Hid (AllP n w us r) := ⟨by have := hA.1; simpa using this, fun i u' x' hu hx => hA.2 (i + 1) u' x' (by simpa using hu) (by simpa using hx)⟩
  have HL : Hid (us.length = r.length) := HA1.out.1
  obtain ⟨g, off, cap, rfl, hcap, hg, c0, _⟩ := hS.cell0
  have HK := (show Hid (∀ L c, L = us.length + 1 → c = cap → Calls Tryz.prog 11 #[.slice (some ⟨g, off, none⟩) L c] w fun e w' => e = .returned (.string ⟨([108, 97, 109, 98, 100, 97] : List UInt8).toArray⟩) ∧ w = w') from by rintro _ _ rfl rfl; exact hkw)
  have HT : Hid (∀ (ao : Option Addr) (c : Nat), us.length ≤ c → (us.length ≠ 0 → ao = some ⟨g, off + 1, none⟩) → SlOf w (.slice ao us.length c) us) := fun ao c h1 h2 => hS.tail us.length rfl ao c h1 h2
  have HF := (show Hid (FSaid n) from hF)
  have hz : ((us.length : Int) + 1 == 0) = false := by simp; omega
  clear hS hA hkw hk hF
  go_enter Tryz.func25, Tryz.ntmps25
  go_wp2_with (go_at_call 11; refine (HK.out _ _ (by omega) (by omega)).mono ?_; rintro e w' ⟨rfl, rfl⟩)
  · refine (p_readLambda n HF.out w _ us r (HT.out _ _ (by omega) (by intro hh; first | rfl | (exfalso; omega))) HA1.out).mono ?_
    rintro e w2 ⟨hB, ⟨hr, T, x, rfl⟩ | ⟨hr, v, es, rfl⟩⟩
    · have HR : Hid ((Pl.lam2 (Pl.isForm n) r) = true) := by first | exact hr | (rw [← HL.out]; exact hr)
      have HB := (show Hid (Below _ _ _) from hB)
      clear hr hB
      go_wp2_with fail
      go_ret2
      exact ⟨HB.out, .inl ⟨HR.out, _, _, rfl⟩⟩
    · have HR : Hid ((Pl.lam2 (Pl.isForm n) r) = false) := by first | exact hr | (rw [← HL.out]; exact hr)
      have HB := (show Hid (Below _ _ _) from hB)
      clear hr hB
      unfold errV
      go_wp2_with fail
      go_ret2
      exact ⟨HB.out, .inr ⟨HR.out, _, _, rfl⟩⟩
  · refine (p_readLambda n HF.out w _ us r (HT.out _ _ (by omega) (by intro hh; first | rfl | (exfalso; omega))) HA1.out).mono ?_
    rintro e w2 ⟨hB, ⟨hr, T, x, rfl⟩ | ⟨hr, v, es, rfl⟩⟩
    · have HR : Hid ((Pl.lam2 (Pl.isForm n) r) = true) := by first | exact hr | (rw [← HL.out]; exact hr)
      have HB := (show Hid (Below _ _ _) from hB)
      clear hr hB
      go_wp2_with fail
      go_ret2
      exact ⟨HB.out, .inl ⟨HR.out, _, _, rfl⟩⟩
    · have HR : Hid ((Pl.lam2 (Pl.isForm n) r) = false) := by first | exact hr | (rw [← HL.out]; exact hr)
      have HB := (show Hid (Below _ _ _) from hB)
      clear hr hB
      unfold errV
      go_wp2_with fail
      go_ret2
      exact ⟨HB.out, .inr ⟨HR.out, _, _, rfl⟩⟩
set_option maxHeartbeats 1000000 in
set_option maxRecDepth 100000 in
theorem p_list_let (n : Nat) (hF : FSaid n) (hLm : LamSaid n)(w : World) (sl : Value) (u : Value) (us : List Value) (t : Tr) (r : List Tr) (hS : SlOf w sl (u :: us)) (hA : AllP n w (u :: us) (t :: r)) (hk : kwOf (t :: r) = [108, 101, 116]) :
    Calls Tryz.prog 25 #[sl] w fun e w' => FPost (Pl.let2 (Pl.isForm n) r) w e w' := by
  have hkw := p_keywordOf OkA n sl (u :: us) (t :: r) w w hS hA.1 (fun u' x' hu hx => hA.2 0 u' x' (by simpa using hu) (by simpa using hx))
  rw [hk] at hkw
  have HA1 : Hid (AllP n w us r) := ⟨by have := hA.1; simpa using this, fun i u' x' hu hx => hA.2 (i + 1) u' x' (by simpa using hu) (by simpa using hx)⟩
  have HL : Hid (us.length = r.length) := HA1.out.1
  obtain ⟨g, off, cap, rfl, hcap, hg, c0, _⟩ := hS.cell0
  have HK := (show Hid (∀ L c, L = us.length + 1 → c = cap → Calls Tryz.prog 11 #[.slice (some ⟨g, off, none⟩) L c] w fun e w' => e = .returned (.string ⟨([108, 101, 116] : List UInt8).toArray⟩) ∧ w = w') from by rintro _ _ rfl rfl; exact hkw)
  have HT : Hid (∀ (ao : Option Addr) (c : Nat), us.length ≤ c → (us.length ≠ 0 → ao = some ⟨g, off + 1, none⟩) → SlOf w (.slice ao us.length c) us) := fun ao c h1 h2 => hS.tail us.length rfl ao c h1 h2
  have HF := (show Hid (FSaid n) from hF)
  have hz : ((us.length : Int) + 1 == 0) = false := by simp; omega
  clear hS hA hkw hk hF
  go_enter Tryz.func25, Tryz.ntmps25
  go_wp2_with (go_at_call 11; refine (HK.out _ _ (by omega) (by omega)).mono ?_; rintro e w' ⟨rfl, rfl⟩)
  · refine (p_readLet n HF.out hLm w _ us r (HT.out _ _ (by omega) (by intro hh; first | rfl | (exfalso; omega))) HA1.out).mono ?_
    rintro e w2 ⟨hB, ⟨hr, T, x, rfl⟩ | ⟨hr, v, es, rfl⟩⟩
    · have HR : Hid ((Pl.let2 (Pl.isForm n) r) = true) := by first | exact hr | (rw [← HL.out]; exact hr)
      have HB := (show Hid (Below _ _ _) from hB)
      clear hr hB
      go_wp2_with fail
      go_ret2
      exact ⟨HB.out, .inl ⟨HR.out, _, _, rfl⟩⟩
    · have HR : Hid ((Pl.let2 (Pl.isForm n) r) = false) := by first | exact hr | (rw [← HL.out]; exact hr)
      have HB := (show Hid (Below _ _ _) from hB)
      clear hr hB
      unfold errV
      go_wp2_with fail
      go_ret2
      exact ⟨HB.out, .inr ⟨HR.out, _, _, rfl⟩⟩
  · refine (p_readLet n HF.out hLm w _ us r (HT.out _ _ (by omega) (by intro hh; first | rfl | (exfalso; omega))) HA1.out).mono ?_
    rintro e w2 ⟨hB, ⟨hr, T, x, rfl⟩ | ⟨hr, v, es, rfl⟩⟩
    · have HR : Hid ((Pl.let2 (Pl.isForm n) r) = true) := by first | exact hr | (rw [← HL.out]; exact hr)
      have HB := (show Hid (Below _ _ _) from hB)
      clear hr hB
      go_wp2_with fail
      go_ret2
      exact ⟨HB.out, .inl ⟨HR.out, _, _, rfl⟩⟩
    · have HR : Hid ((Pl.let2 (Pl.isForm n) r) = false) := by first | exact hr | (rw [← HL.out]; exact hr)
      have HB := (show Hid (Below _ _ _) from hB)
      clear hr hB
      unfold errV
      go_wp2_with fail
      go_ret2
      exact ⟨HB.out, .inr ⟨HR.out, _, _, rfl⟩⟩
end Go.Proofs.YtkfbhjinmpdfnaaGreatDoor

/- The program's readList and readForm. -/
namespace Go.Proofs.YtkfbhjinmpdfnaaGreatDoor
open Go.RowKit


set_option maxHeartbeats 1000000 in
set_option maxRecDepth 100000 in
theorem p_list_define (n : Nat) (w : World) (sl : Value) (u : Value) (us : List Value) (t : Tr) (r : List Tr) (hS : SlOf w sl (u :: us)) (hA : AllP n w (u :: us) (t :: r)) (hk : kwOf (t :: r) = [100, 101, 102, 105, 110, 101]) :
    Calls Tryz.prog 25 #[sl] w fun e w' => FPost false w e w' := by
  have hkw := p_keywordOf OkA n sl (u :: us) (t :: r) w w hS hA.1 (fun u' x' hu hx => hA.2 0 u' x' (by simpa using hu) (by simpa using hx))
  rw [hk] at hkw
  obtain ⟨g, off, cap, rfl, hcap, hg, c0, _⟩ := hS.cell0
  have HK := (show Hid (∀ L c, L = us.length + 1 → c = cap → Calls Tryz.prog 11 #[.slice (some ⟨g, off, none⟩) L c] w fun e w' => e = .returned (.string ⟨([100, 101, 102, 105, 110, 101] : List UInt8).toArray⟩) ∧ w = w') from by rintro _ _ rfl rfl; exact hkw)
  have hz : ((us.length : Int) + 1 == 0) = false := by simp; omega
  clear hS hA hkw hk
  go_enter Tryz.func25, Tryz.ntmps25
  go_wp2_with (first | (go_at_call 11; refine (HK.out _ _ (by omega) (by omega)).mono ?_; rintro e w' ⟨rfl, rfl⟩) | (go_at_call 38; refine (p_noForm _ _).mono ?_; rintro e w' ⟨rfl, rfl⟩))
  · go_ret2
    exact ⟨Below.refl _ _, .inr ⟨rfl, _, _, rfl⟩⟩
  · go_ret2
    exact ⟨Below.refl _ _, .inr ⟨rfl, _, _, rfl⟩⟩
set_option maxHeartbeats 1000000 in
set_option maxRecDepth 100000 in
theorem p_list_call (n : Nat) (hF : FSaid n) (w : World) (sl : Value) (u : Value) (us : List Value) (t : Tr) (r : List Tr) (hS : SlOf w sl (u :: us)) (hA : AllP n w (u :: us) (t :: r)) (hlen : (t :: r).length ≤ 1000) (hk : kwOf (t :: r) = []) :
    Calls Tryz.prog 25 #[sl] w fun e w' => FPost ((t :: r).all (Pl.isForm n)) w e w' := by
  have hkw := p_keywordOf OkA n sl (u :: us) (t :: r) w w hS hA.1 (fun u' x' hu hx => hA.2 0 u' x' (by simpa using hu) (by simpa using hx))
  rw [hk] at hkw
  have hcl := p_readCall w sl (u :: us) ((t :: r).map (Pl.isForm n)) hS (by simpa using hA.1) (by rw [List.length_map]; omega) hA.iface (fun i v x hv hr => by
    rw [List.getElem?_map, Option.map_eq_some_iff] at hr
    obtain ⟨x, hx, rfl⟩ := hr
    exact hF.call (hA.2 i v x hv hx))
  rw [all_map_id] at hcl
  obtain ⟨g, off, cap, rfl, hcap, hg, c0, _⟩ := hS.cell0
  have HK := (show Hid (∀ L c, L = us.length + 1 → c = cap → Calls Tryz.prog 11 #[.slice (some ⟨g, off, none⟩) L c] w fun e w' => e = .returned (.string ⟨([] : List UInt8).toArray⟩) ∧ w = w') from by rintro _ _ rfl rfl; exact hkw)
  have HCl := (show Hid (∀ L c, L = us.length + 1 → c = cap → Calls Tryz.prog 45 #[.slice (some ⟨g, off, none⟩) L c] w fun e w' => FPost ((t :: r).all (Pl.isForm n)) w e w') from by rintro _ _ rfl rfl; exact hcl)
  have hz : ((us.length : Int) + 1 == 0) = false := by simp; omega
  clear hS hA hkw hk hcl hF
  go_enter Tryz.func25, Tryz.ntmps25
  go_wp2_with (go_at_call 11; refine (HK.out _ _ (by omega) (by omega)).mono ?_; rintro e w' ⟨rfl, rfl⟩)
  · refine (HCl.out _ _ (by omega) (by omega)).mono ?_
    rintro e w2 ⟨hB, ⟨hr, T, x, rfl⟩ | ⟨hr, v, es, rfl⟩⟩
    · have HR := (show Hid _ from hr)
      have HB := (show Hid (Below _ _ _) from hB)
      clear hr hB
      go_wp2_with fail
      go_ret2
      exact ⟨HB.out, .inl ⟨HR.out, _, _, rfl⟩⟩
    · have HR := (show Hid _ from hr)
      have HB := (show Hid (Below _ _ _) from hB)
      clear hr hB
      unfold errV
      go_wp2_with fail
      go_ret2
      exact ⟨HB.out, .inr ⟨HR.out, _, _, rfl⟩⟩
  · refine (HCl.out _ _ (by omega) (by omega)).mono ?_
    rintro e w2 ⟨hB, ⟨hr, T, x, rfl⟩ | ⟨hr, v, es, rfl⟩⟩
    · have HR := (show Hid _ from hr)
      have HB := (show Hid (Below _ _ _) from hB)
      clear hr hB
      go_wp2_with fail
      go_ret2
      exact ⟨HB.out, .inl ⟨HR.out, _, _, rfl⟩⟩
    · have HR := (show Hid _ from hr)
      have HB := (show Hid (Below _ _ _) from hB)
      clear hr hB
      unfold errV
      go_wp2_with fail
      go_ret2
      exact ⟨HB.out, .inr ⟨HR.out, _, _, rfl⟩⟩
set_option maxHeartbeats 1000000 in
set_option maxRecDepth 100000 in
theorem p_list_nil (w : World) (sl : Value) (hS : SlOf w sl []) :
    Calls Tryz.prog 25 #[sl] w fun e w' => FPost false w e w' := by
  obtain ⟨ao, cap, rfl, _⟩ := hS
  go_enter Tryz.func25, Tryz.ntmps25
  go_wp2_with (go_at_call 38; refine (p_noForm _ _).mono ?_; rintro e w' ⟨rfl, rfl⟩)
  go_ret2
  exact ⟨Below.refl _ _, .inr ⟨rfl, _, _, rfl⟩⟩
theorem headKw_kw {ts : List Tr} {h : List UInt8} (hk : Pl.headKw ts = some h) : Pl.kwB h = true := by
  unfold Pl.headKw at hk
  split at hk
  · split at hk
    · obtain rfl := Option.some.inj hk; assumption
    · simp at hk
  · simp at hk
theorem p_readList (n : Nat) (hF : FSaid n) (hLm : LamSaid n) (w : World) (sl : Value) (vs : List Value) (ts : List Tr) (hS : SlOf w sl vs) (hA : AllP n w vs ts) (hlen : ts.length ≤ 1000) :
    Calls Tryz.prog 25 #[sl] w fun e w' => FPost (Pl.listForm (Pl.isForm n) ts) w e w' := by
  match vs, ts, hA.1 with
  | [], [], _ => exact p_list_nil w sl hS
  | u :: us, t :: r, _ =>
    have hr : r.length ≤ 1000 := by simp at hlen; omega
    have hd : Pl.listForm (Pl.isForm n) (t :: r) = (match Pl.headKw (t :: r) with | some h => Pl.keyForm (Pl.isForm n) h r | none => Pl.isForm n t && r.all (Pl.isForm n)) := rfl
    rw [hd]
    cases hk : Pl.headKw (t :: r) with
    | none =>
      have hk2 : kwOf (t :: r) = [] := by unfold kwOf; rw [hk]
      exact p_list_call n hF w sl u us t r hS hA hlen hk2
    | some h =>
      have hk2 : kwOf (t :: r) = h := by unfold kwOf; rw [hk]
      rcases kwB_true (headKw_kw hk) with rfl | rfl | rfl | rfl | rfl | rfl | rfl
      · exact p_list_quote n hF w sl u us t r hS hA hk2
      · exact p_list_if n hF w sl u us t r hS hA hr hk2
      · exact p_list_lambda n hF w sl u us t r hS hA hk2
      · exact p_list_set n hF w sl u us t r hS hA hk2
      · exact p_list_define n w sl u us t r hS hA hk2
      · exact p_list_begin n hF w sl u us t r hS hA hr hk2
      · exact p_list_let n hF hLm w sl u us t r hS hA hk2
set_option maxHeartbeats 1000000 in
set_option maxRecDepth 100000 in
theorem p_form_list (w : World) (sl : Value) (vs : List Value) (hS : SlOf w sl vs) (b : Bool) (h : Calls Tryz.prog 25 #[sl] w fun e w' => FPost b w e w') :
    Calls Tryz.prog 13 #[.iface 41 sl] w fun e w' => FPost b w e w' := by
  have as4 := Tryz.asList_List
  obtain ⟨ao, cap, rfl, _⟩ := hS
  have HH := (show Hid _ from h)
  clear h
  go_enter Tryz.func13, Tryz.ntmps13
  go_wp2_with fail
  refine Calls.mono HH.out ?_
  rintro e w2 ⟨hB, ⟨hr, T, x, rfl⟩ | ⟨hr, v, es, rfl⟩⟩
  · have HR := (show Hid _ from hr)
    have HB := (show Hid (Below _ _ _) from hB)
    clear hr hB
    go_wp2_with fail
    go_ret2
    exact ⟨HB.out, .inl ⟨HR.out, _, _, rfl⟩⟩
  · have HR := (show Hid _ from hr)
    have HB := (show Hid (Below _ _ _) from hB)
    clear hr hB
    unfold errV
    go_wp2_with fail
    go_ret2
    exact ⟨HB.out, .inr ⟨HR.out, _, _, rfl⟩⟩
set_option maxHeartbeats 1000000 in
set_option maxRecDepth 100000 in
theorem p_form_const (w : World) (T : TypeId) (x : Value) (hT : T = 130 ∨ T = 129) :
    Calls Tryz.prog 13 #[.iface T x] w fun e w' => FPost true w e w' := by
  have as1 := Tryz.asNumber_Name
  have as2 := Tryz.asTruth_Name
  have as3 := Tryz.asNumber_List
  have as4 := Tryz.asTruth_List
  rcases hT with rfl | rfl
  · go_enter Tryz.func13, Tryz.ntmps13
    go_wp2_with fail
    go_ret2
    exact ⟨Below.refl _ _, .inl ⟨rfl, _, _, rfl⟩⟩
  · go_enter Tryz.func13, Tryz.ntmps13
    go_wp2_with fail
    go_ret2
    exact ⟨Below.refl _ _, .inl ⟨rfl, _, _, rfl⟩⟩
set_option maxHeartbeats 1000000 in
set_option maxRecDepth 100000 in
theorem p_form_name (w : World) (s : List UInt8) :
    Calls Tryz.prog 13 #[.iface 43 (.string ⟨s.toArray⟩)] w fun e w' => FPost (!Pl.kwB s) w e w' := by
  have as1 := Tryz.asName_Name
  have as2 := Tryz.asName_List
  go_enter Tryz.func13, Tryz.ntmps13
  go_wp2_with fail
  refine (p_readName OkA 1 _ (.lit (.string s)) w w rfl).mono ?_
  rintro e w' ⟨rfl, ⟨hn, rfl⟩ | ⟨hn, v, es, rfl⟩⟩
  · have HR : Hid ((!Pl.kwB s) = true) := hn
    unfold nmV
    clear hn
    go_wp2_with fail
    go_ret2
    exact ⟨Below.refl _ _, .inl ⟨HR.out, _, _, rfl⟩⟩
  · have HR : Hid ((!Pl.kwB s) = false) := hn
    unfold errV
    clear hn
    go_wp2_with fail
    go_ret2
    exact ⟨Below.refl _ _, .inr ⟨HR.out, _, _, rfl⟩⟩
theorem p_lam (n : Nat) (hF : FSaid n) : LamSaid n := by
  intro w v a b h
  obtain ⟨sl, vs, rfl, hS, hl, _, hA⟩ := h.list
  refine p_form_list w sl vs hS _ ?_
  match vs, hl with
  | [u0, u1, u2], _ => exact p_list_lambda n hF w sl u0 [u1, u2] _ _ hS ⟨rfl, hA⟩ rfl
theorem p_form : ∀ n, FSaid n
  | 0 => fun _ _ _ h => h.elim
  | n + 1 => by
    intro w v t h
    have hF := p_form n
    match t, h with
    | .lit (.int _ _), h => obtain ⟨k, rfl, _⟩ := h; exact p_form_const w _ _ (.inl rfl)
    | .lit (.bool _), h => obtain rfl := h; exact p_form_const w _ _ (.inr rfl)
    | .lit (.string s), h => obtain rfl := h; exact p_form_name w s
    | .agg ts, h =>
      obtain ⟨sl, vs, rfl, hS, hl, hlen, hA⟩ := RepP.list h
      exact p_form_list w sl vs hS _ (p_readList n hF (p_lam n hF) w sl vs ts hS ⟨hl, hA⟩ hlen)
end Go.Proofs.YtkfbhjinmpdfnaaGreatDoor
