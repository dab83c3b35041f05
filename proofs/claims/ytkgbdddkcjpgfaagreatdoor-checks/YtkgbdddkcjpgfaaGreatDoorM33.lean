/- The reference's form at lambda and let. -/
import Derived.Test.YtkgbdddkcjpgfaaGreatDoorM32
import Derived.Deep.RegionHeld3
namespace Go.Proofs.YtkgbdddkcjpgfaaGreatDoor
open Go.RowKit
theorem FormPost.one {w w' : World} {r : Bool} {e : Ending} (h : FormPost w r e w') : ∃ po, e = .returned (.pointer po) ∧ Below w.heap.size w w' ∧ ((r = true ∧ ∃ b, po = some ⟨b, 0, none⟩) ∨ (r = false ∧ po = none)) := by
  obtain ⟨hB, ⟨hr, b, rfl⟩ | ⟨hr, rfl⟩⟩ := h
  · exact ⟨_, rfl, hB, .inl ⟨hr, b, rfl⟩⟩
  · exact ⟨_, rfl, hB, .inr ⟨hr, rfl⟩⟩
set_option maxHeartbeats 4000000 in
set_option maxRecDepth 100000 in
theorem ref_form_lambda (n : Nat) (hF : FormSaid n) (ok : Nat → Prop) (w : World) (v : Value) (r : List Tr) (h : RepR ok (n + 1) w v (.agg (.lit (.string [108, 97, 109, 98, 100, 97]) :: r))) :
    Calls Tryz.prog 122 #[v] w fun e w' => FormPost w (Pl.isForm (n + 1) (.agg (.lit (.string [108, 97, 109, 98, 100, 97]) :: r))) e w' := by
  have HK : Hid (Pl.isForm (n + 1) (.agg (.lit (.string [108, 97, 109, 98, 100, 97]) :: r)) = Pl.lam2 (Pl.isForm n) r) := (kf n _ r (by decide)).trans rfl
  have HR := (show Hid (RepR ok (n + 1) w v (.agg ((.lit (.string [108, 97, 109, 98, 100, 97])) :: r))) from h)
  have HF := (show Hid (FormSaid n) from hF)
  have hlen : ((.lit (.string [108, 97, 109, 98, 100, 97])) :: r).length ≤ 1000 := h.short
  simp only [List.length_cons] at hlen
  obtain ⟨b, g, off, cap, u0, us, rfl, hb, ck, c3, hcap, hg, c0, hS, hlr, r0, hA, hA1⟩ := h.cons
  have HS := (show Hid (SlOf w (.slice (some ⟨g, off, none⟩) (r.length + 1) cap) (u0 :: us)) from hS)
  have HA := (show Hid (AllR n w (u0 :: us) ((.lit (.string [108, 97, 109, 98, 100, 97])) :: r)) from hA)
  have HA1 := (show Hid (AllR n w us r) from hA1)
  have HL := (show Hid (us.length = r.length) from hlr)
  obtain ⟨b0, rfl, hb0, ck0, cs0⟩ := r0.cellS
  have R0 := (show Hid (RepR ok n w _ (.lit (.string [108, 97, 109, 98, 100, 97]))) from r0)
  clear h hF hS hA hA1 hlr r0
  have ck1 : w.cell? ⟨b0, 0, none⟩ = some (.string ⟨#[110, 97, 109, 101]⟩) := ck0
  have cs1 : w.cell? ⟨b0, 2, none⟩ = some (.string ⟨([108, 97, 109, 98, 100, 97]).toArray⟩) := cs0
  clear ck0 cs0
  by_cases hl : r.length = 2
  · obtain ⟨t1, t2, rfl⟩ : ∃ t1 t2, r = [t1, t2] := by
      match r, hl with
      | [a, b], _ => exact ⟨a, b, rfl⟩
    obtain ⟨y1, y2, rfl⟩ : ∃ y1 y2, us = [y1, y2] := by
      match us, HL.out with
      | [a, b], _ => exact ⟨a, b, rfl⟩
    obtain ⟨g', off', cap', eS, _, _, _, hs⟩ := HS.out.cell0
    simp only [Value.slice.injEq, Option.some.injEq, Addr.mk.injEq, and_true] at eS
    obtain ⟨⟨rfl, rfl⟩, _, rfl⟩ := eS
    have k1 := hs 0 y1 rfl
    have k2 := hs 1 y2 rfl
    simp only [Nat.zero_add, List.length_cons, List.length_nil] at k1 k2 c3 hcap
    obtain ⟨hl1, okA, hA⟩ := HA1.out
    have r1 : RepR okA n w y1 t1 := hA 0 y1 t1 rfl rfl
    have r2 : RepR okA n w y2 t2 := hA 1 y2 t2 rfl rfl
    obtain ⟨d1, rfl⟩ := r1.ptr
    obtain ⟨d2, rfl⟩ := r2.ptr
    have R1 := (show Hid (RepR okA n w _ t1) from r1)
    have R2 := (show Hid (RepR okA n w _ t2) from r2)
    clear hs r1 r2 hA hl1 hl
    have e1 : Pl.isName (.agg ((.lit (.string [108, 97, 109, 98, 100, 97])) :: [t1, t2])) = false := rfl
    go_enter Tryz.func122, Tryz.ntmps122
    go_wp2_with fail
    refine (ref_free ok (n + 1) _ _ _ HR.out).mono ?_
    rintro e w1 ⟨rfl, hB1⟩
    obtain ⟨q1, _⟩ := bcell hB1
    have HB1 := (show Hid (Below w.heap.size w w1) from hB1)
    have hsz := hB1.size
    clear hB1
    go_wp2_with fail
    refine (ref_keyword [108, 97, 109, 98, 100, 97] _).mono ?_
    rintro e w2 ⟨rfl, hB2⟩
    have HB2 : Hid (Below w.heap.size w w2) := HB1.out.trans (hB2.mono hsz)
    obtain ⟨q2, _⟩ := bcell HB2.out
    have hsz2 := HB2.out.size
    rw [show Pl.kwB [108, 97, 109, 98, 100, 97] = true from by first | assumption | decide]
    clear hB2 q1 HB1 hsz
    go_wp2_with fail
    have j3 := (q2 b 3 hb).trans c3
    have j1 := (q2 g (off + 1) hg).trans k1
    have j2 := (q2 g (off + (1 + 1)) hg).trans k2
    go_region_held3 (fun w' => w'.cell? ⟨b, 3, none⟩ = some (.slice (some ⟨g, off, none⟩) 3 cap) ∧ w'.cell? ⟨g, off + 1, none⟩ = some (.pointer (some ⟨d1, 0, none⟩)) ∧ w'.cell? ⟨g, off + 2, none⟩ = some (.pointer (some ⟨d2, 0, none⟩)) ∧ Hid (Below w.heap.size w w'))
      (first
        | (go_split_ands
           exact ⟨by assumption, by assumption, by assumption, below_drew (by assumption)⟩)
        | exact ⟨j5, j6, j7, HB5⟩
        | go_keep)
      (first | (go_at_call 164; refine (ref_lambda n HF.out okA okA _ _ _ t1 t2 (R1.out.later HB2.out.drew) (R2.out.later HB2.out.drew)).mono ?_; rintro e w5 hp; obtain ⟨po, rfl, hB5, hcase⟩ := FormPost.one hp; have HB5 : Hid (Below w.heap.size w w5) := (HB2.out.drew.trans (hB5.mono hsz2)); have j5 := (HB5.out.cell (p := ⟨b, 3, none⟩) hb).trans c3; have j6 := (HB5.out.cell (p := ⟨g, off + 1, none⟩) hg).trans k1; have j7 := (HB5.out.cell (p := ⟨g, off + (1 + 1), none⟩) hg).trans k2))
    have HC := (show Hid _ from hcase)
    clear hcase hp j5 j6 j7 hB5
    go_wp2_with fail
    go_ret
    rcases HC.out with ⟨hr, bf, rfl⟩ | ⟨hr, rfl⟩
    · exact ⟨HB5.out, .inl ⟨HK.out.trans hr, _, rfl⟩⟩
    · exact ⟨HB5.out, .inr ⟨HK.out.trans hr, rfl⟩⟩
  · have hl2 : ((r.length : Int) + 1 == 3) = false := by simp; omega
    have HE : Hid (Pl.isForm (n + 1) (.agg (.lit (.string [108, 97, 109, 98, 100, 97]) :: r)) = false) := HK.out.trans (by
      unfold Pl.lam2
      split
      · simp at hl
      · rfl)
    clear hl
    have e1 : Pl.isName (.agg ((.lit (.string [108, 97, 109, 98, 100, 97])) :: r)) = false := rfl
    have hn0 : ((r.length : Int) + 1 == 0) = false := by simp; omega
    go_enter Tryz.func122, Tryz.ntmps122
    go_wp2_with fail
    refine (ref_free ok (n + 1) _ _ _ HR.out).mono ?_
    rintro e w1 ⟨rfl, hB1⟩
    obtain ⟨q1, _⟩ := bcell hB1
    have HB1 := (show Hid (Below w.heap.size w w1) from hB1)
    have hsz := hB1.size
    clear hB1
    go_wp2_with fail
    refine (ref_keyword [108, 97, 109, 98, 100, 97] _).mono ?_
    rintro e w2 ⟨rfl, hB2⟩
    have HB2 : Hid (Below w.heap.size w w2) := HB1.out.trans (hB2.mono hsz)
    obtain ⟨q2, _⟩ := bcell HB2.out
    have hsz2 := HB2.out.size
    rw [show Pl.kwB [108, 97, 109, 98, 100, 97] = true from by first | assumption | decide]
    clear hB2 q1 HB1 hsz
    go_wp2_with fail
    go_ret
    exact ⟨HB2.out, .inr ⟨HE.out, rfl⟩⟩
set_option maxHeartbeats 4000000 in
set_option maxRecDepth 100000 in
theorem ref_form_let (n : Nat) (hF : FormSaid n) (ok : Nat → Prop) (w : World) (v : Value) (r : List Tr) (h : RepR ok (n + 1) w v (.agg (.lit (.string [108, 101, 116]) :: r))) :
    Calls Tryz.prog 122 #[v] w fun e w' => FormPost w (Pl.isForm (n + 1) (.agg (.lit (.string [108, 101, 116]) :: r))) e w' := by
  have HK : Hid (Pl.isForm (n + 1) (.agg (.lit (.string [108, 101, 116]) :: r)) = Pl.let2 (Pl.isForm n) r) := (kf n _ r (by decide)).trans rfl
  have HR := (show Hid (RepR ok (n + 1) w v (.agg ((.lit (.string [108, 101, 116])) :: r))) from h)
  have HF := (show Hid (FormSaid n) from hF)
  have hlen : ((.lit (.string [108, 101, 116])) :: r).length ≤ 1000 := h.short
  simp only [List.length_cons] at hlen
  obtain ⟨b, g, off, cap, u0, us, rfl, hb, ck, c3, hcap, hg, c0, hS, hlr, r0, hA, hA1⟩ := h.cons
  have HS := (show Hid (SlOf w (.slice (some ⟨g, off, none⟩) (r.length + 1) cap) (u0 :: us)) from hS)
  have HA := (show Hid (AllR n w (u0 :: us) ((.lit (.string [108, 101, 116])) :: r)) from hA)
  have HA1 := (show Hid (AllR n w us r) from hA1)
  have HL := (show Hid (us.length = r.length) from hlr)
  obtain ⟨b0, rfl, hb0, ck0, cs0⟩ := r0.cellS
  have R0 := (show Hid (RepR ok n w _ (.lit (.string [108, 101, 116]))) from r0)
  clear h hF hS hA hA1 hlr r0
  have ck1 : w.cell? ⟨b0, 0, none⟩ = some (.string ⟨#[110, 97, 109, 101]⟩) := ck0
  have cs1 : w.cell? ⟨b0, 2, none⟩ = some (.string ⟨([108, 101, 116]).toArray⟩) := cs0
  clear ck0 cs0
  by_cases hl : r.length = 2
  · obtain ⟨t1, t2, rfl⟩ : ∃ t1 t2, r = [t1, t2] := by
      match r, hl with
      | [a, b], _ => exact ⟨a, b, rfl⟩
    obtain ⟨y1, y2, rfl⟩ : ∃ y1 y2, us = [y1, y2] := by
      match us, HL.out with
      | [a, b], _ => exact ⟨a, b, rfl⟩
    obtain ⟨g', off', cap', eS, _, _, _, hs⟩ := HS.out.cell0
    simp only [Value.slice.injEq, Option.some.injEq, Addr.mk.injEq, and_true] at eS
    obtain ⟨⟨rfl, rfl⟩, _, rfl⟩ := eS
    have k1 := hs 0 y1 rfl
    have k2 := hs 1 y2 rfl
    simp only [Nat.zero_add, List.length_cons, List.length_nil] at k1 k2 c3 hcap
    obtain ⟨hl1, okA, hA⟩ := HA1.out
    have r1 : RepR okA n w y1 t1 := hA 0 y1 t1 rfl rfl
    have r2 : RepR okA n w y2 t2 := hA 1 y2 t2 rfl rfl
    obtain ⟨d1, rfl⟩ := r1.ptr
    obtain ⟨d2, rfl⟩ := r2.ptr
    have R1 := (show Hid (RepR okA n w _ t1) from r1)
    have R2 := (show Hid (RepR okA n w _ t2) from r2)
    clear hs r1 r2 hA hl1 hl
    have e1 : Pl.isName (.agg ((.lit (.string [108, 101, 116])) :: [t1, t2])) = false := rfl
    go_enter Tryz.func122, Tryz.ntmps122
    go_wp2_with fail
    refine (ref_free ok (n + 1) _ _ _ HR.out).mono ?_
    rintro e w1 ⟨rfl, hB1⟩
    obtain ⟨q1, _⟩ := bcell hB1
    have HB1 := (show Hid (Below w.heap.size w w1) from hB1)
    have hsz := hB1.size
    clear hB1
    go_wp2_with fail
    refine (ref_keyword [108, 101, 116] _).mono ?_
    rintro e w2 ⟨rfl, hB2⟩
    have HB2 : Hid (Below w.heap.size w w2) := HB1.out.trans (hB2.mono hsz)
    obtain ⟨q2, _⟩ := bcell HB2.out
    have hsz2 := HB2.out.size
    rw [show Pl.kwB [108, 101, 116] = true from by first | assumption | decide]
    clear hB2 q1 HB1 hsz
    go_wp2_with fail
    have j3 := (q2 b 3 hb).trans c3
    have j1 := (q2 g (off + 1) hg).trans k1
    have j2 := (q2 g (off + (1 + 1)) hg).trans k2
    go_region_held3 (fun w' => w'.cell? ⟨b, 3, none⟩ = some (.slice (some ⟨g, off, none⟩) 3 cap) ∧ w'.cell? ⟨g, off + 1, none⟩ = some (.pointer (some ⟨d1, 0, none⟩)) ∧ w'.cell? ⟨g, off + 2, none⟩ = some (.pointer (some ⟨d2, 0, none⟩)) ∧ Hid (Below w.heap.size w w'))
      (first
        | (go_split_ands
           exact ⟨by assumption, by assumption, by assumption, below_drew (by assumption)⟩)
        | exact ⟨j5, j6, j7, HB5⟩
        | go_keep)
      (first | (go_at_call 165; refine (ref_let n HF.out okA okA _ _ _ t1 t2 (R1.out.later HB2.out.drew) (R2.out.later HB2.out.drew)).mono ?_; rintro e w5 hp; obtain ⟨po, rfl, hB5, hcase⟩ := FormPost.one hp; have HB5 : Hid (Below w.heap.size w w5) := (HB2.out.drew.trans (hB5.mono hsz2)); have j5 := (HB5.out.cell (p := ⟨b, 3, none⟩) hb).trans c3; have j6 := (HB5.out.cell (p := ⟨g, off + 1, none⟩) hg).trans k1; have j7 := (HB5.out.cell (p := ⟨g, off + (1 + 1), none⟩) hg).trans k2))
    have HC := (show Hid _ from hcase)
    clear hcase hp j5 j6 j7 hB5
    go_wp2_with fail
    go_ret
    rcases HC.out with ⟨hr, bf, rfl⟩ | ⟨hr, rfl⟩
    · exact ⟨HB5.out, .inl ⟨HK.out.trans hr, _, rfl⟩⟩
    · exact ⟨HB5.out, .inr ⟨HK.out.trans hr, rfl⟩⟩
  · have hl2 : ((r.length : Int) + 1 == 3) = false := by simp; omega
    have HE : Hid (Pl.isForm (n + 1) (.agg (.lit (.string [108, 101, 116]) :: r)) = false) := HK.out.trans (by
      unfold Pl.let2
      split
      · simp at hl
      · rfl)
    clear hl
    have e1 : Pl.isName (.agg ((.lit (.string [108, 101, 116])) :: r)) = false := rfl
    have hn0 : ((r.length : Int) + 1 == 0) = false := by simp; omega
    go_enter Tryz.func122, Tryz.ntmps122
    go_wp2_with fail
    refine (ref_free ok (n + 1) _ _ _ HR.out).mono ?_
    rintro e w1 ⟨rfl, hB1⟩
    obtain ⟨q1, _⟩ := bcell hB1
    have HB1 := (show Hid (Below w.heap.size w w1) from hB1)
    have hsz := hB1.size
    clear hB1
    go_wp2_with fail
    refine (ref_keyword [108, 101, 116] _).mono ?_
    rintro e w2 ⟨rfl, hB2⟩
    have HB2 : Hid (Below w.heap.size w w2) := HB1.out.trans (hB2.mono hsz)
    obtain ⟨q2, _⟩ := bcell HB2.out
    have hsz2 := HB2.out.size
    rw [show Pl.kwB [108, 101, 116] = true from by first | assumption | decide]
    clear hB2 q1 HB1 hsz
    go_wp2_with fail
    go_ret
    exact ⟨HB2.out, .inr ⟨HE.out, rfl⟩⟩

theorem headKw_some {k : Tr} {r : List Tr} {h : List UInt8} (hk : Pl.headKw (k :: r) = some h) : k = .lit (.string h) ∧ Pl.kwB h = true := by
  unfold Pl.headKw at hk
  split at hk
  · split at hk
    · rename_i h1 e h2
      simp only [List.cons.injEq] at e
      simp only [Option.some.injEq] at hk
      subst hk
      exact ⟨e.1, h2⟩
    · simp at hk
  · simp at hk
theorem ref_form : ∀ n : Nat, FormSaid n
  | 0 => fun _ _ _ _ h => h.elim
  | n + 1 => by
    intro ok w v t h
    by_cases hls : ∃ ts, t = .agg ts
    · obtain ⟨ts, rfl⟩ := hls
      cases ts with
      | nil => exact ref_form_nil n ok w v h
      | cons k r =>
        cases hk : Pl.headKw (k :: r) with
        | none => exact ref_form_call n (ref_form n) ok w v k r h hk
        | some hd =>
          obtain ⟨rfl, hkw⟩ := headKw_some hk
          have hm := (Pl.kwB_sound hd).1 hkw
          simp only [Pl.kws, List.mem_cons, List.not_mem_nil, or_false] at hm
          rcases hm with rfl | rfl | rfl | rfl | rfl | rfl | rfl
          · exact ref_form_quote n (ref_form n) ok w v r h
          · exact ref_form_if n (ref_form n) ok w v r h
          · exact ref_form_lambda n (ref_form n) ok w v r h
          · exact ref_form_set n (ref_form n) ok w v r h
          · exact ref_form_define n (ref_form n) ok w v r h
          · exact ref_form_begin n (ref_form n) ok w v r h
          · exact ref_form_let n (ref_form n) ok w v r h
    · exact ref_form_atom n ok w v t h hls
end Go.Proofs.YtkgbdddkcjpgfaaGreatDoor

/- The reference's top. -/
namespace Go.Proofs.YtkgbdddkcjpgfaaGreatDoor
open Go.RowKit
set_option maxHeartbeats 4000000 in
set_option maxRecDepth 100000 in
theorem ref_top (n : Nat) (ok : Nat → Prop) (w : World) (v : Value) (t : Tr) (h : RepR ok (n + 1) w v t) :
    Calls Tryz.prog 73 #[v] w fun e w' => FormPost w (Pl.isTop n t) e w' := by
  have HR := (show Hid (RepR ok (n + 1) w v t) from h)
  by_cases hls : ∃ ts, t = .agg ts
  · obtain ⟨ts, rfl⟩ := hls
    cases ts with
    | nil =>
      have HK : Hid (Pl.isTop n (.agg []) = Pl.isForm (n + 1) (.agg [])) := rfl
      obtain ⟨b, kids, vs, rfl, hb, ck, c3, hS, hl, _⟩ := h.list
      have ck2 : w.cell? ⟨b, 0, none⟩ = some (.string ⟨#[108, 105, 115, 116]⟩) := ck
      obtain ⟨ao, cap, rfl, _⟩ := hS
      rw [hl] at c3
      simp only [List.length_nil] at c3
      clear ck hl h
      go_enter Tryz.func73, Tryz.ntmps73
      go_wp2_with fail
      refine (ref_form (n + 1) ok _ _ _ HR.out).mono ?_
      rintro e w5 ⟨hB5, hcase⟩
      have HB5 := (show Hid (Below w.heap.size w w5) from hB5)
      rcases hcase with ⟨hf, bf, rfl⟩ | ⟨hf, rfl⟩
      · have HE := (show Hid (_ = true) from HK.out.trans hf)
        clear hB5 hf
        go_wp2_with fail
        go_ret
        exact ⟨HB5.out, .inl ⟨HE.out, _, rfl⟩⟩
      · have HE := (show Hid (_ = false) from HK.out.trans hf)
        clear hB5 hf
        go_wp2_with fail
        go_ret
        exact ⟨HB5.out, .inr ⟨HE.out, rfl⟩⟩
    | cons k r =>
      obtain ⟨b, g, off, cap, u0, us, rfl, hb, ck, c3, hcap, hg, c0, _, _, r0, _, _⟩ := h.cons
      have hpos : (0 : Int) < (r.length : Int) + 1 := by omega
      obtain ⟨b0, rfl, hb0, ck0, cs0⟩ := r0.cellS
      by_cases hnm : ∃ s, k = .lit (.string s)
      · obtain ⟨s, rfl⟩ := hnm
        have ck1 : w.cell? ⟨b0, 0, none⟩ = some (.string ⟨#[110, 97, 109, 101]⟩) := ck0
        have cs1 : w.cell? ⟨b0, 2, none⟩ = some (.string ⟨s.toArray⟩) := cs0
        clear ck0 cs0 h r0
        by_cases hd : s = [100, 101, 102, 105, 110, 101]
        · subst hd
          have HK : Hid (Pl.isTop n (.agg (.lit (.string [100, 101, 102, 105, 110, 101]) :: r)) = Pl.asgOk (Pl.isForm n) r) := rfl
          go_enter Tryz.func73, Tryz.ntmps73
          go_wp2_with fail
          refine (ref_assigned n (ref_form n) ok _ _ _ r HR.out).mono ?_
          rintro e w5 ⟨hB5, hcase⟩
          have HB5 := (show Hid (Below w.heap.size w w5) from hB5)
          rcases hcase with ⟨hf, bf, rfl⟩ | ⟨hf, rfl⟩
          · have HE := (show Hid (_ = true) from HK.out.trans hf)
            clear hB5 hf
            go_wp2_with fail
            go_ret
            exact ⟨HB5.out, .inl ⟨HE.out, _, rfl⟩⟩
          · have HE := (show Hid (_ = false) from HK.out.trans hf)
            clear hB5 hf
            go_wp2_with fail
            go_ret
            exact ⟨HB5.out, .inr ⟨HE.out, rfl⟩⟩
        · have HK : Hid (Pl.isTop n (.agg (.lit (.string s) :: r)) = Pl.isForm (n + 1) (.agg (.lit (.string s) :: r))) := by
            show Pl.isTop _ _ = _
            unfold Pl.isTop
            dsimp only
            rw [if_neg (show ¬ s = Pl.defineW from hd)]
          have ed : (s == [100, 101, 102, 105, 110, 101]) = false := by simpa using hd
          clear hd
          go_enter Tryz.func73, Tryz.ntmps73
          go_wp2_with fail
          refine (ref_form (n + 1) ok _ _ _ HR.out).mono ?_
          rintro e w5 ⟨hB5, hcase⟩
          have HB5 := (show Hid (Below w.heap.size w w5) from hB5)
          rcases hcase with ⟨hf, bf, rfl⟩ | ⟨hf, rfl⟩
          · have HE := (show Hid (_ = true) from HK.out.trans hf)
            clear hB5 hf
            go_wp2_with fail
            go_ret
            exact ⟨HB5.out, .inl ⟨HE.out, _, rfl⟩⟩
          · have HE := (show Hid (_ = false) from HK.out.trans hf)
            clear hB5 hf
            go_wp2_with fail
            go_ret
            exact ⟨HB5.out, .inr ⟨HE.out, rfl⟩⟩
      · have HK : Hid (Pl.isTop n (.agg (k :: r)) = Pl.isForm (n + 1) (.agg (k :: r))) := by
          show Pl.isTop _ _ = _
          unfold Pl.isTop
          split
          · rename_i h0 e
            simp only [DataW.agg.injEq, List.cons.injEq] at e
            exact absurd ⟨_, e.1⟩ hnm
          · rfl
        have hkk : ∃ kk : List UInt8, w.cell? ⟨b0, 0, none⟩ = some (.string ⟨kk.toArray⟩) ∧ (kk == [110, 97, 109, 101]) = false := by
          rcases r0.kinds with ⟨_, _, rfl⟩ | ⟨_, rfl⟩ | ⟨s, rfl⟩ | ⟨_, rfl⟩
          · exact ⟨[110, 117, 109, 98, 101, 114], ck0, by decide⟩
          · exact ⟨[116, 114, 117, 116, 104], ck0, by decide⟩
          · exact absurd ⟨s, rfl⟩ hnm
          · exact ⟨[108, 105, 115, 116], ck0, by decide⟩
        obtain ⟨kk, ck1, hkk0⟩ := hkk
        clear ck0 cs0 hnm h r0
        go_enter Tryz.func73, Tryz.ntmps73
        go_wp2_with fail
        refine (ref_form (n + 1) ok _ _ _ HR.out).mono ?_
        rintro e w5 ⟨hB5, hcase⟩
        have HB5 := (show Hid (Below w.heap.size w w5) from hB5)
        rcases hcase with ⟨hf, bf, rfl⟩ | ⟨hf, rfl⟩
        · have HE := (show Hid (_ = true) from HK.out.trans hf)
          clear hB5 hf
          go_wp2_with fail
          go_ret
          exact ⟨HB5.out, .inl ⟨HE.out, _, rfl⟩⟩
        · have HE := (show Hid (_ = false) from HK.out.trans hf)
          clear hB5 hf
          go_wp2_with fail
          go_ret
          exact ⟨HB5.out, .inr ⟨HE.out, rfl⟩⟩
  · have HK : Hid (Pl.isTop n t = Pl.isForm (n + 1) t) := by
      show Pl.isTop _ _ = _
      unfold Pl.isTop
      split
      · exact absurd ⟨_, rfl⟩ hls
      · rfl
    obtain ⟨kk, hkk, hk0⟩ := h.notList hls
    obtain ⟨b, rfl, hb, ck, cs⟩ := h.cellS
    rw [hkk] at ck
    clear hkk hls h cs
    go_enter Tryz.func73, Tryz.ntmps73
    go_wp2_with fail
    refine (ref_form (n + 1) ok _ _ _ HR.out).mono ?_
    rintro e w5 ⟨hB5, hcase⟩
    have HB5 := (show Hid (Below w.heap.size w w5) from hB5)
    rcases hcase with ⟨hf, bf, rfl⟩ | ⟨hf, rfl⟩
    · have HE := (show Hid (_ = true) from HK.out.trans hf)
      clear hB5 hf
      go_wp2_with fail
      go_ret
      exact ⟨HB5.out, .inl ⟨HE.out, _, rfl⟩⟩
    · have HE := (show Hid (_ = false) from HK.out.trans hf)
      clear hB5 hf
      go_wp2_with fail
      go_ret
      exact ⟨HB5.out, .inr ⟨HE.out, rfl⟩⟩
end Go.Proofs.YtkgbdddkcjpgfaaGreatDoor
