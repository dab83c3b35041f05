/- The program's syntax.Read. -/
import Derived.Test.YtkfbhjinmpdfnaaGreatDoorM24
namespace Go.Proofs.YtkfbhjinmpdfnaaGreatDoor
open Go.RowKit

def TopPost (w : World) (bs : List UInt8) (e : Ending) (w' : World) : Prop :=
  Below w.heap.size w w' ∧ ((Pl.check bs = 0 ∧ ∃ T x, e = .returned (.tuple #[.iface T x, .nilIface])) ∨ ∃ c : Nat, Pl.check bs = c ∧ 0 < c ∧ c ≤ 5 ∧ ∃ v s, e = .returned (.tuple #[v, errV s c]))
theorem isTop_define (n : Nat) (r : List Tr) : Pl.isTop n (.agg (.lit (.string Pl.defineW) :: r)) = Pl.asgOk (Pl.isForm n) r := by simp [Pl.isTop]
theorem kwOf_define (r : List Tr) : kwOf (.lit (.string Pl.defineW) :: r) = [100, 101, 102, 105, 110, 101] := rfl
theorem isTop_list {n : Nat} {ts : List Tr} (h : ¬ kwOf ts = [100, 101, 102, 105, 110, 101]) : Pl.isTop n (.agg ts) = Pl.isForm (n + 1) (.agg ts) := by
  unfold Pl.isTop
  split
  · rename_i h' r heq
    rw [DataW.agg.injEq] at heq
    subst heq
    rw [if_neg]
    rintro rfl
    exact h (kwOf_define r)
  · rfl
theorem isTop_atom {n : Nat} {t : Tr} (h : ¬ ∃ ts, t = .agg ts) : Pl.isTop n t = Pl.isForm (n + 1) t := by
  unfold Pl.isTop
  split
  · exact absurd ⟨_, rfl⟩ h
  · rfl
theorem kwOf_is {ts : List Tr} (h : kwOf ts = [100, 101, 102, 105, 110, 101]) : ∃ r, ts = .lit (.string Pl.defineW) :: r := by
  unfold kwOf at h
  cases hk : Pl.headKw ts with
  | none => rw [hk] at h; simp at h
  | some k =>
    rw [hk] at h
    dsimp only at h
    subst h
    unfold Pl.headKw at hk
    split at hk
    · split at hk
      · obtain rfl := Option.some.inj hk; exact ⟨_, rfl⟩
      · simp at hk
    · simp at hk
theorem top_code {b : Bool} {c : Nat} (h : c = if b = true then 0 else 5) : (b = true → c = 0) ∧ (b = false → c = 5) := by
  constructor
  · intro e; rw [e] at h; simpa using h
  · intro e; rw [e] at h; simpa using h

set_option maxHeartbeats 2000000 in
set_option maxRecDepth 100000 in
theorem p_sread (s : ByteArray) (w : World) (hge : GE w) :
    Calls Tryz.prog 7 #[.string s] w fun e w' => TopPost w s.data.toList e w' := by
  have as1 := Tryz.asNumber_List
  have as2 := Tryz.asTruth_List
  have as3 := Tryz.asName_List
  have as4 := Tryz.asList_List
  go_enter Tryz.func7, Tryz.ntmps7
  go_wp2_with fail
  refine (p_dread s w hge).mono ?_
  rintro e w1 ⟨hB1, hcase⟩
  have HB1 := (show Hid (Below _ _ _) from hB1)
  clear hB1 hge
  rcases hcase with ⟨c, es, hc, hc0, hc5, rfl⟩ | ⟨l, p, v, hs, hl, hp, hch, rfl, hrep⟩
  · have HR := (show Hid _ from hc)
    clear hc
    unfold errV
    go_wp2_with fail
    go_ret2
    exact ⟨HB1.out, .inr ⟨c, HR.out, hc0, hc5, _, _, rfl⟩⟩
  · obtain ⟨n, hn⟩ := pd_pos2 hp
    rw [hn] at hrep hch
    rw [Nat.add_sub_cancel] at hch
    have hcode := top_code hch
    clear hch hp hs hn hl
    by_cases hls : ∃ ts, p.t = .agg ts
    · obtain ⟨ts, hts⟩ := hls
      rw [hts] at hrep hcode
      obtain ⟨sl, vs, rfl, hS, hvl, hlen, hA⟩ := RepP.list hrep
      by_cases hk : kwOf ts = [100, 101, 102, 105, 110, 101]
      · obtain ⟨r, rfl⟩ := kwOf_is hk
        match vs, hvl with
        | u :: us, hvl =>
          have hkw := p_keywordOf OkA n sl (u :: us) _ w1 w1 hS hvl (fun u' x' hu hx => hA 0 u' x' (by simpa using hu) (by simpa using hx))
          rw [hk] at hkw
          rw [isTop_define] at hcode
          have HC := (show Hid _ from hcode)
          have HA1 : Hid (AllP n w1 us r) := ⟨by simpa using hvl, fun i u' x' hu hx => hA (i + 1) u' x' (by simpa using hu) (by simpa using hx)⟩
          obtain ⟨g, off, cap, rfl, hcap, hg, c0, _⟩ := hS.cell0
          have HK := (show Hid (∀ L c, L = us.length + 1 → c = cap → Calls Tryz.prog 11 #[.slice (some ⟨g, off, none⟩) L c] w1 fun e w' => e = .returned (.string ⟨([100, 101, 102, 105, 110, 101] : List UInt8).toArray⟩) ∧ w1 = w') from by rintro _ _ rfl rfl; exact hkw)
          have HT : Hid (∀ (ao : Option Addr) (c : Nat), us.length ≤ c → (us.length ≠ 0 → ao = some ⟨g, off + 1, none⟩) → SlOf w1 (.slice ao us.length c) us) := fun ao c h1 h2 => hS.tail us.length rfl ao c h1 h2
          clear hcode hkw hk hA hS hrep hvl hts
          go_wp2_with (go_at_call 11; refine (HK.out _ _ (by omega) (by omega)).mono ?_; rintro e w' ⟨rfl, rfl⟩)
          · refine (p_readDefine n (p_form n) w1 _ us r (HT.out _ _ (by omega) (by intro hh; first | rfl | (exfalso; omega))) HA1.out).mono ?_
            rintro e w3 ⟨hB, ⟨hr, T, x, rfl⟩ | ⟨hr, v, es, rfl⟩⟩
            · have HR := (show Hid _ from HC.out.1 hr)
              have HB : Hid (Below w.heap.size w w3) := HB1.out.trans (hB.mono HB1.out.size)
              clear hr hB
              go_wp2_with fail
              go_ret2
              exact ⟨HB.out, .inl ⟨HR.out, _, _, rfl⟩⟩
            · have HR := (show Hid _ from HC.out.2 hr)
              have HB : Hid (Below w.heap.size w w3) := HB1.out.trans (hB.mono HB1.out.size)
              clear hr hB
              unfold errV
              go_wp2_with fail
              go_ret2
              exact ⟨HB.out, .inr ⟨5, HR.out, by omega, by omega, _, _, rfl⟩⟩
          · refine (p_readDefine n (p_form n) w1 _ us r (HT.out _ _ (by omega) (by intro hh; first | rfl | (exfalso; omega))) HA1.out).mono ?_
            rintro e w3 ⟨hB, ⟨hr, T, x, rfl⟩ | ⟨hr, v, es, rfl⟩⟩
            · have HR := (show Hid _ from HC.out.1 hr)
              have HB : Hid (Below w.heap.size w w3) := HB1.out.trans (hB.mono HB1.out.size)
              clear hr hB
              go_wp2_with fail
              go_ret2
              exact ⟨HB.out, .inl ⟨HR.out, _, _, rfl⟩⟩
            · have HR := (show Hid _ from HC.out.2 hr)
              have HB : Hid (Below w.heap.size w w3) := HB1.out.trans (hB.mono HB1.out.size)
              clear hr hB
              unfold errV
              go_wp2_with fail
              go_ret2
              exact ⟨HB.out, .inr ⟨5, HR.out, by omega, by omega, _, _, rfl⟩⟩
      · rw [isTop_list hk] at hcode
        have hkw := p_keywordOf OkA n sl vs ts w1 w1 hS hvl (fun u' x' hu hx => hA 0 u' x' (by simpa [List.head?_eq_getElem?] using hu) (by simpa [List.head?_eq_getElem?] using hx))
        have hk1 : (kwOf ts == [100, 101, 102, 105, 110, 101]) = false := by simpa using hk
        have HC := (show Hid _ from hcode)
        have HRp := (show Hid (RepP OkA (n + 1) w1 (.iface 41 sl) (.agg ts)) from hrep)
        obtain ⟨ao, cap, rfl, _⟩ := hS
        have HK := (show Hid _ from hkw)
        generalize kwOf ts = kk at *
        clear hcode hkw hk hA hrep hvl hts
        go_wp2_with (go_at_call 11; refine (Calls.mono HK.out) ?_; rintro e w' ⟨rfl, rfl⟩)
        refine (p_form (n + 1) w1 _ (.agg ts) HRp.out).mono ?_
        rintro e w3 ⟨hB, ⟨hr, T, x, rfl⟩ | ⟨hr, v, es, rfl⟩⟩
        · have HR := (show Hid _ from HC.out.1 hr)
          have HB : Hid (Below w.heap.size w w3) := HB1.out.trans (hB.mono HB1.out.size)
          clear hr hB
          go_wp2_with fail
          go_ret2
          exact ⟨HB.out, .inl ⟨HR.out, _, _, rfl⟩⟩
        · have HR := (show Hid _ from HC.out.2 hr)
          have HB : Hid (Below w.heap.size w w3) := HB1.out.trans (hB.mono HB1.out.size)
          clear hr hB
          unfold errV
          go_wp2_with fail
          go_ret2
          exact ⟨HB.out, .inr ⟨5, HR.out, by omega, by omega, _, _, rfl⟩⟩
    · rw [isTop_atom hls] at hcode
      have HC := (show Hid _ from hcode)
      have HRp := (show Hid (RepP OkA (n + 1) w1 v p.t) from hrep)
      obtain ⟨y, hy⟩ := RepP.no_list hrep hls
      clear hcode hrep hls
      rcases hy with rfl | rfl | rfl
      · go_wp2_with fail
        refine (p_form (n + 1) w1 _ p.t HRp.out).mono ?_
        rintro e w3 ⟨hB, ⟨hr, T, x, rfl⟩ | ⟨hr, v, es, rfl⟩⟩
        · have HR := (show Hid _ from HC.out.1 hr)
          have HB : Hid (Below w.heap.size w w3) := HB1.out.trans (hB.mono HB1.out.size)
          clear hr hB
          go_wp2_with fail
          go_ret2
          exact ⟨HB.out, .inl ⟨HR.out, _, _, rfl⟩⟩
        · have HR := (show Hid _ from HC.out.2 hr)
          have HB : Hid (Below w.heap.size w w3) := HB1.out.trans (hB.mono HB1.out.size)
          clear hr hB
          unfold errV
          go_wp2_with fail
          go_ret2
          exact ⟨HB.out, .inr ⟨5, HR.out, by omega, by omega, _, _, rfl⟩⟩
      · go_wp2_with fail
        refine (p_form (n + 1) w1 _ p.t HRp.out).mono ?_
        rintro e w3 ⟨hB, ⟨hr, T, x, rfl⟩ | ⟨hr, v, es, rfl⟩⟩
        · have HR := (show Hid _ from HC.out.1 hr)
          have HB : Hid (Below w.heap.size w w3) := HB1.out.trans (hB.mono HB1.out.size)
          clear hr hB
          go_wp2_with fail
          go_ret2
          exact ⟨HB.out, .inl ⟨HR.out, _, _, rfl⟩⟩
        · have HR := (show Hid _ from HC.out.2 hr)
          have HB : Hid (Below w.heap.size w w3) := HB1.out.trans (hB.mono HB1.out.size)
          clear hr hB
          unfold errV
          go_wp2_with fail
          go_ret2
          exact ⟨HB.out, .inr ⟨5, HR.out, by omega, by omega, _, _, rfl⟩⟩
      · go_wp2_with fail
        refine (p_form (n + 1) w1 _ p.t HRp.out).mono ?_
        rintro e w3 ⟨hB, ⟨hr, T, x, rfl⟩ | ⟨hr, v, es, rfl⟩⟩
        · have HR := (show Hid _ from HC.out.1 hr)
          have HB : Hid (Below w.heap.size w w3) := HB1.out.trans (hB.mono HB1.out.size)
          clear hr hB
          go_wp2_with fail
          go_ret2
          exact ⟨HB.out, .inl ⟨HR.out, _, _, rfl⟩⟩
        · have HR := (show Hid _ from HC.out.2 hr)
          have HB : Hid (Below w.heap.size w w3) := HB1.out.trans (hB.mono HB1.out.size)
          clear hr hB
          unfold errV
          go_wp2_with fail
          go_ret2
          exact ⟨HB.out, .inr ⟨5, HR.out, by omega, by omega, _, _, rfl⟩⟩
end Go.Proofs.YtkfbhjinmpdfnaaGreatDoor
