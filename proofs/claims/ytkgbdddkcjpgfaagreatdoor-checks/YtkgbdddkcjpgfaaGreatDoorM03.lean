/- The reference's small functions on bytes. -/
import Derived.Test.YtkgbdddkcjpgfaaGreatDoorProg
import Derived.Test.YtkgbdddkcjpgfaaGreatDoorM02
import Derived.WalkKit
import Derived.WalkSpells
import Derived.WalkLawsBesides
namespace Go.Proofs.YtkgbdddkcjpgfaaGreatDoor
open Go.RowKit

theorem ret_bool {a b : Bool} (h : a = b) : Ending.returned (.bool a) = .returned (.bool b) := by rw [h]

set_option maxHeartbeats 400000 in
theorem ref_isDigit (c : UInt8) (w : World) :
    Calls Tryz.prog 119 #[.int .u8 (c.toNat : Int)] w fun e w' => e = .returned (.bool (Pl.isDig c)) ∧ w = w' := by
  by_cases h1 : (48 : Int) ≤ c.toNat
  · by_cases h2 : (c.toNat : Int) ≤ 57
    · go_enter Tryz.func119, Tryz.ntmps119
      go_wp2
      go_ret
      exact ⟨by simp [Pl.isDig]; omega, rfl⟩
    · go_enter Tryz.func119, Tryz.ntmps119
      go_wp2
      go_ret
      exact ⟨by simp [Pl.isDig]; omega, rfl⟩
  · go_enter Tryz.func119, Tryz.ntmps119
    go_wp2
    go_ret
    exact ⟨by simp [Pl.isDig]; omega, rfl⟩

set_option maxHeartbeats 400000 in
theorem ref_inWord (c : UInt8) (w : World) :
    Calls Tryz.prog 70 #[.int .u8 (c.toNat : Int)] w fun e w' => e = .returned (.bool (Pl.inW c)) ∧ w = w' := by
  go_enter Tryz.func70, Tryz.ntmps70
  go_wp2
  go_loop [4] (fun i => ∃ k : Nat, k ≤ 9 ∧ i = .int .i64 k ∧ c ∉ Pl.signs.take k) (fun i => 9 - (intOf i).toNat)
  case atStart => exact ⟨0, Nat.zero_le _, rfl, by simp⟩
  case round =>
    obtain ⟨k, hk, rfl, hn⟩ := hrel
    by_cases hlt : k < 9
    · by_cases hc : Pl.signs[k]'hlt = c
      · have hs : ((Pl.signs[k]'hlt).toNat : Int) == (c.toNat : Int) := by rw [Pl.toNat_beq]; simp [hc]
        have hs2 : ((ByteArray.mk #[43, 45, 42, 47, 60, 61, 62, 63, 33])[k].toNat : Int) == (c.toNat : Int) := hs
        have hin : Pl.inW c = true := Pl.inW_sign c (hc ▸ List.getElem_mem _)
        clear hs hn hc
        go_wp2
        go_ret
        exact ⟨rfl, rfl⟩
      · have hs : (((Pl.signs[k]'hlt).toNat : Int) == (c.toNat : Int)) = false := by rw [Pl.toNat_beq]; simp [hc]
        have hs2 : (((ByteArray.mk #[43, 45, 42, 47, 60, 61, 62, 63, 33])[k].toNat : Int) == (c.toNat : Int)) = false := hs
        have hn2 := Pl.take_step Pl.signs c k hlt hn hc
        clear hs hn hc
        go_wp2
        exact ⟨⟨k + 1, by omega, by go_num, hn2⟩, by simp [intOf]; omega⟩
    · have hn2 : c ∉ Pl.signs := by rwa [List.take_of_length_le (by simp [Pl.signs]; omega)] at hn
      have hin : Hid (Pl.inW c = (Pl.low c || Pl.isDig c)) := Pl.inW_else c hn2
      clear hn hn2
      by_cases h1 : (97 : Int) ≤ c.toNat
      · by_cases h2 : (c.toNat : Int) ≤ 122
        · go_wp2
          go_ret
          exact ⟨ret_bool (by rw [hin.out, Pl.low_yes c h1 h2]; rfl), rfl⟩
        · have hl : Hid (Pl.low c = false) := Pl.low_no c (by omega)
          go_wp2_with (go_at_call 119; refine (ref_isDigit c _).mono ?_; rintro e w' ⟨rfl, rfl⟩)
          go_ret
          exact ⟨ret_bool (by rw [hin.out, hl.out]; rfl), rfl⟩
      · have hl : Hid (Pl.low c = false) := Pl.low_no c (by omega)
        go_wp2_with (go_at_call 119; refine (ref_isDigit c _).mono ?_; rintro e w' ⟨rfl, rfl⟩)
        go_ret
        exact ⟨ret_bool (by rw [hin.out, hl.out]; rfl), rfl⟩
end Go.Proofs.YtkgbdddkcjpgfaaGreatDoor

/- The reference's tokens: what it answers for every text of at most 1000 bytes. -/
namespace Go.Proofs.YtkgbdddkcjpgfaaGreatDoor
open Go.RowKit

def strV (l : List UInt8) : Value := .string ⟨l.toArray⟩
theorem Tryz.infoStr : (Tryz.prog.info? 9).map (fun i => (i.zero, i.size, i.bytes)) = some (some (.string ByteArray.empty), 1, 16) := by kernel_rfl
theorem extract_strV (s : ByteArray) (i k : Nat) : Value.string (s.extract i k) = strV ((s.data.toList.drop i).take (k - i)) := by
  unfold strV
  congr 1
  apply ByteArray.ext
  rw [ByteArray.data_extract]
  apply Array.toList_inj.1
  simp [Array.toList_extract, List.extract_eq_take_drop]
theorem data_get (s : ByteArray) (k : Nat) (h : k < s.size) : s.data.toList[k]'(by simpa using h) = s[k] := by rw [Array.getElem_toList]; rfl

def boolN : Value → Nat | .bool true => 1 | _ => 0
theorem b32 (c : UInt8) : ((c.toNat : Int) == 32) = (c == 32) := Pl.toNat_beq c 32
theorem b10 (c : UInt8) : ((c.toNat : Int) == 10) = (c == 10) := Pl.toNat_beq c 10
theorem b35 (c : UInt8) : ((c.toNat : Int) == 35) = (c == 35) := Pl.toNat_beq c 35
theorem b116 (c : UInt8) : ((c.toNat : Int) == 116) = (c == 116) := Pl.toNat_beq c 116
theorem b102 (c : UInt8) : ((c.toNat : Int) == 102) = (c == 102) := Pl.toNat_beq c 102
theorem b40 (c : UInt8) : ((c.toNat : Int) == 40) = (c == 40) := Pl.toNat_beq c 40
theorem b41 (c : UInt8) : ((c.toNat : Int) == 41) = (c == 41) := Pl.toNat_beq c 41
theorem b39 (c : UInt8) : ((c.toNat : Int) == 39) = (c == 39) := Pl.toNat_beq c 39
theorem b45 (c : UInt8) : ((c.toNat : Int) == 45) = (c == 45) := Pl.toNat_beq c 45

def TokPost (bs : List UInt8) (w : World) (e : Ending) (w' : World) : Prop :=
  ∃ v b, e = .returned (.tuple #[v, .bool b]) ∧ Below w.heap.size w w' ∧
    ((Pl.toks bs = none ∧ b = false) ∨ ∃ l, Pl.toks bs = some l ∧ b = true ∧ w'.ownsRow w.heap.size 9 1 v l.length (l.map strV))

theorem tok_own {w wr w3 : World} {s : ByteArray} {k m : Nat} {pre : List (List UInt8)} {v v' : Value} {o : Obj} (HO : wr.ownsRow w.heap.size 9 1 v pre.length (pre.map strV)) (HB : Below w.heap.size w wr)
    (hown' : w3.ownsRow w.heap.size 9 1 v' (pre.length + 1) (pre.map strV ++ [Value.string (s.extract k m)])) (hg : (wr.alloc o).grownBy w3 v.ownBlock) :
    Hid (w3.ownsRow w.heap.size 9 1 v' (pre ++ [(s.data.toList.drop k).take (m - k)]).length ((pre ++ [(s.data.toList.drop k).take (m - k)]).map strV)) ∧ Hid (Below w.heap.size w w3) := by
  constructor
  · show w3.ownsRow _ _ _ _ _ _
    rw [extract_strV] at hown'
    simpa using hown'
  · exact (HB.alloc HB.size o).grown hg (by have := HB.size; simp; omega) (fun j hj => (HO.lt j hj).1)

set_option maxHeartbeats 1000000 in
set_option maxRecDepth 100000 in
theorem ref_tokens (s : ByteArray) (w : World) (hs : s.size ≤ 1000) :
    Calls Tryz.prog 69 #[.string s] w fun e w' => TokPost s.data.toList w e w' := by
  obtain ⟨i0, hi, hz0, hz1, hz2⟩ := info_parts Tryz.infoStr
  go_enter Tryz.func69, Tryz.ntmps69
  go_wp2
  go_loopw [4, 5] (fun v i wr => ∃ (k : Nat) (pre : List (List UInt8)), k ≤ s.size ∧ pre.length ≤ k ∧ i = .int .i64 k ∧ Hid (Pl.From s.data.toList pre k) ∧ Hid (wr.ownsRow w.heap.size 9 1 v pre.length (pre.map strV)) ∧ Hid (Below w.heap.size w wr))
    (fun _ i _ => s.size - (intOf i).toNat)
  case atStart => exact ⟨0, [], Nat.zero_le _, Nat.zero_le _, rfl, Pl.From.start _, World.ownsRow_nil _ _ _ _, Below.refl _ _⟩
  case round =>
    obtain ⟨k, pre, hk, hpk, rfl, HF, HO, HB⟩ := hrel
    by_cases hlt : k < s.size
    · have hkl : k < s.data.toList.length := by simpa using hlt
      have hd := data_get s k hlt
      by_cases hb : Pl.blank (s[k]'hlt) = true
      · have HF2 : Hid (Pl.From s.data.toList pre (k + 1)) := HF.out.blank hkl (by rw [hd]; exact hb)
        clear HF hkl hd
        by_cases h32 : (s[k]'hlt == 32) = true
        · have q1 : (((s[k]'hlt).toNat : Int) == 32) = true := by rw [b32]; exact h32
          clear h32 hb
          go_wp2_with (go_at_call 70; refine (ref_inWord (s[k]'hlt) _).mono ?_; rintro e w' ⟨rfl, rfl⟩)
          exact ⟨⟨k + 1, pre, by omega, by omega, by go_num, HF2, HO, HB⟩, by simp [intOf]; omega⟩
        · have q1 : (((s[k]'hlt).toNat : Int) == 32) = false := by rw [b32]; simpa using h32
          have q2 : (((s[k]'hlt).toNat : Int) == 10) = true := by rw [b10]; simpa [Pl.blank, h32] using hb
          clear h32 hb
          go_wp2_with (go_at_call 70; refine (ref_inWord (s[k]'hlt) _).mono ?_; rintro e w' ⟨rfl, rfl⟩)
          exact ⟨⟨k + 1, pre, by omega, by omega, by go_num, HF2, HO, HB⟩, by simp [intOf]; omega⟩
      · have hb0 : Pl.blank (s[k]'hlt) = false := by simpa using hb
        have hb1 := hb0
        simp only [Pl.blank, Bool.or_eq_false_iff] at hb1
        have q1 : (((s[k]'hlt).toNat : Int) == 32) = false := by rw [b32]; exact hb1.1
        have q2 : (((s[k]'hlt).toNat : Int) == 10) = false := by rw [b10]; exact hb1.2
        clear hb1 hb
        by_cases h35 : (s[k]'hlt == 35) = true
        · have q3 : (((s[k]'hlt).toNat : Int) == 35) = true := by rw [b35]; exact h35
          by_cases h2 : s.size < k + 2
          · have he : Hid (Pl.toks s.data.toList = none) := HF.out.none_ (by
              rw [Pl.drop_at _ _ hkl, hd, List.drop_of_length_le (by simp; omega), (by simpa using h35 : s[k]'hlt = 35)]; exact Pl.toks_hash0)
            clear HF hkl hd h35 hb0
            go_wp2_with (go_at_call 70; refine (ref_inWord (s[k]'hlt) _).mono ?_; rintro e w' ⟨rfl, rfl⟩)
            go_ret2
            exact ⟨_, false, rfl, HB.out, .inl ⟨he.out, rfl⟩⟩
          · have hlt2 : k + 1 < s.size := by omega
            have hd2 := data_get s (k + 1) hlt2
            have hkl2 : k + 1 < s.data.toList.length := by simpa using hlt2
            have q5 : decide ((s.size : Int) < (k : Int) + 2) = false := by simp; omega
            by_cases htf : (s[k + 1]'hlt2 == 116 || s[k + 1]'hlt2 == 102) = true
            · have HF2 : Hid (Pl.From s.data.toList (pre ++ [(s.data.toList.drop k).take (k + 2 - k)]) (k + 2)) := HF.out.more (by
                rw [Pl.drop_at _ _ hkl, Pl.drop_at _ _ hkl2, hd, hd2, (by simpa using h35 : s[k]'hlt = 35), Pl.toks_hash _ _ htf]
                simp)
              clear HF hkl hd h35 hb0 hkl2 hd2
              by_cases h116 : (s[k + 1]'hlt2 == 116) = true
              · have q4 : (((s[k + 1]'hlt2).toNat : Int) != 116) = false := by rw [bne, show (((s[k + 1]'hlt2).toNat : Int) == 116) = true from by rw [b116]; exact h116]; rfl
                clear h116 htf
                go_wp2_with (first | (go_at_call 70; refine (ref_inWord (s[k]'hlt) _).mono ?_; rintro e w' ⟨rfl, rfl⟩) | (at_builtin; refine wpList_append_own _ rfl _ _ 131 rfl w.heap.size 9 i0 (.string ByteArray.empty) 1 16 Tryz.underlying131 hi hz0 hz1 hz2 rfl (by decide) u4 pre.length (pre.map strV) rfl (HO.out.alloc _) ⟨wr.heap.size, 0, none⟩ 1 1 [.string _] rfl rfl (cell_one_new _ _ _) (fun x hx => by simp at hx; subst hx; rfl) (by unfold maxLen; omega) (by omega) (by have := HB.out.size; simp; omega) ?_; intro v' w3 hown' hgrow3 _))
                obtain ⟨a1, a2⟩ := tok_own HO.out HB.out hown' hgrow3
                exact ⟨⟨k + 2, _, by omega, by simp; omega, by go_num, HF2, a1, a2⟩, by simp [intOf]; omega⟩
              · have q4 : (((s[k + 1]'hlt2).toNat : Int) != 116) = true := by rw [bne, show (((s[k + 1]'hlt2).toNat : Int) == 116) = false from by rw [b116]; simpa using h116]; rfl
                have q6 : (((s[k + 1]'hlt2).toNat : Int) != 102) = false := by rw [bne, show (((s[k + 1]'hlt2).toNat : Int) == 102) = true from by rw [b102]; simpa [h116] using htf]; rfl
                clear h116 htf
                go_wp2_with (first | (go_at_call 70; refine (ref_inWord (s[k]'hlt) _).mono ?_; rintro e w' ⟨rfl, rfl⟩) | (at_builtin; refine wpList_append_own _ rfl _ _ 131 rfl w.heap.size 9 i0 (.string ByteArray.empty) 1 16 Tryz.underlying131 hi hz0 hz1 hz2 rfl (by decide) u4 pre.length (pre.map strV) rfl (HO.out.alloc _) ⟨wr.heap.size, 0, none⟩ 1 1 [.string _] rfl rfl (cell_one_new _ _ _) (fun x hx => by simp at hx; subst hx; rfl) (by unfold maxLen; omega) (by omega) (by have := HB.out.size; simp; omega) ?_; intro v' w3 hown' hgrow3 _))
                obtain ⟨a1, a2⟩ := tok_own HO.out HB.out hown' hgrow3
                exact ⟨⟨k + 2, _, by omega, by simp; omega, by go_num, HF2, a1, a2⟩, by simp [intOf]; omega⟩
            · have htf0 : (s[k + 1]'hlt2 == 116 || s[k + 1]'hlt2 == 102) = false := by simpa using htf
              have he : Hid (Pl.toks s.data.toList = none) := HF.out.none_ (by
                rw [Pl.drop_at _ _ hkl, Pl.drop_at _ _ hkl2, hd, hd2, (by simpa using h35 : s[k]'hlt = 35), Pl.toks_hashno _ _ htf0])
              simp only [Bool.or_eq_false_iff] at htf0
              have q4 : (((s[k + 1]'hlt2).toNat : Int) != 116) = true := by rw [bne, show (((s[k + 1]'hlt2).toNat : Int) == 116) = false from by rw [b116]; exact htf0.1]; rfl
              have q6 : (((s[k + 1]'hlt2).toNat : Int) != 102) = true := by rw [bne, show (((s[k + 1]'hlt2).toNat : Int) == 102) = false from by rw [b102]; exact htf0.2]; rfl
              clear HF hkl hd h35 hb0 hkl2 hd2 htf htf0
              go_wp2_with (go_at_call 70; refine (ref_inWord (s[k]'hlt) _).mono ?_; rintro e w' ⟨rfl, rfl⟩)
              go_ret2
              exact ⟨_, false, rfl, HB.out, .inl ⟨he.out, rfl⟩⟩
        · have h350 : (s[k]'hlt == 35) = false := by simpa using h35
          have q3 : (((s[k]'hlt).toNat : Int) == 35) = false := by rw [b35]; exact h350
          by_cases hw : Pl.inW (s[k]'hlt) = true
          · have HK : Hid (k < s.data.toList.length) := hkl
            have HD : Hid (Pl.inW (s.data.toList[k]'hkl) = true) := by rw [hd]; exact hw
            clear hd h35 h350 hb0
            go_wp2_with (go_at_call 70; refine (ref_inWord (s[k]'hlt) _).mono ?_; rintro e w' ⟨rfl, rfl⟩)
            go_loopw [6, 9] (fun kk mo wq => ∃ (m : Nat) (b : Bool), k + 1 ≤ m ∧ m ≤ s.size ∧ kk = .int .i64 m ∧ mo = .bool b ∧ wr = wq ∧ Hid (∀ j (h : j < s.data.toList.length), k < j → j < m → Pl.inW s.data.toList[j] = true) ∧ Hid (b = false → ∀ h : m < s.data.toList.length, Pl.inW s.data.toList[m] = false))
              (fun kk mo _ => s.size - (intOf kk).toNat + boolN mo)
            case atStart => exact ⟨k + 1, true, Nat.le_refl _, by omega, by go_num, rfl, rfl, fun j h h1 h2 => by omega, fun h => by cases h⟩
            case round =>
              obtain ⟨m, b, hkm, hms, rfl, rfl, rfl, HA, HN⟩ := hrel
              by_cases hb : b = true
              · subst hb
                by_cases hm2 : m < s.size
                · have hdm := data_get s m hm2
                  have hml : m < s.data.toList.length := by simpa using hm2
                  by_cases hwm : Pl.inW (s[m]'hm2) = true
                  · have HA2 : Hid (∀ j (h : j < s.data.toList.length), k < j → j < m + 1 → Pl.inW s.data.toList[j] = true) := by
                      intro j h h1 h2
                      by_cases hj : j = m
                      · subst hj; rw [hdm]; exact hwm
                      · exact HA.out j h h1 (by omega)
                    clear hdm hml HA HN HF HD HK hkl
                    go_wp2_with (go_at_call 70; refine (ref_inWord (s[m]'hm2) _).mono ?_; rintro e w' ⟨rfl, rfl⟩)
                    exact ⟨⟨m + 1, true, by omega, by omega, by go_num, by simp, trivial, HA2, fun h => by cases h⟩, by simp [intOf, boolN]; omega⟩
                  · have hwm0 : Pl.inW (s[m]'hm2) = false := by simpa using hwm
                    have HN2 : Hid (∀ h : m < s.data.toList.length, Pl.inW s.data.toList[m] = false) := fun h => by rw [hdm]; exact hwm0
                    clear hdm hml HN HF HD HK hkl hwm
                    go_wp2_with (go_at_call 70; refine (ref_inWord (s[m]'hm2) _).mono ?_; rintro e w' ⟨rfl, rfl⟩)
                    exact ⟨⟨m, false, by omega, by omega, rfl, by simp, trivial, HA, fun _ => HN2.out⟩, by simp [intOf, boolN]⟩
                · have HF2 : Hid (Pl.From s.data.toList (pre ++ [(s.data.toList.drop k).take (m - k)]) m) := HF.out.word HK.out HD.out hkm (by simpa using hms) HA.out (fun h => by simp at h; omega)
                  clear HA HN HF HD HK hkl
                  go_wp2_with (first | (at_builtin; refine wpList_append_own _ rfl _ _ 131 rfl w.heap.size 9 i0 (.string ByteArray.empty) 1 16 Tryz.underlying131 hi hz0 hz1 hz2 rfl (by decide) u4 pre.length (pre.map strV) rfl (HO.out.alloc _) ⟨wr.heap.size, 0, none⟩ 1 1 [.string _] rfl rfl (cell_one_new _ _ _) (fun x hx => by simp at hx; subst hx; rfl) (by unfold maxLen; omega) (by omega) (by have := HB.out.size; simp; omega) ?_; intro v' w3 hown' hgrow3 _))
                  obtain ⟨a1, a2⟩ := tok_own HO.out HB.out hown' hgrow3
                  exact ⟨⟨m, _, by omega, by simp; omega, by go_num, HF2, a1, a2⟩, by simp [intOf]; omega⟩
              · have hb0 : b = false := by simpa using hb
                subst hb0
                have HF2 : Hid (Pl.From s.data.toList (pre ++ [(s.data.toList.drop k).take (m - k)]) m) := HF.out.word HK.out HD.out hkm (by simpa using hms) HA.out (HN.out rfl)
                clear HA HN HF HD HK hkl
                go_wp2_with (first | (at_builtin; refine wpList_append_own _ rfl _ _ 131 rfl w.heap.size 9 i0 (.string ByteArray.empty) 1 16 Tryz.underlying131 hi hz0 hz1 hz2 rfl (by decide) u4 pre.length (pre.map strV) rfl (HO.out.alloc _) ⟨wr.heap.size, 0, none⟩ 1 1 [.string _] rfl rfl (cell_one_new _ _ _) (fun x hx => by simp at hx; subst hx; rfl) (by unfold maxLen; omega) (by omega) (by have := HB.out.size; simp; omega) ?_; intro v' w3 hown' hgrow3 _))
                obtain ⟨a1, a2⟩ := tok_own HO.out HB.out hown' hgrow3
                exact ⟨⟨m, _, by omega, by simp; omega, by go_num, HF2, a1, a2⟩, by simp [intOf]; omega⟩
          · have hw0 : Pl.inW (s[k]'hlt) = false := by simpa using hw
            by_cases hp : Pl.punct (s[k]'hlt) = true
            · have HF2 : Hid (Pl.From s.data.toList (pre ++ [(s.data.toList.drop k).take (k + 1 - k)]) (k + 1)) := HF.out.more (by
                rw [Pl.drop_at _ _ hkl, hd, Pl.toks_punct _ _ hw0 hp]
                simp)
              simp only [Pl.punct, Bool.or_eq_true, beq_iff_eq] at hp
              clear HF hkl hd h35 h350 hb0 hw
              rcases hp with (hp | hp) | hp
              · have q4 : (((s[k]'hlt).toNat : Int) != 40) = false := by rw [bne, show (((s[k]'hlt).toNat : Int) == 40) = true from by rw [b40]; simpa using hp]; rfl
                clear hp
                go_wp2_with (first | (go_at_call 70; refine (ref_inWord (s[k]'hlt) _).mono ?_; rintro e w' ⟨rfl, rfl⟩) | (at_builtin; refine wpList_append_own _ rfl _ _ 131 rfl w.heap.size 9 i0 (.string ByteArray.empty) 1 16 Tryz.underlying131 hi hz0 hz1 hz2 rfl (by decide) u4 pre.length (pre.map strV) rfl (HO.out.alloc _) ⟨wr.heap.size, 0, none⟩ 1 1 [.string _] rfl rfl (cell_one_new _ _ _) (fun x hx => by simp at hx; subst hx; rfl) (by unfold maxLen; omega) (by omega) (by have := HB.out.size; simp; omega) ?_; intro v' w3 hown' hgrow3 _))
                obtain ⟨a1, a2⟩ := tok_own HO.out HB.out hown' hgrow3
                exact ⟨⟨k + 1, _, by omega, by simp; omega, by go_num, HF2, a1, a2⟩, by simp [intOf]; omega⟩
              · have q4 : (((s[k]'hlt).toNat : Int) != 40) = true := by rw [bne, show (((s[k]'hlt).toNat : Int) == 40) = false from by rw [b40]; simp [hp]]; rfl
                have q5 : (((s[k]'hlt).toNat : Int) != 41) = false := by rw [bne, show (((s[k]'hlt).toNat : Int) == 41) = true from by rw [b41]; simpa using hp]; rfl
                clear hp
                go_wp2_with (first | (go_at_call 70; refine (ref_inWord (s[k]'hlt) _).mono ?_; rintro e w' ⟨rfl, rfl⟩) | (at_builtin; refine wpList_append_own _ rfl _ _ 131 rfl w.heap.size 9 i0 (.string ByteArray.empty) 1 16 Tryz.underlying131 hi hz0 hz1 hz2 rfl (by decide) u4 pre.length (pre.map strV) rfl (HO.out.alloc _) ⟨wr.heap.size, 0, none⟩ 1 1 [.string _] rfl rfl (cell_one_new _ _ _) (fun x hx => by simp at hx; subst hx; rfl) (by unfold maxLen; omega) (by omega) (by have := HB.out.size; simp; omega) ?_; intro v' w3 hown' hgrow3 _))
                obtain ⟨a1, a2⟩ := tok_own HO.out HB.out hown' hgrow3
                exact ⟨⟨k + 1, _, by omega, by simp; omega, by go_num, HF2, a1, a2⟩, by simp [intOf]; omega⟩
              · have q4 : (((s[k]'hlt).toNat : Int) != 40) = true := by rw [bne, show (((s[k]'hlt).toNat : Int) == 40) = false from by rw [b40]; simp [hp]]; rfl
                have q5 : (((s[k]'hlt).toNat : Int) != 41) = true := by rw [bne, show (((s[k]'hlt).toNat : Int) == 41) = false from by rw [b41]; simp [hp]]; rfl
                have q6 : (((s[k]'hlt).toNat : Int) != 39) = false := by rw [bne, show (((s[k]'hlt).toNat : Int) == 39) = true from by rw [b39]; simpa using hp]; rfl
                clear hp
                go_wp2_with (first | (go_at_call 70; refine (ref_inWord (s[k]'hlt) _).mono ?_; rintro e w' ⟨rfl, rfl⟩) | (at_builtin; refine wpList_append_own _ rfl _ _ 131 rfl w.heap.size 9 i0 (.string ByteArray.empty) 1 16 Tryz.underlying131 hi hz0 hz1 hz2 rfl (by decide) u4 pre.length (pre.map strV) rfl (HO.out.alloc _) ⟨wr.heap.size, 0, none⟩ 1 1 [.string _] rfl rfl (cell_one_new _ _ _) (fun x hx => by simp at hx; subst hx; rfl) (by unfold maxLen; omega) (by omega) (by have := HB.out.size; simp; omega) ?_; intro v' w3 hown' hgrow3 _))
                obtain ⟨a1, a2⟩ := tok_own HO.out HB.out hown' hgrow3
                exact ⟨⟨k + 1, _, by omega, by simp; omega, by go_num, HF2, a1, a2⟩, by simp [intOf]; omega⟩
            · have hp0 : Pl.punct (s[k]'hlt) = false := by simpa using hp
              have he : Hid (Pl.toks s.data.toList = none) := HF.out.none_ (by
                rw [Pl.drop_at _ _ hkl, hd, Pl.toks_bad _ _ hb0 h350 hw0 hp0])
              simp only [Pl.punct, Bool.or_eq_false_iff] at hp0
              have q4 : (((s[k]'hlt).toNat : Int) != 40) = true := by rw [bne, show (((s[k]'hlt).toNat : Int) == 40) = false from by rw [b40]; exact hp0.1.1]; rfl
              have q5 : (((s[k]'hlt).toNat : Int) != 41) = true := by rw [bne, show (((s[k]'hlt).toNat : Int) == 41) = false from by rw [b41]; exact hp0.1.2]; rfl
              have q6 : (((s[k]'hlt).toNat : Int) != 39) = true := by rw [bne, show (((s[k]'hlt).toNat : Int) == 39) = false from by rw [b39]; exact hp0.2]; rfl
              clear HF hkl hd h35 h350 hb0 hw hp hp0
              go_wp2_with (go_at_call 70; refine (ref_inWord (s[k]'hlt) _).mono ?_; rintro e w' ⟨rfl, rfl⟩)
              go_ret2
              exact ⟨_, false, rfl, HB.out, .inl ⟨he.out, rfl⟩⟩
    · have he : Hid (Pl.toks s.data.toList = some pre) := HF.out.end_ (by simp; omega)
      go_wp2
      go_ret2
      exact ⟨_, true, rfl, HB.out, .inr ⟨pre, he.out, rfl, HO.out⟩⟩
end Go.Proofs.YtkgbdddkcjpgfaaGreatDoor
