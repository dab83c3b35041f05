/- The program's first token of a text. -/
import Derived.Test.YtkgbdddkcjpgfaaGreatDoorM11
import Derived.Test.YtkgbdddkcjpgfaaGreatDoorM04
import Derived.Deep.AppendLies
namespace Go.Proofs.YtkgbdddkcjpgfaaGreatDoor
open Go.RowKit

def kindT (t : List UInt8) : Int := if t = [40] then 0 else if t = [41] then 1 else if t = [39] then 2 else if t = [35, 116] ∨ t = [35, 102] then 3 else if Pl.isNum t then 4 else 5
/- A first token, or none. -/
def FTok (w : World) (r : Option (List UInt8)) (e : Ending) (w' : World) : Prop :=
  Below w.heap.size w w' ∧ ∃ (k : Int) (t : ByteArray) (b : Bool), e = .returned (.tuple #[.agg #[.int .i64 k, .string t], .bool b]) ∧
    ((r = none ∧ b = false) ∨ (b = true ∧ ∃ l, r = some l ∧ t.data.toList = l ∧ k = kindT l))
def truthTok (r : List UInt8) : Option (List UInt8) :=
  match r with
  | [] => none
  | d :: _ => if (d == 116 || d == 102) = true then some [35, d] else none
theorem ext2 (s : ByteArray) (k : Nat) (l : List UInt8) (h : s.data.toList.take k = l) : (s.extract 0 k).data.toList = l := by rw [extract_data]; simpa using h

set_option maxHeartbeats 1000000 in
set_option maxRecDepth 100000 in
theorem p_firstTruth (s : ByteArray) (w : World) (hs : s.size ≤ 1000) (r : List UInt8) (hr : s.data.toList = 35 :: r) :
    Calls Tryz.prog 184 #[.string s] w fun e w' => FTok w (truthTok r) e w' := by
  have hl : s.data.toList.length = s.size := by simp
  cases r with
  | nil =>
    rw [hr] at hl
    have h2 : ¬ (2 : Int) ≤ (s.size : Int) := by simp at hl; omega
    clear hl hr
    go_enter Tryz.func184, Tryz.ntmps184
    go_wp2
    exact bodyPost_ret (v := .tuple #[.agg #[.int .i64 0, .string (⟨#[]⟩ : ByteArray)], .bool false]) (by simp [results, Tryz.results184, go_sem]) rfl ⟨(Below.refl _ _).alloc (Nat.le_refl _) _, _, _, _, rfl, .inl ⟨rfl, rfl⟩⟩
  | cons d q =>
    rw [hr] at hl
    have h2 : 2 ≤ s.size := by simp at hl; omega
    have ht : s.data.toList.take 2 = [35, d] := by rw [hr]; rfl
    by_cases hd : d = 116
    · subst hd
      have q1 : ((s.extract 0 2).toList == [35, 116]) = true := by rw [ext_toList, ht]; rfl
      have HT := (show Hid (_ = _) from ext2 s 2 _ ht)
      clear hl hr ht
      go_enter Tryz.func184, Tryz.ntmps184
      go_wp2
      exact bodyPost_ret (v := .tuple #[.agg #[.int .i64 3, .string (s.extract 0 2)], .bool true]) (by simp [results, Tryz.results184, go_sem]) rfl ⟨(Below.refl _ _).alloc (Nat.le_refl _) _, _, _, _, rfl, .inr ⟨rfl, _, rfl, HT.out, rfl⟩⟩
    · have q1 : ((s.extract 0 2).toList == [35, 116]) = false := by rw [ext_toList, ht]; simpa using hd
      by_cases hd2 : d = 102
      · subst hd2
        have q2 : ((s.extract 0 2).toList == [35, 102]) = true := by rw [ext_toList, ht]; rfl
        have HT := (show Hid (_ = _) from ext2 s 2 _ ht)
        clear hl hr ht hd
        go_enter Tryz.func184, Tryz.ntmps184
        go_wp2
        exact bodyPost_ret (v := .tuple #[.agg #[.int .i64 3, .string (s.extract 0 2)], .bool true]) (by simp [results, Tryz.results184, go_sem]) rfl ⟨(Below.refl _ _).alloc (Nat.le_refl _) _, _, _, _, rfl, .inr ⟨rfl, _, rfl, HT.out, rfl⟩⟩
      · have q2 : ((s.extract 0 2).toList == [35, 102]) = false := by rw [ext_toList, ht]; simpa using hd2
        have hdd : (d == 116 || d == 102) = false := by simp [hd, hd2]
        have HN : Hid (truthTok (d :: q) = none) := show truthTok _ = none from by unfold truthTok; simp [hdd]
        clear hl hr ht hd hd2 hdd
        go_enter Tryz.func184, Tryz.ntmps184
        go_wp2
        exact bodyPost_ret (v := .tuple #[.agg #[.int .i64 0, .string (⟨#[]⟩ : ByteArray)], .bool false]) (by simp [results, Tryz.results184, go_sem]) rfl ⟨(Below.refl _ _).alloc (Nat.le_refl _) _, _, _, _, rfl, .inl ⟨HN.out, rfl⟩⟩

theorem word_no_sign (l : List UInt8) (h : ∀ c ∈ l, Pl.inW c = true) : ¬ l = [40] ∧ ¬ l = [41] ∧ ¬ l = [39] ∧ ¬ (l = [35, 116] ∨ l = [35, 102]) := by
  refine ⟨?_, ?_, ?_, ?_⟩
  · rintro rfl; exact absurd (h 40 (by simp)) (by decide)
  · rintro rfl; exact absurd (h 41 (by simp)) (by decide)
  · rintro rfl; exact absurd (h 39 (by simp)) (by decide)
  · rintro (rfl | rfl) <;> exact absurd (h 35 (by simp)) (by decide)
theorem mem_takeWhile (p : UInt8 → Bool) : ∀ (l : List UInt8) (c : UInt8), c ∈ l.takeWhile p → p c = true
  | [], _, h => by simp at h
  | x :: r, c, h => by
    by_cases hx : p x = true
    · rw [List.takeWhile_cons, if_pos hx] at h
      rcases List.mem_cons.1 h with rfl | h
      · exact hx
      · exact mem_takeWhile p r c h
    · rw [List.takeWhile_cons, if_neg hx] at h; simp at h
def goodW (l : List UInt8) : Bool := !l.isEmpty && (Pl.isNum l || Pl.noDig l)
def wordTok (l : List UInt8) : Option (List UInt8) := if goodW l then some l else none
theorem kind_word {l : List UInt8} (h : ∀ c ∈ l, Pl.inW c = true) : kindT l = if Pl.isNum l then 4 else 5 := by
  obtain ⟨h1, h2, h3, h4⟩ := word_no_sign l h
  unfold kindT
  rw [if_neg h1, if_neg h2, if_neg h3, if_neg h4]

theorem p_isNumber_b (s : ByteArray) (w : World) (hs : s.size ≤ 1000) (b : Bool) (h : pNum s.data.toList = b) : Calls Tryz.prog 201 #[.string s] w fun e w' => e = .returned (.bool b) ∧ w = w' := by subst h; exact p_isNumber s w hs
theorem p_isName_b (s : ByteArray) (w : World) (hs : s.size ≤ 1000) (b : Bool) (h : (Pl.noDig s.data.toList && !s.data.toList.isEmpty) = b) : Calls Tryz.prog 202 #[.string s] w fun e w' => e = .returned (.bool b) ∧ w = w' := by subst h; exact p_isName s w hs
set_option maxHeartbeats 2000000 in
set_option maxRecDepth 100000 in
theorem p_firstWord (s : ByteArray) (w : World) (hs : s.size ≤ 1000) :
    Calls Tryz.prog 185 #[.string s] w fun e w' => FTok w (wordTok (s.data.toList.takeWhile Pl.inW)) e w' := by
  go_enter Tryz.func185, Tryz.ntmps185
  go_wp2_with fail
  go_loopw [4] (fun i wq => ∃ k : Nat, k ≤ s.size ∧ i = .int .i64 k ∧ wq = w.alloc (.cells #[.int .i64 0, .string ⟨#[]⟩] 288) ∧ Hid (∀ j (h : j < s.data.toList.length), j < k → Pl.inW s.data.toList[j] = true)) (fun i _ => s.size - (intOf i).toNat)
  case atStart => exact ⟨0, Nat.zero_le _, rfl, rfl, fun j _ hj => by omega⟩
  case round =>
    obtain ⟨k, hk, rfl, rfl, HA⟩ := hrel
    have hwl : w.heap.size < (w.alloc (.cells #[.int .i64 0, .string ⟨#[]⟩] 288)).heap.size := by simp
    by_cases hc : ∃ hlt : k < s.size, Pl.inW (s[k]'hlt) = true
    · obtain ⟨hlt, hw⟩ := hc
      have hg := data_get s k hlt
      have HA2 : Hid (∀ j (h : j < s.data.toList.length), j < k + 1 → Pl.inW s.data.toList[j] = true) := by
        intro j h hj
        by_cases e : j = k
        · subst e; rw [hg]; exact hw
        · exact HA.out j h (by omega)
      clear hg HA
      go_wp2_with (go_at_call 200; refine (p_isInWord (s[k]'hlt) _).mono ?_; rintro e w' ⟨rfl, rfl⟩)
      exact ⟨⟨k + 1, by omega, by go_num, trivial, HA2⟩, by simp [intOf]; omega⟩
    · have htk : s.data.toList.takeWhile Pl.inW = s.data.toList.take k := (Pl.take_of_all Pl.inW s.data.toList k (by simpa using hk) (fun j h hj => HA.out j h hj) (fun h => by
        have hlt : k < s.size := by simpa using h
        rw [data_get s k hlt]
        by_cases hw : Pl.inW (s[k]'hlt) = true
        · exact absurd ⟨hlt, hw⟩ hc
        · simpa using hw)).1
      have HW : Hid (∀ c ∈ s.data.toList.take k, Pl.inW c = true) := by
        rw [← htk]; exact mem_takeWhile _ _
      have HK := (show Hid (_ = _) from htk)
      have HX : Hid ((s.extract 0 k).data.toList = s.data.toList.take k) := ext2 s k _ rfl
      have hxz : (s.extract 0 k).size ≤ 1000 := by simp; omega
      clear htk HA
      by_cases hlt : k < s.size
      · have hw0 : Pl.inW (s[k]'hlt) = false := by
          by_cases hw : Pl.inW (s[k]'hlt) = true
          · exact absurd ⟨hlt, hw⟩ hc
          · simpa using hw
        clear hc
        by_cases hn0 : pNum (s.extract 0 k).data.toList = true
        · have HN : Hid (pNum (s.data.toList.take k) = true) := show pNum _ = true from by rw [← HX.out]; exact hn0
          have hn := (show Hid (_ = true) from hn0)
          clear hn0
          go_wp2_with (first | (go_at_call 200; refine (p_isInWord (s[k]'hlt) _).mono ?_; rintro e w' ⟨rfl, rfl⟩) | (go_at_call 201; refine (p_isNumber_b (s.extract 0 k) _ hxz true hn.out).mono ?_; rintro e w' ⟨rfl, rfl⟩) | (go_at_call 202; refine (p_isName_b (s.extract 0 k) _ hxz true hm.out).mono ?_; rintro e w' ⟨rfl, rfl⟩))
          refine bodyPost_ret (v := .tuple #[.agg #[.int .i64 4, .string (s.extract 0 k)], .bool true]) (by simp [results, Tryz.results185, go_sem]) rfl ⟨(Below.refl _ _).alloc (Nat.le_refl _) _, _, _, _, rfl, ?_⟩
          rw [HK.out, wordTok]
          have h1 := HN.out
          simp only [pNum, Bool.and_eq_true] at h1
          rw [if_pos (by simp only [goodW, h1.1, h1.2]; rfl)]
          exact .inr ⟨rfl, _, rfl, HX.out, by rw [kind_word HW.out, if_pos h1.2]⟩
        · have hn1 : pNum (s.extract 0 k).data.toList = false := by simpa only [Bool.not_eq_true] using hn0
          have HN : Hid (pNum (s.data.toList.take k) = false) := show pNum _ = false from by rw [← HX.out]; exact hn1
          have hn := (show Hid (_ = false) from hn1)
          clear hn0 hn1
          by_cases hm0 : (Pl.noDig (s.extract 0 k).data.toList && !(s.extract 0 k).data.toList.isEmpty) = true
          · have HM : Hid ((Pl.noDig (s.data.toList.take k) && !(s.data.toList.take k).isEmpty) = true) := show _ = true from by rw [← HX.out]; exact hm0
            have hm := (show Hid (_ = true) from hm0)
            clear hm0
            go_wp2_with (first | (go_at_call 200; refine (p_isInWord (s[k]'hlt) _).mono ?_; rintro e w' ⟨rfl, rfl⟩) | (go_at_call 201; refine (p_isNumber_b (s.extract 0 k) _ hxz false hn.out).mono ?_; rintro e w' ⟨rfl, rfl⟩) | (go_at_call 202; refine (p_isName_b (s.extract 0 k) _ hxz true hm.out).mono ?_; rintro e w' ⟨rfl, rfl⟩))
            refine bodyPost_ret (v := .tuple #[.agg #[.int .i64 5, .string (s.extract 0 k)], .bool true]) (by simp [results, Tryz.results185, go_sem]) rfl ⟨(Below.refl _ _).alloc (Nat.le_refl _) _, _, _, _, rfl, ?_⟩
            rw [HK.out, wordTok]
            have h1 := HM.out
            simp only [Bool.and_eq_true] at h1
            have h2 : Pl.isNum (s.data.toList.take k) = false := by
              have := HN.out
              simp only [pNum, h1.2, Bool.true_and] at this
              exact this
            rw [if_pos (by simp only [goodW, h1.1, h1.2, Bool.or_true]; rfl)]
            exact .inr ⟨rfl, _, rfl, HX.out, by rw [kind_word HW.out, if_neg (by simp [h2])]⟩
          · have hm1 : (Pl.noDig (s.extract 0 k).data.toList && !(s.extract 0 k).data.toList.isEmpty) = false := by simpa only [Bool.not_eq_true] using hm0
            have HM : Hid ((Pl.noDig (s.data.toList.take k) && !(s.data.toList.take k).isEmpty) = false) := show _ = false from by rw [← HX.out]; exact hm1
            have hm := (show Hid (_ = false) from hm1)
            clear hm0 hm1
            go_wp2_with (first | (go_at_call 200; refine (p_isInWord (s[k]'hlt) _).mono ?_; rintro e w' ⟨rfl, rfl⟩) | (go_at_call 201; refine (p_isNumber_b (s.extract 0 k) _ hxz false hn.out).mono ?_; rintro e w' ⟨rfl, rfl⟩) | (go_at_call 202; refine (p_isName_b (s.extract 0 k) _ hxz false hm.out).mono ?_; rintro e w' ⟨rfl, rfl⟩))
            refine bodyPost_ret (v := .tuple #[.agg #[.int .i64 0, .string ⟨#[]⟩], .bool false]) (by simp [results, Tryz.results185, go_sem]) rfl ⟨(Below.refl _ _).alloc (Nat.le_refl _) _, _, _, _, rfl, ?_⟩
            rw [HK.out, wordTok]
            have h1 := HM.out
            have h2 := HN.out
            have h3 : goodW (s.data.toList.take k) = false := by
              simp only [goodW]
              simp only [pNum] at h2
              cases h : (s.data.toList.take k).isEmpty
              · rw [h] at h1 h2; simp at h1 h2; simp [h1, h2]
              · rfl
            rw [if_neg (by simp [h3])]
            exact .inl ⟨rfl, rfl⟩
      · clear hc
        by_cases hn0 : pNum (s.extract 0 k).data.toList = true
        · have HN : Hid (pNum (s.data.toList.take k) = true) := show pNum _ = true from by rw [← HX.out]; exact hn0
          have hn := (show Hid (_ = true) from hn0)
          clear hn0
          go_wp2_with (first | (go_at_call 200; refine (p_isInWord (s[k]'hlt) _).mono ?_; rintro e w' ⟨rfl, rfl⟩) | (go_at_call 201; refine (p_isNumber_b (s.extract 0 k) _ hxz true hn.out).mono ?_; rintro e w' ⟨rfl, rfl⟩) | (go_at_call 202; refine (p_isName_b (s.extract 0 k) _ hxz true hm.out).mono ?_; rintro e w' ⟨rfl, rfl⟩))
          refine bodyPost_ret (v := .tuple #[.agg #[.int .i64 4, .string (s.extract 0 k)], .bool true]) (by simp [results, Tryz.results185, go_sem]) rfl ⟨(Below.refl _ _).alloc (Nat.le_refl _) _, _, _, _, rfl, ?_⟩
          rw [HK.out, wordTok]
          have h1 := HN.out
          simp only [pNum, Bool.and_eq_true] at h1
          rw [if_pos (by simp only [goodW, h1.1, h1.2]; rfl)]
          exact .inr ⟨rfl, _, rfl, HX.out, by rw [kind_word HW.out, if_pos h1.2]⟩
        · have hn1 : pNum (s.extract 0 k).data.toList = false := by simpa only [Bool.not_eq_true] using hn0
          have HN : Hid (pNum (s.data.toList.take k) = false) := show pNum _ = false from by rw [← HX.out]; exact hn1
          have hn := (show Hid (_ = false) from hn1)
          clear hn0 hn1
          by_cases hm0 : (Pl.noDig (s.extract 0 k).data.toList && !(s.extract 0 k).data.toList.isEmpty) = true
          · have HM : Hid ((Pl.noDig (s.data.toList.take k) && !(s.data.toList.take k).isEmpty) = true) := show _ = true from by rw [← HX.out]; exact hm0
            have hm := (show Hid (_ = true) from hm0)
            clear hm0
            go_wp2_with (first | (go_at_call 200; refine (p_isInWord (s[k]'hlt) _).mono ?_; rintro e w' ⟨rfl, rfl⟩) | (go_at_call 201; refine (p_isNumber_b (s.extract 0 k) _ hxz false hn.out).mono ?_; rintro e w' ⟨rfl, rfl⟩) | (go_at_call 202; refine (p_isName_b (s.extract 0 k) _ hxz true hm.out).mono ?_; rintro e w' ⟨rfl, rfl⟩))
            refine bodyPost_ret (v := .tuple #[.agg #[.int .i64 5, .string (s.extract 0 k)], .bool true]) (by simp [results, Tryz.results185, go_sem]) rfl ⟨(Below.refl _ _).alloc (Nat.le_refl _) _, _, _, _, rfl, ?_⟩
            rw [HK.out, wordTok]
            have h1 := HM.out
            simp only [Bool.and_eq_true] at h1
            have h2 : Pl.isNum (s.data.toList.take k) = false := by
              have := HN.out
              simp only [pNum, h1.2, Bool.true_and] at this
              exact this
            rw [if_pos (by simp only [goodW, h1.1, h1.2, Bool.or_true]; rfl)]
            exact .inr ⟨rfl, _, rfl, HX.out, by rw [kind_word HW.out, if_neg (by simp [h2])]⟩
          · have hm1 : (Pl.noDig (s.extract 0 k).data.toList && !(s.extract 0 k).data.toList.isEmpty) = false := by simpa only [Bool.not_eq_true] using hm0
            have HM : Hid ((Pl.noDig (s.data.toList.take k) && !(s.data.toList.take k).isEmpty) = false) := show _ = false from by rw [← HX.out]; exact hm1
            have hm := (show Hid (_ = false) from hm1)
            clear hm0 hm1
            go_wp2_with (first | (go_at_call 200; refine (p_isInWord (s[k]'hlt) _).mono ?_; rintro e w' ⟨rfl, rfl⟩) | (go_at_call 201; refine (p_isNumber_b (s.extract 0 k) _ hxz false hn.out).mono ?_; rintro e w' ⟨rfl, rfl⟩) | (go_at_call 202; refine (p_isName_b (s.extract 0 k) _ hxz false hm.out).mono ?_; rintro e w' ⟨rfl, rfl⟩))
            refine bodyPost_ret (v := .tuple #[.agg #[.int .i64 0, .string ⟨#[]⟩], .bool false]) (by simp [results, Tryz.results185, go_sem]) rfl ⟨(Below.refl _ _).alloc (Nat.le_refl _) _, _, _, _, rfl, ?_⟩
            rw [HK.out, wordTok]
            have h1 := HM.out
            have h2 := HN.out
            have h3 : goodW (s.data.toList.take k) = false := by
              simp only [goodW]
              simp only [pNum] at h2
              cases h : (s.data.toList.take k).isEmpty
              · rw [h] at h1 h2; simp at h1 h2; simp [h1, h2]
              · rfl
            rw [if_neg (by simp [h3])]
            exact .inl ⟨rfl, rfl⟩
end Go.Proofs.YtkgbdddkcjpgfaaGreatDoor

/- The program's firstToken and split; its errors. -/
namespace Go.Proofs.YtkgbdddkcjpgfaaGreatDoor
open Go.RowKit

def tok1 (bs : List UInt8) : Option (List UInt8) :=
  match bs with
  | [] => none
  | c :: r => if c = 40 then some [40] else if c = 41 then some [41] else if c = 39 then some [39] else if c = 35 then truthTok r else wordTok (bs.takeWhile Pl.inW)

set_option maxHeartbeats 1000000 in
set_option maxRecDepth 100000 in
theorem p_firstToken (s : ByteArray) (w : World) (hs : s.size ≤ 1000) (c : UInt8) (r : List UInt8) (hr : s.data.toList = c :: r) :
    Calls Tryz.prog 147 #[.string s] w fun e w' => FTok w (tok1 (c :: r)) e w' := by
  have hsz : 0 < s.size := by have : s.data.toList.length = s.size := by simp
                              rw [hr] at this; simp at this; omega
  have hg : s[0]'hsz = c := by rw [← data_get s 0 hsz]; simp [hr]
  by_cases h40 : c = 40
  · subst h40
    have q1 : (((s[0]'hsz).toNat : Int) == 40) = true := by rw [b40, hg]; rfl
    clear hg
    have HT := (show Hid ((s.extract 0 1).data.toList = [40]) from ext2 s 1 _ (by rw [hr]; rfl))
    clear hr
    go_enter Tryz.func147, Tryz.ntmps147
    go_wp2_with fail
    exact bodyPost_ret (v := .tuple #[.agg #[.int .i64 0, .string (s.extract 0 1)], .bool true]) (by simp [results, Tryz.results147, go_sem]) rfl ⟨(Below.refl _ _).alloc (Nat.le_refl _) _, _, _, _, rfl, .inr ⟨rfl, _, rfl, HT.out, rfl⟩⟩
  have q1 : (((s[0]'hsz).toNat : Int) == 40) = false := by rw [b40, hg]; simpa using h40
  by_cases h41 : c = 41
  · subst h41
    have q2 : (((s[0]'hsz).toNat : Int) == 41) = true := by rw [b41, hg]; rfl
    clear hg h40
    have HT := (show Hid ((s.extract 0 1).data.toList = [41]) from ext2 s 1 _ (by rw [hr]; rfl))
    clear hr
    go_enter Tryz.func147, Tryz.ntmps147
    go_wp2_with fail
    exact bodyPost_ret (v := .tuple #[.agg #[.int .i64 1, .string (s.extract 0 1)], .bool true]) (by simp [results, Tryz.results147, go_sem]) rfl ⟨(Below.refl _ _).alloc (Nat.le_refl _) _, _, _, _, rfl, .inr ⟨rfl, _, rfl, HT.out, rfl⟩⟩
  have q2 : (((s[0]'hsz).toNat : Int) == 41) = false := by rw [b41, hg]; simpa using h41
  by_cases h39 : c = 39
  · subst h39
    have q3 : (((s[0]'hsz).toNat : Int) == 39) = true := by rw [b39, hg]; rfl
    clear hg h40 h41
    have HT := (show Hid ((s.extract 0 1).data.toList = [39]) from ext2 s 1 _ (by rw [hr]; rfl))
    clear hr
    go_enter Tryz.func147, Tryz.ntmps147
    go_wp2_with fail
    exact bodyPost_ret (v := .tuple #[.agg #[.int .i64 2, .string (s.extract 0 1)], .bool true]) (by simp [results, Tryz.results147, go_sem]) rfl ⟨(Below.refl _ _).alloc (Nat.le_refl _) _, _, _, _, rfl, .inr ⟨rfl, _, rfl, HT.out, rfl⟩⟩
  have q3 : (((s[0]'hsz).toNat : Int) == 39) = false := by rw [b39, hg]; simpa using h39
  by_cases h35 : c = 35
  · subst h35
    have q4 : (((s[0]'hsz).toNat : Int) == 35) = true := by rw [b35, hg]; rfl
    have HR := (show Hid (_ = _) from hr)
    clear hg h40 h41 h39 hr
    go_enter Tryz.func147, Tryz.ntmps147
    go_wp2_with fail
    refine (p_firstTruth s _ hs r HR.out).mono ?_
    rintro e w1 ⟨hB, k1, t1, b1, rfl, hc⟩
    have HB : Hid (Below w.heap.size w w1) := ((Below.refl _ w).alloc (Nat.le_refl _) _).trans (hB.mono (by simp))
    have h0 : w1.heap[w.heap.size]? = some (.cells #[.int .i64 0, .string ⟨#[]⟩] 288 (0, 0)) := (hB.block _ (by simp)).trans (heap_alloc_new _ _)
    have c0 := cells_at h0 0
    have c1 := cells_at h0 1
    have f0 := free_at h0 0
    have f1 := free_at h0 1
    have hw1 : w.heap.size < w1.heap.size := lt_of_some h0
    have HC := (show Hid _ from hc)
    clear hB hc h0
    go_wp2_with fail
    refine bodyPost_ret (v := .tuple #[.agg #[.int .i64 k1, .string t1], .bool b1]) (by simp [results, Tryz.results147, go_sem, c0, c1]) rfl ⟨(HB.out.setCell (Nat.le_refl _) _).setCell (Nat.le_refl _) _, _, _, _, rfl, HC.out⟩
  · have q4 : (((s[0]'hsz).toNat : Int) == 35) = false := by rw [b35, hg]; simpa using h35
    have HS : Hid (tok1 (c :: r) = wordTok ((c :: r).takeWhile Pl.inW)) := show tok1 _ = _ from by
      unfold tok1; dsimp only; rw [if_neg h40, if_neg h41, if_neg h39, if_neg h35]
    have HR := (show Hid (_ = _) from hr)
    clear hg h40 h41 h39 h35 hr
    go_enter Tryz.func147, Tryz.ntmps147
    go_wp2_with fail
    refine (p_firstWord s _ hs).mono ?_
    rw [HR.out, ← HS.out]
    rintro e w1 ⟨hB, k1, t1, b1, rfl, hc⟩
    have HB : Hid (Below w.heap.size w w1) := ((Below.refl _ w).alloc (Nat.le_refl _) _).trans (hB.mono (by simp))
    have h0 : w1.heap[w.heap.size]? = some (.cells #[.int .i64 0, .string ⟨#[]⟩] 288 (0, 0)) := (hB.block _ (by simp)).trans (heap_alloc_new _ _)
    have c0 := cells_at h0 0
    have c1 := cells_at h0 1
    have f0 := free_at h0 0
    have f1 := free_at h0 1
    have hw1 : w.heap.size < w1.heap.size := lt_of_some h0
    have HC := (show Hid _ from hc)
    clear hB hc h0
    go_wp2_with fail
    refine bodyPost_ret (v := .tuple #[.agg #[.int .i64 k1, .string t1], .bool b1]) (by simp [results, Tryz.results147, go_sem, c0, c1]) rfl ⟨(HB.out.setCell (Nat.le_refl _) _).setCell (Nat.le_refl _) _, _, _, _, rfl, HC.out⟩

/- An error of the program's: what went wrong, wrapped. -/
def errV (s : ByteArray) (code : Int) : Value := .iface 251 (.agg #[.string s, .iface 128 (.int .i64 code)])
set_option maxHeartbeats 400000 in
theorem p_While (s : ByteArray) (code : Int) (w : World) : Calls Tryz.prog 78 #[.string s, .int .i64 code] w fun e w' => e = .returned (errV s code) ∧ w = w' := by
  go_enter Tryz.func78, Tryz.ntmps78
  go_wp2
  go_ret
  exact ⟨rfl, rfl⟩
end Go.Proofs.YtkgbdddkcjpgfaaGreatDoor
