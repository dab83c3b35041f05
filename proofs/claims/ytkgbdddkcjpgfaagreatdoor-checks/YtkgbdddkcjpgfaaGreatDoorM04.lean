/- The reference's number: what it answers for every word of at most 1000 bytes. -/
import Derived.Test.YtkgbdddkcjpgfaaGreatDoorM03
import Derived.Test.YtkgbdddkcjpgfaaGreatDoorM02
import GoSem.ClaimWide
namespace Go.Proofs.YtkgbdddkcjpgfaaGreatDoor
open Go.RowKit
def bytesL (l : List UInt8) : ByteArray := ⟨l.toArray⟩
theorem bytesL_data (s : ByteArray) : bytesL s.data.toList = s := by unfold bytesL; simp
theorem data_bytesL (l : List UInt8) : (bytesL l).data.toList = l := by simp [bytesL]
def NumPost (s : ByteArray) (e : Ending) : Prop :=
  (Pl.isNum s.data.toList = true ∧ ∃ d : ByteArray, d.data.toList = Pl.digs s.data.toList ∧ d.size ≤ s.size ∧ e = .returned (.tuple #[.string d, .bool (Pl.minus s.data.toList), .bool true])) ∨
  (Pl.isNum s.data.toList = false ∧ ∃ d : ByteArray, ∃ b, e = .returned (.tuple #[.string d, .bool b, .bool false]))
theorem minus_yes (s : ByteArray) (h1 : 1 < s.size) (h : (((s[0]'(by omega)).toNat : Int) == 45) = true) : Pl.minus s.data.toList = true := by
  have h0 : 0 < s.data.toList.length := by simp; omega
  rw [b45] at h
  simp only [Pl.minus, Pl.head_get _ h0, Bool.and_eq_true, decide_eq_true_eq]
  refine ⟨by simpa using h1, ?_⟩
  rw [data_get s 0 (by omega)]; exact h
theorem minus_no (s : ByteArray) (h1 : 1 < s.size) (h : (((s[0]'(by omega)).toNat : Int) == 45) = false) : Pl.minus s.data.toList = false := by
  have h0 : 0 < s.data.toList.length := by simp; omega
  rw [b45] at h
  simp only [Pl.minus, Pl.head_get _ h0, Bool.and_eq_false_iff, decide_eq_false_iff_not]
  right
  rw [data_get s 0 (by omega)]; exact h
theorem minus_short (s : ByteArray) (h1 : ¬ 1 < s.size) : Pl.minus s.data.toList = false := by
  simp only [Pl.minus, Bool.and_eq_false_iff, decide_eq_false_iff_not]
  left; simpa using h1
theorem extract_data (s : ByteArray) (i k : Nat) : (s.extract i k).data.toList = (s.data.toList.drop i).take (k - i) := by
  rw [ByteArray.data_extract]
  simp [Array.toList_extract, List.extract_eq_take_drop]

set_option maxHeartbeats 1000000 in
set_option maxRecDepth 100000 in
theorem ref_number (s : ByteArray) (w : World) (hs : s.size ≤ 1000) :
    Calls Tryz.prog 120 #[.string s] w fun e w' => NumPost s e ∧ w = w' := by
  by_cases h1 : 1 < s.size
  · by_cases hm : (((s[0]'(by omega)).toNat : Int) == 45) = true
    · have HM : Hid (Pl.minus s.data.toList = true) := minus_yes s h1 hm
      go_enter Tryz.func120, Tryz.ntmps120
      go_wp2
      obtain ⟨d, hd⟩ : ∃ d, d = s.extract 1 s.size := ⟨_, rfl⟩
      have HD : Hid (d.data.toList = Pl.digs s.data.toList) := by
        show d.data.toList = _
        rw [hd, extract_data, Pl.digs, HM.out, List.take_of_length_le (by simp)]
        simp
      have hdz : d.size + 1 = s.size := by rw [hd]; simp; omega
      rw [← hd]
      clear hd
      go_loopw [7] (fun i wq => ∃ k : Nat, k ≤ d.size ∧ i = .int .i64 k ∧ w = wq ∧ Hid (∀ j (h : j < d.data.toList.length), j < k → Pl.isDig d.data.toList[j] = true)) (fun i _ => d.size - (intOf i).toNat)
      case atStart => exact ⟨0, Nat.zero_le _, rfl, rfl, fun j _ hj => by omega⟩
      case round =>
        obtain ⟨k, hk, rfl, rfl, HA⟩ := hrel
        by_cases hlt : k < d.size
        · have hg := data_get d k hlt
          by_cases hdg : Pl.isDig (d[k]'hlt) = true
          · have HA2 : Hid (∀ j (h : j < d.data.toList.length), j < k + 1 → Pl.isDig d.data.toList[j] = true) := by
              intro j h hj
              by_cases e : j = k
              · subst e; rw [hg]; exact hdg
              · exact HA.out j h (by omega)
            clear hg HA
            go_wp2_with (go_at_call 119; refine (ref_isDigit (d[k]'hlt) _).mono ?_; rintro e w' ⟨rfl, rfl⟩)
            exact ⟨⟨k + 1, by omega, by go_num, trivial, HA2⟩, by simp [intOf]; omega⟩
          · have hdg0 : Pl.isDig (d[k]'hlt) = false := by simpa using hdg
            have HN : Hid (Pl.isNum s.data.toList = false) := by
              show Pl.isNum _ = _
              unfold Pl.isNum
              rw [← HD.out]
              exact Pl.not_all _ k (by simpa using hlt) (by rw [hg]; exact hdg0)
            clear hg HA hdg
            go_wp2_with (go_at_call 119; refine (ref_isDigit (d[k]'hlt) _).mono ?_; rintro e w' ⟨rfl, rfl⟩)
            go_ret3
            exact ⟨.inr ⟨HN.out, _, _, rfl⟩, rfl⟩
        · have HN : Hid (Pl.isNum s.data.toList = true) := by
            show Pl.isNum _ = _
            unfold Pl.isNum
            rw [← HD.out]
            exact Pl.all_of _ fun j h => HA.out j h (by simp at h; omega)
          go_wp2
          go_ret3
          exact ⟨.inl ⟨HN.out, d, HD.out, by omega, by rw [HM.out]; rfl⟩, rfl⟩
    · have hm0 : (((s[0]'(by omega)).toNat : Int) == 45) = false := by simpa using hm
      have HM : Hid (Pl.minus s.data.toList = false) := minus_no s h1 hm0
      obtain ⟨d, hd⟩ : ∃ d, d = s := ⟨_, rfl⟩
      subst hd
      have HD : Hid (d.data.toList = Pl.digs d.data.toList) := by
        show d.data.toList = _
        rw [Pl.digs, HM.out]; rfl
      clear hm
      go_enter Tryz.func120, Tryz.ntmps120
      go_wp2
      go_loopw [7] (fun i wq => ∃ k : Nat, k ≤ d.size ∧ i = .int .i64 k ∧ w = wq ∧ Hid (∀ j (h : j < d.data.toList.length), j < k → Pl.isDig d.data.toList[j] = true)) (fun i _ => d.size - (intOf i).toNat)
      case atStart => exact ⟨0, Nat.zero_le _, rfl, rfl, fun j _ hj => by omega⟩
      case round =>
        obtain ⟨k, hk, rfl, rfl, HA⟩ := hrel
        by_cases hlt : k < d.size
        · have hg := data_get d k hlt
          by_cases hdg : Pl.isDig (d[k]'hlt) = true
          · have HA2 : Hid (∀ j (h : j < d.data.toList.length), j < k + 1 → Pl.isDig d.data.toList[j] = true) := by
              intro j h hj
              by_cases e : j = k
              · subst e; rw [hg]; exact hdg
              · exact HA.out j h (by omega)
            clear hg HA
            go_wp2_with (go_at_call 119; refine (ref_isDigit (d[k]'hlt) _).mono ?_; rintro e w' ⟨rfl, rfl⟩)
            exact ⟨⟨k + 1, by omega, by go_num, trivial, HA2⟩, by simp [intOf]; omega⟩
          · have hdg0 : Pl.isDig (d[k]'hlt) = false := by simpa using hdg
            have HN : Hid (Pl.isNum d.data.toList = false) := by
              show Pl.isNum _ = _
              unfold Pl.isNum
              rw [← HD.out]
              exact Pl.not_all _ k (by simpa using hlt) (by rw [hg]; exact hdg0)
            clear hg HA hdg
            go_wp2_with (go_at_call 119; refine (ref_isDigit (d[k]'hlt) _).mono ?_; rintro e w' ⟨rfl, rfl⟩)
            go_ret3
            exact ⟨.inr ⟨HN.out, _, _, rfl⟩, rfl⟩
        · have HN : Hid (Pl.isNum d.data.toList = true) := by
            show Pl.isNum _ = _
            unfold Pl.isNum
            rw [← HD.out]
            exact Pl.all_of _ fun j h => HA.out j h (by simp at h; omega)
          go_wp2
          go_ret3
          exact ⟨.inl ⟨HN.out, d, HD.out, by omega, by rw [HM.out]; rfl⟩, rfl⟩
  · have HM : Hid (Pl.minus s.data.toList = false) := minus_short s h1
    obtain ⟨d, hd⟩ : ∃ d, d = s := ⟨_, rfl⟩
    subst hd
    have HD : Hid (d.data.toList = Pl.digs d.data.toList) := by
      show d.data.toList = _
      rw [Pl.digs, HM.out]; rfl
    go_enter Tryz.func120, Tryz.ntmps120
    go_wp2
    go_loopw [7] (fun i wq => ∃ k : Nat, k ≤ d.size ∧ i = .int .i64 k ∧ w = wq ∧ Hid (∀ j (h : j < d.data.toList.length), j < k → Pl.isDig d.data.toList[j] = true)) (fun i _ => d.size - (intOf i).toNat)
    case atStart => exact ⟨0, Nat.zero_le _, rfl, rfl, fun j _ hj => by omega⟩
    case round =>
      obtain ⟨k, hk, rfl, rfl, HA⟩ := hrel
      by_cases hlt : k < d.size
      · have hg := data_get d k hlt
        by_cases hdg : Pl.isDig (d[k]'hlt) = true
        · have HA2 : Hid (∀ j (h : j < d.data.toList.length), j < k + 1 → Pl.isDig d.data.toList[j] = true) := by
            intro j h hj
            by_cases e : j = k
            · subst e; rw [hg]; exact hdg
            · exact HA.out j h (by omega)
          clear hg HA
          go_wp2_with (go_at_call 119; refine (ref_isDigit (d[k]'hlt) _).mono ?_; rintro e w' ⟨rfl, rfl⟩)
          exact ⟨⟨k + 1, by omega, by go_num, trivial, HA2⟩, by simp [intOf]; omega⟩
        · have hdg0 : Pl.isDig (d[k]'hlt) = false := by simpa using hdg
          have HN : Hid (Pl.isNum d.data.toList = false) := by
            show Pl.isNum _ = _
            unfold Pl.isNum
            rw [← HD.out]
            exact Pl.not_all _ k (by simpa using hlt) (by rw [hg]; exact hdg0)
          clear hg HA hdg
          go_wp2_with (go_at_call 119; refine (ref_isDigit (d[k]'hlt) _).mono ?_; rintro e w' ⟨rfl, rfl⟩)
          go_ret3
          exact ⟨.inr ⟨HN.out, _, _, rfl⟩, rfl⟩
      · have HN : Hid (Pl.isNum d.data.toList = true) := by
          show Pl.isNum _ = _
          unfold Pl.isNum
          rw [← HD.out]
          exact Pl.all_of _ fun j h => HA.out j h (by simp at h; omega)
        go_wp2
        go_ret3
        exact ⟨.inl ⟨HN.out, d, HD.out, by omega, by rw [HM.out]; rfl⟩, rfl⟩
end Go.Proofs.YtkgbdddkcjpgfaaGreatDoor

/- What the reference's data are in memory: trees; and that they stay while nothing of theirs is written. -/
namespace Go.Proofs.YtkgbdddkcjpgfaaGreatDoor
open Go.RowKit

abbrev Tr := DataW Unit
def TD : TypeId := 239
def TP : TypeId := 135
def TR : TypeId := 138
def kNum : Value := .string ⟨#[110, 117, 109, 98, 101, 114]⟩
def kNam : Value := .string ⟨#[110, 97, 109, 101]⟩
def kTru : Value := .string ⟨#[116, 114, 117, 116, 104]⟩
def kLst : Value := .string ⟨#[108, 105, 115, 116]⟩
def kNil : Value := .string ⟨#[]⟩
def inBig (m : Int) : Prop := -(Pl.big : Int) ≤ m ∧ m ≤ (Pl.big : Int)

/- A datum of the reference: a block of four cells; what lies in it is in blocks that are 'ok'. -/
def RepR (ok : Nat → Prop) : Nat → World → Value → Tr → Prop
  | 0, _, _, _ => False
  | n + 1, w, v, t => ∃ b, v = .pointer (some ⟨b, 0, none⟩) ∧ ok b ∧
    match t with
    | .lit (.int _ m) => ∃ k : Int, w.heap[b]? = some (.cells #[kNum, .int .i64 k, kNil, .slice none 0 0] TD (0, 0)) ∧ (inBig m → k = m)
    | .lit (.bool x) => w.heap[b]? = some (.cells #[kTru, .int .i64 (if x then 1 else 0), kNil, .slice none 0 0] TD (0, 0))
    | .lit (.string s) => w.heap[b]? = some (.cells #[kNam, .int .i64 0, strV s, .slice none 0 0] TD (0, 0))
    | .agg ts => ∃ kids vs, w.heap[b]? = some (.cells #[kLst, .int .i64 0, kNil, kids] TD (0, 0)) ∧ (∀ r, kids.ownBlock = some r → ok r) ∧ w.ownsRow 0 TP 1 kids ts.length vs ∧
        (∀ (i : Nat) (u : Value) (x : Tr), vs[i]? = some u → ts[i]? = some x → RepR ok n w u x) ∧ ts.length ≤ 1000
    | _ => False

/- Every block of data, below which nothing is written, is as it was. -/
def KeepD (ok : Nat → Prop) (w w' : World) : Prop := ∀ (k : Nat) (cur : Array Value) (e : TypeId), ok k → e = TD ∨ e = TP → w.heap[k]? = some (.cells cur e (0, 0)) → w'.heap[k]? = some (.cells cur e (0, 0))

theorem KeepD.refl (ok : Nat → Prop) (w : World) : KeepD ok w w := fun _ _ _ _ _ h => h
theorem KeepD.trans {ok : Nat → Prop} {a b c : World} (h : KeepD ok a b) (k : KeepD ok b c) : KeepD ok a c := fun i cur e o t x => k i cur e o t (h i cur e o t x)
theorem lt_of_some {w : World} {k : Nat} {o : Obj} (h : w.heap[k]? = some o) : k < w.heap.size := (Array.getElem?_eq_some_iff.1 h).1
theorem KeepD.of_below {ok : Nat → Prop} {w w' : World} (h : Below w.heap.size w w') : KeepD ok w w' := fun k _ _ _ _ hk => (h.block k (lt_of_some hk)).trans hk
theorem KeepD.of_grown {ok : Nat → Prop} {w w' : World} {b : Nat} {c : Array Value} {T : TypeId} {f : Nat × Nat} (hg : w.grownBy w' (some b)) (hb : w.heap[b]? = some (.cells c T f)) (h1 : T ≠ TD) (h2 : T ≠ TP) : KeepD ok w w' := by
  intro k cur e _ ht hk
  have hne : some k ≠ some b := by
    intro e1
    obtain rfl := Option.some.inj e1
    rw [hb] at hk
    simp only [Option.some.injEq, Obj.cells.injEq] at hk
    rcases ht with rfl | rfl
    · exact h1 hk.2.1
    · exact h2 hk.2.1
  exact (hg.block k (lt_of_some hk) hne).trans hk
theorem KeepD.of_grown_out {w w' : World} {row : Option Nat} (hg : w.grownBy w' row) : KeepD (fun k => some k ≠ row) w w' := fun k _ _ ho _ hk => (hg.block k (lt_of_some hk) ho).trans hk
theorem KeepD.mono {ok ok' : Nat → Prop} {w w' : World} (h : KeepD ok w w') (hi : ∀ k, ok' k → ok k) : KeepD ok' w w' := fun k cur e o => h k cur e (hi k o)

theorem ownsRow_keep {ok : Nat → Prop} {w w' : World} {v : Value} {n : Nat} {xs : List Value} (hk : KeepD ok w w') (ho : ∀ r, v.ownBlock = some r → ok r) (h : w.ownsRow 0 TP 1 v n xs) : w'.ownsRow 0 TP 1 v n xs := by
  refine ⟨h.1, ?_⟩
  rcases h.2 with hn | ⟨g, cap, cur, rfl, hb, hg, rest⟩
  · exact .inl hn
  · exact .inr ⟨g, cap, cur, rfl, hb, hk g cur TP (ho g rfl) (.inr rfl) hg, rest⟩

theorem RepR.keep {ok : Nat → Prop} {w w' : World} (hk : KeepD ok w w') : ∀ (n : Nat) (v : Value) (t : Tr), RepR ok n w v t → RepR ok n w' v t
  | 0, _, _, h => h
  | n + 1, v, t, h => by
    obtain ⟨b, hv, hb, h⟩ := h
    refine ⟨b, hv, hb, ?_⟩
    match t, h with
    | .lit (.int _ m), ⟨k, h1, h2⟩ => exact ⟨k, hk b _ _ hb (.inl rfl) h1, h2⟩
    | .lit (.bool x), h => exact hk b _ _ hb (.inl rfl) h
    | .lit (.string s), h => exact hk b _ _ hb (.inl rfl) h
    | .agg ts, ⟨kids, vs, h1, h2, h3, h4, h5⟩ => exact ⟨kids, vs, hk b _ _ hb (.inl rfl) h1, h2, ownsRow_keep hk h2 h3, fun i u x hu hx => RepR.keep hk n u x (h4 i u x hu hx), h5⟩

theorem RepR.mono {ok ok' : Nat → Prop} {w : World} (hi : ∀ k, k < w.heap.size → ok k → ok' k) : ∀ (n : Nat) (v : Value) (t : Tr), RepR ok n w v t → RepR ok' n w v t
  | 0, _, _, h => h
  | n + 1, v, t, h => by
    obtain ⟨b, hv, hb, h⟩ := h
    match t, h with
    | .lit (.int _ m), ⟨k, h1, h2⟩ => exact ⟨b, hv, hi b (lt_of_some h1) hb, k, h1, h2⟩
    | .lit (.bool x), h => exact ⟨b, hv, hi b (lt_of_some h) hb, h⟩
    | .lit (.string s), h => exact ⟨b, hv, hi b (lt_of_some h) hb, h⟩
    | .agg ts, ⟨kids, vs, h1, h2, h3, h4, h5⟩ => exact ⟨b, hv, hi b (lt_of_some h1) hb, kids, vs, h1, fun r hr => hi r (h3.lt r hr).2 (h2 r hr), h3, fun i u x hu hx => RepR.mono hi n u x (h4 i u x hu hx), h5⟩

theorem RepR.up {ok : Nat → Prop} {w : World} : ∀ (n m : Nat) (v : Value) (t : Tr), n ≤ m → RepR ok n w v t → RepR ok m w v t
  | 0, _, _, _, _, h => h.elim
  | n + 1, 0, _, _, hm, _ => by omega
  | n + 1, m + 1, v, t, hm, h => by
    obtain ⟨b, hv, hb, h⟩ := h
    refine ⟨b, hv, hb, ?_⟩
    match t, h with
    | .lit (.int _ m), h => exact h
    | .lit (.bool x), h => exact h
    | .lit (.string s), h => exact h
    | .agg ts, ⟨kids, vs, h1, h2, h3, h4, h5⟩ => exact ⟨kids, vs, h1, h2, h3, fun i u x hu hx => RepR.up n m u x (by omega) (h4 i u x hu hx), h5⟩

/- The reference's Reading, in the block b. -/
def Rd (w : World) (b : Nat) (L : Value) (at_ dp : Int) (g : Bool) : Prop := w.heap[b]? = some (.cells #[L, .int .i64 at_, .int .i64 dp, .bool g] TR (0, 0))
theorem cells_at {w : World} {b : Nat} {c : Array Value} {T : TypeId} (h : w.heap[b]? = some (.cells c T (0, 0))) (o : Nat) : w.cell? ⟨b, o, none⟩ = c[o]? := by
  simp [World.cell?, h]
theorem free_at {w : World} {b : Nat} {c : Array Value} {T : TypeId} (h : w.heap[b]? = some (.cells c T (0, 0))) (o : Nat) : w.frozen? ⟨b, o, none⟩ = false := by
  simp [World.frozen?, h]
theorem Rd.cells {w : World} {b : Nat} {L : Value} {at_ dp : Int} {g : Bool} (h : Rd w b L at_ dp g) :
    w.cell? ⟨b, 0, none⟩ = some L ∧ w.cell? ⟨b, 1, none⟩ = some (.int .i64 at_) ∧ w.cell? ⟨b, 2, none⟩ = some (.int .i64 dp) ∧ w.cell? ⟨b, 3, none⟩ = some (.bool g) :=
  ⟨cells_at h 0, cells_at h 1, cells_at h 2, cells_at h 3⟩
theorem set_block {w : World} {b : Nat} {c : Array Value} {T : TypeId} (h : w.heap[b]? = some (.cells c T (0, 0))) (o : Nat) (v : Value) : (w.setCell ⟨b, o, none⟩ v).heap[b]? = some (.cells (c.setIfInBounds o v) T (0, 0)) := by
  simp [World.setCell, Array.getElem?_modify, h]
theorem grown_set (w : World) (b o : Nat) (v : Value) : w.grownBy (w.setCell ⟨b, o, none⟩ v) (some b) :=
  ⟨rfl, rfl, rfl, by simp [World.setCell], fun k _ hne => Below.heap_setCell _ _ _ _ (fun e => hne (by simp [e]))⟩
theorem grown_trans {a b c : World} {row : Option Nat} (h : a.grownBy b row) (k : b.grownBy c row) : a.grownBy c row :=
  ⟨k.os.trans h.os, k.tape.trans h.tape, k.output.trans h.output, Nat.le_trans h.size k.size, fun i hi hne => (k.block i (Nat.lt_of_lt_of_le hi h.size) hne).trans (h.block i hi hne)⟩
theorem grown_of_below {a b : World} (row : Option Nat) (h : Below a.heap.size a b) : a.grownBy b row := ⟨h.os, h.tape, h.output, h.size, fun k hk _ => h.block k hk⟩
theorem below_of_grown {a b : World} (h : a.grownBy b none) : Below a.heap.size a b := ⟨h.os, h.tape, h.output, h.size, fun k hk => h.block k hk (by simp)⟩
theorem Rd.set1 {w : World} {b : Nat} {L : Value} {at_ dp : Int} {g : Bool} (h : Rd w b L at_ dp g) (x : Int) : Rd (w.setCell ⟨b, 1, none⟩ (.int .i64 x)) b L x dp g := set_block h 1 _
theorem Rd.set2 {w : World} {b : Nat} {L : Value} {at_ dp : Int} {g : Bool} (h : Rd w b L at_ dp g) (x : Int) : Rd (w.setCell ⟨b, 2, none⟩ (.int .i64 x)) b L at_ x g := set_block h 2 _
theorem Rd.set3 {w : World} {b : Nat} {L : Value} {at_ dp : Int} {g : Bool} (h : Rd w b L at_ dp g) (x : Bool) : Rd (w.setCell ⟨b, 3, none⟩ (.bool x)) b L at_ dp x := set_block h 3 _
theorem Rd.alloc {w : World} {b : Nat} {L : Value} {at_ dp : Int} {g : Bool} (h : Rd w b L at_ dp g) (o : Obj) : Rd (w.alloc o) b L at_ dp g := (Below.heap_alloc w o b (lt_of_some h)).trans h
theorem Rd.below {w w' : World} {b : Nat} {L : Value} {at_ dp : Int} {g : Bool} (h : Rd w b L at_ dp g) (hb : Below w.heap.size w w') : Rd w' b L at_ dp g := (hb.block b (lt_of_some h)).trans h
end Go.Proofs.YtkgbdddkcjpgfaaGreatDoor

/- The reference's word: a number, a name, or neither. -/
namespace Go.Proofs.YtkgbdddkcjpgfaaGreatDoor
open Go.RowKit

def WordPost (w : World) (b : Nat) (L : Value) (at_ dp : Int) (g : Bool) (s : List UInt8) (e : Ending) (w' : World) : Prop :=
  ∃ v g', e = .returned v ∧ w.grownBy w' (some b) ∧ Rd w' b L at_ dp g' ∧
    ((Pl.isNum s = true ∧ g' = (g || Pl.great s) ∧ RepR (fun k => w.heap.size ≤ k) 1 w' v (.lit (.int .i64 (Pl.sval s)))) ∨
     (Pl.isNum s = false ∧ Pl.noDig s = true ∧ g' = g ∧ RepR (fun k => w.heap.size ≤ k) 1 w' v (.lit (.string s))) ∨
     (Pl.isNum s = false ∧ Pl.noDig s = false ∧ v = .pointer none))

theorem word_num {w wr : World} {b : Nat} {L : Value} {at_ dp : Int} {g : Bool} {s : List UInt8} {x : Int} (hg : w.grownBy wr (some b)) (hR : Rd wr b L at_ dp (g || (Pl.foldN (Pl.digs s)).2)) (hn : Pl.isNum s = true)
    (hx : x = if Pl.minus s then -((Pl.foldN (Pl.digs s)).1 : Int) else ((Pl.foldN (Pl.digs s)).1 : Int)) :
    WordPost w b L at_ dp g s (.returned (.pointer (some ⟨wr.heap.size, 0, none⟩))) (wr.alloc (.cells #[kNum, .int .i64 x, kNil, .slice none 0 0] TD)) := by
  refine ⟨_, _, rfl, grown_trans hg (World.grownBy_alloc _ _ _), hR.alloc _, .inl ⟨hn, by rw [Pl.foldN_great]; rfl, ⟨wr.heap.size, rfl, hg.size, x, heap_alloc_new _ _, ?_⟩⟩⟩
  intro hb
  rw [hx]
  unfold inBig Pl.sval at hb
  unfold Pl.sval
  by_cases hm : Pl.minus s = true
  · rw [if_pos hm] at hb
    rw [if_pos hm, if_pos hm, Pl.foldN_val _ (by omega)]
  · rw [if_neg hm] at hb
    rw [if_neg hm, if_neg hm, Pl.foldN_val _ (by omega)]

set_option maxHeartbeats 1000000 in
set_option maxRecDepth 100000 in
theorem ref_word (b : Nat) (s : ByteArray) (w : World) (L : Value) (at_ dp : Int) (g : Bool) (hR : Rd w b L at_ dp g) (hs : s.size ≤ 1000) :
    Calls Tryz.prog 71 #[.pointer (some ⟨b, 0, none⟩), .string s] w fun e w' => WordPost w b L at_ dp g s.data.toList e w' := by
  have HR : Hid (Rd w b L at_ dp g) := hR
  clear hR
  go_enter Tryz.func71, Tryz.ntmps71
  go_wp2_with fail
  refine (ref_number s _ hs).mono ?_
  rintro e w' ⟨hp, rfl⟩
  rcases hp with ⟨hn, d, hd, hdz, rfl⟩ | ⟨hn, d, b0, rfl⟩
  · have HN := (show Hid (Pl.isNum s.data.toList = true) from hn)
    have HD := (show Hid (d.data.toList = Pl.digs s.data.toList) from hd)
    have HG : Hid (∀ j (h : j < d.data.toList.length), Pl.isDig d.data.toList[j] = true) := fun j h => Pl.all_get _ (by have := hn; unfold Pl.isNum at this; rw [← hd] at this; exact this) j h
    clear hn hd
    go_wp2_with fail
    go_loopw [10, 11] (fun nn i wr => ∃ k : Nat, k ≤ d.size ∧ i = .int .i64 k ∧ nn = .int .i64 ((Pl.foldN (d.data.toList.take k)).1 : Int) ∧ Hid (w.grownBy wr (some b)) ∧ Hid (Rd wr b L at_ dp (g || (Pl.foldN (d.data.toList.take k)).2)))
      (fun _ i _ => d.size - (intOf i).toNat)
    case atStart => exact ⟨0, Nat.zero_le _, rfl, rfl, World.grownBy.refl _ _, show Rd w b L at_ dp _ from by have := HR.out; simpa [Pl.foldN] using this⟩
    case round =>
      obtain ⟨k, hk, rfl, rfl, HW, HRk⟩ := hrel
      have hle := Pl.foldN_le (d.data.toList.take k)
      by_cases hlt : k < d.size
      · have hkl : k < d.data.toList.length := by simpa using hlt
        have hg0 := data_get d k hlt
        have hdg := Pl.isDig_le _ (HG.out k hkl)
        have hst := Pl.foldN_snoc (d.data.toList.take k) (d.data.toList[k])
        rw [← Pl.take_snoc _ _ hkl, hg0] at hst
        rw [hg0] at hdg
        unfold Pl.stepN Pl.big at hst
        unfold Pl.big at hle
        have HS := (show Hid (_ = _) from hst)
        generalize (Pl.foldN (d.data.toList.take k)).1 = n0 at *
        have c3 := HRk.out.cells.2.2.2
        have f3 := free_at HRk.out 3
        clear hst hg0 hkl
        go_wp2_with fail
        · refine ⟨⟨k + 1, by omega, by go_num, ?_, grown_trans HW.out (grown_set _ _ _ _), ?_⟩, by simp [intOf]; omega⟩
          · rw [HS.out, if_pos (by omega)]; rfl
          · show Rd _ _ _ _ _ _
            rw [HS.out, if_pos (by omega), Bool.or_true]
            exact HRk.out.set3 true
        · refine ⟨⟨k + 1, by omega, by go_num, ?_, HW.out, ?_⟩, by simp [intOf]; omega⟩
          · rw [HS.out, if_neg (by omega)]
            show Value.int _ _ = Value.int _ _
            congr 1
            dsimp only
            omega
          · show Rd _ _ _ _ _ _
            rw [HS.out, if_neg (by omega)]
            exact HRk.out
      · have ht : d.data.toList.take k = Pl.digs s.data.toList := by rw [List.take_of_length_le (by simp; omega)]; exact HD.out
        rw [ht] at hle
        rw [ht]
        have HRk2 : Hid (Rd wr b L at_ dp (g || (Pl.foldN (Pl.digs s.data.toList)).2)) := by rw [← ht]; exact HRk.out
        clear ht HRk HD HG
        unfold Pl.big at hle
        generalize hX : (Pl.foldN (Pl.digs s.data.toList)).1 = X at *
        have HX := (show Hid (_ = X) from hX)
        clear hX
        go_wp2_with fail
        · go_ret
          exact word_num HW.out HRk2.out HN.out (by rw [if_pos ‹_›, HX.out])
        · go_ret
          exact word_num HW.out HRk2.out HN.out (by rw [if_neg (by simp [*]), HX.out])
  · have HN := (show Hid (Pl.isNum s.data.toList = false) from hn)
    clear hn
    go_wp2_with fail
    go_loopw [8] (fun i wq => ∃ k : Nat, k ≤ s.size ∧ i = .int .i64 k ∧ w = wq ∧ Hid (∀ j (h : j < s.data.toList.length), j < k → (!Pl.isDig s.data.toList[j]) = true)) (fun i _ => s.size - (intOf i).toNat)
    case atStart => exact ⟨0, Nat.zero_le _, rfl, rfl, fun j _ hj => by omega⟩
    case round =>
      obtain ⟨k, hk, rfl, rfl, HA⟩ := hrel
      by_cases hlt : k < s.size
      · have hg0 := data_get s k hlt
        by_cases hdg : Pl.isDig (s[k]'hlt) = true
        · have HF : Hid (Pl.noDig s.data.toList = false) := Pl.not_all _ k (by simpa using hlt) (by rw [hg0, hdg]; rfl)
          clear hg0 HA
          go_wp2_with (go_at_call 119; refine (ref_isDigit (s[k]'hlt) _).mono ?_; rintro e w' ⟨rfl, rfl⟩)
          go_ret
          exact ⟨_, g, rfl, World.grownBy.refl _ _, HR.out, .inr (.inr ⟨HN.out, HF.out, rfl⟩)⟩
        · have hdg0 : Pl.isDig (s[k]'hlt) = false := by simpa using hdg
          have HA2 : Hid (∀ j (h : j < s.data.toList.length), j < k + 1 → (!Pl.isDig s.data.toList[j]) = true) := by
            intro j h hj
            by_cases e : j = k
            · subst e; rw [hg0, hdg0]; rfl
            · exact HA.out j h (by omega)
          clear hg0 HA hdg
          go_wp2_with (go_at_call 119; refine (ref_isDigit (s[k]'hlt) _).mono ?_; rintro e w' ⟨rfl, rfl⟩)
          exact ⟨⟨k + 1, by omega, by go_num, trivial, HA2⟩, by simp [intOf]; omega⟩
      · have HF : Hid (Pl.noDig s.data.toList = true) := Pl.all_of _ fun j h => HA.out j h (by simp at h; omega)
        clear HA
        go_wp2_with fail
        go_ret
        refine ⟨_, g, rfl, World.grownBy_alloc _ _ _, HR.out.alloc _, .inr (.inl ⟨HN.out, HF.out, rfl, ?_⟩)⟩
        refine ⟨w.heap.size, rfl, Nat.le_refl _, (heap_alloc_new _ _).trans ?_⟩
        unfold strV
        simp [kNam, TD]
end Go.Proofs.YtkgbdddkcjpgfaaGreatDoor
