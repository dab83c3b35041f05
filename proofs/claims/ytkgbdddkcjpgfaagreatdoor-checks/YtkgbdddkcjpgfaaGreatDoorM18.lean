/- The program's keywords and names. -/
import Derived.Test.YtkgbdddkcjpgfaaGreatDoorM17
import Derived.Test.YtkgbdddkcjpgfaaGreatDoorM07
import Derived.Test.YtkgbdddkcjpgfaaGreatDoorM10
namespace Go.Proofs.YtkgbdddkcjpgfaaGreatDoor
open Go.RowKit

def DatT : TypeId := 109
theorem Tryz.asNumber_Name (v : Value) (w : World) : (Instr.typeAssert (.iface 293 v) 109 117 true).run Tryz.prog w = .ok (.tuple #[.string ByteArray.empty, .bool false]) w := by kernel_rfl
theorem Tryz.asNumber_List (v : Value) (w : World) : (Instr.typeAssert (.iface 293 v) 109 115 true).run Tryz.prog w = .ok (.tuple #[.slice none 0 0, .bool false]) w := by kernel_rfl
theorem Tryz.asTruth_Name (v : Value) (w : World) : (Instr.typeAssert (.iface 295 v) 109 117 true).run Tryz.prog w = .ok (.tuple #[.string ByteArray.empty, .bool false]) w := by kernel_rfl
theorem Tryz.asTruth_List (v : Value) (w : World) : (Instr.typeAssert (.iface 295 v) 109 115 true).run Tryz.prog w = .ok (.tuple #[.slice none 0 0, .bool false]) w := by kernel_rfl
theorem Tryz.asName_Name (v : Value) (w : World) : (Instr.typeAssert (.iface 117 v) 109 117 true).run Tryz.prog w = .ok (.tuple #[v, .bool true]) w := by kernel_rfl
theorem Tryz.asName_List (v : Value) (w : World) : (Instr.typeAssert (.iface 117 v) 109 115 true).run Tryz.prog w = .ok (.tuple #[.slice none 0 0, .bool false]) w := by kernel_rfl
theorem Tryz.asList_Name (v : Value) (w : World) : (Instr.typeAssert (.iface 115 v) 109 117 true).run Tryz.prog w = .ok (.tuple #[.string ByteArray.empty, .bool false]) w := by kernel_rfl
theorem Tryz.asList_List (v : Value) (w : World) : (Instr.typeAssert (.iface 115 v) 109 115 true).run Tryz.prog w = .ok (.tuple #[v, .bool true]) w := by kernel_rfl
def kwOf (ts : List Tr) : List UInt8 := match Pl.headKw ts with
  | some h => h
  | none => []
def nmV (s : List UInt8) : Value := .string ⟨s.toArray⟩
/- A name's text. -/
def nmOf : Tr → Option (List UInt8)
  | .lit (.string s) => some s
  | _ => none
theorem RepP.at_name {ok : Nat → Prop} {n : Nat} {w : World} {v : Value} {s : List UInt8} (h : RepP ok n w v (.lit (.string s))) : v = .iface 117 (.string ⟨s.toArray⟩) := by
  cases n with
  | zero => exact h.elim
  | succ n => exact h
theorem RepP.no_name {ok : Nat → Prop} {n : Nat} {w : World} {v : Value} {t : Tr} (h : RepP ok n w v t) (hn : ¬ ∃ s, t = .lit (.string s)) : ∃ T x, v = .iface T x ∧ (T == 117) = false := by
  cases n with
  | zero => exact h.elim
  | succ n =>
    match t, h with
    | .lit (.int _ _), h => obtain ⟨k, rfl, _⟩ := h; exact ⟨_, _, rfl, by decide⟩
    | .lit (.bool _), h => exact ⟨_, _, h, by decide⟩
    | .lit (.string s), _ => exact absurd ⟨s, rfl⟩ hn
    | .agg ts, h => obtain ⟨sl, vs, rfl, _⟩ := h; exact ⟨_, _, rfl, by decide⟩
theorem kwB_false {s : List UInt8} (h : Pl.kwB s = false) : (s == Pl.quoteW) = false ∧ (s == Pl.ifW) = false ∧ (s == Pl.lambdaW) = false ∧ (s == Pl.setW) = false ∧ (s == Pl.defineW) = false ∧ (s == Pl.beginW) = false ∧ (s == Pl.letW) = false := by
  have h0 : s ∉ Pl.kws := fun hm => by rw [(Pl.kwB_sound s).2 hm] at h; simp at h
  simp only [Pl.kws, List.mem_cons, List.not_mem_nil, or_false, not_or] at h0
  obtain ⟨h1, h2, h3, h4, h5, h6, h7⟩ := h0
  exact ⟨by simpa using h1, by simpa using h2, by simpa using h3, by simpa using h4, by simpa using h5, by simpa using h6, by simpa using h7⟩
theorem kwB_true {s : List UInt8} (h : Pl.kwB s = true) : s = Pl.quoteW ∨ s = Pl.ifW ∨ s = Pl.lambdaW ∨ s = Pl.setW ∨ s = Pl.defineW ∨ s = Pl.beginW ∨ s = Pl.letW := by
  have h0 := (Pl.kwB_sound s).1 h
  simpa only [Pl.kws, List.mem_cons, List.not_mem_nil, or_false] using h0

set_option maxHeartbeats 1000000 in
set_option maxRecDepth 100000 in
theorem p_isKeyword (s : List UInt8) (w : World) : Calls Tryz.prog 110 #[.string ⟨s.toArray⟩] w fun e w' => e = .returned (.bool (Pl.kwB s)) ∧ w = w' := by
  cases hk : Pl.kwB s
  · obtain ⟨h1, h2, h3, h4, h5, h6, h7⟩ := kwB_false hk
    unfold Pl.quoteW at h1
    unfold Pl.ifW at h2
    unfold Pl.lambdaW at h3
    unfold Pl.setW at h4
    unfold Pl.defineW at h5
    unfold Pl.beginW at h6
    unfold Pl.letW at h7
    clear hk
    go_enter Tryz.func110, Tryz.ntmps110
    go_wp2_with fail
    go_ret
    exact ⟨rfl, rfl⟩
  · rcases kwB_true hk with rfl | rfl | rfl | rfl | rfl | rfl | rfl
    · clear hk; unfold Pl.quoteW
      go_enter Tryz.func110, Tryz.ntmps110
      go_wp2_with fail
      go_ret
      exact ⟨rfl, rfl⟩
    · clear hk; unfold Pl.ifW
      go_enter Tryz.func110, Tryz.ntmps110
      go_wp2_with fail
      go_ret
      exact ⟨rfl, rfl⟩
    · clear hk; unfold Pl.lambdaW
      go_enter Tryz.func110, Tryz.ntmps110
      go_wp2_with fail
      go_ret
      exact ⟨rfl, rfl⟩
    · clear hk; unfold Pl.setW
      go_enter Tryz.func110, Tryz.ntmps110
      go_wp2_with fail
      go_ret
      exact ⟨rfl, rfl⟩
    · clear hk; unfold Pl.defineW
      go_enter Tryz.func110, Tryz.ntmps110
      go_wp2_with fail
      go_ret
      exact ⟨rfl, rfl⟩
    · clear hk; unfold Pl.beginW
      go_enter Tryz.func110, Tryz.ntmps110
      go_wp2_with fail
      go_ret
      exact ⟨rfl, rfl⟩
    · clear hk; unfold Pl.letW
      go_enter Tryz.func110, Tryz.ntmps110
      go_wp2_with fail
      go_ret
      exact ⟨rfl, rfl⟩

theorem p_noForm (s : ByteArray) (w : World) : Calls Tryz.prog 149 #[.string s] w fun e w' => e = .returned (errV s 5) ∧ w = w' := by
  go_enter Tryz.func149, Tryz.ntmps149
  go_wp2_with (go_at_call 78; refine (p_While _ _ _).mono ?_; rintro e w' ⟨rfl, rfl⟩)
  go_ret
  exact ⟨rfl, rfl⟩

/- keywordOf. -/
set_option maxHeartbeats 1000000 in
set_option maxRecDepth 100000 in
theorem p_keywordOf (ok : Nat → Prop) (n : Nat) (sl : Value) (vs : List Value) (ts : List Tr) (w w0 : World) (hS : SlOf w sl vs) (hl : vs.length = ts.length) (hA : ∀ (u : Value) (x : Tr), vs.head? = some u → ts.head? = some x → RepP ok n w0 u x) : Calls Tryz.prog 65 #[sl] w fun e w' => e = .returned (.string ⟨(kwOf ts).toArray⟩) ∧ w = w' := by
  have as1 := Tryz.asNumber_Name
  have as2 := Tryz.asTruth_Name
  have as3 := Tryz.asName_Name
  have as4 := Tryz.asList_Name
  match vs, ts, hl with
  | [], [], _ =>
    obtain ⟨ao, cap, rfl, _⟩ := hS
    go_enter Tryz.func65, Tryz.ntmps65
    go_wp2_with fail
    go_ret
    exact ⟨rfl, rfl⟩
  | u :: us, t :: r, hl =>
    obtain ⟨g, off, cap, rfl, hcap, hg, c0, _⟩ := hS.cell0
    have h := hA u t rfl rfl
    have hz : ((us.length : Int) + 1 == 0) = false := by simp; omega
    clear hS hA hl
    by_cases hs : ∃ s, t = .lit (.string s)
    · obtain ⟨s, rfl⟩ := hs
      obtain rfl := h.at_name
      clear h
      cases hk : Pl.kwB s
      · have HE : Hid (kwOf (.lit (.string s) :: r) = []) := by simp [Hid, kwOf, Pl.headKw, hk]
        go_enter Tryz.func65, Tryz.ntmps65
        go_wp2_with (go_at_call 110; refine (p_isKeyword _ _).mono ?_; rintro e w' ⟨rfl, rfl⟩)
        go_ret
        exact ⟨by rw [HE.out]; rfl, rfl⟩
      · have HE : Hid (kwOf (.lit (.string s) :: r) = s) := by simp [Hid, kwOf, Pl.headKw, hk]
        go_enter Tryz.func65, Tryz.ntmps65
        go_wp2_with (go_at_call 110; refine (p_isKeyword _ _).mono ?_; rintro e w' ⟨rfl, rfl⟩)
        go_ret
        exact ⟨by rw [HE.out]; rfl, rfl⟩
    · have HE : Hid (kwOf (t :: r) = []) := by
        show kwOf (t :: r) = []
        have : Pl.headKw (t :: r) = none := by
          unfold Pl.headKw
          split
          · rename_i heq; obtain ⟨h1, _⟩ := List.cons.inj heq; exact absurd ⟨_, h1⟩ hs
          · rfl
        unfold kwOf
        rw [this]
      obtain ⟨x, hx⟩ : ∃ x, u = .iface 293 x ∨ u = .iface 295 x ∨ u = .iface 115 x := by
        cases n with
        | zero => exact h.elim
        | succ n =>
          match t, h with
          | .lit (.int _ _), h => obtain ⟨k, rfl, _⟩ := h; exact ⟨_, .inl rfl⟩
          | .lit (.bool _), h => exact ⟨_, .inr (.inl h)⟩
          | .lit (.string s), _ => exact absurd ⟨s, rfl⟩ hs
          | .agg ts, h => obtain ⟨sl, vs, rfl, _⟩ := h; exact ⟨_, .inr (.inr rfl)⟩
      clear h hs
      rcases hx with rfl | rfl | rfl
      · go_enter Tryz.func65, Tryz.ntmps65
        go_wp2_with fail
        go_ret
        exact ⟨by rw [HE.out]; rfl, rfl⟩
      · go_enter Tryz.func65, Tryz.ntmps65
        go_wp2_with fail
        go_ret
        exact ⟨by rw [HE.out]; rfl, rfl⟩
      · go_enter Tryz.func65, Tryz.ntmps65
        go_wp2_with fail
        go_ret
        exact ⟨by rw [HE.out]; rfl, rfl⟩
end Go.Proofs.YtkgbdddkcjpgfaaGreatDoor

/- The program's value of a quoted datum. -/
namespace Go.Proofs.YtkgbdddkcjpgfaaGreatDoor
open Go.RowKit

theorem Tryz.asNumber_Number (v : Value) (w : World) : (Instr.typeAssert (.iface 293 v) 109 293 true).run Tryz.prog w = .ok (.tuple #[v, .bool true]) w := by kernel_rfl
theorem Tryz.asTruth_Truth (v : Value) (w : World) : (Instr.typeAssert (.iface 295 v) 109 295 true).run Tryz.prog w = .ok (.tuple #[v, .bool true]) w := by kernel_rfl
theorem Tryz.asTruth_Number (v : Value) (w : World) : (Instr.typeAssert (.iface 295 v) 109 293 true).run Tryz.prog w = .ok (.tuple #[.int .i64 0, .bool false]) w := by kernel_rfl
theorem Tryz.asName_Number (v : Value) (w : World) : (Instr.typeAssert (.iface 117 v) 109 293 true).run Tryz.prog w = .ok (.tuple #[.int .i64 0, .bool false]) w := by kernel_rfl
theorem Tryz.asList_Number (v : Value) (w : World) : (Instr.typeAssert (.iface 115 v) 109 293 true).run Tryz.prog w = .ok (.tuple #[.int .i64 0, .bool false]) w := by kernel_rfl
theorem Tryz.asNumber_Truth (v : Value) (w : World) : (Instr.typeAssert (.iface 293 v) 109 295 true).run Tryz.prog w = .ok (.tuple #[.bool false, .bool false]) w := by kernel_rfl
theorem Tryz.asName_Truth (v : Value) (w : World) : (Instr.typeAssert (.iface 117 v) 109 295 true).run Tryz.prog w = .ok (.tuple #[.bool false, .bool false]) w := by kernel_rfl
theorem Tryz.asList_Truth (v : Value) (w : World) : (Instr.typeAssert (.iface 115 v) 109 295 true).run Tryz.prog w = .ok (.tuple #[.bool false, .bool false]) w := by kernel_rfl
theorem RepP.list {ok : Nat → Prop} {n : Nat} {w : World} {v : Value} {ts : List Tr} (h : RepP ok (n + 1) w v (.agg ts)) : ∃ sl vs, v = .iface 115 sl ∧ SlOf w sl vs ∧ vs.length = ts.length ∧ ts.length ≤ 1000 ∧ ∀ (i : Nat) (u : Value) (x : Tr), vs[i]? = some u → ts[i]? = some x → RepP ok n w u x := by
  obtain ⟨sl, vs, hv, _, h3, h4, h5⟩ := h
  exact ⟨sl, vs, hv, slOf_own h3, h3.1.trans (Nat.mul_one _), h5, h4⟩
theorem RepP.no_list {ok : Nat → Prop} {n : Nat} {w : World} {v : Value} {t : Tr} (h : RepP ok n w v t) (hn : ¬ ∃ s, t = .agg s) : ∃ x, v = .iface 293 x ∨ v = .iface 295 x ∨ v = .iface 117 x := by
  cases n with
  | zero => exact h.elim
  | succ n =>
    match t, h with
    | .lit (.int _ _), h => obtain ⟨k, rfl, _⟩ := h; exact ⟨_, .inl rfl⟩
    | .lit (.bool _), h => exact ⟨_, .inr (.inl h)⟩
    | .lit (.string s), h => exact ⟨_, .inr (.inr h)⟩
    | .agg ts, h => exact absurd ⟨ts, rfl⟩ hn
/- Nothing but new pairs. -/
def PbLe (s t : Sg) : Prop := ∃ l, t = { s with pb := s.pb ++ l }
theorem PbLe.refl (s : Sg) : PbLe s s := ⟨[], by simp⟩
theorem PbLe.trans {a b c : Sg} (h : PbLe a b) (k : PbLe b c) : PbLe a c := by
  obtain ⟨l, rfl⟩ := h
  obtain ⟨m, rfl⟩ := k
  exact ⟨l ++ m, by simp⟩
theorem PbLe.le {a b : Sg} (h : PbLe a b) : Sg.Le a b := by
  obtain ⟨l, rfl⟩ := h
  exact ⟨rfl, rfl, List.prefix_append _ _, List.prefix_refl _, List.prefix_refl _, List.prefix_refl _, List.prefix_refl _⟩
theorem PbLe.add (s : Sg) (b : Nat) : PbLe s (s.addPair b) := ⟨[b], rfl⟩
def OfPost (M : Nat → Prop) (w : World) (s : Sg) (ps : List (Pl.PV × Pl.PV)) (r : Pl.PV × List (Pl.PV × Pl.PV)) (e : Ending) (w' : World) : Prop :=
  ∃ v t, e = .returned v ∧ RV t v r.1 ∧ PairsAt M w' t (ps ++ r.2) ∧ Below w.heap.size w w' ∧ PbLe s t
def OfSaid (n : Nat) : Prop := ∀ (M : Nat → Prop) (ok : Nat → Prop) (w : World) (s : Sg) (ps : List (Pl.PV × Pl.PV)) (v : Value) (t : Tr), PairsAt M w s ps → (∀ k, M k → k < w.heap.size) → RepP ok n w v t → bigT n t →
  Calls Tryz.prog 114 #[v] w fun e w' => OfPost M w s ps (Pl.made n ps.length t) e w'
theorem drop_get {α : Type} {l : List α} {k : Nat} {x : α} (h : l[k]? = some x) : l.drop k = x :: l.drop (k + 1) := by
  obtain ⟨hk, rfl⟩ := List.getElem?_eq_some_iff.1 h
  exact List.drop_eq_getElem_cons hk
theorem madeL_at (n b : Nat) (ts : List Tr) (k : Nat) (x : Tr) (h : ts[k]? = some x) : Pl.madeL (Pl.made n) b (ts.drop k) = Pl.madeL (Pl.made n) b (x :: ts.drop (k + 1)) := by rw [drop_get h]
def OfInv (n : Nat) (M : Nat → Prop) (w wr : World) (s sk : Sg) (ps : List (Pl.PV × Pl.PV)) (ts : List Tr) (k : Nat) (lv : Value) : Prop :=
  RV sk lv (Pl.madeL (Pl.made n) ps.length (ts.drop k)).1 ∧ PairsAt M wr sk (ps ++ (Pl.madeL (Pl.made n) ps.length (ts.drop k)).2) ∧ Below w.heap.size w wr ∧ PbLe s sk
set_option maxHeartbeats 2000000 in
set_option maxRecDepth 100000 in
theorem p_ofList (n : Nat) (ih : OfSaid n) (M ok : Nat → Prop) (w : World) (s : Sg) (ps : List (Pl.PV × Pl.PV)) (sl : Value) (vs : List Value) (ts : List Tr) (hP : PairsAt M w s ps) (hM : ∀ k, M k → k < w.heap.size) (hS : SlOf w sl vs) (hl : vs.length = ts.length) (hlen : ts.length ≤ 1000) (hA : ∀ (i : Nat) (u : Value) (x : Tr), vs[i]? = some u → ts[i]? = some x → RepP ok n w u x) (hB : ∀ x ∈ ts, bigT n x) :
    Calls Tryz.prog 157 #[sl] w fun e w' => OfPost M w s ps (Pl.madeL (Pl.made n) ps.length ts) e w' := by
  have HP : Hid (PairsAt M w s ps) := hP
  have HM : Hid (∀ k, M k → k < w.heap.size) := hM
  have HA : Hid (∀ (i : Nat) (u : Value) (x : Tr), vs[i]? = some u → ts[i]? = some x → RepP ok n w u x) := hA
  have HB : Hid (∀ x ∈ ts, bigT n x) := hB
  have HI : Hid (OfSaid n) := ih
  have HL : Hid (vs.length = ts.length) := hl
  obtain ⟨ao, cap, rfl, hcap, hc⟩ := hS
  have HC : Hid (∀ (i : Nat) (u : Value), vs[i]? = some u → ∃ g off, ao = some ⟨g, off, none⟩ ∧ g < w.heap.size ∧ w.cell? ⟨g, off + i, none⟩ = some u) := hc
  rw [hl]
  clear hP hM hA hB ih hc hl
  go_enter Tryz.func157, Tryz.ntmps157
  go_wp2_with fail
  go_loopw [3, 4] (fun l i wr => ∃ (k : Nat) (lv : Value) (sk : Sg), k ≤ ts.length ∧ i = .int .i64 ((k : Int) - 1) ∧ l = lv ∧ Hid (OfInv n M w wr s sk ps ts k lv)) (fun _ i _ => (intOf i + 1).toNat)
  case atStart =>
    refine ⟨ts.length, _, s, Nat.le_refl _, by go_num, rfl, ?_⟩
    refine show OfInv _ _ _ _ _ _ _ _ _ _ from ⟨?_, ?_, Below.refl _ _, PbLe.refl _⟩
    · rw [List.drop_length]; exact .empty
    · rw [List.drop_length]; simpa [Pl.madeL] using HP.out
  case round =>
    obtain ⟨k, lv, sk, hk, rfl, rfl, HK⟩ := hrel
    rcases Nat.eq_zero_or_pos k with rfl | hpos
    · have e0 : (((0 : Nat) : Int) - 1) = -1 := by omega
      rw [e0]
      go_wp2_with fail
      go_ret
      obtain ⟨h1, h2, h3, h4⟩ := HK.out
      exact ⟨_, sk, rfl, h1, h2, h3, h4⟩
    · obtain ⟨j, rfl⟩ : ∃ j, k = j + 1 := ⟨k - 1, by omega⟩
      have e0 : (((j + 1 : Nat) : Int) - 1) = (j : Int) := by omega
      rw [e0]
      have hjl : j < ts.length := by omega
      obtain ⟨tj, hx⟩ : ∃ x, ts[j]? = some x := ⟨_, List.getElem?_eq_getElem hjl⟩
      obtain ⟨vj, hvj⟩ : ∃ x, vs[j]? = some x := ⟨_, List.getElem?_eq_getElem (by have := HL.out; omega)⟩
      obtain ⟨g, off, rfl, hg, hc⟩ := HC.out j vj hvj
      have hR := HA.out j vj tj hvj hx
      have HK' := HK.out
      obtain ⟨h1, h2, h3, h4⟩ := HK'
      have hcr := (h3.cell (p := ⟨g, off + j, none⟩) hg).trans hc
      have HR : Hid (RepP ok n wr vj tj) := hR.later h3
      have HBx : Hid (bigT n tj) := HB.out _ (List.mem_of_getElem? hx)
      have HE : Hid (Pl.madeL (Pl.made n) ps.length (ts.drop j) = Pl.madeL (Pl.made n) ps.length (tj :: ts.drop (j + 1))) := madeL_at n ps.length ts j _ hx
      obtain ⟨T, x, hv, hone⟩ := hR.iface
      have hj1 : (0 : Int) ≤ (j : Int) := by omega
      have hj2 : (j : Int) < (ts.length : Int) := by omega
      have HR' := HR
      rw [hv] at hcr HR'
      obtain ⟨T0, x0, hlv⟩ := h1.iface
      subst hlv
      clear hx hc hR hone hv h1 h2 h3 h4 HR hjl hvj
      go_wp2_with fail
      obtain ⟨h1, h2, h3, h4⟩ := HK.out
      refine (HI.out M ok wr sk _ _ tj h2 (fun k hk => Nat.lt_of_lt_of_le (HM.out k hk) h3.size) HR'.out HBx.out).mono ?_
      rintro e w2 ⟨v2, t2, rfl, k1, k2, k3, k4⟩
      have hM2 : ∀ k, M k → k < w2.heap.size := fun k hk => Nat.lt_of_lt_of_le (HM.out k hk) (Nat.le_trans h3.size k3.size)
      obtain ⟨p1, p2⟩ := k2.push hM2 (p := ((Pl.made n (ps ++ (Pl.madeL (Pl.made n) ps.length (ts.drop (j + 1))).2).length tj).1, (Pl.madeL (Pl.made n) ps.length (ts.drop (j + 1))).1)) k1 (h1.le k4.le)
      have hB2 : Below w.heap.size w (w2.alloc (.cells #[v2, .iface T0 x0] TPair)) := (h3.trans (k3.mono h3.size)).alloc (Nat.le_trans h3.size k3.size) _
      have HN : Hid (OfInv n M w (w2.alloc (.cells #[v2, .iface T0 x0] TPair)) s (t2.addPair w2.heap.size) ps ts j (.iface 367 (.pointer (some ⟨w2.heap.size, 0, none⟩)))) := by
        refine show OfInv _ _ _ _ _ _ _ _ _ _ from ⟨?_, ?_, hB2, h4.trans (k4.trans (PbLe.add _ _))⟩
        · rw [HE.out]
          simpa [Pl.madeL, Nat.add_assoc] using p2
        · rw [HE.out]
          simpa [Pl.madeL, Nat.add_assoc] using p1
      obtain ⟨T2, x2, rfl⟩ := k1.iface
      clear h1 h2 h3 h4 k1 k2 k3 k4 hM2 p1 p2 hB2
      go_wp2_with fail
      go_roundw
      case rel => exact ⟨j, _, _, by omega, by go_num, rfl, HN⟩
      case measure => simp [intOf]
set_option maxHeartbeats 1000000 in
set_option maxRecDepth 100000 in
theorem p_of : ∀ n, OfSaid n
  | 0 => fun M ok w s ps v t _ _ h _ => h.elim
  | n + 1 => fun M ok w s ps v t hP hM hR hB => by
    have a1 := Tryz.asNumber_Number
    have a2 := Tryz.asTruth_Truth
    have a3 := Tryz.asTruth_Number
    have a4 := Tryz.asName_Number
    have a5 := Tryz.asList_Number
    have a6 := Tryz.asName_Truth
    have a7 := Tryz.asList_Truth
    have a8 := Tryz.asName_Name
    have a9 := Tryz.asList_Name
    have a10 := Tryz.asList_List
    have HP : Hid (PairsAt M w s (ps ++ [])) := show PairsAt M w s (ps ++ []) from by rw [List.append_nil]; exact hP
    match t, hR, hB with
    | .lit (.int _ m), hR, hB =>
      obtain ⟨k, rfl, hk⟩ := hR
      obtain rfl := hk hB
      clear hP hM hk hB
      go_enter Tryz.func114, Tryz.ntmps114
      go_wp2_with fail
      go_ret
      exact ⟨_, s, rfl, .num _, HP.out, Below.refl _ _, PbLe.refl _⟩
    | .lit (.bool x), hR, hB =>
      obtain rfl := (show v = _ from hR)
      clear hP hM hB hR
      go_enter Tryz.func114, Tryz.ntmps114
      go_wp2_with fail
      go_ret
      exact ⟨_, s, rfl, .truth _, HP.out, Below.refl _ _, PbLe.refl _⟩
    | .lit (.string x), hR, hB =>
      obtain rfl := (show v = _ from hR)
      clear hP hM hB hR
      go_enter Tryz.func114, Tryz.ntmps114
      go_wp2_with fail
      go_ret
      exact ⟨_, s, rfl, .name _, HP.out, Below.refl _ _, PbLe.refl _⟩
    | .agg ts, hR, hB =>
      obtain ⟨sl, vs, rfl, h1, h2, h3, h4⟩ := hR.list
      have HC : Hid (Calls Tryz.prog 157 #[sl] w fun e w' => OfPost M w s ps (Pl.madeL (Pl.made n) ps.length ts) e w') := p_ofList n (p_of n) M ok w s ps sl vs ts hP hM h1 h2 h3 h4 hB
      obtain ⟨ao, cap, rfl, _⟩ := h1
      clear hP hM hB hR h4 h2 h3
      go_enter Tryz.func114, Tryz.ntmps114
      go_wp2_with fail
      refine Calls.mono HC.out ?_
      rintro e w2 ⟨v2, t2, rfl, k1, k2⟩
      have H1 : Hid (RV t2 v2 _) := k1
      have H2 := (show Hid (_ ∧ _) from k2)
      obtain ⟨T2, x2, rfl⟩ := k1.iface
      clear k1 k2
      go_wp2_with fail
      go_ret
      exact ⟨_, t2, rfl, H1.out, H2.out⟩
end Go.Proofs.YtkgbdddkcjpgfaaGreatDoor
