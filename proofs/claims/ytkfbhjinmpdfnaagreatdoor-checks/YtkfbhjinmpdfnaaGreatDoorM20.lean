/- The program's keywords and names. -/
import Derived.Test.YtkfbhjinmpdfnaaGreatDoorM19
import Derived.Test.YtkfbhjinmpdfnaaGreatDoorM12
namespace Go.Proofs.YtkfbhjinmpdfnaaGreatDoor
open Go.RowKit

def DatT : TypeId := 37
theorem Tryz.asNumber_Name (v : Value) (w : World) : (Instr.typeAssert (.iface 130 v) 37 43 true).run Tryz.prog w = .ok (.tuple #[.string ByteArray.empty, .bool false]) w := by kernel_rfl
theorem Tryz.asNumber_List (v : Value) (w : World) : (Instr.typeAssert (.iface 130 v) 37 41 true).run Tryz.prog w = .ok (.tuple #[.slice none 0 0, .bool false]) w := by kernel_rfl
theorem Tryz.asTruth_Name (v : Value) (w : World) : (Instr.typeAssert (.iface 129 v) 37 43 true).run Tryz.prog w = .ok (.tuple #[.string ByteArray.empty, .bool false]) w := by kernel_rfl
theorem Tryz.asTruth_List (v : Value) (w : World) : (Instr.typeAssert (.iface 129 v) 37 41 true).run Tryz.prog w = .ok (.tuple #[.slice none 0 0, .bool false]) w := by kernel_rfl
theorem Tryz.asName_Name (v : Value) (w : World) : (Instr.typeAssert (.iface 43 v) 37 43 true).run Tryz.prog w = .ok (.tuple #[v, .bool true]) w := by kernel_rfl
theorem Tryz.asName_List (v : Value) (w : World) : (Instr.typeAssert (.iface 43 v) 37 41 true).run Tryz.prog w = .ok (.tuple #[.slice none 0 0, .bool false]) w := by kernel_rfl
theorem Tryz.asList_Name (v : Value) (w : World) : (Instr.typeAssert (.iface 41 v) 37 43 true).run Tryz.prog w = .ok (.tuple #[.string ByteArray.empty, .bool false]) w := by kernel_rfl
theorem Tryz.asList_List (v : Value) (w : World) : (Instr.typeAssert (.iface 41 v) 37 41 true).run Tryz.prog w = .ok (.tuple #[v, .bool true]) w := by kernel_rfl
def kwOf (ts : List Tr) : List UInt8 := match Pl.headKw ts with
  | some h => h
  | none => []
def nmV (s : List UInt8) : Value := .string ⟨s.toArray⟩
/- A name's text. -/
def nmOf : Tr → Option (List UInt8)
  | .lit (.string s) => some s
  | _ => none
theorem RepP.at_name {ok : Nat → Prop} {n : Nat} {w : World} {v : Value} {s : List UInt8} (h : RepP ok n w v (.lit (.string s))) : v = .iface 43 (.string ⟨s.toArray⟩) := by
  cases n with
  | zero => exact h.elim
  | succ n => exact h
theorem RepP.no_name {ok : Nat → Prop} {n : Nat} {w : World} {v : Value} {t : Tr} (h : RepP ok n w v t) (hn : ¬ ∃ s, t = .lit (.string s)) : ∃ T x, v = .iface T x ∧ (T == 43) = false := by
  cases n with
  | zero => exact h.elim
  | succ n =>
    match t, h with
    | .lit (.int _ _), h => obtain ⟨k, rfl, _⟩ := h; exact ⟨_, _, rfl, by decide⟩
    | .lit (.bool _), h => exact ⟨_, _, h, by decide⟩
    | .lit (.string s), _ => exact absurd ⟨s, rfl⟩ hn
    | .agg ts, h => obtain ⟨sl, vs, rfl, _⟩ := h; exact ⟨_, _, rfl, by decide⟩
theorem kwB_false {s : List UInt8} (h : Pl.kwB s = false) : (s == Pl.quoteW) = false ∧ (s == Pl.ifW) = false ∧ (s == Pl.lambdaW) = false ∧ (s == Pl.setW) = false ∧ (s == Pl.defineW) = false ∧ (s == Pl.beginW) = false ∧ (s == Pl.letW) = false := by
  have h0 : s ∉ Pl.kws := fun hm => by rw [(Pl.kwB_sound s).2 hm] at h; simp at h
  simp only [Pl.kws, List.mem_cons, List.not_mem_nil, or_false, not_or] at h0
  obtain ⟨h1, h2, h3, h4, h5, h6, h7⟩ := h0
  exact ⟨by simpa using h1, by simpa using h2, by simpa using h3, by simpa using h4, by simpa using h5, by simpa using h6, by simpa using h7⟩
theorem kwB_true {s : List UInt8} (h : Pl.kwB s = true) : s = Pl.quoteW ∨ s = Pl.ifW ∨ s = Pl.lambdaW ∨ s = Pl.setW ∨ s = Pl.defineW ∨ s = Pl.beginW ∨ s = Pl.letW := by
  have h0 := (Pl.kwB_sound s).1 h
  simpa only [Pl.kws, List.mem_cons, List.not_mem_nil, or_false] using h0

set_option maxHeartbeats 1000000 in
set_option maxRecDepth 100000 in
theorem p_isKeyword (s : List UInt8) (w : World) : Calls Tryz.prog 23 #[.string ⟨s.toArray⟩] w fun e w' => e = .returned (.bool (Pl.kwB s)) ∧ w = w' := by
  cases hk : Pl.kwB s
  · obtain ⟨h1, h2, h3, h4, h5, h6, h7⟩ := kwB_false hk
    unfold Pl.quoteW at h1
    unfold Pl.ifW at h2
    unfold Pl.lambdaW at h3
    unfold Pl.setW at h4
    unfold Pl.defineW at h5
    unfold Pl.beginW at h6
    unfold Pl.letW at h7
    clear hk
    go_enter Tryz.func23, Tryz.ntmps23
    go_wp2_with fail
    go_ret
    exact ⟨rfl, rfl⟩
  · rcases kwB_true hk with rfl | rfl | rfl | rfl | rfl | rfl | rfl
    · clear hk; unfold Pl.quoteW
      go_enter Tryz.func23, Tryz.ntmps23
      go_wp2_with fail
      go_ret
      exact ⟨rfl, rfl⟩
    · clear hk; unfold Pl.ifW
      go_enter Tryz.func23, Tryz.ntmps23
      go_wp2_with fail
      go_ret
      exact ⟨rfl, rfl⟩
    · clear hk; unfold Pl.lambdaW
      go_enter Tryz.func23, Tryz.ntmps23
      go_wp2_with fail
      go_ret
      exact ⟨rfl, rfl⟩
    · clear hk; unfold Pl.setW
      go_enter Tryz.func23, Tryz.ntmps23
      go_wp2_with fail
      go_ret
      exact ⟨rfl, rfl⟩
    · clear hk; unfold Pl.defineW
      go_enter Tryz.func23, Tryz.ntmps23
      go_wp2_with fail
      go_ret
      exact ⟨rfl, rfl⟩
    · clear hk; unfold Pl.beginW
      go_enter Tryz.func23, Tryz.ntmps23
      go_wp2_with fail
      go_ret
      exact ⟨rfl, rfl⟩
    · clear hk; unfold Pl.letW
      go_enter Tryz.func23, Tryz.ntmps23
      go_wp2_with fail
      go_ret
      exact ⟨rfl, rfl⟩

theorem p_noForm (s : ByteArray) (w : World) : Calls Tryz.prog 38 #[.string s] w fun e w' => e = .returned (errV s 5) ∧ w = w' := by
  go_enter Tryz.func38, Tryz.ntmps38
  go_wp2_with (go_at_call 20; refine (p_While _ _ _).mono ?_; rintro e w' ⟨rfl, rfl⟩)
  go_ret
  exact ⟨rfl, rfl⟩

/- readName: a name that is no keyword. -/
def RNPost (w : World) (t : Tr) (e : Ending) (w' : World) : Prop :=
  w = w' ∧ ((Pl.isName t = true ∧ e = .returned (.tuple #[nmV (Pl.strOf t), .nilIface])) ∨ (Pl.isName t = false ∧ ∃ v s, e = .returned (.tuple #[v, errV s 5])))
set_option maxHeartbeats 1000000 in
set_option maxRecDepth 100000 in
theorem p_readName (ok : Nat → Prop) (n : Nat) (v : Value) (t : Tr) (w w0 : World) (h : RepP ok n w0 v t) : Calls Tryz.prog 26 #[v] w fun e w' => RNPost w t e w' := by
  have as1 := Tryz.asNumber_Name
  have as2 := Tryz.asTruth_Name
  have as3 := Tryz.asName_Name
  have as4 := Tryz.asList_Name
  by_cases hs : ∃ s, t = .lit (.string s)
  · obtain ⟨s, rfl⟩ := hs
    obtain rfl := h.at_name
    clear h
    cases hk : Pl.kwB s
    · have HE : Hid (Pl.isName (.lit (.string s)) = true) := by simp [Hid, Pl.isName, hk]
      go_enter Tryz.func26, Tryz.ntmps26
      go_wp2_with (go_at_call 23; refine (p_isKeyword _ _).mono ?_; rintro e w' ⟨rfl, rfl⟩)
      go_ret2
      exact ⟨rfl, .inl ⟨HE.out, rfl⟩⟩
    · have HE : Hid (Pl.isName (.lit (.string s)) = false) := by simp [Hid, Pl.isName, hk]
      go_enter Tryz.func26, Tryz.ntmps26
      go_wp2_with (first | (go_at_call 23; refine (p_isKeyword _ _).mono ?_; rintro e w' ⟨rfl, rfl⟩) | (go_at_call 38; refine (p_noForm _ _).mono ?_; rintro e w' ⟨rfl, rfl⟩))
      go_ret2
      exact ⟨rfl, .inr ⟨HE.out, _, _, rfl⟩⟩
  · have HE : Hid (Pl.isName t = false) := by
      show Pl.isName t = false
      unfold Pl.isName
      split
      · exact absurd ⟨_, rfl⟩ hs
      · rfl
    obtain ⟨x, hx⟩ : ∃ x, v = .iface 130 x ∨ v = .iface 129 x ∨ v = .iface 41 x := by
      cases n with
      | zero => exact h.elim
      | succ n =>
        match t, h with
        | .lit (.int _ _), h => obtain ⟨k, rfl, _⟩ := h; exact ⟨_, .inl rfl⟩
        | .lit (.bool _), h => exact ⟨_, .inr (.inl h)⟩
        | .lit (.string s), _ => exact absurd ⟨s, rfl⟩ hs
        | .agg ts, h => obtain ⟨sl, vs, rfl, _⟩ := h; exact ⟨_, .inr (.inr rfl)⟩
    clear h hs
    rcases hx with rfl | rfl | rfl
    · go_enter Tryz.func26, Tryz.ntmps26
      go_wp2_with (go_at_call 38; refine (p_noForm _ _).mono ?_; rintro e w' ⟨rfl, rfl⟩)
      go_ret2
      exact ⟨rfl, .inr ⟨HE.out, _, _, rfl⟩⟩
    · go_enter Tryz.func26, Tryz.ntmps26
      go_wp2_with (go_at_call 38; refine (p_noForm _ _).mono ?_; rintro e w' ⟨rfl, rfl⟩)
      go_ret2
      exact ⟨rfl, .inr ⟨HE.out, _, _, rfl⟩⟩
    · go_enter Tryz.func26, Tryz.ntmps26
      go_wp2_with (go_at_call 38; refine (p_noForm _ _).mono ?_; rintro e w' ⟨rfl, rfl⟩)
      go_ret2
      exact ⟨rfl, .inr ⟨HE.out, _, _, rfl⟩⟩
/- keywordOf. -/
set_option maxHeartbeats 1000000 in
set_option maxRecDepth 100000 in
theorem p_keywordOf (ok : Nat → Prop) (n : Nat) (sl : Value) (vs : List Value) (ts : List Tr) (w w0 : World) (hS : SlOf w sl vs) (hl : vs.length = ts.length) (hA : ∀ (u : Value) (x : Tr), vs.head? = some u → ts.head? = some x → RepP ok n w0 u x) : Calls Tryz.prog 11 #[sl] w fun e w' => e = .returned (.string ⟨(kwOf ts).toArray⟩) ∧ w = w' := by
  have as1 := Tryz.asNumber_Name
  have as2 := Tryz.asTruth_Name
  have as3 := Tryz.asName_Name
  have as4 := Tryz.asList_Name
  match vs, ts, hl with
  | [], [], _ =>
    obtain ⟨ao, cap, rfl, _⟩ := hS
    go_enter Tryz.func11, Tryz.ntmps11
    go_wp2_with fail
    go_ret
    exact ⟨rfl, rfl⟩
  | u :: us, t :: r, hl =>
    obtain ⟨g, off, cap, rfl, hcap, hg, c0, _⟩ := hS.cell0
    have h := hA u t rfl rfl
    have hz : ((us.length : Int) + 1 == 0) = false := by simp; omega
    clear hS hA hl
    by_cases hs : ∃ s, t = .lit (.string s)
    · obtain ⟨s, rfl⟩ := hs
      obtain rfl := h.at_name
      clear h
      cases hk : Pl.kwB s
      · have HE : Hid (kwOf (.lit (.string s) :: r) = []) := by simp [Hid, kwOf, Pl.headKw, hk]
        go_enter Tryz.func11, Tryz.ntmps11
        go_wp2_with (go_at_call 23; refine (p_isKeyword _ _).mono ?_; rintro e w' ⟨rfl, rfl⟩)
        go_ret
        exact ⟨by rw [HE.out]; rfl, rfl⟩
      · have HE : Hid (kwOf (.lit (.string s) :: r) = s) := by simp [Hid, kwOf, Pl.headKw, hk]
        go_enter Tryz.func11, Tryz.ntmps11
        go_wp2_with (go_at_call 23; refine (p_isKeyword _ _).mono ?_; rintro e w' ⟨rfl, rfl⟩)
        go_ret
        exact ⟨by rw [HE.out]; rfl, rfl⟩
    · have HE : Hid (kwOf (t :: r) = []) := by
        show kwOf (t :: r) = []
        have : Pl.headKw (t :: r) = none := by
          unfold Pl.headKw
          split
          · rename_i heq; obtain ⟨h1, _⟩ := List.cons.inj heq; exact absurd ⟨_, h1⟩ hs
          · rfl
        unfold kwOf
        rw [this]
      obtain ⟨x, hx⟩ : ∃ x, u = .iface 130 x ∨ u = .iface 129 x ∨ u = .iface 41 x := by
        cases n with
        | zero => exact h.elim
        | succ n =>
          match t, h with
          | .lit (.int _ _), h => obtain ⟨k, rfl, _⟩ := h; exact ⟨_, .inl rfl⟩
          | .lit (.bool _), h => exact ⟨_, .inr (.inl h)⟩
          | .lit (.string s), _ => exact absurd ⟨s, rfl⟩ hs
          | .agg ts, h => obtain ⟨sl, vs, rfl, _⟩ := h; exact ⟨_, .inr (.inr rfl)⟩
      clear h hs
      rcases hx with rfl | rfl | rfl
      · go_enter Tryz.func11, Tryz.ntmps11
        go_wp2_with fail
        go_ret
        exact ⟨by rw [HE.out]; rfl, rfl⟩
      · go_enter Tryz.func11, Tryz.ntmps11
        go_wp2_with fail
        go_ret
        exact ⟨by rw [HE.out]; rfl, rfl⟩
      · go_enter Tryz.func11, Tryz.ntmps11
        go_wp2_with fail
        go_ret
        exact ⟨by rw [HE.out]; rfl, rfl⟩
end Go.Proofs.YtkfbhjinmpdfnaaGreatDoor

/- The program's readForms. -/
namespace Go.Proofs.YtkfbhjinmpdfnaaGreatDoor
open Go.RowKit

theorem Tryz.infoFm : (Tryz.prog.info? 27).map (fun i => (i.zero, i.size, i.bytes)) = some (some .nilIface, 1, 16) := by kernel_rfl
def FPost (r : Bool) (w : World) (e : Ending) (w' : World) : Prop :=
  Below w.heap.size w w' ∧ ((r = true ∧ ∃ T x, e = .returned (.tuple #[.iface T x, .nilIface])) ∨ (r = false ∧ ∃ v s, e = .returned (.tuple #[v, errV s 5])))
def FCall (w : World) (v : Value) (r : Bool) : Prop := ∀ w', Below w.heap.size w w' → Calls Tryz.prog 13 #[v] w' fun e w'' => FPost r w' e w''
theorem FCall.later {w w' : World} {v : Value} {r : Bool} (h : FCall w v r) (hb : Below w.heap.size w w') : FCall w' v r := fun w2 h2 => h w2 (hb.trans (h2.mono hb.size))
def FsPost (r : Bool) (len : Nat) (w : World) (e : Ending) (w' : World) : Prop :=
  Below w.heap.size w w' ∧ ((r = true ∧ ∃ v fs, e = .returned (.tuple #[v, .nilIface]) ∧ w'.ownsRow w.heap.size 27 1 v len fs ∧ ∀ u ∈ fs, ∃ T x, u = .iface T x) ∨ (r = false ∧ ∃ v s, e = .returned (.tuple #[v, errV s 5])))
theorem allB_take {rs : List Bool} {k : Nat} (h : (rs.take k).all id = true) (hx : rs[k]? = some true) : (rs.take (k + 1)).all id = true := by
  rw [List.take_add_one, hx, List.all_append, h]; simp
theorem allB_fail {rs : List Bool} {k : Nat} (hx : rs[k]? = some false) : rs.all id = false := by
  rw [List.all_eq_false]
  exact ⟨false, List.mem_of_getElem? hx, by simp⟩

set_option maxHeartbeats 1000000 in
set_option maxRecDepth 100000 in
theorem p_readForms (w : World) (sl : Value) (vs : List Value) (rs : List Bool) (hS : SlOf w sl vs) (hl : vs.length = rs.length) (hlen : rs.length ≤ 2000) (hv1 : ∀ v ∈ vs, ∃ T x, v = .iface T x) (hF : ∀ (i : Nat) (v : Value) (r : Bool), vs[i]? = some v → rs[i]? = some r → FCall w v r) :
    Calls Tryz.prog 59 #[sl] w fun e w' => FsPost (rs.all id) rs.length w e w' := by
  obtain ⟨i0, hi0, hz0, hz1, hz2⟩ := info_parts Tryz.infoFm
  obtain ⟨ao, cap, rfl, hcap, hcell⟩ := hS
  rw [hl] at hcap ⊢
  have HV := (show Hid (vs.length = rs.length) from hl)
  have HC := (show Hid _ from hcell)
  have HFm := (show Hid _ from hF)
  have HI := (show Hid _ from hv1)
  clear hcell hF hl hv1
  go_enter Tryz.func59, Tryz.ntmps59
  go_wp2_with fail
  go_loopw [4, 11] (fun sv i wr => ∃ (k : Nat) (fs : List Value), k ≤ rs.length ∧ i = .int .i64 k ∧ Hid (wr.ownsRow w.heap.size 27 1 sv k fs) ∧ Hid (Below w.heap.size w wr) ∧ Hid ((rs.take k).all id = true) ∧ Hid (∀ u ∈ fs, ∃ T x, u = .iface T x)) (fun _ i _ => rs.length - (intOf i).toNat)
  case atStart => exact ⟨0, [], Nat.zero_le _, rfl, World.ownsRow_nil _ _ _ _, Below.refl _ _, by simp [Hid], fun u hu => by simp at hu⟩
  case round =>
    obtain ⟨k, fs, hk, rfl, HO, HB, HT, HU⟩ := hrel
    by_cases hlt : k < rs.length
    · obtain ⟨u, hu⟩ : ∃ u, vs[k]? = some u := ⟨vs[k]'(by have := HV.out; omega), List.getElem?_eq_getElem (by have := HV.out; omega)⟩
      obtain ⟨x, hx⟩ : ∃ x, rs[k]? = some x := ⟨rs[k], List.getElem?_eq_getElem hlt⟩
      obtain ⟨g, off, rfl, hg, hc⟩ := HC.out k u hu
      have hc' : wr.cell? ⟨g, off + k, none⟩ = some u := (HB.out.cell (p := ⟨g, off + k, none⟩) hg).trans hc
      have HFc : Hid (FCall wr u x) := (HFm.out k u x hu hx).later HB.out
      obtain ⟨T, y, rfl⟩ := HI.out u (List.mem_of_getElem? hu)
      have hlt2 : (k : Int) < (rs.length : Int) := by omega
      clear hc hu
      have HX := (show Hid _ from hx)
      clear hx
      go_wp2_with fail
      refine (HFc.out wr (Below.refl _ _)).mono ?_
      rintro e w2 ⟨hB2, ⟨hr, Tf, xf, rfl⟩ | ⟨hr, v, es, rfl⟩⟩
      · subst hr
        have HB2 : Hid (Below w.heap.size w w2) := HB.out.trans (hB2.mono HB.out.size)
        have HO2 : Hid (w2.ownsRow w.heap.size 27 1 u4 k fs) := HO.out.kept (grown_of_below none hB2) (by cases hv : Value.ownBlock u4 <;> simp)
        have HT2 : Hid ((rs.take (k + 1)).all id = true) := allB_take HT.out HX.out
        have hs2 : w.heap.size ≤ w2.heap.size := HB2.out.size
        clear hB2 HO HT hc'
        go_wp2_with (first | (at_builtin; refine wpList_append_lies _ rfl _ _ 132 rfl w.heap.size 27 i0 .nilIface 1 16 Tryz.underlying132 hi0 hz0 hz1 hz2 rfl (by decide) u4 k fs rfl (HO2.out.alloc _) ⟨w2.heap.size, 0, none⟩ 1 1 [.iface Tf xf] rfl rfl (cell_one_new _ _ _) (fun x hx => by simp at hx; subst hx; rfl) (by decide) (by unfold maxLen; omega) (by omega) (by simp; omega) (w2.heap.size + 1) (by simp) ?_; intro g' cap' w3 hown' hgrow3 hat3 _))
        go_roundw
        case rel =>
          refine ⟨k + 1, _, by omega, by go_num, hown', ?_, HT2, ?_⟩
          · exact (HB2.out.alloc hs2 _).grown hgrow3 (by simp; omega) (fun j hj => (HO2.out.lt j hj).1)
          · intro u hu
            rcases List.mem_append.1 hu with h1 | h1
            · exact HU.out u h1
            · simp at h1; exact ⟨_, _, h1⟩
        case measure => simp [intOf]; omega
      · subst hr
        have HE : Hid (rs.all id = false) := allB_fail HX.out
        have HB2 : Hid (Below w.heap.size w w2) := HB.out.trans (hB2.mono HB.out.size)
        clear hB2 HO HT hc'
        unfold errV
        go_wp2_with fail
        go_ret2
        exact ⟨HB2.out, .inr ⟨HE.out, _, _, rfl⟩⟩
    · have hk2 : k = rs.length := by omega
      have HE : Hid (rs.all id = true) := by have := HT.out; rw [hk2, List.take_length] at this; exact this
      have HO2 : Hid (wr.ownsRow w.heap.size 27 1 u4 rs.length fs) := by have := HO.out; rw [hk2] at this; exact this
      clear hk2
      go_wp2_with fail
      go_ret2
      exact ⟨HB.out, .inl ⟨HE.out, _, _, rfl, HO2.out, HU.out⟩⟩
end Go.Proofs.YtkfbhjinmpdfnaaGreatDoor
