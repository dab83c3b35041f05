/- errors.As over a Doing around a Fault, and fault.Code. -/
import Derived.Test.YtkfbhjinmpdfnaaGreatDoorM26
namespace Go.Proofs.YtkfbhjinmpdfnaaGreatDoor
open Go.RowKit Go.Extern.Stop Go.Stop Go.Extern

set_option maxHeartbeats 1000000 in
theorem p_unwrap (s : ByteArray) (code : Int) (w : World) : Calls Tryz.prog 130 #[.agg #[.string s, .iface 47 (.int .i64 code)]] w fun e w' => e = .returned (.iface 47 (.int .i64 code)) ∧ w.alloc (.cells #[.string s, .iface 47 (.int .i64 code)] 98) = w' := by
  go_enter Tryz.func130, Tryz.ntmps130
  go_wp2_with fail
  go_ret
  exact ⟨rfl, rfl⟩
set_option maxHeartbeats 4000000 in
set_option maxRecDepth 100000 in
theorem as_hit (s : ByteArray) (code : Int) (t : Addr) (old : Value) (w : World) (hg : w.cell? ⟨0, 0, none⟩ = some (.iface 107 (.agg #[.pointer (some ⟨7, 29, none⟩)]))) (ht0 : w.cell? t = some old) (hf0 : w.frozen? t = false) :
    Calls Tryz.prog 14 #[.iface 98 (.agg #[.string s, .iface 47 (.int .i64 code)]), .iface 49 (.pointer (some t))] w fun ev w' => ev = .returned (.bool true) ∧ w' = (((((w.alloc (.cells #[.pointer (some t)] 49)).alloc (.cells #[.pointer (some ⟨7, 49, none⟩), .pointer (some ⟨w.heap.size, 0, none⟩), .int .u64 150] 82)).alloc (.cells #[.pointer (some ⟨7, 49, none⟩), .pointer (some ⟨w.heap.size, 0, none⟩), .int .u64 150] 82)).alloc (.cells #[.string s, .iface 47 (.int .i64 code)] 98)).alloc (.cells #[.int .i64 code] 47)).setCell t (.int .i64 code) := by
  have h27 := @run_callFunc_extern Tryz.prog 27 _ (fun args => ReflectliteValue.unpack (args.getD 0 (.tuple #[]))) Tryz.func27 (by kernel_rfl) (by kernel_rfl) (by kernel_rfl) (by kernel_rfl)
  have h28 := @run_callFunc_extern Tryz.prog 28 _ (ReflectliteValue.methodAny (ReflectliteValue.valueError "reflectlite.Value.Type" 0) (fun t _ _ _ => ReflectliteType.toType t)) Tryz.func28 (by kernel_rfl) (by kernel_rfl) (by kernel_rfl) (by kernel_rfl)
  have h29 := @run_callFunc_extern Tryz.prog 29 _ (ReflectliteValue.method (ReflectliteValue.valueError "reflectlite.Value.IsNil" 0) ReflectliteValue.isNil) Tryz.func29 (by kernel_rfl) (by kernel_rfl) (by kernel_rfl) (by kernel_rfl)
  have h117 := @run_callFunc_extern Tryz.prog 117 _ (ReflectliteType.abiMethod fun t => do pure (.int .u8 (← Rtype.kind t))) Tryz.func117 (by kernel_rfl) (by kernel_rfl) (by kernel_rfl) (by kernel_rfl)
  have h134 := @run_callFunc_extern Tryz.prog 134 _ (ReflectliteType.method ReflectliteType.elem) Tryz.func134 (by kernel_rfl) (by kernel_rfl) (by kernel_rfl) (by kernel_rfl)
  have h135 := @run_callFunc_extern Tryz.prog 135 _ (ReflectliteType.relation "Implements" ReflectliteType.implements_) Tryz.func135 (by kernel_rfl) (by kernel_rfl) (by kernel_rfl) (by kernel_rfl)
  have h46 := @run_callFunc_extern Tryz.prog 46 _ ReflectliteType.typeOf Tryz.func46 (by kernel_rfl) (by kernel_rfl) (by kernel_rfl) (by kernel_rfl)
  have h132 := @run_callFunc_extern Tryz.prog 132 _ (ReflectliteType.relation "AssignableTo" ReflectliteType.assignableTo) Tryz.func132 (by kernel_rfl) (by kernel_rfl) (by kernel_rfl) (by kernel_rfl)
  have h47 := @run_callFunc_extern Tryz.prog 47 _ (ReflectliteValue.method (ReflectliteValue.valueError "reflectlite.Value.Elem" 0) ReflectliteValue.elem) Tryz.func47 (by kernel_rfl) (by kernel_rfl) (by kernel_rfl) (by kernel_rfl)
  have h48 := @run_callFunc_extern Tryz.prog 48 _ ReflectliteValue.set Tryz.func48 (by kernel_rfl) (by kernel_rfl) (by kernel_rfl) (by kernel_rfl)
  have x1 := Tryz.typeOfF
  have x2 := Tryz.typeOfD
  have x3 := Tryz.methodAssignableTo
  have x4 := Tryz.assignableF
  have x5 := Tryz.assignableD
  have x6 := Tryz.valueOfF
  have x7 := Tryz.valueOfP
  have x8 := Tryz.typeP
  have x9 := Tryz.methodKind
  have x10 := Tryz.methodElem
  have x11 := Tryz.methodImplements
  have x12 := Tryz.kindP
  have x13 := Tryz.kindF
  have x14 := Tryz.elemP
  have x15 := Tryz.implementsF
  have x16 := Tryz.asD_As
  have x17 := Tryz.asD_Unwrap
  have x18 := Tryz.methodUnwrap
  have n8 := Tryz.isNilP ⟨w.heap.size, 0, none⟩ t ((w.alloc (.cells #[.pointer (some t)] 49)).alloc (.cells #[.pointer (some ⟨7, 49, none⟩), .pointer (some ⟨w.heap.size, 0, none⟩), .int .u64 150] 82)) (by simp)
  have hlt : 0 < w.heap.size := by
    rcases Nat.eq_zero_or_pos w.heap.size with h0 | h
    · simp [World.cell?, h0] at hg
    · exact h
  have hg2 : ((w.alloc (.cells #[.pointer (some t)] 49)).alloc (.cells #[.pointer (some ⟨7, 49, none⟩), .pointer (some ⟨w.heap.size, 0, none⟩), .int .u64 150] 82)).cell? ⟨0, 0, none⟩ = some (.iface 107 (.agg #[.pointer (some ⟨7, 29, none⟩)])) := by
    rw [World.cell?_alloc_lt _ _ ⟨0, 0, none⟩ (by simp), World.cell?_alloc_lt _ _ ⟨0, 0, none⟩ hlt]; exact hg
  have htl : t.block < w.heap.size := by
    rcases Nat.lt_or_ge t.block w.heap.size with h | h
    · exact h
    · simp [World.cell?, Array.getElem?_eq_none h] at ht0
  have el := Tryz.elemVP ⟨w.heap.size, 0, none⟩ t ((((w.alloc (.cells #[.pointer (some t)] 49)).alloc (.cells #[.pointer (some ⟨7, 49, none⟩), .pointer (some ⟨w.heap.size, 0, none⟩), .int .u64 150] 82)).alloc (.cells #[.pointer (some ⟨7, 49, none⟩), .pointer (some ⟨w.heap.size, 0, none⟩), .int .u64 150] 82)).alloc (.cells #[.string s, .iface 47 (.int .i64 code)] 98)) (by rw [World.cell?_alloc_lt _ _ ⟨w.heap.size, 0, none⟩ (by simp; omega), World.cell?_alloc_lt _ _ ⟨w.heap.size, 0, none⟩ (by simp; omega)]; simp)
  have st := Tryz.setF t ⟨w.heap.size + 1 + 1 + 1 + 1, 0, none⟩ code old (((((w.alloc (.cells #[.pointer (some t)] 49)).alloc (.cells #[.pointer (some ⟨7, 49, none⟩), .pointer (some ⟨w.heap.size, 0, none⟩), .int .u64 150] 82)).alloc (.cells #[.pointer (some ⟨7, 49, none⟩), .pointer (some ⟨w.heap.size, 0, none⟩), .int .u64 150] 82)).alloc (.cells #[.string s, .iface 47 (.int .i64 code)] 98)).alloc (.cells #[.int .i64 code] 47))
    (by rw [World.cell?_alloc_at _ _ _ _ (by simp)]; rfl)
    (by rw [World.cell?_alloc_lt _ _ t (by simp; omega), World.cell?_alloc_lt _ _ t (by simp; omega), World.cell?_alloc_lt _ _ t (by simp; omega), World.cell?_alloc_lt _ _ t (by simp; omega), World.cell?_alloc_lt _ _ t htl]; exact ht0)
    (by rw [World.frozen?_alloc_old _ _ t (by simp; omega), World.frozen?_alloc_old _ _ t (by simp; omega), World.frozen?_alloc_old _ _ t (by simp; omega), World.frozen?_alloc_old _ _ t (by simp; omega), World.frozen?_alloc_old _ _ t (Nat.ne_of_lt htl)]; exact hf0)
  go_enter Tryz.func14, Tryz.ntmps14
  go_wp2
  refine wp_loop_rounds 2 ?_
  rw [rounds_succ]
  go_wp2_with (go_at_call 130; refine (p_unwrap _ _ _).mono ?_; rintro e w' ⟨rfl, rfl⟩)
  rw [rounds_succ]
  go_wp2
  go_ret
  exact ⟨rfl, rfl⟩

/- fault.Code. -/
def GT (w : World) : Prop := w.cell? ⟨0, 0, none⟩ = some (.iface 107 (.agg #[.pointer (some ⟨7, 29, none⟩)]))
theorem GT.below {w w' : World} (h : GT w) (hb : Below w.heap.size w w') : GT w' := (hb.cell (p := ⟨0, 0, none⟩) (World.block_lt_of_cell? w _ h)).trans h
set_option maxHeartbeats 1000000 in
set_option maxRecDepth 100000 in
theorem p_code (s : ByteArray) (code : Int) (w : World) (hg : GT w) : Calls Tryz.prog 8 #[errV s code] w fun e w' => e = .returned (.int .i64 code) ∧ Below w.heap.size w w' := by
  unfold errV
  have HG := (show Hid (GT w) from hg)
  clear hg
  go_enter Tryz.func8, Tryz.ntmps8
  go_wp2_with fail
  have HB : Hid (∀ o1 o2 o3 o4 o5 : Obj, Below w.heap.size w ((((((w.alloc (.cells #[.int .i64 0] 47)).alloc o1).alloc o2).alloc o3).alloc o4).alloc o5)) := fun o1 o2 o3 o4 o5 => by
    have h0 : Below w.heap.size w (w.alloc (.cells #[.int .i64 0] 47)) := (Below.refl _ _).alloc (Nat.le_refl _) _
    exact ((((h0.alloc (by simp) o1).alloc (by simp; omega) o2).alloc (by simp; omega) o3).alloc (by simp; omega) o4).alloc (by simp; omega) o5
  have HK : Hid (∀ o1 o2 o3 o4 o5 : Obj, ((((((w.alloc (.cells #[.int .i64 0] 47)).alloc o1).alloc o2).alloc o3).alloc o4).alloc o5).heap[w.heap.size]? = some (.cells #[.int .i64 0] 47 (0, 0))) := fun o1 o2 o3 o4 o5 => by
    rw [Below.heap_alloc _ _ _ (by simp; omega), Below.heap_alloc _ _ _ (by simp; omega), Below.heap_alloc _ _ _ (by simp; omega), Below.heap_alloc _ _ _ (by simp; omega), Below.heap_alloc _ _ _ (by simp)]
    exact heap_alloc_new _ _
  refine (as_hit s code ⟨w.heap.size, 0, none⟩ (.int .i64 0) _ (HG.out.below ((Below.refl _ _).alloc (Nat.le_refl _) _)) (cells_at (heap_alloc_new _ _) 0) (free_at (heap_alloc_new _ _) 0)).mono ?_
  rintro e w' ⟨rfl, hw⟩
  have hB : Below w.heap.size w w' := by
    rw [hw]
    exact (HB.out _ _ _ _ _).setCell (Nat.le_refl _) _
  have hc : w'.cell? ⟨w.heap.size, 0, none⟩ = some (.int .i64 code) := by
    rw [hw]
    exact cells_at (set_block (HK.out _ _ _ _ _) 0 _) 0
  have HB' := (show Hid _ from hB)
  clear hB hw HB HK
  go_wp2_with fail
  go_ret
  exact ⟨rfl, HB'.out⟩
theorem as_nil (t : Value) (w : World) :
    Calls Tryz.prog 14 #[.nilIface, t] w fun e w' => e = .returned (.bool false) ∧ w = w' := by
  go_enter Tryz.func14, Tryz.ntmps14
  go_wp2
  go_ret
  exact ⟨rfl, rfl⟩
set_option maxHeartbeats 1000000 in
theorem p_code_nil (w : World) : Calls Tryz.prog 8 #[.nilIface] w fun e w' => e = .returned (.int .i64 0) ∧ Below w.heap.size w w' := by
  go_enter Tryz.func8, Tryz.ntmps8
  go_wp2_with (go_at_call 14; refine (as_nil _ _).mono ?_; rintro e w' ⟨rfl, rfl⟩)
  go_ret
  exact ⟨rfl, (Below.refl _ _).alloc (Nat.le_refl _) _⟩
end Go.Proofs.YtkfbhjinmpdfnaaGreatDoor

/- The program's Check and the law Checks. -/
namespace Go.Proofs.YtkfbhjinmpdfnaaGreatDoor
open Go.RowKit

set_option maxHeartbeats 1000000 in
set_option maxRecDepth 100000 in
theorem p_check (s : ByteArray) (w : World) (hge : GE w) (hgt : GT w) : Calls Tryz.prog 4 #[.string s] w fun e w' => e = .returned (.int .i64 (Pl.check s.data.toList : Int)) ∧ Below w.heap.size w w' := by
  have HT := (show Hid (GT w) from hgt)
  have HE := (show Hid (GE w) from hge)
  clear hge hgt
  go_enter Tryz.func4, Tryz.ntmps4
  go_wp2_with fail
  refine (p_sread s w HE.out).mono ?_
  rintro e w1 ⟨hB, ⟨hc, T, x, rfl⟩ | ⟨c, hc, hc0, hc5, v, es, rfl⟩⟩
  · have HB := (show Hid (Below _ _ _) from hB)
    have HC := (show Hid _ from hc)
    clear hB hc
    go_wp2_with fail
    refine (p_code_nil w1).mono ?_
    rintro e w2 ⟨rfl, hB2⟩
    have HB2 : Hid (Below w.heap.size w w2) := HB.out.trans (hB2.mono HB.out.size)
    clear hB2
    go_wp2_with fail
    go_ret
    exact ⟨by rw [HC.out]; rfl, HB2.out⟩
  · have HB := (show Hid (Below _ _ _) from hB)
    have HC := (show Hid _ from hc)
    have HT1 : Hid (GT w1) := HT.out.below hB
    clear hB hc
    have hcode := (show Hid _ from p_code es c w1 HT1.out)
    unfold errV at hcode ⊢
    go_wp2_with fail
    refine (Calls.mono hcode.out) ?_
    rintro e w2 ⟨rfl, hB2⟩
    have HB2 : Hid (Below w.heap.size w w2) := HB.out.trans (hB2.mono HB.out.size)
    clear hB2 hcode
    go_wp2_with fail
    go_ret
    exact ⟨by rw [HC.out]; rfl, HB2.out⟩
set_option maxHeartbeats 1000000 in
theorem p_num (k : Int) (w : World) : Calls Tryz.prog 6 #[.int .i64 k] w fun e w' => e = .returned (.int .i64 k) ∧ w = w' := by
  go_enter Tryz.func6, Tryz.ntmps6
  go_wp2_with fail
  go_ret
  exact ⟨rfl, rfl⟩
set_option maxHeartbeats 1000000 in
set_option maxRecDepth 100000 in
theorem p_checks (s : ByteArray) (w : World) (hs0 : s.size ≤ maxLen) (hge : GE w) (hgt : GT w) : Calls Tryz.prog 3 #[.string s] w fun e w' => e = .returned (.bool true) ∧ Below w.heap.size w w' := by
  have HT := (show Hid (GT w) from hgt)
  have HE := (show Hid (GE w) from hge)
  clear hge hgt
  go_enter Tryz.func3, Tryz.ntmps3
  go_wp2_with fail
  refine (p_check s w HE.out HT.out).mono ?_
  rintro e w1 ⟨rfl, hB⟩
  have HB := (show Hid (Below _ _ _) from hB)
  clear hB
  go_wp2_with fail
  refine (ref_check s w1 hs0).mono ?_
  rintro e w2 ⟨rfl, hB2⟩
  have HB2 : Hid (Below w.heap.size w w2) := HB.out.trans (hB2.mono HB.out.size)
  clear hB2
  go_wp2_with (go_at_call 6; refine (p_num _ _).mono ?_; rintro e w' ⟨rfl, rfl⟩)
  go_ret
  exact ⟨rfl, HB2.out⟩
end Go.Proofs.YtkfbhjinmpdfnaaGreatDoor
