/- errors.As over a Doing around a Fault, and fault.Code. -/
import Derived.Test.YtkgbdddkcjpgfaaGreatDoorM29
namespace Go.Proofs.YtkgbdddkcjpgfaaGreatDoor
open Go.RowKit Go.Extern.Stop Go.Stop Go.Extern

set_option maxHeartbeats 1000000 in
theorem p_unwrap (s : ByteArray) (code : Int) (w : World) : Calls Tryz.prog 352 #[.agg #[.string s, .iface 128 (.int .i64 code)]] w fun e w' => e = .returned (.iface 128 (.int .i64 code)) ∧ w.alloc (.cells #[.string s, .iface 128 (.int .i64 code)] 251) = w' := by
  go_enter Tryz.func352, Tryz.ntmps352
  go_wp2_with fail
  go_ret
  exact ⟨rfl, rfl⟩
set_option maxHeartbeats 4000000 in
set_option maxRecDepth 100000 in
theorem as_hit (s : ByteArray) (code : Int) (t : Addr) (old : Value) (w : World) (hg : w.cell? ⟨0, 0, none⟩ = some (.iface 301 (.agg #[.pointer (some ⟨8, 63, none⟩)]))) (ht0 : w.cell? t = some old) (hf0 : w.frozen? t = false) :
    Calls Tryz.prog 68 #[.iface 251 (.agg #[.string s, .iface 128 (.int .i64 code)]), .iface 130 (.pointer (some t))] w fun ev w' => ev = .returned (.bool true) ∧ w' = (((((w.alloc (.cells #[.pointer (some t)] 130)).alloc (.cells #[.pointer (some ⟨8, 130, none⟩), .pointer (some ⟨w.heap.size, 0, none⟩), .int .u64 150] 226)).alloc (.cells #[.pointer (some ⟨8, 130, none⟩), .pointer (some ⟨w.heap.size, 0, none⟩), .int .u64 150] 226)).alloc (.cells #[.string s, .iface 128 (.int .i64 code)] 251)).alloc (.cells #[.int .i64 code] 128)).setCell t (.int .i64 code) := by
  have h27 := @run_callFunc_extern Tryz.prog 115 _ (fun args => ReflectliteValue.unpack (args.getD 0 (.tuple #[]))) Tryz.func115 (by kernel_rfl) (by kernel_rfl) (by kernel_rfl) (by kernel_rfl)
  have h28 := @run_callFunc_extern Tryz.prog 116 _ (ReflectliteValue.methodAny (ReflectliteValue.valueError "reflectlite.Value.Type" 0) (fun t _ _ _ => ReflectliteType.toType t)) Tryz.func116 (by kernel_rfl) (by kernel_rfl) (by kernel_rfl) (by kernel_rfl)
  have h29 := @run_callFunc_extern Tryz.prog 117 _ (ReflectliteValue.method (ReflectliteValue.valueError "reflectlite.Value.IsNil" 0) ReflectliteValue.isNil) Tryz.func117 (by kernel_rfl) (by kernel_rfl) (by kernel_rfl) (by kernel_rfl)
  have h117 := @run_callFunc_extern Tryz.prog 253 _ (ReflectliteType.abiMethod fun t => do pure (.int .u8 (← Rtype.kind t))) Tryz.func253 (by kernel_rfl) (by kernel_rfl) (by kernel_rfl) (by kernel_rfl)
  have h134 := @run_callFunc_extern Tryz.prog 367 _ (ReflectliteType.method ReflectliteType.elem) Tryz.func367 (by kernel_rfl) (by kernel_rfl) (by kernel_rfl) (by kernel_rfl)
  have h135 := @run_callFunc_extern Tryz.prog 368 _ (ReflectliteType.relation "Implements" ReflectliteType.implements_) Tryz.func368 (by kernel_rfl) (by kernel_rfl) (by kernel_rfl) (by kernel_rfl)
  have h46 := @run_callFunc_extern Tryz.prog 158 _ ReflectliteType.typeOf Tryz.func158 (by kernel_rfl) (by kernel_rfl) (by kernel_rfl) (by kernel_rfl)
  have h132 := @run_callFunc_extern Tryz.prog 365 _ (ReflectliteType.relation "AssignableTo" ReflectliteType.assignableTo) Tryz.func365 (by kernel_rfl) (by kernel_rfl) (by kernel_rfl) (by kernel_rfl)
  have h47 := @run_callFunc_extern Tryz.prog 159 _ (ReflectliteValue.method (ReflectliteValue.valueError "reflectlite.Value.Elem" 0) ReflectliteValue.elem) Tryz.func159 (by kernel_rfl) (by kernel_rfl) (by kernel_rfl) (by kernel_rfl)
  have h48 := @run_callFunc_extern Tryz.prog 160 _ ReflectliteValue.set Tryz.func160 (by kernel_rfl) (by kernel_rfl) (by kernel_rfl) (by kernel_rfl)
  have x1 := Tryz.typeOfF
  have x2 := Tryz.typeOfD
  have x3 := Tryz.methodAssignableTo
  have x4 := Tryz.assignableF
  have x5 := Tryz.assignableD
  have x6 := Tryz.valueOfF
  have x7 := Tryz.valueOfP
  have x8 := Tryz.typeP
  have x9 := Tryz.methodKind
  have x10 := Tryz.methodElem
  have x11 := Tryz.methodImplements
  have x12 := Tryz.kindP
  have x13 := Tryz.kindF
  have x14 := Tryz.elemP
  have x15 := Tryz.implementsF
  have x16 := Tryz.asD_As
  have x17 := Tryz.asD_Unwrap
  have x18 := Tryz.methodUnwrap
  have n8 := Tryz.isNilP ⟨w.heap.size, 0, none⟩ t ((w.alloc (.cells #[.pointer (some t)] 130)).alloc (.cells #[.pointer (some ⟨8, 130, none⟩), .pointer (some ⟨w.heap.size, 0, none⟩), .int .u64 150] 226)) (by simp)
  have hlt : 0 < w.heap.size := by
    rcases Nat.eq_zero_or_pos w.heap.size with h0 | h
    · simp [World.cell?, h0] at hg
    · exact h
  have hg2 : ((w.alloc (.cells #[.pointer (some t)] 130)).alloc (.cells #[.pointer (some ⟨8, 130, none⟩), .pointer (some ⟨w.heap.size, 0, none⟩), .int .u64 150] 226)).cell? ⟨0, 0, none⟩ = some (.iface 301 (.agg #[.pointer (some ⟨8, 63, none⟩)])) := by
    rw [World.cell?_alloc_lt _ _ ⟨0, 0, none⟩ (by simp), World.cell?_alloc_lt _ _ ⟨0, 0, none⟩ hlt]; exact hg
  have htl : t.block < w.heap.size := by
    rcases Nat.lt_or_ge t.block w.heap.size with h | h
    · exact h
    · simp [World.cell?, Array.getElem?_eq_none h] at ht0
  have el := Tryz.elemVP ⟨w.heap.size, 0, none⟩ t ((((w.alloc (.cells #[.pointer (some t)] 130)).alloc (.cells #[.pointer (some ⟨8, 130, none⟩), .pointer (some ⟨w.heap.size, 0, none⟩), .int .u64 150] 226)).alloc (.cells #[.pointer (some ⟨8, 130, none⟩), .pointer (some ⟨w.heap.size, 0, none⟩), .int .u64 150] 226)).alloc (.cells #[.string s, .iface 128 (.int .i64 code)] 251)) (by rw [World.cell?_alloc_lt _ _ ⟨w.heap.size, 0, none⟩ (by simp; omega), World.cell?_alloc_lt _ _ ⟨w.heap.size, 0, none⟩ (by simp; omega)]; simp)
  have st := Tryz.setF t ⟨w.heap.size + 1 + 1 + 1 + 1, 0, none⟩ code old (((((w.alloc (.cells #[.pointer (some t)] 130)).alloc (.cells #[.pointer (some ⟨8, 130, none⟩), .pointer (some ⟨w.heap.size, 0, none⟩), .int .u64 150] 226)).alloc (.cells #[.pointer (some ⟨8, 130, none⟩), .pointer (some ⟨w.heap.size, 0, none⟩), .int .u64 150] 226)).alloc (.cells #[.string s, .iface 128 (.int .i64 code)] 251)).alloc (.cells #[.int .i64 code] 128))
    (by rw [World.cell?_alloc_at _ _ _ _ (by simp)]; rfl)
    (by rw [World.cell?_alloc_lt _ _ t (by simp; omega), World.cell?_alloc_lt _ _ t (by simp; omega), World.cell?_alloc_lt _ _ t (by simp; omega), World.cell?_alloc_lt _ _ t (by simp; omega), World.cell?_alloc_lt _ _ t htl]; exact ht0)
    (by rw [World.frozen?_alloc_old _ _ t (by simp; omega), World.frozen?_alloc_old _ _ t (by simp; omega), World.frozen?_alloc_old _ _ t (by simp; omega), World.frozen?_alloc_old _ _ t (by simp; omega), World.frozen?_alloc_old _ _ t (Nat.ne_of_lt htl)]; exact hf0)
  go_enter Tryz.func68, Tryz.ntmps68
  go_wp2
  refine wp_loop_rounds 2 ?_
  rw [rounds_succ]
  go_wp2_with (go_at_call 352; refine (p_unwrap _ _ _).mono ?_; rintro e w' ⟨rfl, rfl⟩)
  rw [rounds_succ]
  go_wp2
  go_ret
  exact ⟨rfl, rfl⟩

/- fault.Code. -/
def GT (w : World) : Prop := w.cell? ⟨0, 0, none⟩ = some (.iface 301 (.agg #[.pointer (some ⟨8, 63, none⟩)]))
theorem GT.below {w w' : World} (h : GT w) (hb : Below w.heap.size w w') : GT w' := (hb.cell (p := ⟨0, 0, none⟩) (World.block_lt_of_cell? w _ h)).trans h
set_option maxHeartbeats 1000000 in
set_option maxRecDepth 100000 in
theorem p_code (s : ByteArray) (code : Int) (w : World) (hg : GT w) : Calls Tryz.prog 42 #[errV s code] w fun e w' => e = .returned (.int .i64 code) ∧ Below w.heap.size w w' := by
  unfold errV
  have HG := (show Hid (GT w) from hg)
  clear hg
  go_enter Tryz.func42, Tryz.ntmps42
  go_wp2_with fail
  have HB : Hid (∀ o1 o2 o3 o4 o5 : Obj, Below w.heap.size w ((((((w.alloc (.cells #[.int .i64 0] 128)).alloc o1).alloc o2).alloc o3).alloc o4).alloc o5)) := fun o1 o2 o3 o4 o5 => by
    have h0 : Below w.heap.size w (w.alloc (.cells #[.int .i64 0] 128)) := (Below.refl _ _).alloc (Nat.le_refl _) _
    exact ((((h0.alloc (by simp) o1).alloc (by simp; omega) o2).alloc (by simp; omega) o3).alloc (by simp; omega) o4).alloc (by simp; omega) o5
  have HK : Hid (∀ o1 o2 o3 o4 o5 : Obj, ((((((w.alloc (.cells #[.int .i64 0] 128)).alloc o1).alloc o2).alloc o3).alloc o4).alloc o5).heap[w.heap.size]? = some (.cells #[.int .i64 0] 128 (0, 0))) := fun o1 o2 o3 o4 o5 => by
    rw [Below.heap_alloc _ _ _ (by simp; omega), Below.heap_alloc _ _ _ (by simp; omega), Below.heap_alloc _ _ _ (by simp; omega), Below.heap_alloc _ _ _ (by simp; omega), Below.heap_alloc _ _ _ (by simp)]
    exact heap_alloc_new _ _
  refine (as_hit s code ⟨w.heap.size, 0, none⟩ (.int .i64 0) _ (HG.out.below ((Below.refl _ _).alloc (Nat.le_refl _) _)) (cells_at (heap_alloc_new _ _) 0) (free_at (heap_alloc_new _ _) 0)).mono ?_
  rintro e w' ⟨rfl, hw⟩
  have hB : Below w.heap.size w w' := by
    rw [hw]
    exact (HB.out _ _ _ _ _).setCell (Nat.le_refl _) _
  have hc : w'.cell? ⟨w.heap.size, 0, none⟩ = some (.int .i64 code) := by
    rw [hw]
    exact cells_at (set_block (HK.out _ _ _ _ _) 0 _) 0
  have HB' := (show Hid _ from hB)
  clear hB hw HB HK
  go_wp2_with fail
  go_ret
  exact ⟨rfl, HB'.out⟩
theorem as_nil (t : Value) (w : World) :
    Calls Tryz.prog 68 #[.nilIface, t] w fun e w' => e = .returned (.bool false) ∧ w = w' := by
  go_enter Tryz.func68, Tryz.ntmps68
  go_wp2
  go_ret
  exact ⟨rfl, rfl⟩
set_option maxHeartbeats 1000000 in
theorem p_code_nil (w : World) : Calls Tryz.prog 42 #[.nilIface] w fun e w' => e = .returned (.int .i64 0) ∧ Below w.heap.size w w' := by
  go_enter Tryz.func42, Tryz.ntmps42
  go_wp2_with (go_at_call 68; refine (as_nil _ _).mono ?_; rintro e w' ⟨rfl, rfl⟩)
  go_ret
  exact ⟨rfl, (Below.refl _ _).alloc (Nat.le_refl _) _⟩
end Go.Proofs.YtkgbdddkcjpgfaaGreatDoor
