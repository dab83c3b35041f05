/- errors.As at the target *fault.Fault over a fault.Doing around a fault.Fault: true, and the target gets the fault; fault.Code. Closed facts on the model's entries for internal/reflectlite at this program's types. -/
import Derived.Test.YtkgbdddkcjpgfaaGreatDoorM28
import Derived.LaidEql
import Derived.Stop.Asserts
import Derived.RowKitTokens
namespace Go.Proofs.YtkgbdddkcjpgfaaGreatDoor
open Go.RowKit Go.Extern.Stop Go.Stop Go.Extern

theorem Tryz.valueOfP (t : Addr) (w : World) : (ReflectliteValue.unpack (.iface 130 (.pointer (some t)))).run Tryz.prog w
    = .ok (.agg #[.pointer (some ⟨8, 130, none⟩), .pointer (some ⟨w.heap.size, 0, none⟩), .int .u64 150]) (w.alloc (.cells #[.pointer (some t)] 130)) := by kernel_rfl
theorem Tryz.typeP (a : Addr) (w : World) : (ReflectliteValue.methodAny (ReflectliteValue.valueError "reflectlite.Value.Type" 0) (fun t _ _ _ => ReflectliteType.toType t) #[.agg #[.pointer (some ⟨8, 130, none⟩), .pointer (some a), .int .u64 150]]).run Tryz.prog w
    = .ok (.iface 301 (.agg #[.pointer (some ⟨8, 130, none⟩)])) w := by kernel_rfl
theorem Tryz.methodKind (h : Value) (w : World) : (Go.method 638 301 (.agg #[h]) "Kind").run Tryz.prog w = .ok (253, h) w := by kernel_rfl
theorem Tryz.kindP (w : World) : ((ReflectliteType.abiMethod fun t => (fun a : Nat => Value.int IntKind.u8 (a : Int)) <$> Rtype.kind t) #[.pointer (some ⟨8, 130, none⟩)]).run Tryz.prog w = .ok (.int .u8 22) w := by kernel_rfl
theorem Tryz.kindF (w : World) : ((ReflectliteType.abiMethod fun t => (fun a : Nat => Value.int IntKind.u8 (a : Int)) <$> Rtype.kind t) #[.pointer (some ⟨8, 128, none⟩)]).run Tryz.prog w = .ok (.int .u8 2) w := by kernel_rfl
theorem Tryz.isNilP0 (a : Addr) (W : World) :
    (ReflectliteValue.method (ReflectliteValue.valueError "reflectlite.Value.IsNil" 0) ReflectliteValue.isNil #[.agg #[.pointer (some ⟨8, 130, none⟩), .pointer (some a), .int .u64 150]]).run Tryz.prog W = (ReflectliteValue.isNil 130 a 150 22).run Tryz.prog W := by kernel_rfl
theorem Tryz.isNilP (a p : Addr) (W : World) (ha : W.cell? a = some (.pointer (some p))) :
    (ReflectliteValue.method (ReflectliteValue.valueError "reflectlite.Value.IsNil" 0) ReflectliteValue.isNil #[.agg #[.pointer (some ⟨8, 130, none⟩), .pointer (some a), .int .u64 150]]).run Tryz.prog W = .ok (.bool false) W := by
  rw [Tryz.isNilP0]
  simp [ReflectliteValue.isNil, loadVar, isAgg, underlying, Tryz.underlying130, ha, Result.andThen]
theorem Tryz.methodElem (h : Value) (w : World) : (Go.method 638 301 (.agg #[h]) "Elem").run Tryz.prog w = .ok (367, .agg #[h]) w := by kernel_rfl
theorem Tryz.methodImplements (h : Value) (w : World) : (Go.method 638 301 (.agg #[h]) "Implements").run Tryz.prog w = .ok (368, .agg #[h]) w := by kernel_rfl
theorem Tryz.methodAssignableTo (h : Value) (w : World) : (Go.method 638 301 (.agg #[h]) "AssignableTo").run Tryz.prog w = .ok (365, .agg #[h]) w := by kernel_rfl
theorem Tryz.methodUnwrap (a b : Value) (w : World) : (Go.method 638 251 (.agg #[a, b]) "Unwrap").run Tryz.prog w = .ok (352, .agg #[a, b]) w := by kernel_rfl
theorem Tryz.elemP (w : World) : (ReflectliteType.method ReflectliteType.elem #[.agg #[.pointer (some ⟨8, 130, none⟩)]]).run Tryz.prog w = .ok (.iface 301 (.agg #[.pointer (some ⟨8, 128, none⟩)])) w := by kernel_rfl
theorem Tryz.implementsF (w : World) : (ReflectliteType.relation "Implements" ReflectliteType.implements_ #[.agg #[.pointer (some ⟨8, 128, none⟩)], .iface 301 (.agg #[.pointer (some ⟨8, 63, none⟩)])]).run Tryz.prog w = .ok (.bool true) w := by kernel_rfl
theorem Tryz.typeOfF (v : Value) (w : World) : (ReflectliteType.typeOf #[.iface 128 v]).run Tryz.prog w = .ok (.iface 301 (.agg #[.pointer (some ⟨8, 128, none⟩)])) w := by kernel_rfl
theorem Tryz.typeOfD (v : Value) (w : World) : (ReflectliteType.typeOf #[.iface 251 v]).run Tryz.prog w = .ok (.iface 301 (.agg #[.pointer (some ⟨8, 251, none⟩)])) w := by kernel_rfl
theorem Tryz.assignableF (w : World) : (ReflectliteType.relation "AssignableTo" ReflectliteType.assignableTo #[.agg #[.pointer (some ⟨8, 128, none⟩)], .iface 301 (.agg #[.pointer (some ⟨8, 128, none⟩)])]).run Tryz.prog w = .ok (.bool true) w := by kernel_rfl
theorem Tryz.assignableD (w : World) : (ReflectliteType.relation "AssignableTo" ReflectliteType.assignableTo #[.agg #[.pointer (some ⟨8, 251, none⟩)], .iface 301 (.agg #[.pointer (some ⟨8, 128, none⟩)])]).run Tryz.prog w = .ok (.bool false) w := by kernel_rfl
theorem Tryz.valueOfF (n : Int) (w : World) : (ReflectliteValue.unpack (.iface 128 (.int .i64 n))).run Tryz.prog w
    = .ok (.agg #[.pointer (some ⟨8, 128, none⟩), .pointer (some ⟨w.heap.size, 0, none⟩), .int .u64 130]) (w.alloc (.cells #[.int .i64 n] 128)) := by kernel_rfl
theorem Tryz.elemOfP (w : World) : (Rtype.elem? 130).run Tryz.prog w = .ok (some 128) w := by kernel_rfl
theorem Tryz.mkF (p : Addr) (w : World) : (ReflectliteValue.mk 128 p ReflectliteValue.flagAddr).run Tryz.prog w = .ok (.agg #[.pointer (some ⟨8, 128, none⟩), .pointer (some p), .int .u64 386]) w := by kernel_rfl
theorem Tryz.elemVP0 (a : Addr) (W : World) :
    (ReflectliteValue.method (ReflectliteValue.valueError "reflectlite.Value.Elem" 0) ReflectliteValue.elem #[.agg #[.pointer (some ⟨8, 130, none⟩), .pointer (some a), .int .u64 150]]).run Tryz.prog W = (ReflectliteValue.elem 130 a 150 22).run Tryz.prog W := by kernel_rfl
theorem Tryz.elemVP (a p : Addr) (W : World) (ha : W.cell? a = some (.pointer (some p))) :
    (ReflectliteValue.method (ReflectliteValue.valueError "reflectlite.Value.Elem" 0) ReflectliteValue.elem #[.agg #[.pointer (some ⟨8, 130, none⟩), .pointer (some a), .int .u64 150]]).run Tryz.prog W
      = .ok (.agg #[.pointer (some ⟨8, 128, none⟩), .pointer (some p), .int .u64 386]) W := by
  rw [Tryz.elemVP0]
  simp [ReflectliteValue.elem, loadVar, isAgg, underlying, Tryz.underlying130, ha, Result.andThen, Tryz.elemOfP, Tryz.mkF]
theorem Tryz.setF0 (ta b : Addr) (W : World) :
    (ReflectliteValue.set #[.agg #[.pointer (some ⟨8, 128, none⟩), .pointer (some ta), .int .u64 386], .agg #[.pointer (some ⟨8, 128, none⟩), .pointer (some b), .int .u64 130]]).run Tryz.prog W
      = (loadVar 128 b >>= fun val => storeVar 128 ta val >>= fun _ => pure (.tuple #[])).run Tryz.prog W := by kernel_rfl
theorem Tryz.setF (ta b : Addr) (n : Int) (old : Value) (W : World) (hb : W.cell? b = some (.int .i64 n)) (ht : W.cell? ta = some old) (hf : W.frozen? ta = false) :
    (ReflectliteValue.set #[.agg #[.pointer (some ⟨8, 128, none⟩), .pointer (some ta), .int .u64 386], .agg #[.pointer (some ⟨8, 128, none⟩), .pointer (some b), .int .u64 130]]).run Tryz.prog W
      = .ok (.tuple #[]) (W.setCell ta (.int .i64 n)) := by
  rw [Tryz.setF0]
  simp [loadVar, isAgg, underlying, Tryz.underlying128, hb, Result.andThen, storeVar, Value.cells, storeCells, Addr.add]
  rw [run_store Tryz.prog W ta _ _ (by rfl)]
  simp [ht, hf]
theorem Tryz.asD_As (v : Value) (w : World) : (Instr.typeAssert (.iface 251 v) 63 306 true).run Tryz.prog w = .ok (.tuple #[.nilIface, .bool false]) w := run_typeAssert_lacksB Tryz.underlying306 (by kernel_rfl) (by kernel_rfl) v _ w
theorem Tryz.asD_Unwrap (v : Value) (w : World) : (Instr.typeAssert (.iface 251 v) 63 309 true).run Tryz.prog w = .ok (.tuple #[.iface 251 v, .bool true]) w := run_typeAssert_hasB Tryz.underlying309 (by kernel_rfl) v _ w
end Go.Proofs.YtkgbdddkcjpgfaaGreatDoor
