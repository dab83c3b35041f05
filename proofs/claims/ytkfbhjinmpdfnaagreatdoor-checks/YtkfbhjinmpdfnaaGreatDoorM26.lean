/- errors.As at the target *fault.Fault over a fault.Doing around a fault.Fault: true, and the target gets the fault; fault.Code. Closed facts on the model's entries for internal/reflectlite at this program's types. -/
import Derived.Test.YtkfbhjinmpdfnaaGreatDoorM25
import Derived.LaidEql
import Derived.Stop.Asserts
import Derived.RowKitTokens
namespace Go.Proofs.YtkfbhjinmpdfnaaGreatDoor
open Go.RowKit Go.Extern.Stop Go.Stop Go.Extern

theorem Tryz.valueOfP (t : Addr) (w : World) : (ReflectliteValue.unpack (.iface 49 (.pointer (some t)))).run Tryz.prog w
    = .ok (.agg #[.pointer (some ⟨7, 49, none⟩), .pointer (some ⟨w.heap.size, 0, none⟩), .int .u64 150]) (w.alloc (.cells #[.pointer (some t)] 49)) := by kernel_rfl
theorem Tryz.typeP (a : Addr) (w : World) : (ReflectliteValue.methodAny (ReflectliteValue.valueError "reflectlite.Value.Type" 0) (fun t _ _ _ => ReflectliteType.toType t) #[.agg #[.pointer (some ⟨7, 49, none⟩), .pointer (some a), .int .u64 150]]).run Tryz.prog w
    = .ok (.iface 107 (.agg #[.pointer (some ⟨7, 49, none⟩)])) w := by kernel_rfl
theorem Tryz.methodKind (h : Value) (w : World) : (Go.method 316 107 (.agg #[h]) "Kind").run Tryz.prog w = .ok (117, h) w := by kernel_rfl
theorem Tryz.kindP (w : World) : ((ReflectliteType.abiMethod fun t => (fun a : Nat => Value.int IntKind.u8 (a : Int)) <$> Rtype.kind t) #[.pointer (some ⟨7, 49, none⟩)]).run Tryz.prog w = .ok (.int .u8 22) w := by kernel_rfl
theorem Tryz.kindF (w : World) : ((ReflectliteType.abiMethod fun t => (fun a : Nat => Value.int IntKind.u8 (a : Int)) <$> Rtype.kind t) #[.pointer (some ⟨7, 47, none⟩)]).run Tryz.prog w = .ok (.int .u8 2) w := by kernel_rfl
theorem Tryz.isNilP0 (a : Addr) (W : World) :
    (ReflectliteValue.method (ReflectliteValue.valueError "reflectlite.Value.IsNil" 0) ReflectliteValue.isNil #[.agg #[.pointer (some ⟨7, 49, none⟩), .pointer (some a), .int .u64 150]]).run Tryz.prog W = (ReflectliteValue.isNil 49 a 150 22).run Tryz.prog W := by kernel_rfl
theorem Tryz.isNilP (a p : Addr) (W : World) (ha : W.cell? a = some (.pointer (some p))) :
    (ReflectliteValue.method (ReflectliteValue.valueError "reflectlite.Value.IsNil" 0) ReflectliteValue.isNil #[.agg #[.pointer (some ⟨7, 49, none⟩), .pointer (some a), .int .u64 150]]).run Tryz.prog W = .ok (.bool false) W := by
  rw [Tryz.isNilP0]
  simp [ReflectliteValue.isNil, loadVar, isAgg, underlying, Tryz.underlying49, ha, Result.andThen]
theorem Tryz.methodElem (h : Value) (w : World) : (Go.method 316 107 (.agg #[h]) "Elem").run Tryz.prog w = .ok (134, .agg #[h]) w := by kernel_rfl
theorem Tryz.methodImplements (h : Value) (w : World) : (Go.method 316 107 (.agg #[h]) "Implements").run Tryz.prog w = .ok (135, .agg #[h]) w := by kernel_rfl
theorem Tryz.methodAssignableTo (h : Value) (w : World) : (Go.method 316 107 (.agg #[h]) "AssignableTo").run Tryz.prog w = .ok (132, .agg #[h]) w := by kernel_rfl
theorem Tryz.methodUnwrap (a b : Value) (w : World) : (Go.method 316 98 (.agg #[a, b]) "Unwrap").run Tryz.prog w = .ok (130, .agg #[a, b]) w := by kernel_rfl
theorem Tryz.elemP (w : World) : (ReflectliteType.method ReflectliteType.elem #[.agg #[.pointer (some ⟨7, 49, none⟩)]]).run Tryz.prog w = .ok (.iface 107 (.agg #[.pointer (some ⟨7, 47, none⟩)])) w := by kernel_rfl
theorem Tryz.implementsF (w : World) : (ReflectliteType.relation "Implements" ReflectliteType.implements_ #[.agg #[.pointer (some ⟨7, 47, none⟩)], .iface 107 (.agg #[.pointer (some ⟨7, 29, none⟩)])]).run Tryz.prog w = .ok (.bool true) w := by kernel_rfl
theorem Tryz.typeOfF (v : Value) (w : World) : (ReflectliteType.typeOf #[.iface 47 v]).run Tryz.prog w = .ok (.iface 107 (.agg #[.pointer (some ⟨7, 47, none⟩)])) w := by kernel_rfl
theorem Tryz.typeOfD (v : Value) (w : World) : (ReflectliteType.typeOf #[.iface 98 v]).run Tryz.prog w = .ok (.iface 107 (.agg #[.pointer (some ⟨7, 98, none⟩)])) w := by kernel_rfl
theorem Tryz.assignableF (w : World) : (ReflectliteType.relation "AssignableTo" ReflectliteType.assignableTo #[.agg #[.pointer (some ⟨7, 47, none⟩)], .iface 107 (.agg #[.pointer (some ⟨7, 47, none⟩)])]).run Tryz.prog w = .ok (.bool true) w := by kernel_rfl
theorem Tryz.assignableD (w : World) : (ReflectliteType.relation "AssignableTo" ReflectliteType.assignableTo #[.agg #[.pointer (some ⟨7, 98, none⟩)], .iface 107 (.agg #[.pointer (some ⟨7, 47, none⟩)])]).run Tryz.prog w = .ok (.bool false) w := by kernel_rfl
theorem Tryz.valueOfF (n : Int) (w : World) : (ReflectliteValue.unpack (.iface 47 (.int .i64 n))).run Tryz.prog w
    = .ok (.agg #[.pointer (some ⟨7, 47, none⟩), .pointer (some ⟨w.heap.size, 0, none⟩), .int .u64 130]) (w.alloc (.cells #[.int .i64 n] 47)) := by kernel_rfl
theorem Tryz.elemOfP (w : World) : (Rtype.elem? 49).run Tryz.prog w = .ok (some 47) w := by kernel_rfl
theorem Tryz.mkF (p : Addr) (w : World) : (ReflectliteValue.mk 47 p ReflectliteValue.flagAddr).run Tryz.prog w = .ok (.agg #[.pointer (some ⟨7, 47, none⟩), .pointer (some p), .int .u64 386]) w := by kernel_rfl
theorem Tryz.elemVP0 (a : Addr) (W : World) :
    (ReflectliteValue.method (ReflectliteValue.valueError "reflectlite.Value.Elem" 0) ReflectliteValue.elem #[.agg #[.pointer (some ⟨7, 49, none⟩), .pointer (some a), .int .u64 150]]).run Tryz.prog W = (ReflectliteValue.elem 49 a 150 22).run Tryz.prog W := by kernel_rfl
theorem Tryz.elemVP (a p : Addr) (W : World) (ha : W.cell? a = some (.pointer (some p))) :
    (ReflectliteValue.method (ReflectliteValue.valueError "reflectlite.Value.Elem" 0) ReflectliteValue.elem #[.agg #[.pointer (some ⟨7, 49, none⟩), .pointer (some a), .int .u64 150]]).run Tryz.prog W
      = .ok (.agg #[.pointer (some ⟨7, 47, none⟩), .pointer (some p), .int .u64 386]) W := by
  rw [Tryz.elemVP0]
  simp [ReflectliteValue.elem, loadVar, isAgg, underlying, Tryz.underlying49, ha, Result.andThen, Tryz.elemOfP, Tryz.mkF]
theorem Tryz.setF0 (ta b : Addr) (W : World) :
    (ReflectliteValue.set #[.agg #[.pointer (some ⟨7, 47, none⟩), .pointer (some ta), .int .u64 386], .agg #[.pointer (some ⟨7, 47, none⟩), .pointer (some b), .int .u64 130]]).run Tryz.prog W
      = (loadVar 47 b >>= fun val => storeVar 47 ta val >>= fun _ => pure (.tuple #[])).run Tryz.prog W := by kernel_rfl
theorem Tryz.setF (ta b : Addr) (n : Int) (old : Value) (W : World) (hb : W.cell? b = some (.int .i64 n)) (ht : W.cell? ta = some old) (hf : W.frozen? ta = false) :
    (ReflectliteValue.set #[.agg #[.pointer (some ⟨7, 47, none⟩), .pointer (some ta), .int .u64 386], .agg #[.pointer (some ⟨7, 47, none⟩), .pointer (some b), .int .u64 130]]).run Tryz.prog W
      = .ok (.tuple #[]) (W.setCell ta (.int .i64 n)) := by
  rw [Tryz.setF0]
  simp [loadVar, isAgg, underlying, Tryz.underlying47, hb, Result.andThen, storeVar, Value.cells, storeCells, Addr.add]
  rw [run_store Tryz.prog W ta _ _ (by rfl)]
  simp [ht, hf]
theorem Tryz.asD_As (v : Value) (w : World) : (Instr.typeAssert (.iface 98 v) 29 112 true).run Tryz.prog w = .ok (.tuple #[.nilIface, .bool false]) w := run_typeAssert_lacksB Tryz.underlying112 (by kernel_rfl) (by kernel_rfl) v _ w
theorem Tryz.asD_Unwrap (v : Value) (w : World) : (Instr.typeAssert (.iface 98 v) 29 115 true).run Tryz.prog w = .ok (.tuple #[.iface 98 v, .bool true]) w := run_typeAssert_hasB Tryz.underlying115 (by kernel_rfl) v _ w
end Go.Proofs.YtkfbhjinmpdfnaaGreatDoor
