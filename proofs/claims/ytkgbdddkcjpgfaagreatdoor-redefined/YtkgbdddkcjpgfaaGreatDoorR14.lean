import Derived.Stop.Asserts
import Derived.RowKitTokens
import Derived.Test.YtkgbdddkcjpgfaaGreatDoorR13
namespace Go.Proofs.YtkgbdddkcjpgfaaGreatDoor
set_option maxHeartbeats 4000000
set_option maxRecDepth 100000
open Go.Proofs.Tryz
section
open Go.RowKit Go.Extern.Stop Go.Stop Go.Extern
theorem Tryz.SE(t:Addr)(w:World):(ReflectliteValue.unpack (.iface 130 (.pointer (some t)))).run prog w
  = .ok (.agg #[.pointer (some ⟨8,130,none⟩),.pointer (some ⟨w.heap.size,0,none⟩),.int .u64 150]) (w.alloc (.cells #[.pointer (some t)] 130)):=by kernel_rfl
theorem Tryz.typeP(a:Addr)(w:World):(ReflectliteValue.methodAny (ReflectliteValue.valueError "reflectlite.Value.Type" 0) (fun t _ _ _=>ReflectliteType.toType t) #[.agg #[.pointer (some ⟨8,130,none⟩),.pointer (some a),.int .u64 150]]).run prog w
  = .ok (.iface 301 (.agg #[.pointer (some ⟨8,130,none⟩)])) w:=by kernel_rfl
theorem Tryz.PH(h:Value)(w:World):(Go.method 638 301 (.agg #[h]) "Kind").run prog w=.ok (253,h) w:=by kernel_rfl
theorem Tryz.kindP(w:World):((ReflectliteType.abiMethod fun t=>Functor.map (fun a:Nat=>Value.int IntKind.u8 (a:Int)) (Rtype.kind t)) #[.pointer (some ⟨8,130,none⟩)]).run prog w=.ok (.int .u8 22) w:=by kernel_rfl
theorem Tryz.kindF(w:World):((ReflectliteType.abiMethod fun t=>Functor.map (fun a:Nat=>Value.int IntKind.u8 (a:Int)) (Rtype.kind t)) #[.pointer (some ⟨8,128,none⟩)]).run prog w=.ok (.int .u8 2) w:=by kernel_rfl
theorem Tryz.YI(a:Addr)(W:World) :(ReflectliteValue.method (ReflectliteValue.valueError "reflectlite.Value.IsNil" 0) ReflectliteValue.isNil #[.agg #[.pointer (some ⟨8,130,none⟩),.pointer (some a),.int .u64 150]]).run prog W=(ReflectliteValue.isNil 130 a 150 22).run prog W:=by kernel_rfl
theorem Tryz.isNilP(a p:Addr)(W:World)(b:W.cell? a=some (.pointer (some p))) :(ReflectliteValue.method (ReflectliteValue.valueError "reflectlite.Value.IsNil" 0) ReflectliteValue.isNil #[.agg #[.pointer (some ⟨8,130,none⟩),.pointer (some a),.int .u64 150]]).run prog W=.ok (.bool false) W:=by rw [Tryz.YI];simp [ReflectliteValue.isNil,loadVar,isAgg,underlying,underlying130,b,Result.andThen]
theorem Tryz.PI(h:Value)(w:World):(Go.method 638 301 (.agg #[h]) "Elem").run prog w=.ok (367,.agg #[h]) w:=by kernel_rfl
theorem Tryz.JS(h:Value)(w:World):(Go.method 638 301 (.agg #[h]) "Implements").run prog w=.ok (368,.agg #[h]) w:=by kernel_rfl
theorem Tryz.IZ(h:Value)(w:World):(Go.method 638 301 (.agg #[h]) "AssignableTo").run prog w=.ok (365,.agg #[h]) w:=by kernel_rfl
theorem Tryz.MQ(a b:Value)(w:World):(Go.method 638 251 (.agg #[a,b]) "Unwrap").run prog w=.ok (352,.agg #[a,b]) w:=by kernel_rfl
theorem Tryz.elemP(w:World):(ReflectliteType.method ReflectliteType.elem #[.agg #[.pointer (some ⟨8,130,none⟩)]]).run prog w=.ok (.iface 301 (.agg #[.pointer (some ⟨8,128,none⟩)])) w:=by kernel_rfl
theorem Tryz.N6(w:World):(ReflectliteType.relation "Implements" ReflectliteType.implements_ #[.agg #[.pointer (some ⟨8,128,none⟩)],.iface 301 (.agg #[.pointer (some ⟨8,63,none⟩)])]).run prog w=.ok (.bool true) w:=by kernel_rfl
theorem Tryz.V3(v:Value)(w:World):(ReflectliteType.typeOf #[.iface 128 v]).run prog w=.ok (.iface 301 (.agg #[.pointer (some ⟨8,128,none⟩)])) w:=by kernel_rfl
theorem Tryz.V4(v:Value)(w:World):(ReflectliteType.typeOf #[.iface 251 v]).run prog w=.ok (.iface 301 (.agg #[.pointer (some ⟨8,251,none⟩)])) w:=by kernel_rfl
theorem Tryz.OG(w:World):(ReflectliteType.relation "AssignableTo" ReflectliteType.assignableTo #[.agg #[.pointer (some ⟨8,128,none⟩)],.iface 301 (.agg #[.pointer (some ⟨8,128,none⟩)])]).run prog w=.ok (.bool true) w:=by kernel_rfl
theorem Tryz.OH(w:World):(ReflectliteType.relation "AssignableTo" ReflectliteType.assignableTo #[.agg #[.pointer (some ⟨8,251,none⟩)],.iface 301 (.agg #[.pointer (some ⟨8,128,none⟩)])]).run prog w=.ok (.bool false) w:=by kernel_rfl
theorem Tryz.SF(n:Int)(w:World):(ReflectliteValue.unpack (.iface 128 (.int .i64 n))).run prog w
  = .ok (.agg #[.pointer (some ⟨8,128,none⟩),.pointer (some ⟨w.heap.size,0,none⟩),.int .u64 130]) (w.alloc (.cells #[.int .i64 n] 128)):=by kernel_rfl
theorem Tryz.Y4(w:World):(Rtype.elem? 130).run prog w=.ok (some 128) w:=by kernel_rfl
theorem Tryz.BN(p:Addr)(w:World):(ReflectliteValue.mk 128 p ReflectliteValue.flagAddr).run prog w=.ok (.agg #[.pointer (some ⟨8,128,none⟩),.pointer (some p),.int .u64 386]) w:=by kernel_rfl
theorem Tryz.IR(a:Addr)(W:World) :(ReflectliteValue.method (ReflectliteValue.valueError "reflectlite.Value.Elem" 0) ReflectliteValue.elem #[.agg #[.pointer (some ⟨8,130,none⟩),.pointer (some a),.int .u64 150]]).run prog W=(ReflectliteValue.elem 130 a 150 22).run prog W:=by kernel_rfl
theorem Tryz.elemVP(a p:Addr)(W:World)(b:W.cell? a=some (.pointer (some p))) :(ReflectliteValue.method (ReflectliteValue.valueError "reflectlite.Value.Elem" 0) ReflectliteValue.elem #[.agg #[.pointer (some ⟨8,130,none⟩),.pointer (some a),.int .u64 150]]).run prog W
   = .ok (.agg #[.pointer (some ⟨8,128,none⟩),.pointer (some p),.int .u64 386]) W:=by
 rw [Tryz.IR];simp [ReflectliteValue.elem,loadVar,isAgg,underlying,underlying130,b,Result.andThen,Tryz.Y4,Tryz.BN]
theorem Tryz.setF0(c b:Addr)(W:World) :(ReflectliteValue.set #[.agg #[.pointer (some ⟨8,128,none⟩),.pointer (some c),.int .u64 386],.agg #[.pointer (some ⟨8,128,none⟩),.pointer (some b),.int .u64 130]]).run prog W
   = (loadVar 128 b >>= fun a=>storeVar 128 c a >>= fun _=>pure (.tuple #[])).run prog W:=by kernel_rfl
theorem Tryz.setF(a b:Addr)(n:Int)(c:Value)(W:World)(d:W.cell? b=some (.int .i64 n))(e:W.cell? a=some c)(f:W.frozen? a=false) :(ReflectliteValue.set #[.agg #[.pointer (some ⟨8,128,none⟩),.pointer (some a),.int .u64 386],.agg #[.pointer (some ⟨8,128,none⟩),.pointer (some b),.int .u64 130]]).run prog W
   = .ok (.tuple #[]) (W.setCell a (.int .i64 n)):=by
 rw [Tryz.setF0];simp [loadVar,isAgg,underlying,underlying128,d,Result.andThen,storeVar,Value.cells,storeCells,Addr.add];rw [run_store prog W a _ _ (by rfl)];simp [e,f]
theorem Tryz.asD_As(v:Value)(w:World):(Instr.typeAssert (.iface 251 v) 63 306 true).run prog w=.ok (.tuple #[.nilIface,.bool false]) w:=run_typeAssert_lacksB underlying306 (by kernel_rfl) (by kernel_rfl) v _ w
theorem Tryz.P3(v:Value)(w:World):(Instr.typeAssert (.iface 251 v) 63 309 true).run prog w=.ok (.tuple #[.iface 251 v,.bool true]) w:=run_typeAssert_hasB underlying309 (by kernel_rfl) v _ w
theorem yE(s:ByteArray)(a:Int)(w:World):Calls prog 352 #[.agg #[.string s,.iface 128 (.int .i64 a)]] w fun e b=>e=.returned (.iface 128 (.int .i64 a))/\w.alloc (.cells #[.string s,.iface 128 (.int .i64 a)] 251)=b:=by
 go_enter func352,ntmps352
 go_wp2_with fail
 go_ret;exact⟨rfl,rfl⟩
theorem as_hit(s:ByteArray)(a:Int)(t:Addr)(b:Value)(w:World)(j:w.cell? ⟨0,0,none⟩=some (.iface 301 (.agg #[.pointer (some ⟨8,63,none⟩)])))(c:w.cell? t=some b)(g:w.frozen? t=false) :Calls prog 68 #[.iface 251 (.agg #[.string s,.iface 128 (.int .i64 a)]),.iface 130 (.pointer (some t))] w fun p k=>p=.returned (.bool true)/\k=(((((w.alloc (.cells #[.pointer (some t)] 130)).alloc (.cells #[.pointer (some ⟨8,130,none⟩),.pointer (some ⟨w.heap.size,0,none⟩),.int .u64 150] 226)).alloc (.cells #[.pointer (some ⟨8,130,none⟩),.pointer (some ⟨w.heap.size,0,none⟩),.int .u64 150] 226)).alloc (.cells #[.string s,.iface 128 (.int .i64 a)] 251)).alloc (.cells #[.int .i64 a] 128)).setCell t (.int .i64 a):=by
 have q:=@run_callFunc_extern prog 115 _ (fun d=>ReflectliteValue.unpack (d.getD 0 (.tuple #[]))) func115 (by kernel_rfl) (by kernel_rfl) (by kernel_rfl) (by kernel_rfl);have r:=@run_callFunc_extern prog 116 _ (ReflectliteValue.methodAny (ReflectliteValue.valueError "reflectlite.Value.Type" 0) (fun t _ _ _=>ReflectliteType.toType t)) func116 (by kernel_rfl) (by kernel_rfl) (by kernel_rfl) (by kernel_rfl);have u:=@run_callFunc_extern prog 117 _ (ReflectliteValue.method (ReflectliteValue.valueError "reflectlite.Value.IsNil" 0) ReflectliteValue.isNil) func117 (by kernel_rfl) (by kernel_rfl) (by kernel_rfl) (by kernel_rfl);have l:=@run_callFunc_extern prog 253 _ (ReflectliteType.abiMethod fun t=>do pure (.int .u8 (<- Rtype.kind t))) func253 (by kernel_rfl) (by kernel_rfl) (by kernel_rfl) (by kernel_rfl);have m:=@run_callFunc_extern prog 367 _ (ReflectliteType.method ReflectliteType.elem) func367 (by kernel_rfl) (by kernel_rfl) (by kernel_rfl) (by kernel_rfl);have n:=@run_callFunc_extern prog 368 _ (ReflectliteType.relation "Implements" ReflectliteType.implements_) func368 (by kernel_rfl) (by kernel_rfl) (by kernel_rfl) (by kernel_rfl);have v:=@run_callFunc_extern prog 158 _ ReflectliteType.typeOf func158 (by kernel_rfl) (by kernel_rfl) (by kernel_rfl) (by kernel_rfl);have o:=@run_callFunc_extern prog 365 _ (ReflectliteType.relation "AssignableTo" ReflectliteType.assignableTo) func365 (by kernel_rfl) (by kernel_rfl) (by kernel_rfl) (by kernel_rfl);have x:=@run_callFunc_extern prog 159 _ (ReflectliteValue.method (ReflectliteValue.valueError "reflectlite.Value.Elem" 0) ReflectliteValue.elem) func159 (by kernel_rfl) (by kernel_rfl) (by kernel_rfl) (by kernel_rfl);have y:=@run_callFunc_extern prog 160 _ ReflectliteValue.set func160 (by kernel_rfl) (by kernel_rfl) (by kernel_rfl) (by kernel_rfl);have K:=Tryz.V3;have L:=Tryz.V4;have M:=Tryz.IZ;have N:=Tryz.OG;have O:=Tryz.OH;have P:=Tryz.SF;have Q:=Tryz.SE;have R:=Tryz.typeP;have S:=Tryz.PH;have z:=Tryz.PI;have A:=Tryz.JS;have B:=Tryz.kindP;have C:=Tryz.kindF;have D:=Tryz.elemP;have E:=Tryz.N6;have F:=Tryz.asD_As;have G:=Tryz.P3;have H:=Tryz.MQ;have T:=Tryz.isNilP ⟨w.heap.size,0,none⟩ t ((w.alloc (.cells #[.pointer (some t)] 130)).alloc (.cells #[.pointer (some ⟨8,130,none⟩),.pointer (some ⟨w.heap.size,0,none⟩),.int .u64 150] 226)) (by simp)
 have i:0<w.heap.size:=by
  rcases Nat.eq_zero_or_pos w.heap.size with I | h
  ·simp [World.cell?,I] at j
  ·exact h
 have J:((w.alloc (.cells #[.pointer (some t)] 130)).alloc (.cells #[.pointer (some ⟨8,130,none⟩),.pointer (some ⟨w.heap.size,0,none⟩),.int .u64 150] 226)).cell? ⟨0,0,none⟩=some (.iface 301 (.agg #[.pointer (some ⟨8,63,none⟩)])):=by rw [World.cell?_alloc_lt _ _ ⟨0,0,none⟩ (by simp),World.cell?_alloc_lt _ _ ⟨0,0,none⟩ i];exact j
 have f:t.block<w.heap.size:=by
  rcases Nat.lt_or_ge t.block w.heap.size with h | h
  ·exact h
  ·simp [World.cell?,Array.getElem?_eq_none h] at c
 have U:=Tryz.elemVP ⟨w.heap.size,0,none⟩ t ((((w.alloc (.cells #[.pointer (some t)] 130)).alloc (.cells #[.pointer (some ⟨8,130,none⟩),.pointer (some ⟨w.heap.size,0,none⟩),.int .u64 150] 226)).alloc (.cells #[.pointer (some ⟨8,130,none⟩),.pointer (some ⟨w.heap.size,0,none⟩),.int .u64 150] 226)).alloc (.cells #[.string s,.iface 128 (.int .i64 a)] 251)) (by rw [World.cell?_alloc_lt _ _ ⟨w.heap.size,0,none⟩ (by simp;omega),World.cell?_alloc_lt _ _ ⟨w.heap.size,0,none⟩ (by simp;omega)];simp)
 have V:=Tryz.setF t ⟨w.heap.size+1+1+1+1,0,none⟩ a b (((((w.alloc (.cells #[.pointer (some t)] 130)).alloc (.cells #[.pointer (some ⟨8,130,none⟩),.pointer (some ⟨w.heap.size,0,none⟩),.int .u64 150] 226)).alloc (.cells #[.pointer (some ⟨8,130,none⟩),.pointer (some ⟨w.heap.size,0,none⟩),.int .u64 150] 226)).alloc (.cells #[.string s,.iface 128 (.int .i64 a)] 251)).alloc (.cells #[.int .i64 a] 128))
  (by rw [World.cell?_alloc_at _ _ _ _ (by simp)];rfl)
  (by rw [World.cell?_alloc_lt _ _ t (by simp;omega),World.cell?_alloc_lt _ _ t (by simp;omega),World.cell?_alloc_lt _ _ t (by simp;omega),World.cell?_alloc_lt _ _ t (by simp;omega),World.cell?_alloc_lt _ _ t f];exact c)
  (by rw [World.frozen?_alloc_old _ _ t (by simp;omega),World.frozen?_alloc_old _ _ t (by simp;omega),World.frozen?_alloc_old _ _ t (by simp;omega),World.frozen?_alloc_old _ _ t (by simp;omega),World.frozen?_alloc_old _ _ t (Nat.ne_of_lt f)];exact g)
 go_enter func68,ntmps68
 go_wp2
 refine wp_loop_rounds 2 ?_;rw [rounds_succ];go_wp2_with (go_at_call 352;refine(yE _ _ _).mono ?_;rintro e k ⟨rfl,rfl⟩);rw [rounds_succ];go_wp2;go_ret;exact⟨rfl,rfl⟩
def GT(w:World):Prop:=w.cell? ⟨0,0,none⟩=some (.iface 301 (.agg #[.pointer (some ⟨8,63,none⟩)]))
theorem GT.below{w w':World}(h:GT w)(a:Below w.heap.size w w'):GT w':=(a.cell (p:=⟨0,0,none⟩) (World.block_lt_of_cell? w _ h)).trans h
theorem aCA(s:ByteArray)(a:Int)(w:World)(k:GT w):Calls prog 42 #[aY s a] w fun e h=>e=.returned (.int .i64 a)/\Below w.heap.size w h:=by
 unfold aY;have o:=h_ k;clear k;go_enter func42,ntmps42;go_wp2_with fail;have l:Hid (∀b c d f g:Obj,Below w.heap.size w ((((((w.alloc (.cells #[.int .i64 0] 128)).alloc b).alloc c).alloc d).alloc f).alloc g)):=fun b c d f g=>by have p:Below w.heap.size w (w.alloc (.cells #[.int .i64 0] 128)):=b_;exact((((p.alloc (by simp) b).alloc (by simp;omega) c).alloc (by simp;omega) d).alloc (by simp;omega) f).alloc (by simp;omega) g
 have m:Hid (∀b c d f g:Obj,((((((w.alloc (.cells #[.int .i64 0] 128)).alloc b).alloc c).alloc d).alloc f).alloc g).heap[w.heap.size]?=some (.cells #[.int .i64 0] 128 (0,0))):=fun b c d f g=>by rw [k_ (by simp;omega),k_ (by simp;omega),k_ (by simp;omega),k_ (by simp;omega),k_ (by simp)];exact heap_alloc_new _ _
 refine(as_hit s a ⟨w.heap.size,0,none⟩ (.int .i64 0) _ (o.below b_) (aA (heap_alloc_new _ _) 0) (aF (heap_alloc_new _ _) 0)).mono ?_;rintro e h ⟨rfl,i⟩;have n:Below w.heap.size w h:=by rw [i];exact(l _ _ _ _ _).setCell n_ _
 have q:h.cell? ⟨w.heap.size,0,none⟩=some (.int .i64 a):=by rw [i];exact aA (aD (m _ _ _ _ _) 0 _) 0
 have j:=h_ n;clear n i l m;go_wp2_with fail;go_ret;exact⟨rfl,j⟩
theorem as_nil(t:Value)(w:World) :Calls prog 68 #[.nilIface,t] w fun e a=>e=.returned (.bool false)/\w=a:=by
 go_enter func68,ntmps68
 go_wp2
 go_ret;exact⟨rfl,rfl⟩
theorem sL(w:World):Calls prog 42 #[.nilIface] w fun e a=>e=.returned (.int .i64 0)/\Below w.heap.size w a:=by
 go_enter func42,ntmps42
 go_wp2_with (go_at_call 68;refine(as_nil _ _).mono ?_;rintro e a ⟨rfl,rfl⟩)
 go_ret;exact⟨rfl,b_⟩
theorem aK2(s:ByteArray)(v:Value)(w:World):Calls prog 352 #[.agg #[.string s,.iface 251 v]] w fun e a=>e=.returned (.iface 251 v)/\w.alloc (.cells #[.string s,.iface 251 v] 251)=a:=by
 go_enter func352,ntmps352
 go_wp2_with fail
 go_ret;exact⟨rfl,rfl⟩
theorem as_hit2(o s:ByteArray)(a:Int)(t:Addr)(b:Value)(w:World)(k:w.cell? ⟨0,0,none⟩=some (.iface 301 (.agg #[.pointer (some ⟨8,63,none⟩)])))(c:w.cell? t=some b)(g:w.frozen? t=false) :Calls prog 68 #[.iface 251 (.agg #[.string o,.iface 251 (.agg #[.string s,.iface 128 (.int .i64 a)])]),.iface 130 (.pointer (some t))] w fun q i=>q=.returned (.bool true)/\i=((((((w.alloc (.cells #[.pointer (some t)] 130)).alloc (.cells #[.pointer (some ⟨8,130,none⟩),.pointer (some ⟨w.heap.size,0,none⟩),.int .u64 150] 226)).alloc (.cells #[.pointer (some ⟨8,130,none⟩),.pointer (some ⟨w.heap.size,0,none⟩),.int .u64 150] 226)).alloc (.cells #[.string o,.iface 251 (.agg #[.string s,.iface 128 (.int .i64 a)])] 251)).alloc (.cells #[.string s,.iface 128 (.int .i64 a)] 251)).alloc (.cells #[.int .i64 a] 128)).setCell t (.int .i64 a):=by
 have r:=@run_callFunc_extern prog 115 _ (fun d=>ReflectliteValue.unpack (d.getD 0 (.tuple #[]))) func115 (by kernel_rfl) (by kernel_rfl) (by kernel_rfl) (by kernel_rfl);have u:=@run_callFunc_extern prog 116 _ (ReflectliteValue.methodAny (ReflectliteValue.valueError "reflectlite.Value.Type" 0) (fun t _ _ _=>ReflectliteType.toType t)) func116 (by kernel_rfl) (by kernel_rfl) (by kernel_rfl) (by kernel_rfl);have v:=@run_callFunc_extern prog 117 _ (ReflectliteValue.method (ReflectliteValue.valueError "reflectlite.Value.IsNil" 0) ReflectliteValue.isNil) func117 (by kernel_rfl) (by kernel_rfl) (by kernel_rfl) (by kernel_rfl);have l:=@run_callFunc_extern prog 253 _ (ReflectliteType.abiMethod fun t=>do pure (.int .u8 (<- Rtype.kind t))) func253 (by kernel_rfl) (by kernel_rfl) (by kernel_rfl) (by kernel_rfl);have m:=@run_callFunc_extern prog 367 _ (ReflectliteType.method ReflectliteType.elem) func367 (by kernel_rfl) (by kernel_rfl) (by kernel_rfl) (by kernel_rfl);have n:=@run_callFunc_extern prog 368 _ (ReflectliteType.relation "Implements" ReflectliteType.implements_) func368 (by kernel_rfl) (by kernel_rfl) (by kernel_rfl) (by kernel_rfl);have x:=@run_callFunc_extern prog 158 _ ReflectliteType.typeOf func158 (by kernel_rfl) (by kernel_rfl) (by kernel_rfl) (by kernel_rfl);have p:=@run_callFunc_extern prog 365 _ (ReflectliteType.relation "AssignableTo" ReflectliteType.assignableTo) func365 (by kernel_rfl) (by kernel_rfl) (by kernel_rfl) (by kernel_rfl);have y:=@run_callFunc_extern prog 159 _ (ReflectliteValue.method (ReflectliteValue.valueError "reflectlite.Value.Elem" 0) ReflectliteValue.elem) func159 (by kernel_rfl) (by kernel_rfl) (by kernel_rfl) (by kernel_rfl);have z:=@run_callFunc_extern prog 160 _ ReflectliteValue.set func160 (by kernel_rfl) (by kernel_rfl) (by kernel_rfl) (by kernel_rfl);have L:=Tryz.V3;have M:=Tryz.V4;have N:=Tryz.IZ;have O:=Tryz.OG;have P:=Tryz.OH;have Q:=Tryz.SF;have R:=Tryz.SE;have S:=Tryz.typeP;have T:=Tryz.PH;have A:=Tryz.PI;have B:=Tryz.JS;have C:=Tryz.kindP;have D:=Tryz.kindF;have E:=Tryz.elemP;have F:=Tryz.N6;have G:=Tryz.asD_As;have H:=Tryz.P3;have I:=Tryz.MQ;have U:=Tryz.isNilP ⟨w.heap.size,0,none⟩ t ((w.alloc (.cells #[.pointer (some t)] 130)).alloc (.cells #[.pointer (some ⟨8,130,none⟩),.pointer (some ⟨w.heap.size,0,none⟩),.int .u64 150] 226)) (by simp)
 have j:0<w.heap.size:=by
  rcases Nat.eq_zero_or_pos w.heap.size with J | h
  ·simp [World.cell?,J] at k
  ·exact h
 have K:((w.alloc (.cells #[.pointer (some t)] 130)).alloc (.cells #[.pointer (some ⟨8,130,none⟩),.pointer (some ⟨w.heap.size,0,none⟩),.int .u64 150] 226)).cell? ⟨0,0,none⟩=some (.iface 301 (.agg #[.pointer (some ⟨8,63,none⟩)])):=by rw [World.cell?_alloc_lt _ _ ⟨0,0,none⟩ (by simp),World.cell?_alloc_lt _ _ ⟨0,0,none⟩ j];exact k
 have f:t.block<w.heap.size:=by
  rcases Nat.lt_or_ge t.block w.heap.size with h | h
  ·exact h
  ·simp [World.cell?,Array.getElem?_eq_none h] at c
 have V:=Tryz.elemVP ⟨w.heap.size,0,none⟩ t (((((w.alloc (.cells #[.pointer (some t)] 130)).alloc (.cells #[.pointer (some ⟨8,130,none⟩),.pointer (some ⟨w.heap.size,0,none⟩),.int .u64 150] 226)).alloc (.cells #[.pointer (some ⟨8,130,none⟩),.pointer (some ⟨w.heap.size,0,none⟩),.int .u64 150] 226)).alloc (.cells #[.string o,.iface 251 (.agg #[.string s,.iface 128 (.int .i64 a)])] 251)).alloc (.cells #[.string s,.iface 128 (.int .i64 a)] 251)) (by rw [World.cell?_alloc_lt _ _ ⟨w.heap.size,0,none⟩ (by simp;omega),World.cell?_alloc_lt _ _ ⟨w.heap.size,0,none⟩ (by simp;omega),World.cell?_alloc_lt _ _ ⟨w.heap.size,0,none⟩ (by simp;omega)];simp)
 have W:=Tryz.setF t ⟨w.heap.size+1+1+1+1+1,0,none⟩ a b ((((((w.alloc (.cells #[.pointer (some t)] 130)).alloc (.cells #[.pointer (some ⟨8,130,none⟩),.pointer (some ⟨w.heap.size,0,none⟩),.int .u64 150] 226)).alloc (.cells #[.pointer (some ⟨8,130,none⟩),.pointer (some ⟨w.heap.size,0,none⟩),.int .u64 150] 226)).alloc (.cells #[.string o,.iface 251 (.agg #[.string s,.iface 128 (.int .i64 a)])] 251)).alloc (.cells #[.string s,.iface 128 (.int .i64 a)] 251)).alloc (.cells #[.int .i64 a] 128))
  (by rw [World.cell?_alloc_at _ _ _ _ (by simp)];rfl)
  (by rw [World.cell?_alloc_lt _ _ t (by simp;omega),World.cell?_alloc_lt _ _ t (by simp;omega),World.cell?_alloc_lt _ _ t (by simp;omega),World.cell?_alloc_lt _ _ t (by simp;omega),World.cell?_alloc_lt _ _ t (by simp;omega),World.cell?_alloc_lt _ _ t f];exact c)
  (by rw [World.frozen?_alloc_old _ _ t (by simp;omega),World.frozen?_alloc_old _ _ t (by simp;omega),World.frozen?_alloc_old _ _ t (by simp;omega),World.frozen?_alloc_old _ _ t (by simp;omega),World.frozen?_alloc_old _ _ t (by simp;omega),World.frozen?_alloc_old _ _ t (Nat.ne_of_lt f)];exact g)
 go_enter func68,ntmps68
 go_wp2
 refine wp_loop_rounds 3 ?_;rw [rounds_succ];go_wp2_with (go_at_call 352;refine(aK2 _ _ _).mono ?_;rintro e i ⟨rfl,rfl⟩);rw [rounds_succ];go_wp2_with (go_at_call 352;refine(yE _ _ _).mono ?_;rintro e i ⟨rfl,rfl⟩);rw [rounds_succ];go_wp2;go_ret;exact⟨rfl,rfl⟩
theorem p_code2(o s:ByteArray)(a:Int)(w:World)(l:GT w):Calls prog 42 #[.iface 251 (.agg #[.string o,aY s a])] w fun e i=>e=.returned (.int .i64 a)/\Below w.heap.size w i:=by
 unfold aY;have q:=h_ l;clear l;go_enter func42,ntmps42;go_wp2_with fail;have m:Hid (∀b c d f g h:Obj,Below w.heap.size w (((((((w.alloc (.cells #[.int .i64 0] 128)).alloc b).alloc c).alloc d).alloc f).alloc g).alloc h)):=fun b c d f g h=>by have r:Below w.heap.size w (w.alloc (.cells #[.int .i64 0] 128)):=b_;exact(((((r.alloc (by simp) b).alloc (by simp;omega) c).alloc (by simp;omega) d).alloc (by simp;omega) f).alloc (by simp;omega) g).alloc (by simp;omega) h
 have n:Hid (∀b c d f g h:Obj,(((((((w.alloc (.cells #[.int .i64 0] 128)).alloc b).alloc c).alloc d).alloc f).alloc g).alloc h).heap[w.heap.size]?=some (.cells #[.int .i64 0] 128 (0,0))):=fun b c d f g h=>by rw [k_ (by simp;omega),k_ (by simp;omega),k_ (by simp;omega),k_ (by simp;omega),k_ (by simp;omega),k_ (by simp)];exact heap_alloc_new _ _
 refine(as_hit2 o s a ⟨w.heap.size,0,none⟩ (.int .i64 0) _ (q.below b_) (aA (heap_alloc_new _ _) 0) (aF (heap_alloc_new _ _) 0)).mono ?_;rintro e i ⟨rfl,j⟩;have p:Below w.heap.size w i:=by rw [j];exact(m _ _ _ _ _ _).setCell n_ _
 have t:i.cell? ⟨w.heap.size,0,none⟩=some (.int .i64 a):=by rw [j];exact aA (aD (n _ _ _ _ _ _) 0 _) 0
 have k:=h_ p;clear p j m n;go_wp2_with fail;go_ret;exact⟨rfl,k⟩
def cmpE:=ReflectliteType.method fun t=>do Rtype.noPackHeld "Comparable" t;pure (.bool (<- typeInfo t).comparable)
theorem aIK(w:World):(cmpE #[.agg #[.pointer (some ⟨8,128,none⟩)]]).run prog w=.ok (.bool true) w:=by kernel_rfl
theorem aHM(v:Value)(w:World):(Go.method 638 301 v "Comparable").run prog w=.ok (366,v) w:=by kernel_rfl
theorem isD_Is(v:Value)(w:World):(Instr.typeAssert (.iface 251 v) 63 449 true).run prog w=.ok (.tuple #[.nilIface,.bool false]) w:=run_typeAssert_lacksB underlying449 (by kernel_rfl) (by kernel_rfl) v _ w
theorem isF_Is(v:Value)(w:World):(Instr.typeAssert (.iface 128 v) 63 449 true).run prog w=.ok (.tuple #[.nilIface,.bool false]) w:=run_typeAssert_lacksB underlying449 (by kernel_rfl) (by kernel_rfl) v _ w
theorem isF_Un(v:Value)(w:World):(Instr.typeAssert (.iface 128 v) 63 309 true).run prog w=.ok (.tuple #[.nilIface,.bool false]) w:=run_typeAssert_lacksB underlying309 (by kernel_rfl) (by kernel_rfl) v _ w
theorem isF_Uns(v:Value)(w:World):(Instr.typeAssert (.iface 128 v) 63 310 true).run prog w=.ok (.tuple #[.nilIface,.bool false]) w:=run_typeAssert_lacksB underlying310 (by kernel_rfl) (by kernel_rfl) v _ w
theorem eqDF(v u:Value)(w:World):(binOp .eql 63 (.iface 251 v) (.iface 128 u)).run prog w=.ok (.bool false) w:=by kernel_rfl
theorem eqFF(a b:Int)(w:World):(binOp .eql 63 (.iface 128 (.int .i64 a)) (.iface 128 (.int .i64 b))).run prog w=.ok (.bool (a==b)) w:=by kernel_rfl
theorem is_nil7(v:Value)(w:World):Calls prog 261 #[.nilIface,.iface 128 v] w fun e a=>e=.returned (.bool false)/\w=a:=by have b:=run_eql_iface_nil_left (P:=prog) w 128 v underlying63;go_enter func261,ntmps261;go_wp2;go_ret;exact⟨rfl,rfl⟩
theorem aJ2(s:ByteArray)(a:Int)(w:World):Calls prog 261 #[aY s a,.iface 128 (.int .i64 7)] w fun e c=>e=.returned (.bool (a==7))/\c=w.alloc (.cells #[.string s,.iface 128 (.int .i64 a)] 251):=by
 unfold aY;have f:=@run_callFunc_extern prog 158 _ ReflectliteType.typeOf func158 (by kernel_rfl) (by kernel_rfl) (by kernel_rfl) (by kernel_rfl);have g:=@run_callFunc_extern prog 366 _ cmpE func366 (by kernel_rfl) (by kernel_rfl) (by kernel_rfl) (by kernel_rfl);have h:=Tryz.V3;have i:=aIK;have j:=aHM;have k:=isD_Is;have l:=isF_Is;have m:=isF_Un;have n:=isF_Uns;have o:=Tryz.P3;have p:=Tryz.MQ;have q:=eqDF;have r:=eqFF;go_enter func261,ntmps261;go_wp2;refine wp_loop_rounds 2 ?_;rw [rounds_succ];go_wp2_with (go_at_call 352;refine(yE _ _ _).mono ?_;rintro e c ⟨rfl,rfl⟩);rw [rounds_succ];by_cases d:a=7
 ·subst d;go_wp2;go_ret;exact⟨rfl,rfl⟩
 ·have b:(a==7)=false:=by simp [d]
  go_wp2
  go_ret;exact⟨by rw [b];rfl,rfl⟩
end
end Go.Proofs.YtkgbdddkcjpgfaaGreatDoor
