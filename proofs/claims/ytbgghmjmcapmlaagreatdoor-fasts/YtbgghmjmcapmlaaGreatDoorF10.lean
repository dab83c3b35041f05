import Derived.LaidEql
import Derived.Test.YtbgghmjmcapmlaaGreatDoorF04
namespace Go.Proofs.YtbgghmjmcapmlaaGreatDoor
open Go.Proofs.Tryz
open Pl (PV)
section
open Go.RowKit
variable {s:Sg} {v:Value} {p:PV}
def IS(s:Sg):Prop:=(s.tq=371/\s.tc=384)\/(s.tq=371/\s.tc=384)
theorem Tryz.w_(n:Int)(w:World):(Go.method 534 237 (.int .i64 n) "Spell").run prog w=.ok (286,(Q1 n)) w:=by kernel_rfl
theorem Tryz.SN(b:Bool)(w:World):(Go.method 534 239 (.bool b) "Spell").run prog w=.ok (290,.bool b) w:=by kernel_rfl
theorem Tryz.WI(s:Q8)(w:World):(Go.method 534 240 (.string s) "Spell").run prog w=.ok (292,.string s) w:=by kernel_rfl
theorem Tryz.SO(w:World):(Go.method 534 271 (.agg #[]) "Spell").run prog w=.ok (306,.agg #[]) w:=by kernel_rfl
theorem Tryz.O1(w:World):(Go.method 534 242 (.agg #[]) "Spell").run prog w=.ok (294,.agg #[]) w:=by kernel_rfl
theorem Tryz.WH(b:Nat)(w:World):(Go.method 534 272 (Q0 b) "Spell").run prog w=.ok (308,(Q0 b)) w:=by kernel_rfl
theorem Tryz.WG(n:Int)(w:World):(Go.method 534 149 (.int .i64 n) "Spell").run prog w=.ok (256,(Q1 n)) w:=by kernel_rfl
theorem Tryz.RB(w:World):(Go.method 534 146 (.agg #[]) "Spell").run prog w=.ok (252,.agg #[]) w:=by kernel_rfl
theorem dY(w:World)(a:Addr):(loadVar 372 a).run prog w=.ok (.agg #[]) w:=by kernel_rfl
theorem oM(w:World)(b:Nat)(cs:Array Value)(T:TypeId)(h:w.heap[b]?=some (.cells cs T (0,0)))(a:prog.cellsOf T≠0)(c:byteOfCell prog prog.depth T 0=some 0):(partAt ⟨b,0,none⟩ 0 0).run prog w=.ok ⟨b,0,none⟩ w:=by simp [partAt,byteOf,noView,viewAt,World.shape?,h,a,c]
theorem dX(n:Nat)(T E:TypeId)(w:World)(b:Nat)(cs:Array Value)(h:w.heap[b]?=some (.cells cs E (0,0)))
  (r:((prog.info? T).bind fun i=>i.methods.find? fun m=>m.name == "Spell").map (fun m=>(m.path.toList,m.func))=some ([⟨E,0,true⟩],some (254,false)))
  (e:(match prog.underlying E with | some (.struct q)=>q[0]?.map fun f=>(f.type,f.offset,f.byteOffset) | _=>none)=some (372,0,0))
  (s:prog.cellsOf E≠0) (t:byteOfCell prog prog.depth E 0=some 0) (u:(loadVar 372 ⟨b,0,none⟩).run prog w=.ok (.agg #[]) w) :
  (Go.method (n+1) T (Q0 b) "Spell").run prog w=.ok (254,.agg #[]) w:=by
 obtain⟨m,j,c⟩:=m_ r;obtain⟨i,v,k⟩:=Option.bind_eq_some_iff.1 j;simp only [Prod.mk.injEq] at c
 cases g:prog.underlying E with
 | none=>simp [g] at e
 | some d =>
  cases d with
  | struct q =>
   simp only [g] at e;obtain⟨f,l,a⟩:=m_ e;simp only [Prod.mk.injEq] at a;have o:(sizeOf 372).run prog w=.ok 0 w:=by kernel_rfl
   have p:=oM w b cs E h s t;simp [Go.method,typeInfo,v,k,c.1,c.2,follow,run_underlying g,l,a.1,a.2.1,a.2.2,Place.get,asAddr,fieldPlace,o,p,receiverAt,run_underlying underlying372,u]
  | _=>simp [g] at e
theorem Tryz.met_sq:((prog.info? 371).bind fun i=>i.methods.find? fun m=>m.name == "Spell").map (fun m=>(m.path.toList,m.func))=some ([⟨374,0,true⟩],some (254,false)):=by kernel_rfl
theorem Tryz.fld_sq:(match prog.underlying 374 with | some (.struct a)=>a[0]?.map fun f=>(f.type,f.offset,f.byteOffset) | _=>none)=some (372,0,0):=by kernel_rfl
theorem Tryz.UU:prog.cellsOf 374≠0:=of_decide_eq_true t8
theorem Tryz.ZB:byteOfCell prog prog.depth 374 0=some 0:=by kernel_rfl
theorem Tryz.met_sc:((prog.info? 384).bind fun i=>i.methods.find? fun m=>m.name == "Spell").map (fun m=>(m.path.toList,m.func))=some ([⟨386,0,true⟩],some (254,false)):=by kernel_rfl
theorem Tryz.fld_sc:(match prog.underlying 386 with | some (.struct a)=>a[0]?.map fun f=>(f.type,f.offset,f.byteOffset) | _=>none)=some (372,0,0):=by kernel_rfl
theorem Tryz.UW:prog.cellsOf 386≠0:=of_decide_eq_true t8
theorem Tryz.ZC:byteOfCell prog prog.depth 386 0=some 0:=by kernel_rfl
theorem Tryz.met_fq:((prog.info? 371).bind fun i=>i.methods.find? fun m=>m.name == "Spell").map (fun m=>(m.path.toList,m.func))=some ([⟨374,0,true⟩],some (254,false)):=by kernel_rfl
theorem Tryz.fld_fq:(match prog.underlying 374 with | some (.struct a)=>a[0]?.map fun f=>(f.type,f.offset,f.byteOffset) | _=>none)=some (372,0,0):=by kernel_rfl
theorem Tryz.UX:prog.cellsOf 374≠0:=of_decide_eq_true t8
theorem Tryz.ZD:byteOfCell prog prog.depth 374 0=some 0:=by kernel_rfl
theorem Tryz.met_fc:((prog.info? 384).bind fun i=>i.methods.find? fun m=>m.name == "Spell").map (fun m=>(m.path.toList,m.func))=some ([⟨386,0,true⟩],some (254,false)):=by kernel_rfl
theorem Tryz.fld_fc:(match prog.underlying 386 with | some (.struct a)=>a[0]?.map fun f=>(f.type,f.offset,f.byteOffset) | _=>none)=some (372,0,0):=by kernel_rfl
theorem Tryz.UY:prog.cellsOf 386≠0:=of_decide_eq_true t8
theorem Tryz.ZE:byteOfCell prog prog.depth 386 0=some 0:=by kernel_rfl
def ZX(T:TypeId):TypeId:=if T=371 then 374 else if T=384 then 386 else if T=371 then 374 else 386
theorem Tryz.sp_sq(w:World)(b:Nat)(cs:Array Value)(h:w.heap[b]?=some (.cells cs (ZX 371) (0,0))):(Go.method 534 371 (Q0 b) "Spell").run prog w=.ok (254,.agg #[]) w :=dX _ 371 374 w b cs h Tryz.met_sq Tryz.fld_sq Tryz.UU Tryz.ZB (dY w _)
theorem Tryz.sp_sc(w:World)(b:Nat)(cs:Array Value)(h:w.heap[b]?=some (.cells cs (ZX 384) (0,0))):(Go.method 534 384 (Q0 b) "Spell").run prog w=.ok (254,.agg #[]) w :=dX _ 384 386 w b cs h Tryz.met_sc Tryz.fld_sc Tryz.UW Tryz.ZC (dY w _)
theorem Tryz.sp_fq(w:World)(b:Nat)(cs:Array Value)(h:w.heap[b]?=some (.cells cs (ZX 371) (0,0))):(Go.method 534 371 (Q0 b) "Spell").run prog w=.ok (254,.agg #[]) w :=dX _ 371 374 w b cs h Tryz.met_fq Tryz.fld_fq Tryz.UX Tryz.ZD (dY w _)
theorem Tryz.sp_fc(w:World)(b:Nat)(cs:Array Value)(h:w.heap[b]?=some (.cells cs (ZX 384) (0,0))):(Go.method 534 384 (Q0 b) "Spell").run prog w=.ok (254,.agg #[]) w :=dX _ 384 386 w b cs h Tryz.met_fc Tryz.fld_fc Tryz.UY Tryz.ZE (dY w _)
theorem IS.spq(h:IS s)(b:Nat)(w:World)(cs:Array Value)(a:w.heap[b]?=some (.cells cs (ZX s.tq) (0,0))):(Go.method 534 s.tq (Q0 b) "Spell").run prog w=.ok (254,.agg #[]) w:=by
 rcases h with⟨h,_⟩ | ⟨h,_⟩<;>rw [h] at a ⊢
 ·exact Tryz.sp_sq w b cs a
 ·exact Tryz.sp_fq w b cs a
theorem IS.spc(h:IS s)(b:Nat)(w:World)(cs:Array Value)(a:w.heap[b]?=some (.cells cs (ZX s.tc) (0,0))):(Go.method 534 s.tc (Q0 b) "Spell").run prog w=.ok (254,.agg #[]) w:=by
 rcases h with⟨_,h⟩ | ⟨_,h⟩<;>rw [h] at a ⊢
 ·exact Tryz.sp_sc w b cs a
 ·exact Tryz.sp_fc w b cs a
theorem fC{T:TypeId}(v:Value)(w:World)(h:T=272\/T=237):(Instr.typeAssert (.iface T v) 113 T true).run prog w=.ok (.tuple #[v,.bool true]) w:=by rcases h with rfl | rfl<;>kernel_rfl
theorem Tryz.no_pair_239(v:Value)(w:World):(Instr.typeAssert (.iface 239 v) 113 272 true).run prog w=.ok (.tuple #[.pointer none,.bool false]) w:=by kernel_rfl
theorem Tryz.no_num_239(v:Value)(w:World):(Instr.typeAssert (.iface 239 v) 113 237 true).run prog w=.ok (.tuple #[Q1 0,.bool false]) w:=by kernel_rfl
theorem Tryz.no_pair_240(v:Value)(w:World):(Instr.typeAssert (.iface 240 v) 113 272 true).run prog w=.ok (.tuple #[.pointer none,.bool false]) w:=by kernel_rfl
theorem Tryz.no_num_240(v:Value)(w:World):(Instr.typeAssert (.iface 240 v) 113 237 true).run prog w=.ok (.tuple #[Q1 0,.bool false]) w:=by kernel_rfl
theorem Tryz.no_pair_271(v:Value)(w:World):(Instr.typeAssert (.iface 271 v) 113 272 true).run prog w=.ok (.tuple #[.pointer none,.bool false]) w:=by kernel_rfl
theorem Tryz.no_num_271(v:Value)(w:World):(Instr.typeAssert (.iface 271 v) 113 237 true).run prog w=.ok (.tuple #[Q1 0,.bool false]) w:=by kernel_rfl
theorem Tryz.no_pair_242(v:Value)(w:World):(Instr.typeAssert (.iface 242 v) 113 272 true).run prog w=.ok (.tuple #[.pointer none,.bool false]) w:=by kernel_rfl
theorem Tryz.no_num_242(v:Value)(w:World):(Instr.typeAssert (.iface 242 v) 113 237 true).run prog w=.ok (.tuple #[Q1 0,.bool false]) w:=by kernel_rfl
theorem Tryz.no_pair_149(v:Value)(w:World):(Instr.typeAssert (.iface 149 v) 113 272 true).run prog w=.ok (.tuple #[.pointer none,.bool false]) w:=by kernel_rfl
theorem Tryz.no_num_149(v:Value)(w:World):(Instr.typeAssert (.iface 149 v) 113 237 true).run prog w=.ok (.tuple #[Q1 0,.bool false]) w:=by kernel_rfl
theorem Tryz.no_pair_146(v:Value)(w:World):(Instr.typeAssert (.iface 146 v) 113 272 true).run prog w=.ok (.tuple #[.pointer none,.bool false]) w:=by kernel_rfl
theorem Tryz.no_num_146(v:Value)(w:World):(Instr.typeAssert (.iface 146 v) 113 237 true).run prog w=.ok (.tuple #[Q1 0,.bool false]) w:=by kernel_rfl
theorem Tryz.no_pair_371(v:Value)(w:World):(Instr.typeAssert (.iface 371 v) 113 272 true).run prog w=.ok (.tuple #[.pointer none,.bool false]) w:=by kernel_rfl
theorem Tryz.no_num_371(v:Value)(w:World):(Instr.typeAssert (.iface 371 v) 113 237 true).run prog w=.ok (.tuple #[Q1 0,.bool false]) w:=by kernel_rfl
theorem Tryz.no_pair_384(v:Value)(w:World):(Instr.typeAssert (.iface 384 v) 113 272 true).run prog w=.ok (.tuple #[.pointer none,.bool false]) w:=by kernel_rfl
theorem Tryz.no_num_384(v:Value)(w:World):(Instr.typeAssert (.iface 384 v) 113 237 true).run prog w=.ok (.tuple #[Q1 0,.bool false]) w:=by kernel_rfl
theorem Tryz.RG(v:Value)(w:World):(Instr.typeAssert (.iface 237 v) 113 272 true).run prog w=.ok (.tuple #[.pointer none,.bool false]) w:=by kernel_rfl
theorem Tryz.TA(v:Value)(w:World):(Instr.typeAssert (.iface 272 v) 113 237 true).run prog w=.ok (.tuple #[Q1 0,.bool false]) w:=by kernel_rfl
theorem RV.MZ(h:RV s v p)(a:IS s):(∃k b,p=.pair k/\s.pb[k]?=some b/\v=.iface 272 (Q0 b)) \/
  ((∀k,p≠.pair k)/\∃T x,v=.iface T x/\∀w,(Instr.typeAssert (.iface T x) 113 272 true).run prog w=.ok (.tuple #[.pointer none,.bool false]) w):=by
 cases h with
 | pair i b h=>exact .inl ⟨i,b,rfl,h,rfl⟩
 | num n=>exact .inr ⟨fun k e=>a8,_,_,rfl,Tryz.RG _⟩
 | AT b=>exact .inr ⟨fun k e=>a8,_,_,rfl,Tryz.no_pair_239 _⟩
 | name t=>exact .inr ⟨fun k e=>a8,_,_,rfl,Tryz.no_pair_240 _⟩
 | empty=>exact .inr ⟨fun k e=>a8,_,_,rfl,Tryz.no_pair_271 _⟩
 | nothing=>exact .inr ⟨fun k e=>a8,_,_,rfl,Tryz.no_pair_242 _⟩
 | proc i b h c =>
  refine .inr ⟨fun k e=>a8,_,_,rfl,fun w=>?_⟩;rcases a with⟨e,_⟩ | ⟨e,_⟩<;>rw [e]
  ·exact Tryz.no_pair_371 _ w
  ·exact Tryz.no_pair_371 _ w
 | cont i b h =>
  refine .inr ⟨fun k e=>a8,_,_,rfl,fun w=>?_⟩;rcases a with⟨_,e⟩ | ⟨_,e⟩<;>rw [e]
  ·exact Tryz.no_pair_384 _ w
  ·exact Tryz.no_pair_384 _ w
 | AZ k t h d=>exact .inr ⟨fun k e=>a8,_,_,rfl,Tryz.no_pair_149 _⟩
 | EC=>exact .inr ⟨fun k e=>a8,_,_,rfl,Tryz.no_pair_146 _⟩
theorem RV.U5(h:RV s v p)(a:IS s):(∃n,p=.num n/\v=.iface 237 (.int .i64 n)) \/
  ((∀k,p≠.num k)/\∃T x,v=.iface T x/\∀w,(Instr.typeAssert (.iface T x) 113 237 true).run prog w=.ok (.tuple #[Q1 0,.bool false]) w):=by
 cases h with
 | num n=>exact .inl ⟨n,rfl,rfl⟩
 | pair i b h=>exact .inr ⟨fun k e=>a8,_,_,rfl,Tryz.TA _⟩
 | AT b=>exact .inr ⟨fun k e=>a8,_,_,rfl,Tryz.no_num_239 _⟩
 | name t=>exact .inr ⟨fun k e=>a8,_,_,rfl,Tryz.no_num_240 _⟩
 | empty=>exact .inr ⟨fun k e=>a8,_,_,rfl,Tryz.no_num_271 _⟩
 | nothing=>exact .inr ⟨fun k e=>a8,_,_,rfl,Tryz.no_num_242 _⟩
 | proc i b h c =>
  refine .inr ⟨fun k e=>a8,_,_,rfl,fun w=>?_⟩;rcases a with⟨e,_⟩ | ⟨e,_⟩<;>rw [e]
  ·exact Tryz.no_num_371 _ w
  ·exact Tryz.no_num_371 _ w
 | cont i b h =>
  refine .inr ⟨fun k e=>a8,_,_,rfl,fun w=>?_⟩;rcases a with⟨_,e⟩ | ⟨_,e⟩<;>rw [e]
  ·exact Tryz.no_num_384 _ w
  ·exact Tryz.no_num_384 _ w
 | AZ k t h d=>exact .inr ⟨fun k e=>a8,_,_,rfl,Tryz.no_num_149 _⟩
 | EC=>exact .inr ⟨fun k e=>a8,_,_,rfl,Tryz.no_num_146 _⟩
theorem bD(w:World){T U:TypeId}(h:T≠U)(x y:Value):(binOp .eql 113 (.iface T x) (.iface U y)).run prog w=.ok (.bool false) w:=by
 simp only [binOp];have b:∀d,(Op.equalIn (d+1) 113 (.iface T x) (.iface U y)).run prog w=.ok false w:=fun d=>by simp [Op.equalIn,run_underlying underlying113,h]
 have a:(Op.equal 113 (.iface T x) (.iface U y)).run prog w=.ok false w:=b 9999;simp [a]
theorem neq_of{w:World}{T U:TypeId}{x y:Value}{b:Bool}(h:(binOp .eql 113 (.iface T x) (.iface U y)).run prog w=.ok (.bool b) w):(binOp .neq 113 (.iface T x) (.iface U y)).run prog w=.ok (.bool (!b)) w:=by
 simp only [binOp] at h ⊢
 cases a:(Op.equal 113 (.iface T x) (.iface U y)).run prog w with
 | ok c d =>simp only [Sem.run_bind,a,Result.andThen_ok,Sem.run_pure,Result.ok.injEq,Value.bool.injEq] at h;obtain⟨rfl,rfl⟩:=h;simp only [Sem.run_bind,a,Result.andThen_ok,Sem.run_pure]
 | _=>simp [a] at h
theorem Tryz.OD(a b:Bool)(w:World):(binOp .eql 113 (.iface 239 (.bool a)) (.iface 239 (.bool b))).run prog w=.ok (.bool (a==b)) w:=by kernel_rfl
theorem Tryz.eq_num(a b:Int)(w:World):(binOp .eql 113 (.iface 237 (.int .i64 a)) (.iface 237 (.int .i64 b))).run prog w=.ok (.bool (a==b)) w:=by kernel_rfl
theorem Tryz.YX(a b:Int)(w:World):(binOp .eql 113 (.iface 149 (.int .i64 a)) (.iface 149 (.int .i64 b))).run prog w=.ok (.bool (a==b)) w:=by kernel_rfl
theorem Tryz.YY(a b:Q8)(w:World):(binOp .eql 113 (.iface 240 (.string a)) (.iface 240 (.string b))).run prog w=.ok (.bool (a==b)) w:=by kernel_rfl
theorem Tryz.eq_empty(w:World):(binOp .eql 113 (.iface 271 (.agg #[])) (.iface 271 (.agg #[]))).run prog w=.ok (.bool true) w:=by kernel_rfl
theorem Tryz.PZ(w:World):(binOp .eql 113 (.iface 242 (.agg #[])) (.iface 242 (.agg #[]))).run prog w=.ok (.bool true) w:=by kernel_rfl
theorem Tryz.RN(w:World):(binOp .eql 113 (.iface 146 (.agg #[])) (.iface 146 (.agg #[]))).run prog w=.ok (.bool true) w:=by kernel_rfl
theorem RV.QP(h:RV s v p)(a:IS s)(w:World):(binOp .eql 113 v (.iface 271 (.agg #[]))).run prog w=.ok (.bool (decide (p=.empty))) w:=by
 cases h with
 | empty=>exact Tryz.eq_empty w
 | proc i b h c=>rw [bD w zP0];simp
 | cont i b h=>rw [bD w zP1];simp
 | _=>rw [bD w w8];simp
theorem RV.eqFalse(h:RV s v p)(a:IS s)(w:World):(binOp .eql 113 v (.iface 239 (.bool false))).run prog w=.ok (.bool (decide (p=.AT false))) w:=by
 cases h with
 | AT b=>rw [Tryz.OD];cases b<;>rfl
 | proc i b h c=>rw [bD w zP0];simp
 | cont i b h=>rw [bD w zP1];simp
 | _=>rw [bD w w8];simp
end
end Go.Proofs.YtbgghmjmcapmlaaGreatDoor
