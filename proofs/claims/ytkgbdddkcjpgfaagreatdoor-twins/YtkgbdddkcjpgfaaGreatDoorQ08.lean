import Derived.Test.YtkgbdddkcjpgfaaGreatDoorQ06
import Derived.LaidEql
import Derived.Lib.ItoaLen
import Derived.Lib.AppendIntMem
import Derived.Deep.DeepCutAuto
import Derived.Test.YtkgbdddkcjpgfaaGreatDoorQ07
namespace Go.Proofs.YtkgbdddkcjpgfaaGreatDoor
set_option maxHeartbeats 2000000
set_option maxRecDepth 100000
open Go.Proofs.Tryz
open Pl (PV AL)
section
open Go.RowKit
variable {v:Value} {w:World}
theorem Tryz.KN(v:Value)(w:World):(Instr.typeAssert (.iface 293 v) 109 293 true).run prog w=.ok (.tuple #[v,.bool true]) w:=by kernel_rfl
theorem Tryz.LZ(v:Value)(w:World):(Instr.typeAssert (.iface 295 v) 109 295 true).run prog w=.ok (.tuple #[v,.bool true]) w:=by kernel_rfl
theorem Tryz.K9(v:Value)(w:World):(Instr.typeAssert (.iface 295 v) 109 293 true).run prog w=.ok (.tuple #[.int .i64 0,.bool false]) w:=by kernel_rfl
theorem Tryz.L0(v:Value)(w:World):(Instr.typeAssert (.iface 117 v) 109 293 true).run prog w=.ok (.tuple #[.int .i64 0,.bool false]) w:=by kernel_rfl
theorem Tryz.L1(v:Value)(w:World):(Instr.typeAssert (.iface 115 v) 109 293 true).run prog w=.ok (.tuple #[.int .i64 0,.bool false]) w:=by kernel_rfl
theorem Tryz.DM(v:Value)(w:World):(Instr.typeAssert (.iface 117 v) 109 295 true).run prog w=.ok (.tuple #[.bool false,.bool false]) w:=by kernel_rfl
theorem Tryz.DP(v:Value)(w:World):(Instr.typeAssert (.iface 115 v) 109 295 true).run prog w=.ok (.tuple #[.bool false,.bool false]) w:=by kernel_rfl
theorem AN.list{ok:Nat->Prop}{n:Nat}{b:List Tr}(h:AN ok (n+1) w v (.agg b)):∃c a,v=.iface 115 c/\DB w c a/\a.length=b.length/\b.length<=1000/\∀(i:Nat)(u:Value)(x:Tr),a[i]?=some u->b[i]?=some x->AN ok n w u x:=by obtain⟨c,a,e,_,d,f,g⟩:=h;exact⟨c,a,e,bC d,d.1.trans (Nat.mul_one _),g,f⟩
theorem AN.KR{ok:Nat->Prop}{n:Nat}{t:Tr}(h:AN ok n w v t)(a:¬∃s,t=.agg s):∃x,v=.iface 293 x\/v=.iface 295 x\/v=.iface 117 x:=by
 cases n with
 | zero=>exact h.elim
 | succ n =>
  match t,h with
  | .lit (.int _ _),h=>obtain⟨k,rfl,_⟩:=h;exact⟨_,.inl rfl⟩
  | .lit (.bool _),h=>exact⟨_,.inr (.inl h)⟩
  | .lit (.string s),h=>exact⟨_,.inr (.inr h)⟩
  | .agg b,h=>exact absurd ⟨b,rfl⟩ a
def GU(s t:Sg):Prop:=∃l,t={s with pb:=s.pb++l}
theorem GU.refl(s:Sg):GU s s:=⟨[],by simp⟩
theorem GU.trans{a b c:Sg}(h:GU a b)(k:GU b c):GU a c:=by obtain⟨l,rfl⟩:=h;obtain⟨m,rfl⟩:=k;exact⟨l++m,by simp⟩
theorem GU.le{a b:Sg}(h:GU a b):Sg.Le a b:=by obtain⟨l,rfl⟩:=h;exact⟨rfl,rfl,List.prefix_append _ _,List.prefix_refl _,List.prefix_refl _,List.prefix_refl _,List.prefix_refl _⟩
theorem GU.add(s:Sg)(b:Nat):GU s (s.DD b):=⟨[b],rfl⟩
def VI(M:Nat->Prop)(w:World)(s:Sg)(ps:List (PV×PV))(r:PV×List (PV×PV))(e:Ending)(w':World):Prop :=∃v t,e=.returned v/\RV t v r.1/\BD M w' t (ps++r.2)/\Below w.heap.size w w'/\GU s t
def VH(n:Nat):Prop:=∀(M:Nat->Prop)(ok:Nat->Prop)(w:World)(s:Sg) (ps:List (PV×PV)) (v:Value) (t:Tr),BD M w s ps->(∀k,M k->k<w.heap.size)->AN ok n w v t->cL n t ->
 Calls prog 114 #[v] w fun e w'=>VI M w s ps (Pl.made n ps.length t) e w'
theorem mD{α:Type}{l:List α}{k:Nat}{x:α}(h:l[k]?=some x):l.drop k=x::l.drop (k+1):=by obtain⟨a,rfl⟩:=s_ h;exact List.drop_eq_getElem_cons a
theorem zT(n b:Nat)(a:List Tr)(k:Nat)(x:Tr)(h:a[k]?=some x):AL (Pl.made n) b (a.drop k)=AL (Pl.made n) b (x::a.drop (k+1)):=by rw [mD h]
def QW(n:Nat)(M:Nat->Prop)(w wr:World)(s sk:Sg)(ps:List (PV×PV))(ts:List Tr)(k:Nat)(lv:Value):Prop :=RV sk lv (AL (Pl.made n) ps.length (ts.drop k)).1/\BD M wr sk (ps++(AL (Pl.made n) ps.length (ts.drop k)).2)/\Below w.heap.size w wr/\GU s sk
theorem yR(n:Nat)(R:VH n)(M ok:Nat->Prop)(w:World)(s:Sg)(ps:List (PV×PV))(sl:Value)(vs:List Value)(a:List Tr)(S:BD M w s ps)(U:∀k,M k->k<w.heap.size)(hS:DB w sl vs)(E:vs.length=a.length)(V:a.length<=1000)(W:∀(i:Nat)(u:Value)(x:Tr),vs[i]?=some u->a[i]?=some x->AN ok n w u x)(X:∀x∈a,cL n x) :Calls prog 157 #[sl] w fun e w'=>VI M w s ps (AL (Pl.made n) ps.length a) e w':=by
 have HP:=h_ S;have Y:=h_ U;have HA:=h_ W;have HB:=h_ X;have HI:=h_ R;have HL:=h_ E;obtain⟨ao,ab,rfl,Z,m⟩:=hS;have HC:=h_ m;rw [E];clear S U W X R m E;go_enter func157,ntmps157;go_wp2_with fail
 go_loopw [3,4] (fun l i wr=>∃(k:Nat)(F:Value)(A:Sg),k<=a.length/\i=.int .i64 ((k:Int)-1)/\l=F/\Hid (QW n M w wr s A ps a k F)) (fun _ i _=>(intOf i+1).toNat)
 case atStart =>
  refine⟨a.length,_,s,n_,by go_num,rfl,?_⟩;refine show QW _ _ _ _ _ _ _ _ _ _ from⟨?_,?_,r_,GU.refl _⟩
  ·rw [List.drop_length];exact .empty
  ·rw [List.drop_length];simpa [AL] using HP.out
 case round =>
  obtain⟨k,F,A,B,rfl,rfl,G⟩:=hrel;rcases Nat.eq_zero_or_pos k with rfl | aa
  ·have H:(((0:Nat):Int)-1)=-1:=by omega
   rw [H];go_wp2_with fail;go_ret;obtain⟨c,f,b,h⟩:=G.out;exact⟨_,A,rfl,c,f,b,h⟩
  ·obtain⟨j,rfl⟩:∃j,k=j+1:=⟨k-1,by omega⟩
   have H:(((j+1:Nat):Int)-1)=(j:Int):=by omega
   rw [H];have o:j<a.length:=by omega
   obtain⟨q,C⟩:∃x,a[j]?=some x:=⟨_,g_ o⟩
   obtain⟨vj,d⟩:∃x,vs[j]?=some x:=⟨_,g_ (by have:=HL.out;omega)⟩
   obtain⟨g,I,rfl,hg,m⟩:=HC.out j vj d;have J:=HA.out j vj q d C;have K:=G.out;obtain⟨c,f,b,h⟩:=K;have L:=(b.cell (p:=⟨g,I+j,none⟩) hg).trans m;have HR:=h_ (J.later b);have N:Hid (cL n q):=HB.out _ (q_ C);have HE:Hid (AL (Pl.made n) ps.length (a.drop j)=AL (Pl.made n) ps.length (q::a.drop (j+1))):=zT n ps.length a j _ C;obtain⟨T,x,hv,r⟩:=J.iface;have ac:(0:Int)<=(j:Int):=by omega
   have ad:(j:Int)<(a.length:Int):=by omega
   have t:=HR;rw [hv] at L t;obtain⟨T0,x0,O⟩:=c.iface;subst O;clear C m J r hv c f b h HR o d;go_wp2_with fail;obtain⟨c,f,b,h⟩:=G.out;refine(HI M ok wr A _ _ q f (fun k B=>l_ (Y k B) b.size) t N).mono ?_;rintro e v ⟨v2,t2,rfl,P,k2,D,Q⟩;have y:∀k,M k->k<v.heap.size:=fun k B=>l_ (Y k B) (t_ b.size D.size);obtain⟨p1,p2⟩:=k2.push y (p:=((Pl.made n (ps++(AL (Pl.made n) ps.length (a.drop (j+1))).2).length q).1,(AL (Pl.made n) ps.length (a.drop (j+1))).1)) P (c.le Q.le);have z:Below w.heap.size w (v.alloc (.cells #[v2,.iface T0 x0] E0)):=(b.trans (D.mono b.size)).alloc (t_ b.size D.size) _
   have HN:Hid (QW n M w (v.alloc (.cells #[v2,.iface T0 x0] E0)) s (t2.DD v.heap.size) ps a j (.iface 367 (.pointer (some ⟨v.heap.size,0,none⟩)))):=by
    refine show QW _ _ _ _ _ _ _ _ _ _ from⟨?_,?_,z,h.trans (Q.trans (GU.add _ _))⟩
    ·rw [HE.out];simpa [AL,Nat.add_assoc] using p2
    ·rw [HE.out];simpa [AL,Nat.add_assoc] using p1
   obtain⟨T2,x2,rfl⟩:=P.iface;clear c f b h P k2 D Q y p1 p2 z;go_wp2_with fail
   go_roundw
   case rel=>exact⟨j,_,_,by omega,by go_num,rfl,HN⟩
   case measure=>simp [intOf]
theorem p_of:∀n,VH n
 | 0=>fun M j w s f v t _ _ h _=>h.elim
 | n+1=>fun M j w s f v t c d a b=>by
  have H:=Tryz.KN;have I:=Tryz.LZ;have J:=Tryz.K9;have K:=Tryz.L0;have L:=Tryz.L1;have N:=Tryz.DM;have O:=Tryz.DP;have P:=Tryz.FM;have Q:=Tryz.IB;have y:=Tryz.ET;have g:Hid (BD M w s (f++[])):=show BD M w s (f++[]) from by rw [List.append_nil];exact c
  match t,a,b with
  | .lit (.int _ m),a,b =>obtain⟨k,rfl,l⟩:=a;obtain rfl:=l b;clear c d l b;go_enter func114,ntmps114;go_wp2_with fail;go_ret;exact⟨_,s,rfl,.num _,g,r_,GU.refl _⟩
  | .lit (.bool x),a,b =>
   obtain rfl:=(show v=_ from a)
   clear c d b a;go_enter func114,ntmps114;go_wp2_with fail;go_ret;exact⟨_,s,rfl,.AT _,g,r_,GU.refl _⟩
  | .lit (.string x),a,b =>
   obtain rfl:=(show v=_ from a)
   clear c d b a;go_enter func114,ntmps114;go_wp2_with fail;go_ret;exact⟨_,s,rfl,.name _,g,r_,GU.refl _⟩
  | .agg z,a,b =>obtain⟨A,B,rfl,o,p,q,r⟩:=a.list;have C:=h_ (yR n (p_of n) M j w s f A B z c d o p q r b);obtain⟨R,D,rfl,_⟩:=o;clear c d b a r p q;go_enter func114,ntmps114;go_wp2_with fail;refine Calls.mono C ?_;rintro e S ⟨T,E,rfl,i,u⟩;have F:=h_ i;have G:=h_ u;obtain⟨U,V,rfl⟩:=i.iface;clear i u;go_wp2_with fail;go_ret;exact⟨_,E,rfl,F,G⟩
def IS(s:Sg):Prop:=(s.tq=330/\s.tc=522)\/(s.tq=465/\s.tc=477)
theorem IS.le{s t:Sg}(h:IS s)(l:Sg.Le s t):IS t:=by unfold IS at *;rw [l.tq,l.tc];exact h
theorem Tryz.w_(n:Int)(w:World):(Go.method 638 294 (.int .i64 n) "Spell").run prog w=.ok (354,.int .i64 n) w:=by kernel_rfl
theorem Tryz.SN(b:Bool)(w:World):(Go.method 638 296 (.bool b) "Spell").run prog w=.ok (358,.bool b) w:=by kernel_rfl
theorem Tryz.WI(s:ByteArray)(w:World):(Go.method 638 297 (.string s) "Spell").run prog w=.ok (360,.string s) w:=by kernel_rfl
theorem Tryz.SO(w:World):(Go.method 638 366 (.agg #[]) "Spell").run prog w=.ok (397,.agg #[]) w:=by kernel_rfl
theorem Tryz.O1(w:World):(Go.method 638 299 (.agg #[]) "Spell").run prog w=.ok (362,.agg #[]) w:=by kernel_rfl
theorem Tryz.WH(b:Nat)(w:World):(Go.method 638 367 (.pointer (some ⟨b,0,none⟩)) "Spell").run prog w=.ok (399,.pointer (some ⟨b,0,none⟩)) w:=by kernel_rfl
theorem Tryz.WG(n:Int)(w:World):(Go.method 638 246 (.int .i64 n) "Spell").run prog w=.ok (349,.int .i64 n) w:=by kernel_rfl
theorem Tryz.RB(w:World):(Go.method 638 243 (.agg #[]) "Spell").run prog w=.ok (346,.agg #[]) w:=by kernel_rfl
theorem dY(w:World)(a:Addr):(loadVar 331 a).run prog w=.ok (.agg #[]) w:=by kernel_rfl
theorem oM(w:World)(b:Nat)(cs:Array Value)(T:TypeId)(h:w.heap[b]?=some (.cells cs T (0,0)))(a:prog.cellsOf T≠0)(c:byteOfCell prog prog.depth T 0=some 0):(partAt ⟨b,0,none⟩ 0 0).run prog w=.ok ⟨b,0,none⟩ w:=by simp [partAt,byteOf,noView,viewAt,World.shape?,h,a,c]
theorem dX(n:Nat)(T E:TypeId)(w:World)(b:Nat)(cs:Array Value)(h:w.heap[b]?=some (.cells cs E (0,0)))
  (r:((prog.info? T).bind fun i=>i.methods.find? fun m=>m.name == "Spell").map (fun m=>(m.path.toList,m.func))=some ([⟨E,0,true⟩],some (348,false)))
  (e:(match prog.underlying E with | some (.struct q)=>q[0]?.map fun f=>(f.type,f.offset,f.byteOffset) | _=>none)=some (331,0,0))
  (s:prog.cellsOf E≠0) (t:byteOfCell prog prog.depth E 0=some 0) (u:(loadVar 331 ⟨b,0,none⟩).run prog w=.ok (.agg #[]) w) :
  (Go.method (n+1) T (.pointer (some ⟨b,0,none⟩)) "Spell").run prog w=.ok (348,.agg #[]) w:=by
 obtain⟨m,j,c⟩:=m_ r;obtain⟨i,v,k⟩:=Option.bind_eq_some_iff.1 j;simp only [Prod.mk.injEq] at c
 cases g:prog.underlying E with
 | none=>simp [g] at e
 | some d =>
  cases d with
  | struct q =>
   simp only [g] at e;obtain⟨f,l,a⟩:=m_ e;simp only [Prod.mk.injEq] at a;have o:(sizeOf 331).run prog w=.ok 0 w:=by kernel_rfl
   have p:=oM w b cs E h s t;simp [Go.method,typeInfo,v,k,c.1,c.2,follow,run_underlying g,l,a.1,a.2.1,a.2.2,Place.get,asAddr,fieldPlace,o,p,receiverAt,run_underlying underlying331,u]
  | _=>simp [g] at e
theorem Tryz.met_sq:((prog.info? 330).bind fun i=>i.methods.find? fun m=>m.name == "Spell").map (fun m=>(m.path.toList,m.func))=some ([⟨333,0,true⟩],some (348,false)):=by kernel_rfl
theorem Tryz.fld_sq:(match prog.underlying 333 with | some (.struct a)=>a[0]?.map fun f=>(f.type,f.offset,f.byteOffset) | _=>none)=some (331,0,0):=by kernel_rfl
theorem Tryz.UU:prog.cellsOf 333≠0:=of_decide_eq_true (by kernel_rfl)
theorem Tryz.ZB:byteOfCell prog prog.depth 333 0=some 0:=by kernel_rfl
theorem Tryz.met_sc:((prog.info? 522).bind fun i=>i.methods.find? fun m=>m.name == "Spell").map (fun m=>(m.path.toList,m.func))=some ([⟨526,0,true⟩],some (348,false)):=by kernel_rfl
theorem Tryz.fld_sc:(match prog.underlying 526 with | some (.struct a)=>a[0]?.map fun f=>(f.type,f.offset,f.byteOffset) | _=>none)=some (331,0,0):=by kernel_rfl
theorem Tryz.UW:prog.cellsOf 526≠0:=of_decide_eq_true (by kernel_rfl)
theorem Tryz.ZC:byteOfCell prog prog.depth 526 0=some 0:=by kernel_rfl
theorem Tryz.met_fq:((prog.info? 465).bind fun i=>i.methods.find? fun m=>m.name == "Spell").map (fun m=>(m.path.toList,m.func))=some ([⟨467,0,true⟩],some (348,false)):=by kernel_rfl
theorem Tryz.fld_fq:(match prog.underlying 467 with | some (.struct a)=>a[0]?.map fun f=>(f.type,f.offset,f.byteOffset) | _=>none)=some (331,0,0):=by kernel_rfl
theorem Tryz.UX:prog.cellsOf 467≠0:=of_decide_eq_true (by kernel_rfl)
theorem Tryz.ZD:byteOfCell prog prog.depth 467 0=some 0:=by kernel_rfl
theorem Tryz.met_fc:((prog.info? 477).bind fun i=>i.methods.find? fun m=>m.name == "Spell").map (fun m=>(m.path.toList,m.func))=some ([⟨479,0,true⟩],some (348,false)):=by kernel_rfl
theorem Tryz.fld_fc:(match prog.underlying 479 with | some (.struct a)=>a[0]?.map fun f=>(f.type,f.offset,f.byteOffset) | _=>none)=some (331,0,0):=by kernel_rfl
theorem Tryz.UY:prog.cellsOf 479≠0:=of_decide_eq_true (by kernel_rfl)
theorem Tryz.ZE:byteOfCell prog prog.depth 479 0=some 0:=by kernel_rfl
def ZX(T:TypeId):TypeId:=if T=330 then 333 else if T=522 then 526 else if T=465 then 467 else 479
theorem Tryz.sp_sq(w:World)(b:Nat)(cs:Array Value)(h:w.heap[b]?=some (.cells cs (ZX 330) (0,0))):(Go.method 638 330 (.pointer (some ⟨b,0,none⟩)) "Spell").run prog w=.ok (348,.agg #[]) w :=dX _ 330 333 w b cs h Tryz.met_sq Tryz.fld_sq Tryz.UU Tryz.ZB (dY w _)
theorem Tryz.sp_sc(w:World)(b:Nat)(cs:Array Value)(h:w.heap[b]?=some (.cells cs (ZX 522) (0,0))):(Go.method 638 522 (.pointer (some ⟨b,0,none⟩)) "Spell").run prog w=.ok (348,.agg #[]) w :=dX _ 522 526 w b cs h Tryz.met_sc Tryz.fld_sc Tryz.UW Tryz.ZC (dY w _)
theorem Tryz.sp_fq(w:World)(b:Nat)(cs:Array Value)(h:w.heap[b]?=some (.cells cs (ZX 465) (0,0))):(Go.method 638 465 (.pointer (some ⟨b,0,none⟩)) "Spell").run prog w=.ok (348,.agg #[]) w :=dX _ 465 467 w b cs h Tryz.met_fq Tryz.fld_fq Tryz.UX Tryz.ZD (dY w _)
theorem Tryz.sp_fc(w:World)(b:Nat)(cs:Array Value)(h:w.heap[b]?=some (.cells cs (ZX 477) (0,0))):(Go.method 638 477 (.pointer (some ⟨b,0,none⟩)) "Spell").run prog w=.ok (348,.agg #[]) w :=dX _ 477 479 w b cs h Tryz.met_fc Tryz.fld_fc Tryz.UY Tryz.ZE (dY w _)
theorem IS.spq{s:Sg}(h:IS s)(b:Nat)(w:World)(cs:Array Value)(a:w.heap[b]?=some (.cells cs (ZX s.tq) (0,0))):(Go.method 638 s.tq (.pointer (some ⟨b,0,none⟩)) "Spell").run prog w=.ok (348,.agg #[]) w:=by
 rcases h with⟨h,_⟩ | ⟨h,_⟩<;>rw [h] at a ⊢
 ·exact Tryz.sp_sq w b cs a
 ·exact Tryz.sp_fq w b cs a
theorem IS.spc{s:Sg}(h:IS s)(b:Nat)(w:World)(cs:Array Value)(a:w.heap[b]?=some (.cells cs (ZX s.tc) (0,0))):(Go.method 638 s.tc (.pointer (some ⟨b,0,none⟩)) "Spell").run prog w=.ok (348,.agg #[]) w:=by
 rcases h with⟨_,h⟩ | ⟨_,h⟩<;>rw [h] at a ⊢
 ·exact Tryz.sp_sc w b cs a
 ·exact Tryz.sp_fc w b cs a
theorem fC{T:TypeId}(v:Value)(w:World)(h:T=367\/T=294):(Instr.typeAssert (.iface T v) 161 T true).run prog w=.ok (.tuple #[v,.bool true]) w:=by rcases h with rfl | rfl<;>kernel_rfl
theorem Tryz.jw(v:Value)(w:World):(Instr.typeAssert (.iface 296 v) 161 367 true).run prog w=.ok (.tuple #[.pointer none,.bool false]) w:=by kernel_rfl
theorem Tryz.PD(v:Value)(w:World):(Instr.typeAssert (.iface 296 v) 161 294 true).run prog w=.ok (.tuple #[.int .i64 0,.bool false]) w:=by kernel_rfl
theorem Tryz.NZ(v:Value)(w:World):(Instr.typeAssert (.iface 297 v) 161 367 true).run prog w=.ok (.tuple #[.pointer none,.bool false]) w:=by kernel_rfl
theorem Tryz.PC(v:Value)(w:World):(Instr.typeAssert (.iface 297 v) 161 294 true).run prog w=.ok (.tuple #[.int .i64 0,.bool false]) w:=by kernel_rfl
theorem Tryz.NW(v:Value)(w:World):(Instr.typeAssert (.iface 366 v) 161 367 true).run prog w=.ok (.tuple #[.pointer none,.bool false]) w:=by kernel_rfl
theorem Tryz.O8(v:Value)(w:World):(Instr.typeAssert (.iface 366 v) 161 294 true).run prog w=.ok (.tuple #[.int .i64 0,.bool false]) w:=by kernel_rfl
theorem Tryz.NY(v:Value)(w:World):(Instr.typeAssert (.iface 299 v) 161 367 true).run prog w=.ok (.tuple #[.pointer none,.bool false]) w:=by kernel_rfl
theorem Tryz.PB(v:Value)(w:World):(Instr.typeAssert (.iface 299 v) 161 294 true).run prog w=.ok (.tuple #[.int .i64 0,.bool false]) w:=by kernel_rfl
theorem Tryz.N1(v:Value)(w:World):(Instr.typeAssert (.iface 246 v) 161 367 true).run prog w=.ok (.tuple #[.pointer none,.bool false]) w:=by kernel_rfl
theorem Tryz.PE(v:Value)(w:World):(Instr.typeAssert (.iface 246 v) 161 294 true).run prog w=.ok (.tuple #[.int .i64 0,.bool false]) w:=by kernel_rfl
theorem Tryz.H0(v:Value)(w:World):(Instr.typeAssert (.iface 243 v) 161 367 true).run prog w=.ok (.tuple #[.pointer none,.bool false]) w:=by kernel_rfl
theorem Tryz.PG(v:Value)(w:World):(Instr.typeAssert (.iface 243 v) 161 294 true).run prog w=.ok (.tuple #[.int .i64 0,.bool false]) w:=by kernel_rfl
theorem Tryz.NX(v:Value)(w:World):(Instr.typeAssert (.iface 330 v) 161 367 true).run prog w=.ok (.tuple #[.pointer none,.bool false]) w:=by kernel_rfl
theorem Tryz.O9(v:Value)(w:World):(Instr.typeAssert (.iface 330 v) 161 294 true).run prog w=.ok (.tuple #[.int .i64 0,.bool false]) w:=by kernel_rfl
theorem Tryz.NT(v:Value)(w:World):(Instr.typeAssert (.iface 522 v) 161 367 true).run prog w=.ok (.tuple #[.pointer none,.bool false]) w:=by kernel_rfl
theorem Tryz.O5(v:Value)(w:World):(Instr.typeAssert (.iface 522 v) 161 294 true).run prog w=.ok (.tuple #[.int .i64 0,.bool false]) w:=by kernel_rfl
theorem Tryz.NV(v:Value)(w:World):(Instr.typeAssert (.iface 465 v) 161 367 true).run prog w=.ok (.tuple #[.pointer none,.bool false]) w:=by kernel_rfl
theorem Tryz.O7(v:Value)(w:World):(Instr.typeAssert (.iface 465 v) 161 294 true).run prog w=.ok (.tuple #[.int .i64 0,.bool false]) w:=by kernel_rfl
theorem Tryz.NU(v:Value)(w:World):(Instr.typeAssert (.iface 477 v) 161 367 true).run prog w=.ok (.tuple #[.pointer none,.bool false]) w:=by kernel_rfl
theorem Tryz.O6(v:Value)(w:World):(Instr.typeAssert (.iface 477 v) 161 294 true).run prog w=.ok (.tuple #[.int .i64 0,.bool false]) w:=by kernel_rfl
theorem Tryz.RG(v:Value)(w:World):(Instr.typeAssert (.iface 294 v) 161 367 true).run prog w=.ok (.tuple #[.pointer none,.bool false]) w:=by kernel_rfl
theorem Tryz.TA(v:Value)(w:World):(Instr.typeAssert (.iface 367 v) 161 294 true).run prog w=.ok (.tuple #[.int .i64 0,.bool false]) w:=by kernel_rfl
theorem RV.MZ{s:Sg}{p:PV}(h:RV s v p)(a:IS s):(∃k b,p=.pair k/\s.pb[k]?=some b/\v=.iface 367 (.pointer (some ⟨b,0,none⟩))) \/
  ((∀k,p≠.pair k)/\∃T x,v=.iface T x/\∀w,(Instr.typeAssert (.iface T x) 161 367 true).run prog w=.ok (.tuple #[.pointer none,.bool false]) w):=by
 cases h with
 | pair i b h=>exact .inl ⟨i,b,rfl,h,rfl⟩
 | num n=>exact .inr ⟨fun k e=>(by cases e),_,_,rfl,Tryz.RG _⟩
 | AT b=>exact .inr ⟨fun k e=>(by cases e),_,_,rfl,Tryz.jw _⟩
 | name t=>exact .inr ⟨fun k e=>(by cases e),_,_,rfl,Tryz.NZ _⟩
 | empty=>exact .inr ⟨fun k e=>(by cases e),_,_,rfl,Tryz.NW _⟩
 | nothing=>exact .inr ⟨fun k e=>(by cases e),_,_,rfl,Tryz.NY _⟩
 | proc i b h c =>
  refine .inr ⟨fun k e=>(by cases e),_,_,rfl,fun w=>?_⟩;rcases a with⟨e,_⟩ | ⟨e,_⟩<;>rw [e]
  ·exact Tryz.NX _ w
  ·exact Tryz.NV _ w
 | cont i b h =>
  refine .inr ⟨fun k e=>(by cases e),_,_,rfl,fun w=>?_⟩;rcases a with⟨_,e⟩ | ⟨_,e⟩<;>rw [e]
  ·exact Tryz.NT _ w
  ·exact Tryz.NU _ w
 | AZ k t h d=>exact .inr ⟨fun k e=>(by cases e),_,_,rfl,Tryz.N1 _⟩
 | EC=>exact .inr ⟨fun k e=>(by cases e),_,_,rfl,Tryz.H0 _⟩
theorem RV.U5{s:Sg}{p:PV}(h:RV s v p)(a:IS s):(∃n,p=.num n/\v=.iface 294 (.int .i64 n)) \/
  ((∀k,p≠.num k)/\∃T x,v=.iface T x/\∀w,(Instr.typeAssert (.iface T x) 161 294 true).run prog w=.ok (.tuple #[.int .i64 0,.bool false]) w):=by
 cases h with
 | num n=>exact .inl ⟨n,rfl,rfl⟩
 | pair i b h=>exact .inr ⟨fun k e=>(by cases e),_,_,rfl,Tryz.TA _⟩
 | AT b=>exact .inr ⟨fun k e=>(by cases e),_,_,rfl,Tryz.PD _⟩
 | name t=>exact .inr ⟨fun k e=>(by cases e),_,_,rfl,Tryz.PC _⟩
 | empty=>exact .inr ⟨fun k e=>(by cases e),_,_,rfl,Tryz.O8 _⟩
 | nothing=>exact .inr ⟨fun k e=>(by cases e),_,_,rfl,Tryz.PB _⟩
 | proc i b h c =>
  refine .inr ⟨fun k e=>(by cases e),_,_,rfl,fun w=>?_⟩;rcases a with⟨e,_⟩ | ⟨e,_⟩<;>rw [e]
  ·exact Tryz.O9 _ w
  ·exact Tryz.O7 _ w
 | cont i b h =>
  refine .inr ⟨fun k e=>(by cases e),_,_,rfl,fun w=>?_⟩;rcases a with⟨_,e⟩ | ⟨_,e⟩<;>rw [e]
  ·exact Tryz.O5 _ w
  ·exact Tryz.O6 _ w
 | AZ k t h d=>exact .inr ⟨fun k e=>(by cases e),_,_,rfl,Tryz.PE _⟩
 | EC=>exact .inr ⟨fun k e=>(by cases e),_,_,rfl,Tryz.PG _⟩
theorem bD(w:World){T U:TypeId}(h:T≠U)(x y:Value):(binOp .eql 161 (.iface T x) (.iface U y)).run prog w=.ok (.bool false) w:=by
 simp only [binOp];have b:∀d,(Op.equalIn (d+1) 161 (.iface T x) (.iface U y)).run prog w=.ok false w:=fun d=>by simp [Op.equalIn,run_underlying underlying161,h]
 have a:(Op.equal 161 (.iface T x) (.iface U y)).run prog w=.ok false w:=b 9999;simp [a]
theorem neq_of{T U:TypeId}{x y:Value}{b:Bool}(h:(binOp .eql 161 (.iface T x) (.iface U y)).run prog w=.ok (.bool b) w):(binOp .neq 161 (.iface T x) (.iface U y)).run prog w=.ok (.bool (!b)) w:=by
 simp only [binOp] at h ⊢
 cases a:(Op.equal 161 (.iface T x) (.iface U y)).run prog w with
 | ok c d =>simp only [Sem.run_bind,a,Result.andThen_ok,Sem.run_pure,Result.ok.injEq,Value.bool.injEq] at h;obtain⟨rfl,rfl⟩:=h;simp only [Sem.run_bind,a,Result.andThen_ok,Sem.run_pure]
 | _=>simp [a] at h
theorem Tryz.OD(a b:Bool)(w:World):(binOp .eql 161 (.iface 296 (.bool a)) (.iface 296 (.bool b))).run prog w=.ok (.bool (a==b)) w:=by kernel_rfl
theorem Tryz.eq_num(a b:Int)(w:World):(binOp .eql 161 (.iface 294 (.int .i64 a)) (.iface 294 (.int .i64 b))).run prog w=.ok (.bool (a==b)) w:=by kernel_rfl
theorem Tryz.YX(a b:Int)(w:World):(binOp .eql 161 (.iface 246 (.int .i64 a)) (.iface 246 (.int .i64 b))).run prog w=.ok (.bool (a==b)) w:=by kernel_rfl
theorem Tryz.YY(a b:ByteArray)(w:World):(binOp .eql 161 (.iface 297 (.string a)) (.iface 297 (.string b))).run prog w=.ok (.bool (a==b)) w:=by kernel_rfl
theorem Tryz.eq_empty(w:World):(binOp .eql 161 (.iface 366 (.agg #[])) (.iface 366 (.agg #[]))).run prog w=.ok (.bool true) w:=by kernel_rfl
theorem Tryz.PZ(w:World):(binOp .eql 161 (.iface 299 (.agg #[])) (.iface 299 (.agg #[]))).run prog w=.ok (.bool true) w:=by kernel_rfl
theorem Tryz.RN(w:World):(binOp .eql 161 (.iface 243 (.agg #[])) (.iface 243 (.agg #[]))).run prog w=.ok (.bool true) w:=by kernel_rfl
theorem RV.QP{s:Sg}{p:PV}(h:RV s v p)(a:IS s)(w:World):(binOp .eql 161 v (.iface 366 (.agg #[]))).run prog w=.ok (.bool (decide (p=.empty))) w:=by
 cases h with
 | empty=>exact Tryz.eq_empty w
 | proc i b h c=>rw [bD w (by rcases a with⟨e,_⟩ | ⟨e,_⟩<;>rw [e]<;>decide)];simp
 | cont i b h=>rw [bD w (by rcases a with⟨_,e⟩ | ⟨_,e⟩<;>rw [e]<;>decide)];simp
 | _=>rw [bD w (by decide)];simp
theorem RV.eqFalse{s:Sg}{p:PV}(h:RV s v p)(a:IS s)(w:World):(binOp .eql 161 v (.iface 296 (.bool false))).run prog w=.ok (.bool (decide (p=.AT false))) w:=by
 cases h with
 | AT b=>rw [Tryz.OD];cases b<;>rfl
 | proc i b h c=>rw [bD w (by rcases a with⟨e,_⟩ | ⟨e,_⟩<;>rw [e]<;>decide)];simp
 | cont i b h=>rw [bD w (by rcases a with⟨_,e⟩ | ⟨_,e⟩<;>rw [e]<;>decide)];simp
 | _=>rw [bD w (by decide)];simp
end
open Pl (AE)
section
open Go.RowKit Go.Lib
def EP(w:World)(b:Nat)(l t:AE)(e:Ending)(w':World):Prop:=e=.returned (.tuple #[])/\A6 w' b (l++t)/\GP b w w'
theorem A6.later{w w':World}{b:Nat}{l:AE}(h:A6 w b l)(f:Below w.heap.size w w'):A6 w' b l:=by
 obtain⟨k,i,m,a⟩:=h;refine⟨k,(f.block b (aB i)).trans i,m,?_⟩;rcases a with a | ⟨g,c,d,e,n,j,r⟩
 ·exact .inl a
 ·exact .inr ⟨g,c,d,e,n,(f.block g (aB j)).trans j,r⟩
theorem cX(w:World)(b:Nat)(o:Obj)(h:b<=w.heap.size):Below b w (w.alloc o):=(Below.refl b w).alloc h o
theorem f6(w:World)(b:Nat)(o:Obj)(h:b<=w.heap.size):GP b w (w.alloc o):=GP.AA (cX w _ o n_) h
theorem uQ(w:World)(b:Nat)(l:AE)(x:Bool)(h:A6 w b l)(j:l.length<=1000000000):Calls prog 358 #[.bool x,.pointer (some ⟨b,0,none⟩)] w fun e g=>EP w b l (Pl.OF (.AT x)) e g:=by
 have d:=h_ h;have f:Hid (l.length+2<=140000000000000):=show _ from by show l.length+2<=_;omega
 clear h
 cases x
 ·go_enter func358,ntmps358
  go_wp2_with (go_at_call 335;refine(jI _ b l _ (by first | exact d.out | exact d.alloc _) (by have:=f.out;first | exact this | (show l.length+Array.size _<=_;simp;omega))).mono ?_;rintro e i ⟨rfl,c,a⟩)
  go_end0
  exact⟨rfl,c,by first | exact a | exact(f6 w b _ (Nat.le_of_lt d.lt)).trans a⟩
 ·go_enter func358,ntmps358
  go_wp2_with (go_at_call 335;refine(jI _ b l _ (by first | exact d.out | exact d.alloc _) (by have:=f.out;first | exact this | (show l.length+Array.size _<=_;simp;omega))).mono ?_;rintro e i ⟨rfl,c,a⟩)
  go_end0
  exact⟨rfl,c,by first | exact a | exact(f6 w b _ (Nat.le_of_lt d.lt)).trans a⟩
theorem yI(w:World)(b:Nat)(l:AE)(x:AE)(h:A6 w b l)(i:l.length<=1000000000)(j:x.length<=300):Calls prog 360 #[.string ⟨x.toArray⟩,.pointer (some ⟨b,0,none⟩)] w fun e f=>EP w b l x e f:=by
 have c:=h_ h;have g:Hid (l.length+x.toArray.size<=140000000000000):=show _ from by show l.length+_<=_;simp;omega
 clear h;go_enter func360,ntmps360;go_wp2_with (go_at_call 335;refine(jI _ b l _ (by first | exact c.out | exact c.alloc _) (by have:=g.out;first | exact this | (show l.length+Array.size _<=_;simp;omega))).mono ?_;rintro e k ⟨rfl,d,a⟩)
 go_end0
 exact⟨rfl,d,by first | exact a | exact(f6 w b _ (Nat.le_of_lt c.lt)).trans a⟩
theorem uR(w:World)(b:Nat)(l:AE)(h:A6 w b l)(i:l.length<=1000000000):Calls prog 397 #[.agg #[],.pointer (some ⟨b,0,none⟩)] w fun e f=>EP w b l (Pl.OF .empty) e f:=by
 have c:=h_ h;have g:Hid (l.length+2<=140000000000000):=show _ from by show l.length+2<=_;omega
 clear h;go_enter func397,ntmps397;go_wp2_with (go_at_call 335;refine(jI _ b l _ (by first | exact c.out | exact c.alloc _) (by have:=g.out;first | exact this | (show l.length+Array.size _<=_;simp;omega))).mono ?_;rintro e j ⟨rfl,d,a⟩)
 go_end0
 exact⟨rfl,d,by first | exact a | exact(f6 w b _ (Nat.le_of_lt c.lt)).trans a⟩
theorem oU(w:World)(b:Nat)(l:AE)(h:A6 w b l):Calls prog 362 #[.agg #[],.pointer (some ⟨b,0,none⟩)] w fun e c=>EP w b l [] e c:=by
 have a:=h_ h;clear h;go_enter func362,ntmps362;go_wp2_with fail
 go_end0
 exact⟨rfl,by rw [List.append_nil];exact a.alloc _,f6 w b _ (Nat.le_of_lt a.lt)⟩
theorem lS(w:World)(b:Nat)(l:AE)(h:A6 w b l)(i:l.length<=1000000000):Calls prog 348 #[.agg #[],.pointer (some ⟨b,0,none⟩)] w fun e f=>EP w b l Pl.J6 e f:=by
 have c:=h_ h;have g:Hid (l.length+10<=140000000000000):=show _ from by show l.length+10<=_;omega
 clear h;go_enter func348,ntmps348;go_wp2_with (go_at_call 335;refine(jI _ b l _ (by first | exact c.out | exact c.alloc _) (by have:=g.out;first | exact this | (show l.length+Array.size _<=_;simp;omega))).mono ?_;rintro e j ⟨rfl,d,a⟩)
 go_end0
 exact⟨rfl,d,by first | exact a | exact(f6 w b _ (Nat.le_of_lt c.lt)).trans a⟩
theorem yG(w:World)(b:Nat)(l:AE)(n:Int)(h:A6 w b l)(d:l.length<=1000000000):Calls prog 349 #[.int .i64 n,.pointer (some ⟨b,0,none⟩)] w fun e f=>EP w b l Pl.J6 e f:=by
 have g:=h_ (lS w b l h d);clear h;go_enter func349,ntmps349;go_wp2_with (go_at_call 348;refine Calls.mono g ?_;rintro e i ⟨rfl,a,c⟩)
 go_end0
 exact⟨rfl,a,c⟩
theorem sD(w:World)(b:Nat)(l:AE)(h:A6 w b l)(g:l.length<=1000000000):Calls prog 346 #[.agg #[],.pointer (some ⟨b,0,none⟩)] w fun e a=>EP w b l Pl.J6 e a:=by
 have i:Hid (∀o,Calls prog 348 #[.agg #[],.pointer (some ⟨b,0,none⟩)] (w.alloc o) fun e a=>EP (w.alloc o) b l Pl.J6 e a):=fun o=>lS _ b l (h.alloc o) g;have c:=h.lt;clear h;go_enter func346,ntmps346;go_wp2_with (go_at_call 348;refine(i _).mono ?_;rintro e j ⟨rfl,d,f⟩)
 go_end0
 exact⟨rfl,d,(f6 w b _ (Nat.le_of_lt c)).trans f⟩
theorem sC(w:World)(b:Nat)(l:AE)(n:Int)(h:A6 w b l)(m:l.length<=1000000000)(s:n.natAbs<=1099511627776)(g:Lib.TabIs prog w oS .u64 Lib.pow10Tab):Calls prog 354 #[.int .i64 n,.pointer (some ⟨b,0,none⟩)] w fun e c=>EP w b l (Pl.itoa n) e c:=by
 have o:Hid (Calls prog 356 #[.int .i64 n,.int .i64 10] w fun e c=>e=.returned (.string ⟨(Pl.itoa n).toArray⟩)/\Below w.heap.size w c/\(Pl.itoa n).length<=30):=show Calls _ _ _ _ _ from(Tryz.strconv_FormatInt_10 n (by omega) (by omega) w g).mono (fun e c ⟨p,k,u,q⟩=>⟨p,by subst q;exact below_grow _ _ n_ _ _,by
  have:=Lib.itoa_length_le n (by omega) (by omega);show(Lib.itoa n).length<=30
  omega⟩)
 have i:=h_ h;have r:=h_ m;clear h g;generalize Pl.itoa n=t at *;go_enter func354,ntmps354
 go_wp2_with (first
  | (go_at_call 356;refine Calls.mono o ?_;rintro e v ⟨rfl,a,j⟩)
  | (go_at_call 335;refine(jI _ b l _ (i.later a) (by have:=r.out;show l.length+t.toArray.size<=_;simp;omega)).mono ?_;rintro e x ⟨rfl,d,f⟩))
 go_end0
 exact⟨rfl,d,(GP.AA a (Nat.le_of_lt i.lt)).trans f⟩
def Enters(f:FuncId):Prop:=∀(args:Array Value)(w:World),(callFunc f args).run prog w=.ok (.enter f args) w
theorem Tryz.Y1:Enters 354:=enters_of func354 (by kernel_rfl) rfl
theorem Tryz.RO:Enters 358:=enters_of func358 (by kernel_rfl) rfl
theorem Tryz.UM:Enters 360:=enters_of func360 (by kernel_rfl) rfl
theorem Tryz.RP:Enters 397:=enters_of func397 (by kernel_rfl) rfl
theorem Tryz.OE:Enters 362:=enters_of func362 (by kernel_rfl) rfl
theorem Tryz.UL:Enters 399:=enters_of func399 (by kernel_rfl) rfl
theorem Tryz.UK:Enters 349:=enters_of func349 (by kernel_rfl) rfl
theorem Tryz.RF:Enters 346:=enters_of func346 (by kernel_rfl) rfl
theorem Tryz.QQ:Enters 348:=enters_of func348 (by kernel_rfl) rfl
end
end Go.Proofs.YtkgbdddkcjpgfaaGreatDoor
