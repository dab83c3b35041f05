import Derived.Test.YtieooapcfpimlaaGreatDoorL46
namespace Go.Proofs.YtieooapcfpimlaaGreatDoor
set_option maxHeartbeats 2000000
set_option maxRecDepth 100000
open Go.Proofs.Tryz
open Pl (PV PW PS PF CW SR AE Env arity B0 AH AU)
section
open Go.RowKit Go.Maps Go.Lib
variable {M O:Nat->Prop} {w:World} {k b:Nat} {kv gv:Value} {us:List Value}
def TApp:TypeId:=307
theorem Tryz.fq_prim(v:Value)(w:World):(Instr.typeAssert (.iface 86 v) 88 345 true).run prog w=.ok (.tuple #[.pointer none,.bool false]) w:=by kernel_rfl
theorem Tryz.fc_prim(v:Value)(w:World):(Instr.typeAssert (.iface 86 v) 88 357 true).run prog w=.ok (.tuple #[.pointer none,.bool false]) w:=by kernel_rfl
theorem Tryz.fq_callcc(v:Value)(w:World):(Instr.typeAssert (.iface 83 v) 88 345 true).run prog w=.ok (.tuple #[.pointer none,.bool false]) w:=by kernel_rfl
theorem Tryz.fc_callcc(v:Value)(w:World):(Instr.typeAssert (.iface 83 v) 88 357 true).run prog w=.ok (.tuple #[.pointer none,.bool false]) w:=by kernel_rfl
theorem Tryz.fq_num(v:Value)(w:World):(Instr.typeAssert (.iface 187 v) 88 345 true).run prog w=.ok (.tuple #[.pointer none,.bool false]) w:=by kernel_rfl
theorem Tryz.fc_num(v:Value)(w:World):(Instr.typeAssert (.iface 187 v) 88 357 true).run prog w=.ok (.tuple #[.pointer none,.bool false]) w:=by kernel_rfl
theorem Tryz.fq_truth(v:Value)(w:World):(Instr.typeAssert (.iface 189 v) 88 345 true).run prog w=.ok (.tuple #[.pointer none,.bool false]) w:=by kernel_rfl
theorem Tryz.fc_truth(v:Value)(w:World):(Instr.typeAssert (.iface 189 v) 88 357 true).run prog w=.ok (.tuple #[.pointer none,.bool false]) w:=by kernel_rfl
theorem Tryz.fq_name(v:Value)(w:World):(Instr.typeAssert (.iface 190 v) 88 345 true).run prog w=.ok (.tuple #[.pointer none,.bool false]) w:=by kernel_rfl
theorem Tryz.fc_name(v:Value)(w:World):(Instr.typeAssert (.iface 190 v) 88 357 true).run prog w=.ok (.tuple #[.pointer none,.bool false]) w:=by kernel_rfl
theorem Tryz.fq_empty(v:Value)(w:World):(Instr.typeAssert (.iface 212 v) 88 345 true).run prog w=.ok (.tuple #[.pointer none,.bool false]) w:=by kernel_rfl
theorem Tryz.fc_empty(v:Value)(w:World):(Instr.typeAssert (.iface 212 v) 88 357 true).run prog w=.ok (.tuple #[.pointer none,.bool false]) w:=by kernel_rfl
theorem Tryz.fq_nothing(v:Value)(w:World):(Instr.typeAssert (.iface 192 v) 88 345 true).run prog w=.ok (.tuple #[.pointer none,.bool false]) w:=by kernel_rfl
theorem Tryz.fc_nothing(v:Value)(w:World):(Instr.typeAssert (.iface 192 v) 88 357 true).run prog w=.ok (.tuple #[.pointer none,.bool false]) w:=by kernel_rfl
theorem Tryz.fq_pair(v:Value)(w:World):(Instr.typeAssert (.iface 213 v) 88 345 true).run prog w=.ok (.tuple #[.pointer none,.bool false]) w:=by kernel_rfl
theorem Tryz.fc_pair(v:Value)(w:World):(Instr.typeAssert (.iface 213 v) 88 357 true).run prog w=.ok (.tuple #[.pointer none,.bool false]) w:=by kernel_rfl
theorem Tryz.fq_q(v:Value)(w:World):(Instr.typeAssert (.iface 345 v) 88 345 true).run prog w=.ok (.tuple #[v,.bool true]) w:=by kernel_rfl
theorem Tryz.fq_c(v:Value)(w:World):(Instr.typeAssert (.iface 357 v) 88 345 true).run prog w=.ok (.tuple #[.pointer none,.bool false]) w:=by kernel_rfl
theorem Tryz.fc_c(v:Value)(w:World):(Instr.typeAssert (.iface 357 v) 88 357 true).run prog w=.ok (.tuple #[v,.bool true]) w:=by kernel_rfl
abbrev NmP:ByteArray:=⟨#[97,32,112,114,111,99,101,100,117,114,101]⟩
theorem aMX(w:World)(s b n d:Nat)(j:Array Value)(ev g:Option Addr)(a:Nat)(E:n<=1000000)(k:w.heap[b]?=some (.cells #[.int .i64 (n:Int),fnV d j,.pointer ev] TFPr (0,0)))(h:Enters d){Q:Ending->World->Prop}(t:∀e f,Q e f->∃v x,e=aGG v x)
  (u:Calls prog d (#[pt s,pt (w.heap.size+1)]++j) (((w.alloc (.cells #[.iface 345 (pt b),.slice g n a] TApp)).alloc (.cells #[.slice g n a,.pointer ev] TPlc)).drew).drew Q)
  (y:∀e f,Q e f->f.cell? ⟨b,1,none⟩=some (fnV d j)/\f.cell? ⟨b,2,none⟩=some (.pointer ev)/\f.cell? ⟨w.heap.size,1,none⟩=some (.slice g n a)) :
  Calls prog 174 #[.pointer (some ⟨s,0,none⟩),.agg #[.iface 345 (pt b),.slice g n a]] w Q:=by
 have F:=aB k;have G:w.cell? ⟨b,0,none⟩=some (.int .i64 (n:Int)):=aA k 0;have H:w.cell? ⟨b,1,none⟩=some (.func (.func d) #[] j):=aA k 1;have I:w.cell? ⟨b,2,none⟩=some (.pointer ev):=aA k 2
 have o:Hid (∀c,Calls prog 195 #[.string NmP,.int .i64 (n:Int),.slice g n a] c fun e f=>c=f/\e=.returned .nilIface):=fun c=>(gR _ n g n a c (by omega) (by decide)).mono (fun e f ⟨z,l⟩=>by
  rcases l with⟨_,l⟩ | ⟨l,_⟩
  ·exact⟨z,l⟩
  ·exact absurd rfl l)
 have A:=h_ u;have B:=h_ t;have C:=h_ y;have p:∀(i:Array Value)(w:World),(callFunc d i).run prog w=.ok (.enter d i) w:=h;have J:=Tryz.fq_q;clear u t y k h;go_enter func174,ntmps174;go_wp2_with fail
 go_region_held3 (fun c=>c.cell? ⟨b,0,none⟩=some (.int .i64 (n:Int))/\c.cell? ⟨w.heap.size,1,none⟩=some (.slice g n a))
  (first | go_keep | assumption)
  ((refine aGJ (by rfl) 195 _ _ _ _ (by rfl) func195 (by kernel_rfl) rfl _ _ _ (by rfl) (by rfl) (by rfl) (o _) ?_;rintro e D ⟨rfl,rfl⟩;refine⟨_,rfl,?_⟩))
 go_wp2_with fail
 go_region_held3 (fun c=>c.cell? ⟨b,1,none⟩=some (.func (.func d) #[] j)/\c.cell? ⟨b,2,none⟩=some (.pointer ev)/\c.cell? ⟨w.heap.size,1,none⟩=some (.slice g n a))
  (first | exact q.out | go_keep)
  ((refine aHW (by rfl) _ _ _ _ (by rfl) d j (by rfl) p _ _ (by rfl) (by rfl) A ?_;intro e D m;obtain⟨K,L,rfl⟩:=B.out _ _ m;have q:=(show Hid _ from C.out _ _ m);have r:=(show Hid _ from m);clear m;refine⟨_,rfl,?_⟩))
 all_goals
  go_wp2_with fail
  exact r
theorem aKG(w:World)(l b n a:Nat)(u ev:Value)(f:Option Addr)(c:Nat)(q:n<=1000000)(m:a≠n)(j:w.heap[b]?=some (.cells #[.int .i64 (n:Int),u,ev] TFPr (0,0))) :Calls prog 174 #[.pointer (some ⟨l,0,none⟩),.agg #[.iface 345 (pt b),.slice f a c]] w fun e i=>(∃g,e=aGG .nilIface (aY g 10))/\Below w.heap.size w i:=by
 have r:=aB j;have s:w.cell? ⟨b,0,none⟩=some (.int .i64 (n:Int)):=aA j 0
 have k:Hid (∀d,Calls prog 195 #[.string NmP,.int .i64 (n:Int),.slice f a c] d fun e i=>d=i/\∃g,e=.returned (aY g 10)):=fun d=>(gR _ n f a c d (by omega) (by decide)).mono (fun e i ⟨o,h⟩=>by
  rcases h with⟨h,_⟩ | ⟨_,h⟩
  ·exact absurd h m
  ·exact⟨o,h⟩)
 have p:Hid (Below w.heap.size w (w.alloc (.cells #[.iface 345 (pt b),.slice f a c] TApp)).drew):=b_.drew;have t:=Tryz.fq_q;clear j;go_enter func174,ntmps174;go_wp2_with fail
 go_region_held3 (fun d=>d.cell? ⟨b,0,none⟩=some (.int .i64 (n:Int))/\d.cell? ⟨w.heap.size,1,none⟩=some (.slice f a c))
  (first | go_keep | assumption)
  ((refine aGJ (by rfl) 195 _ _ _ _ (by rfl) func195 (by kernel_rfl) rfl _ _ _ (by rfl) (by rfl) (by rfl) (k _) ?_;rintro e v ⟨rfl,g,rfl⟩;refine⟨_,rfl,?_⟩))
 unfold aY;go_wp2_with fail;go_ret2;exact⟨⟨g,rfl⟩,p⟩
abbrev NmC:ByteArray:=⟨#[97,32,99,111,110,116,105,110,117,97,116,105,111,110]⟩
theorem aMZ(w:World)(d b g a:Nat)(h k u:Value)(c:Nat)(n:∃o,h=.pointer o)(l:w.heap[b]?=some (.cells #[h] TFCo (0,0)))(p:w.cell? ⟨d,0,none⟩=some k)(q:w.frozen? ⟨d,0,none⟩=false)(r:d≠g)(s:w.cell? ⟨g,a,none⟩=some u)(t:∃T x,u=.iface T x) :Calls prog 174 #[.pointer (some ⟨d,0,none⟩),.agg #[.iface 357 (pt b),.slice (some ⟨g,a,none⟩) 1 c]] w fun e i=>e=aGG u .nilIface/\i=(w.setCell ⟨d,0,none⟩ h).alloc (.cells #[.iface 357 (pt b),.slice (some ⟨g,a,none⟩) 1 c] TApp):=by
 have y:=aB l;have z:w.cell? ⟨b,0,none⟩=some h:=aA l 0;have A:g<w.heap.size:=World.block_lt_of_cell? _ _ s;have B:d<w.heap.size:=World.block_lt_of_cell? _ _ p;obtain⟨o,rfl⟩:=n;obtain⟨T,x,rfl⟩:=t
 have m:Hid (∀j,Calls prog 195 #[.string NmC,.int .i64 1,.slice (some ⟨g,a,none⟩) 1 c] j fun e i=>j=i/\e=.returned .nilIface):=fun j=>(gR _ 1 _ 1 c j (by omega) (by decide)).mono (fun e i ⟨v,f⟩=>by
  rcases f with⟨_,f⟩ | ⟨f,_⟩
  ·exact⟨v,f⟩
  ·exact absurd rfl f)
 have C:=Tryz.fq_c;have D:=Tryz.fc_c;clear l;go_enter func174,ntmps174;go_wp2_with (go_at_call 195;refine(Calls.mono (m _) ?_);rintro e E ⟨rfl,rfl⟩);go_ret2;exact⟨rfl,rfl⟩
abbrev NmK:ByteArray:=⟨#[99,97,108,108,47,99,99]⟩
theorem aKH(w:World)(k a:Nat)(x:Value)(h:True)(d:Option Addr)(b:Nat)(l:a≠1) :Calls prog 174 #[.pointer (some ⟨k,0,none⟩),.agg #[.iface 357 x,.slice d a b]] w fun e i=>(∃f,e=aGG .nilIface (aY f 10))/\Below w.heap.size w i:=by
 have j:Hid (∀c,Calls prog 195 #[.string NmC,.int .i64 1,.slice d a b] c fun e i=>c=i/\∃f,e=.returned (aY f 10)):=fun c=>(gR _ 1 d a b c (by omega) (by decide)).mono (fun e i ⟨m,g⟩=>by
  rcases g with⟨g,_⟩ | ⟨_,g⟩
  ·exact absurd g l
  ·exact⟨m,g⟩)
 have n:Hid (∀c,c=w.alloc (.cells #[.iface 357 x,.slice d a b] TApp)\/c=(w.alloc (.cells #[.iface 357 x,.slice d a b] TApp)).alloc (.cells #[] 83)->Below w.heap.size w c):=fun c h=>by
  rcases h with rfl | rfl
  ·exact b_
  ·exact b_.alloc (by simp) _
 have o:=Tryz.fq_c;have p:=Tryz.fc_c;first | subst h | cases h
 go_enter func174,ntmps174
 go_wp2_with (go_at_call 195;refine(Calls.mono (j _) ?_);rintro e q ⟨rfl,f,rfl⟩;unfold aY)
 go_ret2;exact⟨⟨f,rfl⟩,n _ (by first | exact .inl rfl | exact .inr rfl)⟩
theorem aJ0(w:World)(k a:Nat)(x:Value)(h:x=.agg #[])(d:Option Addr)(b:Nat)(l:a≠1) :Calls prog 174 #[.pointer (some ⟨k,0,none⟩),.agg #[.iface 83 x,.slice d a b]] w fun e i=>(∃f,e=aGG .nilIface (aY f 10))/\Below w.heap.size w i:=by
 have j:Hid (∀c,Calls prog 195 #[.string NmK,.int .i64 1,.slice d a b] c fun e i=>c=i/\∃f,e=.returned (aY f 10)):=fun c=>(gR _ 1 d a b c (by omega) (by decide)).mono (fun e i ⟨m,g⟩=>by
  rcases g with⟨g,_⟩ | ⟨_,g⟩
  ·exact absurd g l
  ·exact⟨m,g⟩)
 have n:Hid (∀c,c=w.alloc (.cells #[.iface 83 x,.slice d a b] TApp)\/c=(w.alloc (.cells #[.iface 83 x,.slice d a b] TApp)).alloc (.cells #[] 83)->Below w.heap.size w c):=fun c h=>by
  rcases h with rfl | rfl
  ·exact b_
  ·exact b_.alloc (by simp) _
 have o:=Tryz.fq_callcc;have p:=Tryz.fc_callcc;have q:=Tryz.vk_k;first | subst h | cases h
 go_enter func174,ntmps174
 go_wp2_with (go_at_call 195;refine(Calls.mono (j _) ?_);rintro e r ⟨rfl,f,rfl⟩;unfold aY)
 go_ret2;exact⟨⟨f,rfl⟩,n _ (by first | exact .inl rfl | exact .inr rfl)⟩
theorem aMY(w:World)(h c a:Nat)(d:Option Addr)(b:Nat){Q:Ending->World->Prop}(i:∀e k,Q e k->∃v x,e=aGG v x)(j:Calls prog 196 #[.pointer (some ⟨h,0,none⟩),.int .i64 (c:Int),.slice d a b] (w.alloc (.cells #[.iface 86 (.int .i64 (c:Int)),.slice d a b] TApp)) Q) :Calls prog 174 #[.pointer (some ⟨h,0,none⟩),.agg #[.iface 86 (.int .i64 (c:Int)),.slice d a b]] w Q:=by have l:=h_ j;have m:=h_ i;have n:=Tryz.fq_prim;have o:=Tryz.fc_prim;have p:=Tryz.VX;have q:=Tryz.vp_p;clear i j;go_enter func174,ntmps174;go_wp2_with (go_at_call 196;refine(Calls.mono l ?_);intro e r f;obtain⟨s,t,rfl⟩:=m.out _ _ f;have g:=(show Hid _ from f);clear f);exact g
theorem aKI(w:World)(h a:Nat)(x:Value)(d:Option Addr)(b:Nat)(t:AE)(l:t.length<=202)(f:Calls prog 143 #[.iface 187 x] (w.alloc (.cells #[.iface 187 x,.slice d a b] TApp)) fun e c=>e=.returned (.string ⟨t.toArray⟩)/\Below w.heap.size w c) :Calls prog 174 #[.pointer (some ⟨h,0,none⟩),.agg #[.iface 187 x,.slice d a b]] w fun e c=>(∃i,e=aGG .nilIface (aY i 9))/\Below w.heap.size w c:=by
 have j:=h_ f;have m:=Tryz.fq_num;have n:=Tryz.fc_num;have o:=Tryz.R_;have p:=Tryz.Q_;clear f;go_enter func174,ntmps174
 go_wp2_with (first
  | (go_at_call 143;refine Calls.mono j ?_;rintro e q ⟨rfl,g⟩;have k:=(show Hid _ from g);clear g)
  | (go_at_call 33;refine(bJ _ _ _).mono ?_;rintro e r ⟨rfl,rfl⟩;unfold aY))
 go_ret2;exact⟨⟨_,rfl⟩,k⟩
theorem aI3(w:World)(h a:Nat)(x:Value)(d:Option Addr)(b:Nat)(t:AE)(l:t.length<=202)(f:Calls prog 143 #[.iface 189 x] (w.alloc (.cells #[.iface 189 x,.slice d a b] TApp)) fun e c=>e=.returned (.string ⟨t.toArray⟩)/\Below w.heap.size w c) :Calls prog 174 #[.pointer (some ⟨h,0,none⟩),.agg #[.iface 189 x,.slice d a b]] w fun e c=>(∃i,e=aGG .nilIface (aY i 9))/\Below w.heap.size w c:=by
 have j:=h_ f;have m:=Tryz.fq_truth;have n:=Tryz.fc_truth;have o:=Tryz.SA;have p:=Tryz.R8;clear f;go_enter func174,ntmps174
 go_wp2_with (first
  | (go_at_call 143;refine Calls.mono j ?_;rintro e q ⟨rfl,g⟩;have k:=(show Hid _ from g);clear g)
  | (go_at_call 33;refine(bJ _ _ _).mono ?_;rintro e r ⟨rfl,rfl⟩;unfold aY))
 go_ret2;exact⟨⟨_,rfl⟩,k⟩
theorem aJF(w:World)(h a:Nat)(x:Value)(d:Option Addr)(b:Nat)(t:AE)(l:t.length<=202)(f:Calls prog 143 #[.iface 190 x] (w.alloc (.cells #[.iface 190 x,.slice d a b] TApp)) fun e c=>e=.returned (.string ⟨t.toArray⟩)/\Below w.heap.size w c) :Calls prog 174 #[.pointer (some ⟨h,0,none⟩),.agg #[.iface 190 x,.slice d a b]] w fun e c=>(∃i,e=aGG .nilIface (aY i 9))/\Below w.heap.size w c:=by
 have j:=h_ f;have m:=Tryz.fq_name;have n:=Tryz.fc_name;have o:=Tryz.VZ;have p:=Tryz.VW;clear f;go_enter func174,ntmps174
 go_wp2_with (first
  | (go_at_call 143;refine Calls.mono j ?_;rintro e q ⟨rfl,g⟩;have k:=(show Hid _ from g);clear g)
  | (go_at_call 33;refine(bJ _ _ _).mono ?_;rintro e r ⟨rfl,rfl⟩;unfold aY))
 go_ret2;exact⟨⟨_,rfl⟩,k⟩
theorem aI4(w:World)(h a:Nat)(x:Value)(d:Option Addr)(b:Nat)(t:AE)(l:t.length<=202)(f:Calls prog 143 #[.iface 212 x] (w.alloc (.cells #[.iface 212 x,.slice d a b] TApp)) fun e c=>e=.returned (.string ⟨t.toArray⟩)/\Below w.heap.size w c) :Calls prog 174 #[.pointer (some ⟨h,0,none⟩),.agg #[.iface 212 x,.slice d a b]] w fun e c=>(∃i,e=aGG .nilIface (aY i 9))/\Below w.heap.size w c:=by
 have j:=h_ f;have m:=Tryz.fq_empty;have n:=Tryz.fc_empty;have o:=Tryz.SB;have p:=Tryz.R9;clear f;go_enter func174,ntmps174
 go_wp2_with (first
  | (go_at_call 143;refine Calls.mono j ?_;rintro e q ⟨rfl,g⟩;have k:=(show Hid _ from g);clear g)
  | (go_at_call 33;refine(bJ _ _ _).mono ?_;rintro e r ⟨rfl,rfl⟩;unfold aY))
 go_ret2;exact⟨⟨_,rfl⟩,k⟩
theorem aH9(w:World)(h a:Nat)(x:Value)(d:Option Addr)(b:Nat)(t:AE)(l:t.length<=202)(f:Calls prog 143 #[.iface 192 x] (w.alloc (.cells #[.iface 192 x,.slice d a b] TApp)) fun e c=>e=.returned (.string ⟨t.toArray⟩)/\Below w.heap.size w c) :Calls prog 174 #[.pointer (some ⟨h,0,none⟩),.agg #[.iface 192 x,.slice d a b]] w fun e c=>(∃i,e=aGG .nilIface (aY i 9))/\Below w.heap.size w c:=by
 have j:=h_ f;have m:=Tryz.fq_nothing;have n:=Tryz.fc_nothing;have o:=Tryz.OZ;have p:=Tryz.OY;clear f;go_enter func174,ntmps174
 go_wp2_with (first
  | (go_at_call 143;refine Calls.mono j ?_;rintro e q ⟨rfl,g⟩;have k:=(show Hid _ from g);clear g)
  | (go_at_call 33;refine(bJ _ _ _).mono ?_;rintro e r ⟨rfl,rfl⟩;unfold aY))
 go_ret2;exact⟨⟨_,rfl⟩,k⟩
theorem aJE(w:World)(h a:Nat)(x:Value)(d:Option Addr)(b:Nat)(t:AE)(l:t.length<=202)(f:Calls prog 143 #[.iface 213 x] (w.alloc (.cells #[.iface 213 x,.slice d a b] TApp)) fun e c=>e=.returned (.string ⟨t.toArray⟩)/\Below w.heap.size w c) :Calls prog 174 #[.pointer (some ⟨h,0,none⟩),.agg #[.iface 213 x,.slice d a b]] w fun e c=>(∃i,e=aGG .nilIface (aY i 9))/\Below w.heap.size w c:=by
 have j:=h_ f;have m:=Tryz.fq_pair;have n:=Tryz.fc_pair;have o:=Tryz.VY;have p:=Tryz.VV;clear f;go_enter func174,ntmps174
 go_wp2_with (first
  | (go_at_call 143;refine Calls.mono j ?_;rintro e q ⟨rfl,g⟩;have k:=(show Hid _ from g);clear g)
  | (go_at_call 33;refine(bJ _ _ _).mono ?_;rintro e r ⟨rfl,rfl⟩;unfold aY))
 go_ret2;exact⟨⟨_,rfl⟩,k⟩
theorem nxW_cc(w:World)(c g a:Nat)(i u:Value)(b:Nat)(p:∃o,i=.pointer o)(q:w.cell? ⟨c,0,none⟩=some i)(r:w.cell? ⟨g,a,none⟩=some u)(s:∃T x,u=.iface T x){Q:Ending->World->Prop}(m:∀e f,Q e f->∃v x,e=aGG v x)
  (n:Calls prog 174 #[.pointer (some ⟨c,0,none⟩),.agg #[u,.slice (some ⟨w.heap.size+1+1+1,0,none⟩) 1 1]] ((((w.alloc (.cells #[.iface 83 (.agg #[]),.slice (some ⟨g,a,none⟩) 1 b] TApp)).alloc (.cells #[] 83)).alloc (.cells #[i] TFCo)).alloc (.cells #[.iface 357 (pt (w.heap.size+1+1))] B9)) Q) :
  Calls prog 174 #[.pointer (some ⟨c,0,none⟩),.agg #[.iface 83 (.agg #[]),.slice (some ⟨g,a,none⟩) 1 b]] w Q:=by
 have E:g<w.heap.size:=World.block_lt_of_cell? _ _ r;have F:c<w.heap.size:=World.block_lt_of_cell? _ _ q;have t:g<w.heap.size+1:=by omega
 have y:g<w.heap.size+1+1:=by omega
 have z:c<w.heap.size+1:=by omega
 obtain⟨o,rfl⟩:=p;obtain⟨T,x,rfl⟩:=s;have A:=h_ n;have B:=h_ m
 have j:Hid (∀h,Calls prog 195 #[.string NmK,.int .i64 1,.slice (some ⟨g,a,none⟩) 1 b] h fun e f=>h=f/\e=.returned .nilIface):=fun h=>(gR _ 1 _ 1 b h (by omega) (by decide)).mono (fun e f ⟨C,d⟩=>by
  rcases d with⟨_,d⟩ | ⟨d,_⟩
  ·exact⟨C,d⟩
  ·exact absurd rfl d)
 have G:=Tryz.fq_callcc;have H:=Tryz.fc_callcc;have I:=Tryz.vk_k;clear n m;go_enter func174,ntmps174
 go_wp2_with (first
  | (go_at_call 195;refine(Calls.mono (j _) ?_);rintro e D ⟨rfl,rfl⟩)
  | (go_at_call 174;refine(Calls.mono A ?_);intro e D k;obtain⟨J,K,rfl⟩:=B.out _ _ k;have l:=(show Hid _ from k);clear k))
 exact l
theorem aKJ(W:PW)(S S':PS)(s:AE)(a:PV):(B0 W S' s a).e=(B0 W S s a).e/\(B0 W S' s a).W=(B0 W S s a).W/\((B0 W S s a).e=0->∃v,(B0 W S s a).S=S.A1 v/\(B0 W S' s a).S=S'.A1 v)/\∃o,(B0 W S s a).W={W with out:=o}:=by
 unfold B0;split
 ·dsimp only;split
  ·exact⟨rfl,rfl,fun _=>⟨_,rfl,rfl⟩,_,rfl⟩
  ·exact⟨rfl,rfl,fun h=>(by cases h),W.out,rfl⟩
 ·split
  ·split
   ·split
    ·exact⟨rfl,rfl,fun _=>⟨_,rfl,rfl⟩,W.out,rfl⟩
    ·exact⟨rfl,rfl,fun h=>(by cases h),W.out,rfl⟩
   ·exact⟨rfl,rfl,fun h=>(by cases h),W.out,rfl⟩
  ·split
   ·exact⟨rfl,rfl,fun _=>⟨_,rfl,rfl⟩,W.out,rfl⟩
   ·exact⟨rfl,rfl,fun _=>⟨_,rfl,rfl⟩,W.out,rfl⟩
theorem aJJ(W:PW)(S S':PS)(t:AE)(a:PV):(AH W S' (.AZ t) [a]).e=(AH W S (.AZ t) [a]).e/\(AH W S' (.AZ t) [a]).W=(AH W S (.AZ t) [a]).W/\((AH W S (.AZ t) [a]).e=0->∃v,(AH W S (.AZ t) [a]).S=S.A1 v/\(AH W S' (.AZ t) [a]).S=S'.A1 v)/\∃o,(AH W S (.AZ t) [a]).W={W with out:=o}:=by
 by_cases h:arity t=1
 ·rw [jX W S t a h,jX W S' t a h];exact aKJ W S S' t a
 ·have e:∀X:PS,AH W X (.AZ t) [a]=⟨10,W,X⟩:=fun X=>by
   show(if([a]:List PV).length≠arity t then _ else _)=_;rw [if_pos (fun q=>h q.symm)]
  rw [e S,e S'];exact⟨rfl,rfl,fun h=>(by cases h),W.out,rfl⟩
def dumF(env:Env):CW:=⟨.mk .begin [] (.agg []) .nothing [] [],[],0,env⟩
def addD(k:Nat)(S:PS):PS:={S with AB:=List.replicate k (dumF S.env)++S.AB}
theorem aLQ(W:PW)(S:PS)(a:S.form=none)(z k:Nat):∀j,j<=k->Gos W (addD k S) z j W (addD (k-j) S)
 | 0,_=>.nil
 | j+1,h=>by
  have b:=aLQ W S a z k j (by omega);rw [show k-j=(k-(j+1))+1 from by omega] at b;have c:(addD (k-(j+1)+1) S).AB=dumF S.env::(addD (k-(j+1)) S).AB:=by simp [addD,List.replicate_succ]
  refine .snoc j W W _ _ b (aF8 c) ?_ (fun _=>rfl);rw [aGY (show(addD (k-(j+1)+1) S).form=none from a)];unfold Pl.taken;rw [c];obtain⟨f,e,v,d⟩:=S;have:f=none:=a;subst this;rfl
theorem Gos.same{b:PW}{c:PS}{z:Nat}{W W':PW}{S S':PS}(h:Gos b c z k W S)(d:Gos b c z k W' S'):W=W'/\S=S':=by
 induction h generalizing W' S' with
 | nil=>cases d;exact⟨rfl,rfl⟩
 | snoc k j l m n h o e p f =>
  cases d with
  | snoc _ q _ r _ g i a _ =>obtain⟨rfl,rfl⟩:=f g;rw [e] at a;simp only [Pl.SR.mk.injEq,true_and] at a;exact a
theorem WW.outW{W:PW}{o:AE}{t:Nat}(h:WW {W with out:=o} t):WW W t:=by
 have l:Le {W with out:=o} W:=⟨VP _,n_,n_,n_⟩
 exact⟨h.KV,fun i p a=>⟨((h.CH i p a).1).le l,((h.CH i p a).2).le l⟩,h.EX,fun p a=>⟨(h.procs p a).1.le l,(h.procs p a).2.1.le l,(h.procs p a).2.2⟩,h.FU,fun x b=>(h.AG x b).le l n_,h.GN,fun v c=>(h.places v c).le l,h.EM,h.globals.le l,h.D1⟩
def nmF:PF:=.mk .name [97] (.agg []) .nothing [] []
def calF:PF:=.mk .call [] (.agg []) .nothing [nmF,nmF] []
def aMQ(t:AE)(a:PV):PS:=⟨none,[],a,[⟨calF,[.AZ t],2,[]⟩]⟩
theorem wf_nmF(W:PW):EU W nmF:=.mk _ _ _ _ _ _ (fun e=>by cases e) rfl (fun x a=>by cases a) (by simp) ⟨by simp,by simp,fun x a=>(by cases a)⟩ (by simp [aA5]) (fun e=>by cases e) ⟨fun _=>(by simp),fun e=>(by cases e)⟩
theorem wf_calF(W:PW):EU W calF:=.mk _ _ _ _ _ _ (fun e=>by cases e) (show 1<=2 by omega) (fun x a=>by simp at a;subst a;exact wf_nmF W) (by simp) ⟨by simp,by simp,fun x a=>(by cases a)⟩ (by rw [ZL,ZL,aA5];unfold nmF;rw [OL,aA5];omega) (fun e=>by cases e) ⟨fun e=>(by cases e),fun e=>(by cases e)⟩
theorem aI1(W:PW){t:AE}{a:PV}(b:t≠AU):Pl.step W (aMQ t a)=AH W ⟨none,[],a,[]⟩ (.AZ t) [a]:=by have:=aHT (W:=W) (S:=aMQ t a) (fr:=⟨calF,[.AZ t],2,[]⟩) (K:=[]) (g:=.AZ t) (args:=[a]) rfl rfl rfl rfl rfl;rw [this];unfold Pl.apply;rw [if_neg (by simpa using b)];rfl
def WWq(W:PW):Prop:=(∀p∈W.procs,EU W p.1)/\OU W
theorem WW.q{W:PW}{t:Nat}(h:WW W t):WWq W:=⟨fun p a=>(h.procs p a).1,aC2 h⟩
theorem WWq.keep{W:PW}{S:PS}(h:WWq W):WWq (W.keep S) :=⟨fun p a=>(h.1 p a).le (show Le W (W.keep S) from⟨VP _,n_,by simp [Pl.PW.keep],n_⟩),h.2.KV,fun i p a=>⟨(h.2.CH i p a).1.TT,(h.2.CH i p a).2.TT⟩⟩
theorem aGW{c:Cx}{w':World}{F:Fg}{z:Nat}{W d:PW}{S i:PS}(h:St c M O w F kv (k+1) d)(e:Below w.heap.size w w')(f:c.At k W S)(j:S.ended=false)(g:ByteArray){x:Nat}(l:x≠0)(a:Pl.step W S=⟨x,d,i⟩)(m:d.out=W.out)(o:1<=z):NxQ c M O w F (k+1) (k+1) z (aGG .nilIface (aY g (x:Int))) w' :=⟨M,F,k,W,S,Stp.AA e,fun b n=>e.block b (h.fw.olt n),Fg.Le.refl _,f,j,n_,by omega,fun q=>by simp [aY] at q,.err g x kv d l (by rw [a]) (by rw [a]) m (h.below e)⟩
theorem aNB{W:PW}{a:PS}{n:Nat}{q:PF×Env}(h:W.procs[n]?=some q)(args:List PV):AH W a (.proc n) args=if args.length≠q.1.ns.length then⟨10,W,a⟩ else⟨0,{W with places:=W.places++args},a.work q.1.ks[0]? (q.2++Pl.C1 q.1.ns W.places.length)⟩:=by unfold AH;simp only [h]
theorem Bk.cell{cs:Array Value}{T:TypeId}(h:Bk M w b cs T)(o:Nat):w.cell? ⟨b,o,none⟩=cs[o]? := aA h.2 o
theorem Stt.setK{c:Cx}{F:Fg}{n j:Nat}{W:PW}(h:Stt c M O w F kv n j W)(a:Value):Stt c M O (w.setCell ⟨c.rb,0,none⟩ a) F a n j W/\Stp M w M (w.setCell ⟨c.rb,0,none⟩ a)/\∀b,O b->(w.setCell ⟨c.rb,0,none⟩ a).heap[b]?=w.heap[b]? := by
 obtain⟨g,i,k,l,d,m,o⟩:=h.mc;have f:=d.mf 0 a;refine⟨⟨h.fw.mf f,⟨g,i,k,l,⟨by have:=aD d.blk 0 a;exact this,d.m⟩,m.set d _ _,o.setF d _ _⟩,h.bd⟩,f.AQ,fun b p=>?_⟩;obtain⟨_,⟨q,e⟩,_⟩:=h.fw.oth b p;refine Below.heap_setCell _ _ _ _ (fun x=>?_);have:b=c.rb:=by simpa using x
 subst this;rw [d.blk] at e;simp only [o_,Obj.cells.injEq] at e;exact tMc.1 e.2.1
theorem nx_proc{c:Cx}{F:Fg}{i:Nat}{W n:PW}{S P:PS}{args:List PV}(h:St c M O w F kv (k+1) n)(hp:PlF M w F kv P.AB)(v:c.At k W S)(hn:S.ended=false)(g:Pl.step W S=AH n P (.proc i) args)(o:n.out=W.out)(z:F.s.qb[i]?=some b)(hz:b≠0)(ha:ArgsAt M O w F.s gv us)(hs:BY (RV F.s) us args)(hW:WWq n)(hT:k+1+2100<=c.T) :Calls prog 174 #[.pointer (some ⟨c.rb,0,none⟩),.agg #[.iface 345 (pt b),gv]] w (NxQ c M O w F (k+1) (k+1) 2100):=by
 obtain⟨q,Q⟩:∃q,n.procs[i]?=some q:=⟨_,g_ (by rw [<- h.fw.pql];exact(s_ z).1)⟩
 obtain⟨u,ev,x,sc,r,A,R,T,B⟩:=h.fw.pqa i b q z Q hz;obtain⟨kf,cf,rfl,C,s⟩:=aJY c T;have D:=hW.1 q (q_ Q);have ag:=D.lns;have hx:IU x<=1001:=(D.KG (by rw [A];simp)).nd;have hl:=hs.1;obtain⟨f,a,rfl,ae⟩:∃f a,gv=.slice f us.length a/\us.length<=a:=by obtain⟨f,a,e,hc,_⟩:=ha;exact⟨f,a,e,hc⟩
 rw [aNB Q] at g;by_cases l:us.length=q.1.ns.length
 ·rw [if_neg (by omega)] at g;obtain⟨G,L,U,ah,af,V,ai,Y⟩:=h.fw.enter ha hs;rw [show us.length=args.length from hl] at V;simp only [Value.slice.injEq,true_and] at V;obtain⟨rfl,rfl⟩:=V;obtain⟨E,rfl⟩:=B.ptr;have H:=v.next hn g (fun _=>o) (by omega);obtain⟨X,I⟩:∃X,X=(((w.alloc (.cells #[.iface 345 (pt b),.slice f us.length a] TApp)).alloc (.cells #[.slice f us.length a,.pointer E] TPlc)).drew).drew:=⟨_,rfl⟩
  have Z:Below w.heap.size w X:=by rw [I];exact((b_.alloc (by simp) _).drew).drew
  have aa:X.heap[w.heap.size]?=some (.cells #[.iface 345 (pt b),.slice f us.length a] TApp (0,0)):=by rw [I];exact(k_ (by simp)).trans (heap_alloc_new w _)
  have ab:X.heap[w.heap.size+1]?=some (.cells #[.slice f us.length a,.pointer E] TPlc (0,0)):=by
   rw [I];have:=heap_alloc_new (w.alloc (.cells #[.iface 345 (pt b),.slice f us.length a] TApp)) (.cells #[.slice f us.length a,.pointer E] TPlc)
   rwa [World.size_alloc] at this
  have m:=Stp.AA (M:=M) Z;have J:St c M O w G kv (k+1) {n with places:=n.places++args}:=by obtain⟨lv,av,gv,ov,m1,m2,m3⟩:=h.mc;exact⟨U,⟨lv,av,gv,ov,m1,m2,m3⟩,h.bd⟩
  have K:EnvF M X G.s (pt (w.heap.size+1)) (q.2++Pl.C1 q.1.ns n.places.length) (q.1.ns::sc):=by refine .cons (w.heap.size+1) (.pointer E) f a n.places.length q.1.ns q.2 sc ⟨fun y=>by have:=h.fw.CY.mlt _ y;omega,?_⟩ (by omega) R (fun j hj=>Y j (by omega)) ((B.go m L.s));rw [<- l];exact ab
  have hC:Calls prog kf (#[pt c.rb,pt (w.heap.size+1)]++cf) X (fun e t=>NxQ c M O w F (k+1) (k+1) 2100 e t/\∃M',Stp M X M' t):=by refine(s M O X G kv (pt (w.heap.size+1)) P.AB (k+1) _ _ m L (J.below Z) K H (by rw [A];rfl) rfl (by omega)).mono (fun e t d=>⟨?_,d.stp9⟩);exact((d.nx (PlF.go m L _ _ hp)).after m (fun b hb=>Z.block b (h.fw.olt hb)) L (by omega) (by omega) (by omega))
  have ac:Bk M X w.heap.size #[.iface 345 (pt b),.slice f us.length a] TApp:=⟨fun y=>by have:=h.fw.CY.mlt _ y;omega,aa⟩
  have p:=r.go m;rw [I] at hC
  have ad:=aMX w c.rb b us.length kf cf E f a (by omega) (by rw [l];exact r.2) C (fun e t d=>d.1.tup) hC (fun e t d=>by
   obtain⟨_,M',N⟩:=d;rw [<- I] at N
   exact⟨(p.go N).cell 1,(p.go N).cell 2,(ac.go N).cell 1⟩)
  exact ad.mono (fun e t d=>d.1)
 ·rw [if_pos (by omega)] at g
  exact(aKG w c.rb b q.1.ns.length us.length _ ev f a (by omega) l r.2).mono (fun e t ⟨⟨es,h1⟩,h2⟩=>by
   subst h1
   exact aGW h h2 v hn es (x:=10) (by decide) g o (by omega))
theorem aLG{c:Cx}{F:Fg}{i:Nat}{W m:PW}{S A:PS}{args:List PV}(h:St c M O w F kv (k+1) m)(t:c.At k W S)(J:S.ended=false)(v:Pl.step W S=AH m A (.cont i) args)(n:m.out=W.out)(B:F.s.cb[i]?=some b)(T:ArgsAt M O w F.s gv us)(K:BY (RV F.s) us args) :Calls prog 174 #[.pointer (some ⟨c.rb,0,none⟩),.agg #[.iface 357 (pt b),gv]] w (NxQ c M O w F (k+1) (k+1) 2100):=by
 obtain⟨U,C,f,D,y⟩:=h.fw.AG.get B;obtain⟨V,o,rfl,L,E⟩:=T;have z:=K.1;by_cases d:us.length=1
 ·obtain⟨u,rfl⟩:=List.length_eq_one_iff.1 d;obtain⟨a,rfl⟩:∃a,args=[a]:=List.length_eq_one_iff.1 (by rw [<- z];exact d);have p:RV F.s u a:=K.2 0 u a rfl rfl;rcases E with E | ⟨g,l,X,rfl,hm,_,N,Y,_⟩
  ·simp at E
  ·have s:w.cell? ⟨g,l,none⟩=some u:=(aA N l).trans (by have:=Y 0 u rfl;simpa using this);obtain⟨lv,av,gv,ov,G,m2,m3⟩:=h.mc;have H:c.rb≠g:=aGF G.blk N tMc.1;have j:Pl.step W S=⟨0,m,({A with AB:=U}:PS).A1 a⟩:=by rw [v];show(⟨0,m,({A with AB:=m.AG[i]?.getD []}:PS).A1 a⟩:SR)=_;rw [C];rfl
   refine(aMZ w c.rb b g l f kv u o (PlF.ptr y) D.2 (aA G.blk 0) (aF G.blk 0) H s p.iface).mono ?_;rintro e Z ⟨rfl,rfl⟩;obtain⟨P,k2,k3⟩:=h.setK f;have I:Below (w.setCell ⟨c.rb,0,none⟩ f).heap.size (w.setCell ⟨c.rb,0,none⟩ f) ((w.setCell ⟨c.rb,0,none⟩ f).alloc (.cells #[.iface 357 (pt b),.slice (some ⟨g,l,none⟩) 1 o] TApp)):=b_;have Q:=k2.trans (Stp.AA (M:=M) I);exact⟨M,F,k,W,S,Q,fun b R=>(I.block b (P.fw.olt R)).trans (k3 b R),Fg.Le.refl _,t,J,n_,by omega,fun q=>absurd (by simp at q;exact q) p.notNil,.val u f m _ j (fun _=>n) rfl (PlF.go Q (Fg.Le.refl _) _ _ y) p (P.below I)⟩
 ·have j:Pl.step W S=⟨10,m,A⟩:=by
   rw [v]
   match args,z with
   | [],_=>rfl
   | [a],z=>simp at z;exact absurd z d
   | a::b::r,_=>rfl
  exact(aKH w c.rb us.length (pt b) trivial V o d).mono (fun e Z ⟨⟨es,h1⟩,h2⟩=>by
   subst h1
   exact aGW h h2 t J es (x:=10) (by decide) j n (by omega))
theorem nx_B{c:Cx}{F:Fg}{av:Value}{W p:PW}{S K:PS}{E:PV}{args:List PV}(h:St c M O w F kv (k+1) p)(hp:PlF M w F kv K.AB)(g:c.At k W S)(A:S.ended=false)(j:Pl.step W S=AH p K E args)(a:p.out=W.out)(D:∀t,E≠.AZ t)(L:RV F.s av E)(B:ArgsAt M O w F.s gv us)(N:BY (RV F.s) us args)(l:BL p E)(C:WWq p)(P:k+1+2100<=c.T) :Calls prog 174 #[.pointer (some ⟨c.rb,0,none⟩),.agg #[av,gv]] w (NxQ c M O w F (k+1) (k+1) 2100):=by
 have G:=h.fw.tq;have H:=h.fw.tc;have m:=L
 cases L with
 | proc i b I Q=>rw [G];exact nx_proc h hp g A j a I Q B N C P
 | cont i b J=>rw [H];exact aLG h g A j a J B N
 | AZ _ t _ _=>exact absurd rfl (D t)
 | EC=>exact absurd rfl (D _)
 | num n =>
  obtain⟨q,d,rfl,_⟩:=B;have f:∀o,Below w.heap.size w (w.alloc o):=fun o=>b_
  exact(aKI w c.rb us.length _ q d _ (Pl.FL _) ((hH p C.2 F.s _ _ _ (h.fw.below (f _)).TJ m l).mono (fun e r ⟨s,u⟩=>⟨s,(f _).trans (u.mono (f _).size)⟩))).mono (fun e r ⟨⟨v,y⟩,z⟩=>by
   subst y
   exact aGW h z g A v (x:=9) (by decide) j a (by omega))
 | AT b =>
  obtain⟨q,d,rfl,_⟩:=B;have f:∀o,Below w.heap.size w (w.alloc o):=fun o=>b_
  exact(aI3 w c.rb us.length _ q d _ (Pl.FL _) ((hH p C.2 F.s _ _ _ (h.fw.below (f _)).TJ m l).mono (fun e r ⟨s,u⟩=>⟨s,(f _).trans (u.mono (f _).size)⟩))).mono (fun e r ⟨⟨v,y⟩,z⟩=>by
   subst y
   exact aGW h z g A v (x:=9) (by decide) j a (by omega))
 | name T =>
  obtain⟨q,d,rfl,_⟩:=B;have f:∀o,Below w.heap.size w (w.alloc o):=fun o=>b_
  exact(aJF w c.rb us.length _ q d _ (Pl.FL _) ((hH p C.2 F.s _ _ _ (h.fw.below (f _)).TJ m l).mono (fun e r ⟨s,u⟩=>⟨s,(f _).trans (u.mono (f _).size)⟩))).mono (fun e r ⟨⟨v,y⟩,z⟩=>by
   subst y
   exact aGW h z g A v (x:=9) (by decide) j a (by omega))
 | empty  =>
  obtain⟨q,d,rfl,_⟩:=B;have f:∀o,Below w.heap.size w (w.alloc o):=fun o=>b_
  exact(aI4 w c.rb us.length _ q d _ (Pl.FL _) ((hH p C.2 F.s _ _ _ (h.fw.below (f _)).TJ m l).mono (fun e r ⟨s,u⟩=>⟨s,(f _).trans (u.mono (f _).size)⟩))).mono (fun e r ⟨⟨v,y⟩,z⟩=>by
   subst y
   exact aGW h z g A v (x:=9) (by decide) j a (by omega))
 | nothing  =>
  obtain⟨q,d,rfl,_⟩:=B;have f:∀o,Below w.heap.size w (w.alloc o):=fun o=>b_
  exact(aH9 w c.rb us.length _ q d _ (Pl.FL _) ((hH p C.2 F.s _ _ _ (h.fw.below (f _)).TJ m l).mono (fun e r ⟨s,u⟩=>⟨s,(f _).trans (u.mono (f _).size)⟩))).mono (fun e r ⟨⟨v,y⟩,z⟩=>by
   subst y
   exact aGW h z g A v (x:=9) (by decide) j a (by omega))
 | pair i b R =>
  obtain⟨q,d,rfl,_⟩:=B;have f:∀o,Below w.heap.size w (w.alloc o):=fun o=>b_
  exact(aJE w c.rb us.length _ q d _ (Pl.FL _) ((hH p C.2 F.s _ _ _ (h.fw.below (f _)).TJ m l).mono (fun e r ⟨s,u⟩=>⟨s,(f _).trans (u.mono (f _).size)⟩))).mono (fun e r ⟨⟨v,y⟩,z⟩=>by
   subst y
   exact aGW h z g A v (x:=9) (by decide) j a (by omega))
end
end Go.Proofs.YtieooapcfpimlaaGreatDoor
