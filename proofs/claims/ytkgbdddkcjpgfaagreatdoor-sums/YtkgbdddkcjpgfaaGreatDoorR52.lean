import Derived.LaidLaws
import Derived.Leaving
import Derived.Conc.HoldsTime
import Derived.ReadAgain
import Derived.ProofKit
import Derived.LaidMore
import Derived.LaidHandle
import Derived.Stop.Joined
import Derived.Stop.LaidErr
import Derived.SizedLaws
import Derived.Test.YtkgbdddkcjpgfaaGreatDoorR49
import Derived.Test.YtkgbdddkcjpgfaaGreatDoorR50
import Derived.Test.YtkgbdddkcjpgfaaGreatDoorTie
import Derived.Test.YtkgbdddkcjpgfaaGreatDoorCards
import Derived.SevenTiedAt
namespace Go.Proofs.YtkgbdddkcjpgfaaGreatDoor
set_option maxHeartbeats 1000000
set_option maxRecDepth 100000
open Go.Proofs.Tryz
section
open Go
theorem gV{a:Assume}{C:Checked}{os:Os}{f:FuncId}{r:Reach}{c:World->Array Value->Prop}{b:World->Array Value->Value->World->Prop}(h:ReturnsInHanded a C os f r c b):ReturnsInLeavingWide a C os f r c b :=fun e=>ReturnsInOpen.mono (fun _ _ _ x=>⟨x.2.1,onlyLeaving_of_quiet x.1,x.2.2⟩) (fun _ x=>x) (h e)
section
variable {H:Type} {enc:TypeId×Value->H}
theorem mI{C:Checked}{os:Os}{f:FuncId}{g:Func}{s:ChangeSpec}{b:List PathCond}{apart:Bool}{X:World->Array Value->Prop}(c:World)(args:Array Value)(fuel:Nat)(h:c.os=os)
  (j:(c.forCall (fun _ _=>0) ⟨#[],args,[]⟩).Shaped C.prog)
  (d:Input.okWideB C.prog (c.forCall (fun _ _=>0) ⟨#[],args,[]⟩) f ⟨#[],args,[]⟩=true)
  (e:s.preB enc C.prog g b apart (c.forCall (fun _ _=>0) ⟨#[],args,[]⟩).memory args fuel=true)
  (k:s.sizedB enc C.prog g apart (c.forCall (fun _ _=>0) ⟨#[],args,[]⟩).memory args fuel=true)
  (l:X (c.forCall (fun _ _=>0) ⟨#[],args,[]⟩).memory args) :
  ∃(w:World)(a:Tape)(i:Input),w.os=os/\(w.forCall a i).Shaped C.prog/\i.vars=[]/\Input.okWide C.prog (w.forCall a i) .any w.heap.size f i /\
   ((s.pre enc C.prog g b apart (w.forCall a i).memory i.args/\X (w.forCall a i).memory i.args)/\sizedMet enc C.prog g (OpenSpec.ofChange s) apart (w.forCall a i).memory i.args)/\({calm:=true}:Assume).holds C.prog (lone (Frame.enter C.prog f i.args .normal) [] (w.forCall a i)) :=
 ⟨c,fun _ _=>0,⟨#[],args,[]⟩,h,j,(Input.okWide_of_okWideB (base:=0) d).1,(Input.okWide_of_okWideB d).2,⟨⟨ChangeSpec.pre_of_preB e,l⟩,sizedMet_of_sizedB k⟩,by
  simp only [Assume.holds]
  exact⟨by simp,fun _ _ _ _=>rfl,by simp,by simp,by simp⟩⟩
end
section
variable {H:Type} {enc:TypeId×Value->H}
theorem dV{a:Assume}{C:Checked}{os:Os}{f:FuncId}{k:Func}{s:ChangeSpec}{F:Stop.Interp}{g:List PathCond}{apart fresh handsOn:Bool}{X:World->Array Value->Prop}
  (L:∀(w J:World)(b:Array Value),w.heap=J.heap->X w b->X J b)
  (z:ownKnob C.prog.godebug=none) (l:os.Started) (n:C.prog.inits.idxOf? f=none) (A:C.prog.funcs[f]?=some k)
  (m:∃(w:World)(c:Tape)(i:Input),w.os=os/\(w.forCall c i).Shaped C.prog/\i.vars=[]/\Input.okWide C.prog (w.forCall c i) .any w.heap.size f i /\
   ((s.pre enc C.prog k g apart (w.forCall c i).memory i.args/\X (w.forCall c i).memory i.args)/\sizedMet enc C.prog k (OpenSpec.ofChange s) apart (w.forCall c i).memory i.args)/\a.holds C.prog (lone (Frame.enter C.prog f i.args .normal) [] (w.forCall c i)))
  (h:∀(W:World)(o:Nat)(b:Array Value) (p q:List (DataW H)) (d:List MemPlace),W.ShapedOpen C.prog ->
   (∀(j:Nat) t v,k.params[j]?=some t->b[j]?=some v->Value.okWide C.prog W .any o t v) ->
   DataW.Whole enc C.prog k.params.toList s.vars apart W b.toList p q d ->
   g.all (PathCond.test C.prog ⟨k.params.toList,p,s.plain.varTypes C.prog,q⟩)=true ->
   (DataW.weightsEach C.prog (k.params.toList++s.plain.varTypes C.prog) (p++q)).all (·<=reachBytes)=true->X W b ->
   Calls C.prog f b W fun e B=>∃v,e=.returned v/\s.post enc C.prog k apart fresh handsOn false W b v B/\B.os=W.os) :
  ReturnsInLeavingWide a C os f .any (fun w b=>(s.pre enc C.prog k g apart w b/\X w b)/\sizedMet enc C.prog k (OpenSpec.ofChange s) apart w b) ((OpenSpec.ofChange s).postWith enc C.prog k F (outsideKept [.timePasses]) apart fresh handsOn):=by
 refine gV (returnsInHanded_of_calls z l n m ?_);intro w c i _ D _ E r _;obtain⟨_,_,_,G,u,_,_,_,_,x⟩:=E;have e:G=k:=i_ (u.symm.trans A);subst e;obtain⟨⟨⟨p,q,d,K,M⟩,N⟩,O⟩:=r;have I:=DataW.Whole.of_heap (w':=w.forCall c i) (by rfl) K;refine(h (w.forCall c i) w.heap.size i.args p q d D x I M (O.weights K) (L _ _ _ (by rfl) N)).mono fun e B ⟨v,P,Q,y⟩=>?_;subst P;refine postWith_blind (postWith_of_post (by rw [<- y];exact Q) ⟨0,by rw [y];rfl⟩)
end
theorem Tryz.glob7:(((begin prog (fun _ _=>0) default).world.heap[7]?).bind Obj.row?).isSome=true:=by kernel_rfl
theorem Tryz.globN:7<prog.globals.size:=of_decide_eq_true (by kernel_rfl)
theorem size_of_shaped{W:World}(h:W.ShapedOpen prog):8<=W.heap.size:=by obtain⟨⟨z,t⟩,a⟩:=Option.isSome_iff_exists.1 Tryz.glob7;obtain⟨c,b,_⟩:=h.1 7 z t Tryz.globN a;have:=(Array.getElem?_eq_some_iff.1 b).1;omega
end
section
open Go.ChangeShapes Go.WideShapes Go.ChangeAt Go.RowKit
variable {W:World}
theorem Tryz.own:ownKnob prog.godebug=none:=by kernel_rfl
theorem Tryz.et:prog.globalNamed "errors.errorType"=some 0:=by kernel_rfl
theorem Tryz.rt:(prog.cutTypes.find? (·.1 == "internal/reflectlite.rtype")).map (·.2)=some 301:=by kernel_rfl
theorem Tryz.size:prog.types.size=538:=by kernel_rfl
theorem Tryz.oneRow:((List.range 538).filter fun t=>prog.rowNamed t [101,114,114,111,114])=[63]:=by kernel_rfl
theorem Tryz.UG:prog.globalNamed "strconv.ErrRange"=some 6:=by kernel_rfl
theorem Tryz.YS:(prog.globals[6]?).map (·.type)=some 63:=by kernel_rfl
theorem Tryz.ZA:prog.cellsOf 408=1:=by kernel_rfl
theorem Tryz.cellsS:prog.cellsOf 9=1:=by kernel_rfl
theorem TE : "*" ++ "errors.errorString" = "*errors.errorString":=by decide
theorem Tryz.rowES(u:TypeId)(h:prog.typeName? 3 u=some "*errors.errorString"):u=406 :=typeName_ptr_named (nm := "errors.errorString") (by rw [TE];kernel_rfl) (by kernel_rfl) (by decide) u (by rw [TE];exact h)
theorem kK(h:laidMetH prog Rows.slowsRow.laid W):GT W:=by
 have d:laidMet prog _ W/\handlesMet prog [("errors.errorType",Rows.laid_errors_errorType)] W:=h;obtain⟨a,u,e,f,g,i,j,b⟩:=d.2 _ (List.mem_singleton.2 rfl);have k:a=[101,114,114,111,114]:=(i_ f).symm;subst k;obtain rfl:=i_ (Tryz.rt.symm.trans g);have c:e∈(List.range 538).filter fun t=>prog.rowNamed t [101,114,114,111,114]:=List.mem_filter.2 ⟨List.mem_range.2 (by rw [<- Tryz.size];exact i),j⟩;rw [Tryz.oneRow] at c;obtain rfl:=List.mem_singleton.1 c;have l:typeHandle prog 63=.pointer (some ⟨8,63,none⟩):=by kernel_rfl
 rw [l] at b;simpa [GT] using World.var?_cell Tryz.et b 0
theorem lO(h:laidMetH prog Rows.slowsRow.laid W):GE W:=by have b:laidMet prog [("math/bits.deBruijn32tab",Rows.laid_math_bits_deBruijn32tab),("math/bits.deBruijn64tab",Rows.laid_math_bits_deBruijn64tab),("internal/strconv.uint64pow10",Rows.laid_internal_strconv_uint64pow10),("strconv.ErrRange",Rows.laid_strconv_ErrRange),("strconv.ErrSyntax",Rows.laid_strconv_ErrSyntax),("stepper/value.primitives",Rows.laid_stepper_value_primitives)] W/\handlesMet prog [("errors.errorType",Rows.laid_errors_errorType)] W:=h;obtain⟨c,d,a,_⟩:=laid_sentinel b.1.tail.tail.tail Tryz.UG Tryz.YS underlying63 Tryz.rowES underlying406 underlying408 rfl rfl underlying9 Tryz.ZA Tryz.cellsS;exact⟨_,by simpa using World.var?_cell Tryz.UG a 0,.inr ⟨_,_,rfl⟩⟩
theorem Tryz.gPow:prog.globalNamed "internal/strconv.uint64pow10"=some 2:=by kernel_rfl
theorem jO(h:laidMetH prog Rows.slowsRow.laid W):Lib.TabIs prog W oS .u64 Lib.pow10Tab/\EH W:=by have a:laidMet prog [("math/bits.deBruijn32tab",Rows.laid_math_bits_deBruijn32tab),("math/bits.deBruijn64tab",Rows.laid_math_bits_deBruijn64tab),("internal/strconv.uint64pow10",Rows.laid_internal_strconv_uint64pow10),("strconv.ErrRange",Rows.laid_strconv_ErrRange),("strconv.ErrSyntax",Rows.laid_strconv_ErrSyntax),("stepper/value.primitives",Rows.laid_stepper_value_primitives)] W/\handlesMet prog [("errors.errorType",Rows.laid_errors_errorType)] W:=h;exact⟨Lib.tabIs_of_head (n:=20) (t:=358) (e:=101) Tryz.gPow (by kernel_rfl) (by kernel_rfl) (by kernel_rfl) (by kernel_rfl) (by kernel_rfl) a.1.tail.tail,oQ a.1.tail.tail.tail.tail.tail⟩
theorem aAK(os:Os)(args:Array Value):laidMetH prog Rows.slowsRow.laid ((World.doorLaid prog 86 os).forCall (fun _ _=>0) ⟨#[],args,[]⟩).memory :=laidMetH_of_parts3 (fuel:=8) (laidMet_of_run' 8 (by kernel_rfl) (by kernel_rfl)) (by kernel_rfl) (by kernel_rfl)
theorem PJ(b:W.ShapedOpen prog)(a:laidMetH prog Rows.slowsRow.laid W):Low W:=⟨size_of_shaped b,(jO a).1,(jO a).2,kK a,lO a⟩
end
section
open Go.ChangeShapes Go.WideShapes Go.ChangeAt Go.RowKit Go.Deep
theorem kA{n:Int}(h:(Lit.int .i64 n).wf=true) : -9223372036854775808<=n/\n<=9223372036854775807:=by have a:(decide (-9223372036854775808<=n)&&decide (n<=9223372036854775807))=true:=h;simpa using a
end
open Pl (AE PO AW)
section
open Go.RowKit Go.Lib Go.Maps
variable {w:World} {g n:Nat}
theorem aK8(w:World)(v:Value)(ins:List (ByteArray×Int))(c:F8 w v ins)(d:ins.length<=GK)(h:Low w) :Calls prog 28 #[v] w fun e a=>∃b,e=.returned b/\Below w.heap.size w a/\KB a b (Pl.fses (AW,false) (ins.map B5)).2:=p_fast w v ins c d h.DI h.B3 h.JQ h.gt h.ge
def letT:ByteArray:=⟨#[40,108,101,116,32,40,40,108,32,49,41,41,32,108,41]⟩
def aJT:List (ByteArray×Int):=[(⟨#[55]⟩,2000),(⟨#[120]⟩,2000),(⟨#[40]⟩,2000),(letT,10),(⟨#[55]⟩,1000000)]
theorem aKX:(Pl.fses (AW,false) (aJT.map B5)).2=[⟨0,[],[55]⟩,⟨8,[],[]⟩,⟨2,[],[]⟩,⟨0,[],[49]⟩,⟨0,[],[55]⟩]:=by kernel_rfl
def aJU:Array Value:=#[.string ⟨#[55]⟩,.int .i64 2000,.string ⟨#[120]⟩,.int .i64 2000,.string ⟨#[40]⟩,.int .i64 2000,.string ⟨#[40,108,101,116,32,40,40,108,32,49,41,41,32,108,41]⟩,.int .i64 10,.string ⟨#[55]⟩,.int .i64 1000000]
theorem aKY(w:World):F8 (w.alloc (.cells aJU 41)) (.slice (some ⟨w.heap.size,0,none⟩) 5 5) aJT:=by refine qB (l:=aJT) (heap_alloc_new w _) (fun k i a=>?_) 5 (by decide);have b:k<5:=(s_ a).1;rcases(show k=0\/k=1\/k=2\/k=3\/k=4 from by omega) with rfl | rfl | rfl | rfl | rfl<;>(obtain rfl:=i_ a;exact⟨rfl,rfl⟩)
def QkQ(w w':World)(g cap:Nat):Prop:=Below w.heap.size w w'/\5<=cap/\g<w'.heap.size/\w'.cell? ⟨g,0,none⟩=some (.int .i64 0)/\w'.cell? ⟨g,1,none⟩=some (.string ⟨#[]⟩)/\w'.cell? ⟨g,2,none⟩=some (.string ⟨#[55]⟩)/\w'.cell? ⟨g,3,none⟩=some (.int .i64 8)/\w'.cell? ⟨g,6,none⟩=some (.int .i64 2)/\w'.cell? ⟨g,9,none⟩=some (.int .i64 0)/\w'.cell? ⟨g,10,none⟩=some (.string ⟨#[]⟩)/\w'.cell? ⟨g,11,none⟩=some (.string ⟨#[49]⟩)/\w'.cell? ⟨g,12,none⟩=some (.int .i64 0)/\w'.cell? ⟨g,13,none⟩=some (.string ⟨#[]⟩)/\w'.cell? ⟨g,14,none⟩=some (.string ⟨#[55]⟩)
theorem QkQ.later{w1 w2:World}{cap:Nat}(h:QkQ w w1 g cap)(a:Below w1.heap.size w1 w2):QkQ w w2 g cap:=by obtain⟨d,f,e,i,j,k,l,m,n,q,r,s,t,b⟩:=h;have c:∀{o:Nat} {x:Value},w1.cell? ⟨g,o,none⟩=some x->w2.cell? ⟨g,o,none⟩=some x:=fun {o} {x} u=>(a.cell (p:=⟨g,o,none⟩) e).trans u;exact⟨d.trans (a.mono d.size),f,l_ e a.size,c i,c j,c k,c l,c m,c n,c q,c r,c s,c t,c b⟩
theorem quick_q{w':World}{rv:Value}(i:Below w.heap.size w w')(h:KB w' rv [⟨0,[],[55]⟩,⟨8,[],[]⟩,⟨2,[],[]⟩,⟨0,[],[49]⟩,⟨0,[],[55]⟩]):∃g a,rv=.slice (some ⟨g,0,none⟩) 5 a/\QkQ w w' g a:=by obtain⟨x,a,rfl,j,b⟩:=h;obtain⟨g,rfl,k,l,m,n⟩:=b 0 _ rfl;obtain⟨y,c,_,o,_,_⟩:=b 1 _ rfl;obtain⟨z,d,_,p,_,_⟩:=b 2 _ rfl;obtain⟨A,e,_,q,r,s⟩:=b 3 _ rfl;obtain⟨B,f,_,t,u,v⟩:=b 4 _ rfl;simp only [o_,Addr.mk.injEq,and_true] at c d e f;subst c d e f;exact⟨g,a,rfl,i,j,k,l,m,n,o,p,q,r,s,t,u,v⟩
theorem aNJ(w:World)(h:Low w):Calls prog 32 #[] w fun e b=>e=.returned (.bool true)/\Below w.heap.size w b:=by
 have F:Hid (∀(c:World)(s:ByteArray),Below w.heap.size w c->Calls prog 35 #[.string s] c fun e b=>e=.returned (.agg #[.string s,.int .i64 2000])/\Hid (Below w.heap.size w b)):=fun c s j=>(aRC c s).mono (fun e b ⟨k,l⟩=>⟨k,j.trans (l.mono j.size)⟩);have r:Hid (∀f:World,Below w.heap.size w f->Calls prog 28 #[.slice (some ⟨f.heap.size,0,none⟩) 5 5] (f.alloc (.cells aJU 41)) fun e b=>∃g a,e=.returned (.slice (some ⟨g,0,none⟩) 5 a)/\Hid (QkQ w b g a)):=fun f j=>by have d:Below w.heap.size w (f.alloc (.cells aJU 41)):=j.alloc j.size _;refine(aK8 _ _ aJT (aKY f) (by decide) (h.below d)).mono (fun e b ⟨I,k,l,t⟩=>?_);rw [aKX] at t;obtain⟨g,a,rfl,q⟩:=quick_q (d.trans (l.mono d.size)) t;exact⟨g,a,k,q⟩
 have G:Hid (∀c g a (s:ByteArray),QkQ w c g a->Calls prog 39 #[.agg #[.int .i64 0,.string ⟨#[]⟩,.string s],.string s,.string ⟨#[]⟩] c fun e b=>e=.returned (.bool true)/\Hid (QkQ w b g a)):=fun c g a s q=>(aAT c 0 _ _ _ _).mono (fun e b ⟨k,l⟩=>⟨by rw [k];simp,q.later l⟩);unfold aJU at r;clear h;go_enter func32,ntmps32
 go_wp2_with (first
  | (go_at_call 35;refine(F _ _ (by first | exact m.out | exact r_)).mono ?_;rintro e c ⟨rfl,m⟩)
  | (go_at_call 28;refine(r _ m).mono ?_;rintro e J ⟨g,a,rfl,i⟩;obtain⟨_,n,H,u,v,x,y,z,A,B,C,D,E,o⟩:=i.out)
  | (go_at_call 39;refine(G _ _ _ _ i).mono ?_;rintro e K ⟨rfl,p⟩;clear i u v x y z A B C D E o;have i:=p;clear p;obtain⟨_,n,H,u,v,x,y,z,A,B,C,D,E,o⟩:=i.out))
 go_ret;exact⟨rfl,i.1⟩
def aOY(c n:Int):Int:=if c<0 then -((c+1).tmod n) else c % n
theorem aPG(w:World)(c n:Int)(g:0<n)(i : -9223372036854775808<=c/\c<=9223372036854775807):Calls prog 27 #[.int .i64 c,.int .i64 n] w fun e b=>e=.returned (.int .i64 (aOY c n))/\w=b:=by
 have d:¬n=0:=by omega
 by_cases h:c<0
 ·have f:decide (c<0)=true:=by simpa using h
  have j:IntKind.i64.wrap (c+1)=c+1:=IntWalk.i64_in _ (by omega);have k:IntKind.i64.wrap (-(c+1))=-(c+1):=IntWalk.i64_in _ (by omega);have a:aOY c n=-((c+1).tmod n):=by unfold aOY;rw [if_pos h]
  rw [a];clear a;go_enter func27,ntmps27;go_wp2_with fail;go_ret;exact⟨rfl,rfl⟩
 ·have f:decide (c<0)=false:=by simpa using h
  have a:aOY c n=c % n:=by unfold aOY;rw [if_neg h]
  rw [a];clear a;go_enter func27,ntmps27;go_wp2_with fail;go_ret;exact⟨rfl,rfl⟩
theorem aOX(c n:Int)(a:0<n):0<=aOY c n/\aOY c n<n:=by
 unfold aOY;split
 ·rename_i h;have e : -((c+1).tmod n)=(-(c+1)).tmod n:=(Int.neg_tmod _ _).symm;rw [e];exact⟨Int.tmod_nonneg _ (by omega),Int.tmod_lt_of_pos _ a⟩
 ·exact⟨Int.emod_nonneg _ (by omega),Int.emod_lt_of_pos _ a⟩
def sgB(k:Int):UInt8:=if k=0 then 43 else if k=1 then 45 else if k=2 then 42 else if k=3 then 60 else 61
theorem p_sign(w:World)(k:Int)(h:0<=k/\k<5):Calls prog 36 #[.int .i64 k] w fun e a=>e=.returned (.string ⟨#[sgB k]⟩)/\w=a:=by
 rcases(show k=0\/k=1\/k=2\/k=3\/k=4 from by omega) with rfl | rfl | rfl | rfl | rfl
 all_goals
  go_enter func36,ntmps36
  go_wp2_with fail
  go_ret;exact⟨rfl,rfl⟩
theorem aRB(w:World)(c:Int)(m : -9223372036854775808<=c/\c<=9223372036854775807):Calls prog 33 #[.int .i64 c] w fun e a=>∃r:Int,e=.returned (.int .i64 r)/\r.natAbs<=1099511627776/\w=a:=by
 have d:Hid (∀(w:World)(c n:Int),0<n->n<=9223372036854775807->-9223372036854775808<=c/\c<=9223372036854775807->Calls prog 27 #[.int .i64 c,.int .i64 n] w fun e a=>∃r,e=.returned (.int .i64 r)/\0<=r/\r<n/\w=a):=fun w c n b o f=>(aPG w c n b f).mono (fun e a ⟨g,i⟩=>⟨_,g,(aOX c n b).1,(aOX c n b).2,i⟩)
 have j : -9223372036854775808<=c.tdiv 8/\c.tdiv 8<=9223372036854775807:=by
  rcases Int.le_total 0 c with h | h
  ·rw [Int.tdiv_eq_ediv_of_nonneg h];omega
  ·have e:c.tdiv 8=-((-c).tdiv 8):=by rw [Int.neg_tdiv,Int.neg_neg]
   rw [e,Int.tdiv_eq_ediv_of_nonneg (by omega)];omega
 have p:IntKind.i64.wrap (c.tdiv 8)=c.tdiv 8:=IntWalk.i64_in _ j;go_enter func33,ntmps33;go_wp2_with (go_at_call 27;refine(d _ _ _ (by decide) (by decide) (by assumption)).mono ?_;rintro e q ⟨r,rfl,k,l,rfl⟩)
 all_goals
  go_ret;exact⟨_,rfl,by omega,rfl⟩
def aO2:List Value->List (ByteArray×Int)
 | .string s::.int _ k::r=>(s,k)::aO2 r
 | _=>[]
theorem enc_at:∀(l:List (ByteArray×Int)) (k:Nat) (i:ByteArray×Int),l[k]?=some i->(l.flatMap encI)[k*2]?=some (.string i.1)/\(l.flatMap encI)[k*2+1]?=some (.int .i64 i.2)
 | [],_,_,h=>by simp at h
 | x::l,0,i,h=>by obtain rfl:=i_ h;exact⟨rfl,rfl⟩
 | x::l,k+1,i,h=>by rw [show(k+1)*2=k*2+2 from by omega];exact enc_at l k i h
theorem scr_ins{cs:Array Value}{T:TypeId}(a:w.heap[g]?=some (.cells cs T (0,0)))(h:cs.toList=(aO2 cs.toList).flatMap encI)(b:(aO2 cs.toList).length=n):F8 w (.slice (some ⟨g,0,none⟩) n n) (aO2 cs.toList):=by subst b;refine qB a (fun k i c=>?_) _ n_;have:=enc_at _ k i c;rw [<- h] at this;simpa using this
def poB(o:OB):PO:=⟨o.1,o.2.1.data.toList,o.2.2.data.toList⟩
def aO3(w:World)(g:Nat):Nat->List OB->Prop
 | _,[]=>True
 | k,o::r=>w.cell? ⟨g,k,none⟩=some (.int .i64 (o.1:Int))/\w.cell? ⟨g,k+1,none⟩=some (.string o.2.1)/\w.cell? ⟨g,k+2,none⟩=some (.string o.2.2)/\aO3 w g (k+3) r
theorem aPC:∀(l:List OB)(j:Nat),(∀(k:Nat)(o:OB),l[k]?=some o->w.cell? ⟨g,j+k*3,none⟩=some (.int .i64 (o.1:Int))/\w.cell? ⟨g,j+k*3+1,none⟩=some (.string o.2.1)/\w.cell? ⟨g,j+k*3+2,none⟩=some (.string o.2.2))->aO3 w g j l
 | [],_,_=>trivial
 | x::l,j,h=>by obtain⟨a,b,c⟩:=h 0 x rfl;refine⟨by simpa using a,by simpa using b,by simpa using c,aPC l (j+3) (fun k o d=>?_)⟩;have:=h (k+1) o d;rw [show j+(k+1)*3=j+3+k*3 from by omega] at this;exact this
theorem aO8{cap:Nat}{l:List OB}(h:KB w (.slice (some ⟨g,0,none⟩) n cap) (l.map poB)):aO3 w g 0 l:=by
 refine aPC l 0 (fun k o a=>?_);obtain⟨b,e,_,c,d,f⟩:=h.get (k:=k) (o:=poB o) (by rw [List.getElem?_map,a];rfl);obtain rfl:b=g:=by simpa using e.symm
 simp only [Nat.zero_add];exact⟨c,d,f⟩
def KpB(w w5 w':World):Prop:=Below w.heap.size w w'/\Below w5.heap.size w5 w'
theorem KpB.go{w5 w1 w2:World}(h:KpB w w5 w1)(a:Below w1.heap.size w1 w2):KpB w w5 w2:=⟨h.1.trans (a.mono h.1.size),h.2.trans (a.mono h.2.size)⟩
theorem KpB.cell{w5 w':World}(h:KpB w w5 w')(a:g<w5.heap.size)(k:Nat):w'.cell? ⟨g,k,none⟩=w5.cell? ⟨g,k,none⟩:=h.2.cell (p:=⟨g,k,none⟩) a
theorem aP7(h:Low w){S:List (AE×Int)}{os:List PO}(j:(Pl.AF AW S).2=os)(l:os.length=n)(v:n<=GK)(r:0<n)(c:World)(cs:Array Value)(m:Below w.heap.size w c)(s:cs.toList=(aO2 cs.toList).flatMap encI)(o:(aO2 cs.toList).map B5=S) :Calls prog 19 #[.slice (some ⟨c.heap.size,0,none⟩) n n] (c.alloc (.cells cs 41)) fun e f=>∃g a,e=.returned (.slice (some ⟨g,0,none⟩) n a)/\n<=a/\Hid (Below w.heap.size w f/\F8 f (.slice (some ⟨c.heap.size,0,none⟩) n n) (aO2 cs.toList)/\KB f (.slice (some ⟨g,0,none⟩) n a) os):=by
 have b:Below w.heap.size w (c.alloc (.cells cs 41)):=m.alloc m.size _;have d:(aO2 cs.toList).length=n:=by rw [<- l,<-j,Pl.PP,<-o,List.length_map]
 have p:=scr_ins (heap_alloc_new c (.cells cs 41)) s d;refine(j0 _ _ _ p (by omega) (h.below b)).mono (fun e f ⟨x,t,q,i⟩=>?_);rw [o,j] at i;obtain⟨y,a,rfl,u⟩:=i.row l;obtain⟨g,rfl,_⟩:=i.get (k:=0) (g_ (by omega));exact⟨g,a,t,u,b.trans (q.mono b.size),p.below q,i⟩
theorem aP9(h:Low w){S:List (AE×Int)}{os:List PO}(f:(Pl.AF AW S).2=os)(r:∀o∈os,o.code≠7)(j:os.length=n)(z:n<=GK)(s:0<n)(w1:World)(i l:Value)(ins:List (ByteArray×Int))(b:Below w.heap.size w w1/\F8 w1 i ins/\KB w1 l os)(m:ins.map B5=S) :Calls prog 28 #[i] w1 fun e c=>∃g a,e=.returned (.slice (some ⟨g,0,none⟩) n a)/\n<=a/\Hid (Below w.heap.size w c/\KB c l os/\KB c (.slice (some ⟨g,0,none⟩) n a) os):=by
 obtain⟨b,t,u⟩:=b;have p:ins.length=n:=by rw [<- j,<-f,Pl.PP,<-m,List.length_map]
 have v:(Pl.fses (AW,false) S).2=os:=by rw [Pl.fses_same S AW (by rw [f];exact r)];exact f
 refine(aK8 _ _ _ t (by omega) (h.below b)).mono (fun e c ⟨i,x,q,d⟩=>?_);rw [m,v] at d;obtain⟨A,a,rfl,y⟩:=d.row j;obtain⟨g,rfl,_⟩:=d.get (k:=0) (g_ (by omega));exact⟨g,a,x,y,b.trans (q.mono b.size),u.below q,d⟩
end
section
open Go
theorem mN(i:Looks){p:Pinned}{s:OpenSpec}{c:OpenClaim}(g:Bool)(kinds:List LaidKind)(a:Bool)(b:Bool×String)(d:Bool)
  (n:c.holds p s) (o:c.wfByText s=true) (e:c.laidByTextAt i p kinds a)
  (k:c.start=.entering) (l:c.noBlocks=false/\c.again=false) (q:p.checked.prog.mainIs=some (b.1,b.2.toList)) (u:(!b.1&&b.2.isEmpty&&!d)=false)
  (v:∀f m,p.checked.prog.funcNamed c.func=some f->p.checked.prog.funcs[f]?=some m->d=p.checked.prog.looks []/\∀(j:Nat) t,m.params[j]?=some t->p.checked.prog.wantsStandIn t=false)
  (w:g=c.goesBy p.checked.prog) :
  Claim7.holds p (.plain s) {stood:={row:=c,standIns:=[],harness:=b,looks:=d},kinds:=[],alts:=[],goes:=g,laidByText:=true,laidKinds:=kinds,laidTests:=a,laidLooks:=i}:=by
 have x:∀r:OpenClaim,Claim7.isSixth {stood:={row:=r,standIns:=[],harness:=b,looks:=d},kinds:=[]}=false:=fun r=>by simpa [Claim7.isSixth] using u
 exact⟨Claim7.tied_new_at i kinds a (Claim7.new_of_sixth n b d k l q (x c) v) o,fun D y=>(by cases y),e,(fun h=>by cases h),w⟩
end
section
open Go.RowKit Go.Lib Go.Maps
theorem aQG(k:Int):sgB k∈Pl.signL:=by
 unfold sgB
 repeat' split
 all_goals decide
theorem aRA(w:World)(k n a b:Int)(r:a.natAbs<=1099511627776)(s:b.natAbs<=1099511627776)(f:k=0/\n=a+b\/k=1/\n=a-b)(j:Lib.TabIs prog w oS .u64 Lib.pow10Tab) :Calls prog 37 #[.int .i64 k,.int .i64 a,.int .i64 b] w fun e d=>e=.returned (.string ⟨(if n.natAbs<=Pl.CG then Pl.itoa n else []).toArray⟩)/\Below w.heap.size w d:=by
 have t : -2199023255552<=n/\n<=2199023255552:=by omega
 have q:IntKind.i64.wrap n=n:=IntWalk.i64_in _ (by omega);by_cases h:n.natAbs<=Pl.CG
 ·rw [if_pos h];have g:n.natAbs<=1099511627776:=h;have l:Hid (Calls prog 34 #[.int .i64 n] w fun e d=>e=.returned (.string ⟨(Pl.itoa n).toArray⟩)/\Hid (Below w.heap.size w d)):=(wE n w g j).mono (fun e d ⟨m,o,_⟩=>⟨m,o⟩);have c:decide (1099511627776<n)=false:=by simp;omega
  have i:decide (n < -1099511627776)=false:=by simp;omega
  clear j h g;rcases f with⟨rfl,rfl⟩ | ⟨rfl,rfl⟩
  all_goals
   go_enter func37,ntmps37
   go_wp2_with (go_at_call 34;refine l.mono ?_;rintro e u ⟨rfl,p⟩)
   go_ret;exact⟨rfl,p⟩
 ·rw [if_neg h];have g:¬n.natAbs<=1099511627776:=h;clear h;rcases(show(1099511627776<n)\/(¬1099511627776<n/\n < -1099511627776) from by omega) with c | ⟨c,i⟩
  ·have c:decide (1099511627776<n)=true:=by simpa using c
   rcases f with⟨rfl,rfl⟩ | ⟨rfl,rfl⟩
   all_goals
    go_enter func37,ntmps37
    go_wp2_with fail
    go_ret;exact⟨rfl,r_⟩
  ·have c:decide (1099511627776<n)=false:=by simpa using c
   have i:decide (n < -1099511627776)=true:=by simpa using i
   rcases f with⟨rfl,rfl⟩ | ⟨rfl,rfl⟩
   all_goals
    go_enter func37,ntmps37
    go_wp2_with fail
    go_ret;exact⟨rfl,r_⟩
theorem p_toldL(w:World)(a b:Int)(t:Bool)(h:decide (a<b)=t) :Calls prog 37 #[.int .i64 3,.int .i64 a,.int .i64 b] w fun e c=>e=.returned (.string ⟨(if t then [35,116] else [35,102]:List UInt8).toArray⟩)/\Below w.heap.size w c:=by
 cases t
 all_goals
  go_enter func37,ntmps37
  go_wp2_with fail
  go_ret;exact⟨rfl,r_⟩
theorem p_toldE(w:World)(a b:Int)(t:Bool)(h:(a==b)=t) :Calls prog 37 #[.int .i64 4,.int .i64 a,.int .i64 b] w fun e c=>e=.returned (.string ⟨(if t then [35,116] else [35,102]:List UInt8).toArray⟩)/\Below w.heap.size w c:=by
 cases t
 all_goals
  go_enter func37,ntmps37
  go_wp2_with fail
  go_ret;exact⟨rfl,r_⟩
theorem p_toldM(w:World)(a b:Int)(K:a.natAbs<=1099511627776)(L:b.natAbs<=1099511627776)(k:Lib.TabIs prog w oS .u64 Lib.pow10Tab) :Calls prog 37 #[.int .i64 2,.int .i64 a,.int .i64 b] w fun e g=>e=.returned (.string ⟨(if(a*b).natAbs<=Pl.CG then Pl.itoa (a*b) else []).toArray⟩)/\Below w.heap.size w g:=by
 obtain⟨x,n,s,D⟩:∃x:Int,x=(a.natAbs:Int)/\0<=x/\x<=1099511627776:=⟨_,rfl,by omega,by omega⟩
 obtain⟨y,o,E,F⟩:∃y:Int,y=(b.natAbs:Int)/\0<=y/\y<=1099511627776:=⟨_,rfl,by omega,by omega⟩
 have i:((a*b).natAbs:Int)=x*y:=by rw [Int.natAbs_mul,n,o];push_cast;rfl
 have t:a<0/\IntKind.i64.wrap (-a)=x\/¬a<0/\a=x:=by
  rcases Int.lt_or_le a 0 with h | h
  ·exact .inl ⟨h,by rw [IntWalk.i64_in _ (by omega)];omega⟩
  ·exact .inr ⟨by omega,by omega⟩
 have u:b<0/\IntKind.i64.wrap (-b)=y\/¬b<0/\b=y:=by
  rcases Int.lt_or_le b 0 with h | h
  ·exact .inl ⟨h,by rw [IntWalk.i64_in _ (by omega)];omega⟩
  ·exact .inr ⟨by omega,by omega⟩
 by_cases B:x=0
 ·obtain rfl:a=0:=by omega
  rw [Int.zero_mul,if_pos (by decide)];have p:Hid (Calls prog 34 #[.int .i64 0] w fun e g=>e=.returned (.string ⟨(Pl.itoa 0).toArray⟩)/\Hid (Below w.heap.size w g)):=(wE 0 w (by decide) k).mono (fun e g ⟨v,z,_⟩=>⟨v,z⟩);clear k B n t i o;rcases u with⟨c,e⟩ | ⟨c,rfl⟩
  ·have c:decide (b<0)=true:=by simpa using c
   go_enter func37,ntmps37
   go_wp2_with (go_at_call 34;refine p.mono ?_;rintro e C ⟨rfl,l⟩)
   go_ret;exact⟨rfl,l⟩
  ·have c:decide (b<0)=false:=by simpa using c
   go_enter func37,ntmps37
   go_wp2_with (go_at_call 34;refine p.mono ?_;rintro e C ⟨rfl,l⟩)
   go_ret;exact⟨rfl,l⟩
 ·have M:(x==0)=false:=by simpa using B
  obtain⟨q,r⟩:∃q,q=(1099511627776:Int).tdiv x:=⟨_,rfl⟩
  have d:q=1099511627776 / x:=by rw [r,Int.tdiv_eq_ediv_of_nonneg (by decide)]
  have j:y<=q↔y*x<=1099511627776:=by rw [d];exact Int.le_ediv_iff_mul_le (by omega)
  have G:0<=q:=by rw [d];exact Int.ediv_nonneg (by decide) s
  have H:q<=1099511627776:=by rw [d];exact Int.ediv_le_self _ (by decide)
  have N:IntKind.i64.wrap ((1099511627776:Int).tdiv x)=q:=by rw [<- r];exact IntWalk.i64_in _ (by omega)
  rw [Int.mul_comm] at j;by_cases m:q<y
  ·rw [if_neg (by unfold Pl.CG;omega)];have I:decide (q<y)=true:=by simpa using m
   clear j i r d k n o;rcases t with⟨c,e⟩ | ⟨c,rfl⟩<;>rcases u with⟨f,J⟩ | ⟨f,rfl⟩
   all_goals
    try (have c:decide (a<0)=true:=by simpa using c)
    try (have c:decide (a<0)=false:=by simpa using c)
    try (have f:decide (b<0)=true:=by simpa using f)
    try (have f:decide (b<0)=false:=by simpa using f)
    go_enter func37,ntmps37
    go_wp2_with fail
    go_ret;exact⟨rfl,r_⟩
  ·have A:(a*b).natAbs<=1099511627776:=by omega
   rw [if_pos (show(a*b).natAbs<=Pl.CG from A)];have I:decide (q<y)=false:=by simpa using m
   have p:Hid (Calls prog 34 #[.int .i64 (a*b)] w fun e g=>e=.returned (.string ⟨(Pl.itoa (a*b)).toArray⟩)/\Hid (Below w.heap.size w g)):=(wE _ w A k).mono (fun e g ⟨v,z,_⟩=>⟨v,z⟩);have O:IntKind.i64.wrap (a*b)=a*b:=IntWalk.i64_in _ (by omega);have P:decide (1099511627776<a*b)=false:=by simp;omega
   have Q:decide (a*b < -1099511627776)=false:=by simp;omega
   clear j i r d k n o A;rcases t with⟨c,e⟩ | ⟨c,rfl⟩<;>rcases u with⟨f,J⟩ | ⟨f,rfl⟩
   all_goals
    try (have c:decide (a<0)=true:=by simpa using c)
    try (have c:decide (a<0)=false:=by simpa using c)
    try (have f:decide (b<0)=true:=by simpa using f)
    try (have f:decide (b<0)=false:=by simpa using f)
    go_enter func37,ntmps37
    go_wp2_with (go_at_call 34;refine p.mono ?_;rintro e C ⟨rfl,l⟩)
    go_ret;exact⟨rfl,l⟩
theorem aQ9(w:World)(k a b:Int)(h:0<=k/\k<5)(c:a.natAbs<=1099511627776)(d:b.natAbs<=1099511627776)(f:Lib.TabIs prog w oS .u64 Lib.pow10Tab) :Calls prog 37 #[.int .i64 k,.int .i64 a,.int .i64 b] w fun e g=>e=.returned (.string ⟨(Pl.toldT (sgB k) a b).toArray⟩)/\Below w.heap.size w g:=by
 rcases(show k=0\/k=1\/k=2\/k=3\/k=4 from by omega) with rfl | rfl | rfl | rfl | rfl
 ·exact aRA w 0 (a+b) a b c d (.inl ⟨rfl,rfl⟩) f
 ·exact aRA w 1 (a-b) a b c d (.inr ⟨rfl,rfl⟩) f
 ·exact p_toldM w a b c d f
 ·exact p_toldL w a b _ rfl
 ·exact p_toldE w a b _ rfl
end
end Go.Proofs.YtkgbdddkcjpgfaaGreatDoor
