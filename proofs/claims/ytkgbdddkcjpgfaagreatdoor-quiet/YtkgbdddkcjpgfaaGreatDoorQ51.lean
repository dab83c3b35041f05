import Derived.ProofKit
import Derived.LaidMore
import Derived.LaidHandle
import Derived.Stop.Joined
import Derived.Stop.LaidErr
import Derived.SizedLaws
import Derived.Test.YtkgbdddkcjpgfaaGreatDoorQ50
namespace Go.Proofs.YtkgbdddkcjpgfaaGreatDoor
set_option maxHeartbeats 2000000
set_option maxRecDepth 100000
open Go.Proofs.Tryz
open Pl (AW)
section
open Go.RowKit Go.Lib Go.Maps
variable {w:World}
structure Low(w:World):Prop where
 DI:8<=w.heap.size
 B3:Lib.TabIs prog w oS .u64 Lib.pow10Tab
 JQ:EH w
 gt:GT w
 ge:GE w
theorem Low.below{w1:World}(h:Low w)(b:Below w.heap.size w w1):Low w1:=by
 have a:Gs w (fun _=>False):=⟨h.DI,fun _ _ h=>h,h.B3⟩
 have c:=a.below b;exact⟨c.size,c.B3,h.JQ.AQ a (Stp.AA b),h.gt.below b,h.ge.below b⟩
theorem j0(w:World)(v:Value)(ins:List (ByteArray×Int))(c:F8 w v ins)(d:ins.length<=GK)(h:Low w) :Calls prog 19 #[v] w fun e a=>∃b,e=.returned b/\Below w.heap.size w a/\KB a b (Pl.AF AW (ins.map B5)).2:=p_slow w v ins c d h.DI h.B3 h.JQ h.gt h.ge
theorem p_pick(w:World)(c n:Int)(b:0<n)(i : -9223372036854775808<=c/\c<=9223372036854775807)(d:n<=9223372036854775807):Calls prog 27 #[.int .i64 c,.int .i64 n] w fun e f=>∃r,e=.returned (.int .i64 r)/\0<=r/\r<n/\w=f:=by
 have a:¬n=0:=by omega
 by_cases h:c<0
 ·have g:decide (c<0)=true:=by simpa using h
  have j:IntKind.i64.wrap (c+1)=c+1:=IntWalk.i64_in _ (by omega);have k:IntKind.i64.wrap (-(c+1))=-(c+1):=IntWalk.i64_in _ (by omega);go_enter func27,ntmps27;go_wp2_with fail;go_ret;have e : -((c+1).tmod n)=(-(c+1)).tmod n:=(Int.neg_tmod _ _).symm;exact⟨_,rfl,by rw [e];exact Int.tmod_nonneg _ (by omega),by rw [e];exact Int.tmod_lt_of_pos _ b,rfl⟩
 ·have g:decide (c<0)=false:=by simpa using h
  go_enter func27,ntmps27
  go_wp2_with fail
  go_ret;exact⟨_,rfl,Int.emod_nonneg _ a,Int.emod_lt_of_pos _ b,rfl⟩
theorem p_inK(w:World)(s:ByteArray):Calls prog 35 #[.string s] w fun e a=>e=.returned (.agg #[.string s,.int .i64 2000])/\Below w.heap.size w a:=by
 go_enter func35,ntmps35
 go_wp2_with fail
 (try simp only [Exit.inBlock,Exit.then])
 refine bodyPost_ret (v:=.agg #[.string s,.int .i64 2000]) ?_ rfl ?_
 ·rw [aO rfl]
  go_simp
  try rfl
 exact⟨rfl,b_⟩
theorem b6{a b:ByteArray}:a.toList=b.toList↔a=b:=by rw [Lib.toList_data,Lib.toList_data];exact⟨fun e=>by cases a;cases b;simpa using e,fun e=>by rw [e]⟩
theorem aAT(w:World)(c:Int)(o t a b:ByteArray):Calls prog 39 #[.agg #[.int .i64 c,.string o,.string t],.string a,.string b] w fun e i=>e=.returned (.bool (decide (c=0/\t=a/\o=b)))/\Below w.heap.size w i:=by
 by_cases d:c=0
 ·by_cases f:t=a
  ·by_cases g:o=b
   ·subst d f g;go_enter func39,ntmps39;go_wp2_with fail;go_ret;exact⟨by simp,b_⟩
   ·subst d f;have h:(o.toList==b.toList)=false:=by rw [beq_eq_false_iff_ne];exact fun e=>g (by rw [<- b6];exact e)
    go_enter func39,ntmps39
    go_wp2_with fail
    go_ret;exact⟨by simp [g],b_⟩
  ·subst d;have h:(t.toList==a.toList)=false:=by rw [beq_eq_false_iff_ne];exact fun e=>f (by rw [<- b6];exact e)
   go_enter func39,ntmps39
   go_wp2_with fail
   go_ret;exact⟨by simp [f],b_⟩
 ·have h:(c==0)=false:=by simpa using d
  go_enter func39,ntmps39
  go_wp2_with fail
  go_ret;exact⟨by simp [d],b_⟩
def awakeI:List (ByteArray×Int):=[(⟨#[55]⟩,1),(⟨#[55]⟩,0),(⟨#[120]⟩,2000),(⟨#[40]⟩,2000),(⟨#[55]⟩,1000000)]
theorem u5:(Pl.AF AW (awakeI.map B5)).2=[⟨0,[],[55]⟩,⟨7,[],[]⟩,⟨8,[],[]⟩,⟨2,[],[]⟩,⟨0,[],[55]⟩]:=by kernel_rfl
theorem qB{l:List (ByteArray×Int)}{g:Nat}{cs:Array Value}{T:TypeId}(b:w.heap[g]?=some (.cells cs T (0,0)))(h:∀(k:Nat)(i:ByteArray×Int),l[k]?=some i->cs[k*2]?=some (.string i.1)/\cs[k*2+1]?=some (.int .i64 i.2))(a:Nat)(d:l.length<=a):F8 w (.slice (some ⟨g,0,none⟩) l.length a) l :=⟨some ⟨g,0,none⟩,a,rfl,d,fun k i c=>⟨g,rfl,aB b,(aA b _).trans (h k i c).1,(aA b _).trans (h k i c).2⟩⟩
def awakeC:Array Value:=#[.string ⟨#[55]⟩,.int .i64 1,.string ⟨#[55]⟩,.int .i64 0,.string ⟨#[120]⟩,.int .i64 2000,.string ⟨#[40]⟩,.int .i64 2000,.string ⟨#[55]⟩,.int .i64 1000000]
theorem awake_scr(w:World):F8 (w.alloc (.cells awakeC 41)) (.slice (some ⟨w.heap.size,0,none⟩) 5 5) awakeI:=by refine qB (l:=awakeI) (heap_alloc_new w _) (fun k i a=>?_) 5 (by decide);have b:k<5:=(s_ a).1;rcases(show k=0\/k=1\/k=2\/k=3\/k=4 from by omega) with rfl | rfl | rfl | rfl | rfl<;>(obtain rfl:=i_ a;exact⟨rfl,rfl⟩)
def AwQ(w w':World)(g cap:Nat):Prop:=Below w.heap.size w w'/\5<=cap/\g<w'.heap.size/\w'.cell? ⟨g,0,none⟩=some (.int .i64 0)/\w'.cell? ⟨g,1,none⟩=some (.string ⟨#[]⟩)/\w'.cell? ⟨g,2,none⟩=some (.string ⟨#[55]⟩)/\w'.cell? ⟨g,3,none⟩=some (.int .i64 7)/\w'.cell? ⟨g,6,none⟩=some (.int .i64 8)/\w'.cell? ⟨g,9,none⟩=some (.int .i64 2)/\w'.cell? ⟨g,12,none⟩=some (.int .i64 0)/\w'.cell? ⟨g,13,none⟩=some (.string ⟨#[]⟩)/\w'.cell? ⟨g,14,none⟩=some (.string ⟨#[55]⟩)
theorem AwQ.later{w1 w2:World}{g cap:Nat}(h:AwQ w w1 g cap)(a:Below w1.heap.size w1 w2):AwQ w w2 g cap:=by obtain⟨c,d,b,e,f,i,j,k,l,m,n,o⟩:=h;exact⟨c.trans (a.mono c.size),d,l_ b a.size,(a.cell (p:=⟨g,_,none⟩) b).trans e,(a.cell (p:=⟨g,_,none⟩) b).trans f,(a.cell (p:=⟨g,_,none⟩) b).trans i,(a.cell (p:=⟨g,_,none⟩) b).trans j,(a.cell (p:=⟨g,_,none⟩) b).trans k,(a.cell (p:=⟨g,_,none⟩) b).trans l,(a.cell (p:=⟨g,_,none⟩) b).trans m,(a.cell (p:=⟨g,_,none⟩) b).trans n,(a.cell (p:=⟨g,_,none⟩) b).trans o⟩
theorem awake_q{w':World}{rv:Value}(i:Below w.heap.size w w')(h:KB w' rv [⟨0,[],[55]⟩,⟨7,[],[]⟩,⟨8,[],[]⟩,⟨2,[],[]⟩,⟨0,[],[55]⟩]):∃g a,rv=.slice (some ⟨g,0,none⟩) 5 a/\AwQ w w' g a:=by obtain⟨u,a,rfl,j,b⟩:=h;obtain⟨g,rfl,k,l,m,n⟩:=b 0 _ rfl;obtain⟨v,c,_,o,_,_⟩:=b 1 _ rfl;obtain⟨x,d,_,p,_,_⟩:=b 2 _ rfl;obtain⟨y,e,_,q,_,_⟩:=b 3 _ rfl;obtain⟨z,f,_,r,s,t⟩:=b 4 _ rfl;simp only [o_,Addr.mk.injEq,and_true] at c d e f;subst c d e f;exact⟨g,a,rfl,i,j,k,l,m,n,o,p,q,r,s,t⟩
theorem aNL(w:World)(h:Low w):Calls prog 26 #[] w fun e b=>e=.returned (.bool true)/\Below w.heap.size w b:=by
 have D:Hid (∀(c:World)(s:ByteArray),Below w.heap.size w c->Calls prog 35 #[.string s] c fun e b=>e=.returned (.agg #[.string s,.int .i64 2000])/\Hid (Below w.heap.size w b)):=fun c s j=>(p_inK c s).mono (fun e b ⟨k,l⟩=>⟨k,j.trans (l.mono j.size)⟩);have q:Hid (∀f:World,Below w.heap.size w f->Calls prog 19 #[.slice (some ⟨f.heap.size,0,none⟩) 5 5] (f.alloc (.cells awakeC 41)) fun e b=>∃g a,e=.returned (.slice (some ⟨g,0,none⟩) 5 a)/\Hid (AwQ w b g a)):=fun f j=>by have d:Below w.heap.size w (f.alloc (.cells awakeC 41)):=j.alloc j.size _;refine(j0 _ _ awakeI (awake_scr f) (by decide) (h.below d)).mono (fun e b ⟨G,k,l,r⟩=>?_);rw [u5] at r;obtain⟨g,a,rfl,p⟩:=awake_q (d.trans (l.mono d.size)) r;exact⟨g,a,k,p⟩
 have E:Hid (∀c g a,AwQ w c g a->Calls prog 39 #[.agg #[.int .i64 0,.string ⟨#[]⟩,.string ⟨#[55]⟩],.string ⟨#[55]⟩,.string ⟨#[]⟩] c fun e b=>e=.returned (.bool true)/\Hid (AwQ w b g a)):=fun c g a p=>(aAT c 0 _ _ _ _).mono (fun e b ⟨k,l⟩=>⟨by rw [k];simp,p.later l⟩);unfold awakeC at q;clear h;go_enter func26,ntmps26
 go_wp2_with (first
  | (go_at_call 35;refine(D _ _ (by first | exact m.out | exact r_)).mono ?_;rintro e c ⟨rfl,m⟩)
  | (go_at_call 19;refine(q _ m).mono ?_;rintro e H ⟨g,a,rfl,i⟩;obtain⟨_,n,F,t,u,v,x,y,z,A,B,C⟩:=i.out)
  | (go_at_call 39;refine(E _ _ _ i).mono ?_;rintro e I ⟨rfl,o⟩;clear i t u v x y z A B C;have i:=o;clear o;obtain⟨_,n,F,t,u,v,x,y,z,A,B,C⟩:=i.out))
 go_ret;exact⟨rfl,i.1⟩
end
section
open Go.ChangeShapes Go.WideShapes Go.ChangeAt Go.RowKit
variable {W:World}
theorem Tryz.own:ownKnob prog.godebug=none:=by kernel_rfl
theorem Tryz.et:prog.globalNamed "errors.errorType"=some 0:=by kernel_rfl
theorem Tryz.rt:(prog.cutTypes.find? (·.1 == "internal/reflectlite.rtype")).map (·.2)=some 301:=by kernel_rfl
theorem Tryz.size:prog.types.size=538:=by kernel_rfl
theorem Tryz.oneRow:((List.range 538).filter fun t=>prog.rowNamed t [101,114,114,111,114])=[63]:=by kernel_rfl
theorem Tryz.UG:prog.globalNamed "strconv.ErrRange"=some 6:=by kernel_rfl
theorem Tryz.YS:(prog.globals[6]?).map (·.type)=some 63:=by kernel_rfl
theorem Tryz.ZA:prog.cellsOf 408=1:=by kernel_rfl
theorem Tryz.cellsS:prog.cellsOf 9=1:=by kernel_rfl
theorem TE : "*" ++ "errors.errorString" = "*errors.errorString":=by decide
theorem Tryz.rowES(u:TypeId)(h:prog.typeName? 3 u=some "*errors.errorString"):u=406 :=typeName_ptr_named (nm := "errors.errorString") (by rw [TE];kernel_rfl) (by kernel_rfl) (by decide) u (by rw [TE];exact h)
theorem kK(h:laidMetH prog Rows.slowsRow.laid W):GT W:=by
 have d:laidMet prog _ W/\handlesMet prog [("errors.errorType",Rows.laid_errors_errorType)] W:=h;obtain⟨a,u,e,f,g,i,j,b⟩:=d.2 _ (List.mem_singleton.2 rfl);have k:a=[101,114,114,111,114]:=(i_ f).symm;subst k;obtain rfl:=i_ (Tryz.rt.symm.trans g);have c:e∈(List.range 538).filter fun t=>prog.rowNamed t [101,114,114,111,114]:=List.mem_filter.2 ⟨List.mem_range.2 (by rw [<- Tryz.size];exact i),j⟩;rw [Tryz.oneRow] at c;obtain rfl:=List.mem_singleton.1 c;have l:typeHandle prog 63=.pointer (some ⟨8,63,none⟩):=by kernel_rfl
 rw [l] at b;simpa [GT] using World.var?_cell Tryz.et b 0
theorem lO(h:laidMetH prog Rows.slowsRow.laid W):GE W:=by have b:laidMet prog [("math/bits.deBruijn32tab",Rows.laid_math_bits_deBruijn32tab),("math/bits.deBruijn64tab",Rows.laid_math_bits_deBruijn64tab),("internal/strconv.uint64pow10",Rows.laid_internal_strconv_uint64pow10),("strconv.ErrRange",Rows.laid_strconv_ErrRange),("strconv.ErrSyntax",Rows.laid_strconv_ErrSyntax),("stepper/value.primitives",Rows.laid_stepper_value_primitives)] W/\handlesMet prog [("errors.errorType",Rows.laid_errors_errorType)] W:=h;obtain⟨c,d,a,_⟩:=laid_sentinel b.1.tail.tail.tail Tryz.UG Tryz.YS underlying63 Tryz.rowES underlying406 underlying408 rfl rfl underlying9 Tryz.ZA Tryz.cellsS;exact⟨_,by simpa using World.var?_cell Tryz.UG a 0,.inr ⟨_,_,rfl⟩⟩
theorem Tryz.gPow:prog.globalNamed "internal/strconv.uint64pow10"=some 2:=by kernel_rfl
theorem jO(h:laidMetH prog Rows.slowsRow.laid W):Lib.TabIs prog W oS .u64 Lib.pow10Tab/\EH W:=by have a:laidMet prog [("math/bits.deBruijn32tab",Rows.laid_math_bits_deBruijn32tab),("math/bits.deBruijn64tab",Rows.laid_math_bits_deBruijn64tab),("internal/strconv.uint64pow10",Rows.laid_internal_strconv_uint64pow10),("strconv.ErrRange",Rows.laid_strconv_ErrRange),("strconv.ErrSyntax",Rows.laid_strconv_ErrSyntax),("stepper/value.primitives",Rows.laid_stepper_value_primitives)] W/\handlesMet prog [("errors.errorType",Rows.laid_errors_errorType)] W:=h;exact⟨Lib.tabIs_of_head (n:=20) (t:=358) (e:=101) Tryz.gPow (by kernel_rfl) (by kernel_rfl) (by kernel_rfl) (by kernel_rfl) (by kernel_rfl) a.1.tail.tail,oQ a.1.tail.tail.tail.tail.tail⟩
theorem aAK(os:Os)(args:Array Value):laidMetH prog Rows.slowsRow.laid ((World.doorLaid prog 86 os).forCall (fun _ _=>0) ⟨#[],args,[]⟩).memory :=laidMetH_of_parts3 (fuel:=8) (laidMet_of_run' 8 (by kernel_rfl) (by kernel_rfl)) (by kernel_rfl) (by kernel_rfl)
theorem PJ(b:W.ShapedOpen prog)(a:laidMetH prog Rows.slowsRow.laid W):Low W:=⟨size_of_shaped b,(jO a).1,(jO a).2,kK a,lO a⟩
end
section
open Go.RowKit Go.Lib Go.Maps
variable {w:World}
def ScrV(w:World)(v:Value)(ins:List (ByteArray×Int)):Prop:=(v=.slice none 0 0/\ins=[])\/∃ad cap,v=.slice (some ad) ins.length cap/\ins.length<=cap/\(ins≠[]->ad.block<w.heap.size)/\∀j u,(ins.flatMap iL)[j]?=some u->w.cell? (ad.add j)=some u
theorem aN5{v:Value}{ins:List (ByteArray×Int)}(h:ScrV w v ins):JF w v ins:=by
 rcases h with⟨rfl,rfl⟩ | ⟨l,f,rfl,o,p,g⟩
 ·exact⟨none,0,rfl,n_,fun k i a=>by cases a⟩
 ·refine⟨some l,f,rfl,o,fun k i a=>?_⟩;obtain⟨q,r⟩:=pM a;have m:=g _ _ q;have n:=g _ _ r;have c:0<ins.length:=by have:=(s_ a).1;omega
  obtain⟨s,_⟩:=pM (g_ c);have t:=g _ _ s;obtain⟨b,j,d⟩:=l;obtain rfl:d=none:=by simpa [Addr.add] using World.cell?_spot t
  rw [Addr.add_mid] at m n;exact⟨b,j,rfl,p (fun e=>by rw [e] at a;cases a),m,by rw [Nat.add_assoc];exact n⟩
theorem fG(ins:List (ByteArray×Int)):(ins.flatMap iL).length=ins.length*2:=by
 induction ins with
 | nil=>rfl
 | cons a r b=>simp only [List.flatMap_cons,a_,b,c_,iL,z_];omega
theorem aG(ins:List (ByteArray×Int)):∀u∈ins.flatMap iL,u.oneCell'=true:=fun u b=>by obtain⟨i,_,a⟩:=List.mem_flatMap.1 b;simp only [iL,List.mem_cons,List.not_mem_nil,or_false] at a;rcases a with rfl | rfl<;>rfl
theorem newsI{g:Nat}{a b:Value}{T:TypeId}(h:w.heap[g]?=some (.cells #[a,b] T (0,0))):∀j u,[a,b][j]?=some u->w.cell? (Addr.add ⟨g,0,none⟩ j)=some u:=fun j u c=>by
 have e:(Addr.add ⟨g,0,none⟩ j:Addr)=⟨g,j,none⟩:=by rw [Addr.add_lit,Nat.zero_add]
 rw [e,aA h j];simpa using c
theorem add_block(a:Addr)(j:Nat):(a.add j).block=a.block:=by unfold Addr.add;first | rfl | (split<;>rfl)
theorem own_first{w1 w2:World}{base n:Nat}{v1:Value}{xs:List Value}(h:w2.ownsRow base FG 2 v1 (0+n) ([]++xs))(c:w1.grownBy w2 (Value.slice none 0 0).ownBlock)(d:Below w.heap.size w w1):w2.ownsRow base FG 2 v1 n xs/\Hid (Below w.heap.size w w2)/\Below w1.heap.size w1 w2/\∃b a,v1=.slice b n a:=by rw [Nat.zero_add,List.nil_append] at h;obtain⟨b,a,e,_⟩:=cJ h;exact⟨h,d.trans ((cS c).mono d.size),cS c,b,a,e⟩
theorem own_next{w2 w3:World}{base n:Nat}{v1 v2:Value}{xs:List Value}{a c:Value}{o:Obj}(f:Below w.heap.size w w2)(m:w.heap.size<=base)(g:w2.ownsRow base FG 2 v1 n xs)(h:w3.ownsRow base FG 2 v2 (n+1) (xs++[a,c]))(i:(w2.alloc o).grownBy w3 v1.ownBlock):Hid (Below w.heap.size w w3)/\∃d b,v2=.slice d (n+1) b:=by obtain⟨d,b,e,_⟩:=cJ h;have k:=f.size;exact⟨(f.alloc k o).grown i (by simp;omega) (fun j l=>by have:=(g.lt j l).1;omega),d,b,e⟩
end
section
open Go.ChangeShapes Go.WideShapes Go.ChangeAt Go.RowKit Go.Deep
theorem Tryz.bytesIn:prog.bytesOf 41=24:=by kernel_rfl
theorem qA{H:Type}{enc:TypeId×Value->H}{W:World}{r:Reach}{b0 base:Nat}{v:Value}{d:DataW H}{ps:List MemPlace}(l:Value.okWide prog W r b0 26 v)(N:DataW.Trod enc prog W base (fun _=>true) true 26 v d ps) :∃g,ScrV W v g/\(g.length=0\/∃I O,d=.slice I O/\I.length=g.length):=by
 obtain⟨a,b,t,rfl⟩:=okWide_slice underlying26 l;obtain⟨J,P⟩:=N;rcases open_slice_pairs underlying26 underlying41 Tryz.cellsIn rfl rfl Tryz.KU Tryz.P2 P with⟨o,K⟩ | ⟨w,L,M,m,n,x,y,Y,Z,P0,P1,o,_,Q,hm,A,K,p⟩
 ·simp only [Value.cells,List.cons.injEq,Value.slice.injEq,and_true] at o;obtain⟨rfl,rfl,rfl⟩:=o;exact⟨[],.inl ⟨rfl,rfl⟩,.inl rfl⟩
 ·simp only [Value.cells,List.cons.injEq,Value.slice.injEq,and_true] at o;obtain⟨rfl,rfl,rfl⟩:=o;simp only [if_true] at A;have f:∀i,i<b->∃(s:ByteArray)(z:Int),W.cell? (w.add (i*2))=some (.string s)/\W.cell? (w.add (i*2+1))=some (.int .i64 z)/\inOf (x i) (y i)=(s,z):=fun i hi=>by obtain⟨k,q,B,R⟩:=p i (by omega);obtain⟨s,C,_,e2⟩:=DataW.trod_string underlying9 B;obtain⟨z,D,_,_⟩:=DataW.trod_int underlying3 R;simp only [List.cons.injEq,and_true] at C D;rw [C] at k;rw [D] at q;exact⟨s,z,k,q,by rw [C,D];rfl⟩
  refine⟨(List.range b).map fun i=>inOf (x i) (y i),.inr ⟨w,t,by simp,by simpa using Q,fun E=>?_,fun j u F=>?_⟩,.inr ⟨_,_,(Prod.mk.inj K).1,by simp⟩⟩
  ·have S:0<b:=by
    rcases Nat.eq_zero_or_pos b with h | h
    ·subst h;exact absurd rfl E
    ·exact h
   obtain⟨s,z,k,_⟩:=f 0 S;have:=World.block_lt_of_cell? _ _ k
   rwa [add_block] at this
  ·have T:j<b*2:=by
    have:=(s_ F).1;rw [fG] at this;simpa using this
   obtain⟨s,z,k,q,B⟩:=f (j / 2) (by omega);have U:((List.range b).map fun i=>inOf (x i) (y i))[j / 2]?=some (s,z):=by rw [List.getElem?_map,List.getElem?_range (by omega)];exact congrArg some B
   obtain⟨V,X⟩:=pM U;rcases Nat.mod_two_eq_zero_or_one j with G | G
   ·have e:j=j / 2*2:=by omega
    have c:=F;rw [e,V] at c;rw [e,k,i_ c]
   ·have e:j=j / 2*2+1:=by omega
    have c:=F;rw [e,X] at c;rw [e,q,i_ c]
theorem kA{n:Int}(h:(Lit.int .i64 n).wf=true) : -9223372036854775808<=n/\n<=9223372036854775807:=by have a:(decide (-9223372036854775808<=n)&&decide (n<=9223372036854775807))=true:=h;simpa using a
theorem vN{H:Type}{d:List TypeId}{e:List (DataW H)}{b:DataW H}{ins:List (ByteArray×Int)}(f:(DataW.weightsEach prog (26::d) (b::e)).all (·<=reachBytes)=true)(h:ins.length=0\/∃a c,b=.slice a c/\a.length=ins.length):ins.length*24<=140737488351232:=by
 rcases h with h | ⟨a,c,rfl,h⟩
 ·omega
 ·have:=sized_slice f (j:=0) rfl rfl underlying26;rw [Tryz.bytesIn] at this;have g:reachBytes=140737488351232:=by decide
  rw [g] at this;omega
end
section
open Go.RowKit Go.Lib Go.Maps
def aGR(ins:List (ByteArray×Int)):List (ByteArray×Int):=ins.map (jT 500)
theorem aMR(w:World)(v:Value)(ins:List (ByteArray×Int))(hS:JF w v ins)(W:ins.length*24<=140737488351232) :Calls prog 31 #[v] w fun e X=>∃Y,e=.returned Y/\Below w.heap.size w X/\X.ownsRow w.heap.size FG 2 Y (aGR ins).length ((aGR ins).flatMap iL):=by
 obtain⟨P,C,D,E,F⟩:=info_parts Tryz.YM;obtain⟨ao,aa,rfl,Z,r⟩:=hS;have HC:=h_ r;clear r;go_enter func31,ntmps31;go_wp2_with fail
 go_loopw [3,4] (fun sv i wr=>∃k:Nat,k<=ins.length/\i=.int .i64 k/\Hid (Below w.heap.size w wr/\wr.ownsRow w.heap.size FG 2 sv k (((ins.take k).map (jT 500)).flatMap iL))) (fun _ i _=>ins.length-(RowKit.intOf i).toNat)
 case atStart=>exact⟨0,Nat.zero_le _,rfl,⟨r_,World.ownsRow_nil _ _ _ _⟩⟩
 case round =>
  obtain⟨k,hk,rfl,q⟩:=hrel;by_cases Q:k<ins.length
  ·obtain⟨i,R⟩:∃i,ins[k]?=some i:=⟨ins[k],g_ Q⟩
   obtain⟨g,y,rfl,hg,H,I⟩:=HC.out k i R;obtain⟨s,n⟩:=i;have c0:wr.cell? ⟨g,y+k*2,none⟩=some (.string s):=(q.1.cell (p:=⟨g,y+k*2,none⟩) hg).trans H;have c1:wr.cell? ⟨g,y+k*2+1,none⟩=some (.int .i64 n):=(q.1.cell (p:=⟨g,y+k*2+1,none⟩) hg).trans I;have ab:(k:Int)<(ins.length:Int):=by omega
   have S:=q.1.size;have z:=q.2.lt;have f:∀(x:Int)(M b:World)(m a:Nat),jT 500 (s,n)=(s,x)->Below w.heap.size w M->w.heap.size<=M.heap.size->b.ownsRow w.heap.size FG 2 (.slice (some ⟨m,0,none⟩) (k+1) a) (k+1) (((ins.take k).map (jT 500)).flatMap iL++[.string s,.int .i64 x])->M.grownBy b u3.ownBlock->Below w.heap.size w b/\b.ownsRow w.heap.size FG 2 (.slice (some ⟨m,0,none⟩) (k+1) a) (k+1) (((ins.take (k+1)).map (jT 500)).flatMap iL):=fun x M b m a l T U N O=>by refine⟨T.grown O U (fun j hj=>(z j hj).1),?_⟩;rw [List.take_add_one,R,Option.toList_some,List.map_append,List.flatMap_append,List.map_cons,List.map_nil,l];simpa [iL] using N
   have G:Hid (∀V o:Obj,Below w.heap.size w ((wr.alloc V).alloc o)):=fun V o=>(q.1.alloc S V).alloc (by simp;omega) o;clear R H I;by_cases N:500<n
   ·by_cases O:n<=1000000
    ·have l:jT 500 (s,n)=(s,500):=by unfold jT;rw [if_pos ⟨N,O⟩]
     have u:Hid ((wr.alloc (.cells #[.string s,.int .i64 500] FG)).ownsRow w.heap.size FG 2 u3 k (((ins.take k).map (jT 500)).flatMap iL)):=q.2.alloc _;have J:=(show Hid (∀(b:World)(o:Obj)(m a:Nat),b.ownsRow w.heap.size FG 2 (.slice (some ⟨m,0,none⟩) (k+1) a) (k+1) (((ins.take k).map (jT 500)).flatMap iL++[.string s,.int .i64 500])->((wr.alloc (.cells #[.string s,.int .i64 500] FG)).alloc o).grownBy b u3.ownBlock->Below w.heap.size w b/\b.ownsRow w.heap.size FG 2 (.slice (some ⟨m,0,none⟩) (k+1) a) (k+1) (((ins.take (k+1)).map (jT 500)).flatMap iL)) from fun b o m a K L=>f 500 _ b m a l (G _ o) (by simp;omega) K L)
     clear f l z q;go_wp2_with (first | (at_builtin;refine wpList_append_lies _ rfl _ _ 26 rfl w.heap.size 41 P (.agg #[.string ⟨#[]⟩,.int .i64 0]) 2 24 underlying26 C D E F rfl (by decide) u3 k _ rfl (u.alloc _) ⟨wr.heap.size+1,0,none⟩ 1 1 [.string s,.int .i64 500] rfl rfl (World.news_of_block (cs:=#[.string s,.int .i64 500]) (t:=41) (fr:=(0,0)) (kM wr _ _)) (fun x l=>by simp at l;rcases l with rfl | rfl<;>rfl) (by decide) (by unfold maxLen;omega) (by omega) (by simp;omega) (wr.heap.size+2) (by simp) ?_;intro g3 A b d c B _))
     go_roundw
     case rel=>exact⟨k+1,by omega,by go_num,J b _ _ _ d c⟩
     case measure=>simp [RowKit.intOf];omega
    ·have l:jT 500 (s,n)=(s,n):=by unfold jT;rw [if_neg (fun h=>O h.2)]
     have u:Hid ((wr.alloc (.cells #[.string s,.int .i64 n] FG)).ownsRow w.heap.size FG 2 u3 k (((ins.take k).map (jT 500)).flatMap iL)):=q.2.alloc _;have J:=(show Hid (∀(b:World)(o:Obj)(m a:Nat),b.ownsRow w.heap.size FG 2 (.slice (some ⟨m,0,none⟩) (k+1) a) (k+1) (((ins.take k).map (jT 500)).flatMap iL++[.string s,.int .i64 n])->((wr.alloc (.cells #[.string s,.int .i64 n] FG)).alloc o).grownBy b u3.ownBlock->Below w.heap.size w b/\b.ownsRow w.heap.size FG 2 (.slice (some ⟨m,0,none⟩) (k+1) a) (k+1) (((ins.take (k+1)).map (jT 500)).flatMap iL)) from fun b o m a K L=>f n _ b m a l (G _ o) (by simp;omega) K L)
     clear f l z q;go_wp2_with (first | (at_builtin;refine wpList_append_lies _ rfl _ _ 26 rfl w.heap.size 41 P (.agg #[.string ⟨#[]⟩,.int .i64 0]) 2 24 underlying26 C D E F rfl (by decide) u3 k _ rfl (u.alloc _) ⟨wr.heap.size+1,0,none⟩ 1 1 [.string s,.int .i64 n] rfl rfl (World.news_of_block (cs:=#[.string s,.int .i64 n]) (t:=41) (fr:=(0,0)) (kM wr _ _)) (fun x l=>by simp at l;rcases l with rfl | rfl<;>rfl) (by decide) (by unfold maxLen;omega) (by omega) (by simp;omega) (wr.heap.size+2) (by simp) ?_;intro g3 A b d c B _))
     go_roundw
     case rel=>exact⟨k+1,by omega,by go_num,J b _ _ _ d c⟩
     case measure=>simp [RowKit.intOf];omega
   ·have l:jT 500 (s,n)=(s,n):=by unfold jT;rw [if_neg (fun h=>N h.1)]
    have u:Hid ((wr.alloc (.cells #[.string s,.int .i64 n] FG)).ownsRow w.heap.size FG 2 u3 k (((ins.take k).map (jT 500)).flatMap iL)):=q.2.alloc _;have J:=(show Hid (∀(b:World)(o:Obj)(m a:Nat),b.ownsRow w.heap.size FG 2 (.slice (some ⟨m,0,none⟩) (k+1) a) (k+1) (((ins.take k).map (jT 500)).flatMap iL++[.string s,.int .i64 n])->((wr.alloc (.cells #[.string s,.int .i64 n] FG)).alloc o).grownBy b u3.ownBlock->Below w.heap.size w b/\b.ownsRow w.heap.size FG 2 (.slice (some ⟨m,0,none⟩) (k+1) a) (k+1) (((ins.take (k+1)).map (jT 500)).flatMap iL)) from fun b o m a K L=>f n _ b m a l (G _ o) (by simp;omega) K L)
    clear f l z q;go_wp2_with (first | (at_builtin;refine wpList_append_lies _ rfl _ _ 26 rfl w.heap.size 41 P (.agg #[.string ⟨#[]⟩,.int .i64 0]) 2 24 underlying26 C D E F rfl (by decide) u3 k _ rfl (u.alloc _) ⟨wr.heap.size+1,0,none⟩ 1 1 [.string s,.int .i64 n] rfl rfl (World.news_of_block (cs:=#[.string s,.int .i64 n]) (t:=41) (fr:=(0,0)) (kM wr _ _)) (fun x l=>by simp at l;rcases l with rfl | rfl<;>rfl) (by decide) (by unfold maxLen;omega) (by omega) (by simp;omega) (wr.heap.size+2) (by simp) ?_;intro g3 A b d c B _))
    go_roundw
    case rel=>exact⟨k+1,by omega,by go_num,J b _ _ _ d c⟩
    case measure=>simp [RowKit.intOf];omega
  ·obtain rfl:k=ins.length:=by omega
   have HF:=(show Hid (Below w.heap.size w wr/\wr.ownsRow w.heap.size FG 2 u3 (aGR ins).length ((aGR ins).flatMap iL)) from by
    have:=q.out;rw [List.take_length] at this;unfold aGR;rw [List.length_map]
    exact this)
   clear q;go_wp2_with fail;go_ret;exact⟨_,rfl,HF.1,HF.2⟩
theorem aK8(w:World)(v:Value)(ins:List (ByteArray×Int))(c:F8 w v ins)(d:ins.length<=GK)(h:Low w) :Calls prog 28 #[v] w fun e a=>∃b,e=.returned b/\Below w.heap.size w a/\KB a b (Pl.fses (AW,false) (ins.map B5)).2:=p_fast w v ins c d h.DI h.B3 h.JQ h.gt h.ge
def letT:ByteArray:=⟨#[40,108,101,116,32,40,40,108,32,49,41,41,32,108,41]⟩
def aJT:List (ByteArray×Int):=[(⟨#[55]⟩,2000),(⟨#[120]⟩,2000),(⟨#[40]⟩,2000),(letT,10),(⟨#[55]⟩,1000000)]
theorem aKX:(Pl.fses (AW,false) (aJT.map B5)).2=[⟨0,[],[55]⟩,⟨8,[],[]⟩,⟨2,[],[]⟩,⟨0,[],[49]⟩,⟨0,[],[55]⟩]:=by kernel_rfl
def aJU:Array Value:=#[.string ⟨#[55]⟩,.int .i64 2000,.string ⟨#[120]⟩,.int .i64 2000,.string ⟨#[40]⟩,.int .i64 2000,.string ⟨#[40,108,101,116,32,40,40,108,32,49,41,41,32,108,41]⟩,.int .i64 10,.string ⟨#[55]⟩,.int .i64 1000000]
theorem aKY(w:World):F8 (w.alloc (.cells aJU 41)) (.slice (some ⟨w.heap.size,0,none⟩) 5 5) aJT:=by refine qB (l:=aJT) (heap_alloc_new w _) (fun k i a=>?_) 5 (by decide);have b:k<5:=(s_ a).1;rcases(show k=0\/k=1\/k=2\/k=3\/k=4 from by omega) with rfl | rfl | rfl | rfl | rfl<;>(obtain rfl:=i_ a;exact⟨rfl,rfl⟩)
def QkQ(w w':World)(g cap:Nat):Prop:=Below w.heap.size w w'/\5<=cap/\g<w'.heap.size/\w'.cell? ⟨g,0,none⟩=some (.int .i64 0)/\w'.cell? ⟨g,1,none⟩=some (.string ⟨#[]⟩)/\w'.cell? ⟨g,2,none⟩=some (.string ⟨#[55]⟩)/\w'.cell? ⟨g,3,none⟩=some (.int .i64 8)/\w'.cell? ⟨g,6,none⟩=some (.int .i64 2)/\w'.cell? ⟨g,9,none⟩=some (.int .i64 0)/\w'.cell? ⟨g,10,none⟩=some (.string ⟨#[]⟩)/\w'.cell? ⟨g,11,none⟩=some (.string ⟨#[49]⟩)/\w'.cell? ⟨g,12,none⟩=some (.int .i64 0)/\w'.cell? ⟨g,13,none⟩=some (.string ⟨#[]⟩)/\w'.cell? ⟨g,14,none⟩=some (.string ⟨#[55]⟩)
theorem QkQ.later{w w1 w2:World}{g cap:Nat}(h:QkQ w w1 g cap)(a:Below w1.heap.size w1 w2):QkQ w w2 g cap:=by obtain⟨d,f,e,i,j,k,l,m,n,q,r,s,t,b⟩:=h;have c:∀{o:Nat} {x:Value},w1.cell? ⟨g,o,none⟩=some x->w2.cell? ⟨g,o,none⟩=some x:=fun {o} {x} u=>(a.cell (p:=⟨g,o,none⟩) e).trans u;exact⟨d.trans (a.mono d.size),f,l_ e a.size,c i,c j,c k,c l,c m,c n,c q,c r,c s,c t,c b⟩
theorem quick_q{w w':World}{rv:Value}(i:Below w.heap.size w w')(h:KB w' rv [⟨0,[],[55]⟩,⟨8,[],[]⟩,⟨2,[],[]⟩,⟨0,[],[49]⟩,⟨0,[],[55]⟩]):∃g a,rv=.slice (some ⟨g,0,none⟩) 5 a/\QkQ w w' g a:=by obtain⟨x,a,rfl,j,b⟩:=h;obtain⟨g,rfl,k,l,m,n⟩:=b 0 _ rfl;obtain⟨y,c,_,o,_,_⟩:=b 1 _ rfl;obtain⟨z,d,_,p,_,_⟩:=b 2 _ rfl;obtain⟨A,e,_,q,r,s⟩:=b 3 _ rfl;obtain⟨B,f,_,t,u,v⟩:=b 4 _ rfl;simp only [o_,Addr.mk.injEq,and_true] at c d e f;subst c d e f;exact⟨g,a,rfl,i,j,k,l,m,n,o,p,q,r,s,t,u,v⟩
theorem aNJ(w:World)(h:Low w):Calls prog 32 #[] w fun e b=>e=.returned (.bool true)/\Below w.heap.size w b:=by
 have F:Hid (∀(c:World)(s:ByteArray),Below w.heap.size w c->Calls prog 35 #[.string s] c fun e b=>e=.returned (.agg #[.string s,.int .i64 2000])/\Hid (Below w.heap.size w b)):=fun c s j=>(p_inK c s).mono (fun e b ⟨k,l⟩=>⟨k,j.trans (l.mono j.size)⟩);have r:Hid (∀f:World,Below w.heap.size w f->Calls prog 28 #[.slice (some ⟨f.heap.size,0,none⟩) 5 5] (f.alloc (.cells aJU 41)) fun e b=>∃g a,e=.returned (.slice (some ⟨g,0,none⟩) 5 a)/\Hid (QkQ w b g a)):=fun f j=>by have d:Below w.heap.size w (f.alloc (.cells aJU 41)):=j.alloc j.size _;refine(aK8 _ _ aJT (aKY f) (by decide) (h.below d)).mono (fun e b ⟨I,k,l,t⟩=>?_);rw [aKX] at t;obtain⟨g,a,rfl,q⟩:=quick_q (d.trans (l.mono d.size)) t;exact⟨g,a,k,q⟩
 have G:Hid (∀c g a (s:ByteArray),QkQ w c g a->Calls prog 39 #[.agg #[.int .i64 0,.string ⟨#[]⟩,.string s],.string s,.string ⟨#[]⟩] c fun e b=>e=.returned (.bool true)/\Hid (QkQ w b g a)):=fun c g a s q=>(aAT c 0 _ _ _ _).mono (fun e b ⟨k,l⟩=>⟨by rw [k];simp,q.later l⟩);unfold aJU at r;clear h;go_enter func32,ntmps32
 go_wp2_with (first
  | (go_at_call 35;refine(F _ _ (by first | exact m.out | exact r_)).mono ?_;rintro e c ⟨rfl,m⟩)
  | (go_at_call 28;refine(r _ m).mono ?_;rintro e J ⟨g,a,rfl,i⟩;obtain⟨_,n,H,u,v,x,y,z,A,B,C,D,E,o⟩:=i.out)
  | (go_at_call 39;refine(G _ _ _ _ i).mono ?_;rintro e K ⟨rfl,p⟩;clear i u v x y z A B C D E o;have i:=p;clear p;obtain⟨_,n,H,u,v,x,y,z,A,B,C,D,E,o⟩:=i.out))
 go_ret;exact⟨rfl,i.1⟩
end
end Go.Proofs.YtkgbdddkcjpgfaaGreatDoor
