import Derived.ProofKit
import Derived.LaidMore
import Derived.LaidHandle
import Derived.Stop.Joined
import Derived.Stop.LaidErr
import Derived.Test.YtkgbdddkcjpgfaaGreatDoorT51
namespace Go.Proofs.YtkgbdddkcjpgfaaGreatDoor
open Go.Proofs.Tryz
section
open Go.ChangeShapes Go.WideShapes Go.ChangeAt Go.RowKit
variable {W:World}
theorem Tryz.own:ownKnob prog.godebug=none:=by kernel_rfl
theorem Tryz.et:prog.globalNamed "errors.errorType"=some 0:=by kernel_rfl
theorem Tryz.rt:(prog.cutTypes.find? (·.1 == "internal/reflectlite.rtype")).map (·.2)=some 301:=by kernel_rfl
theorem Tryz.size:prog.types.size=538:=by kernel_rfl
theorem Tryz.oneRow:((List.range 538).filter fun t=>prog.rowNamed t [101,114,114,111,114])=[63]:=by kernel_rfl
theorem Tryz.UG:prog.globalNamed "strconv.ErrRange"=some 6:=by kernel_rfl
theorem Tryz.YS:(prog.globals[6]?).map (·.type)=some 63:=by kernel_rfl
theorem Tryz.ZA:prog.cellsOf 408=1:=by kernel_rfl
theorem Tryz.cellsS:prog.cellsOf 9=1:=by kernel_rfl
theorem TE : "*" ++ "errors.errorString" = "*errors.errorString":=by decide
theorem Tryz.rowES(u:TypeId)(h:prog.typeName? 3 u=some "*errors.errorString"):u=406 :=typeName_ptr_named (nm := "errors.errorString") (by rw [TE];kernel_rfl) (by kernel_rfl) (by decide) u (by rw [TE];exact h)
theorem kK(h:laidMetH prog Rows.slowsRow.laid W):GT W:=by
 have d:laidMet prog _ W/\handlesMet prog [("errors.errorType",Rows.laid_errors_errorType)] W:=h;obtain⟨a,u,e,f,g,i,j,b⟩:=d.2 _ (List.mem_singleton.2 rfl);have k:a=[101,114,114,111,114]:=(i_ f).symm;subst k;obtain rfl:=i_ (Tryz.rt.symm.trans g);have c:e∈(List.range 538).filter fun t=>prog.rowNamed t [101,114,114,111,114]:=List.mem_filter.2 ⟨List.mem_range.2 (by rw [<- Tryz.size];exact i),j⟩;rw [Tryz.oneRow] at c;obtain rfl:=List.mem_singleton.1 c;have l:typeHandle prog 63=.pointer (some ⟨8,63,none⟩):=by kernel_rfl
 rw [l] at b;simpa [GT] using World.var?_cell Tryz.et b 0
theorem lO(h:laidMetH prog Rows.slowsRow.laid W):GE W:=by have b:laidMet prog [("math/bits.deBruijn32tab",Rows.laid_math_bits_deBruijn32tab),("math/bits.deBruijn64tab",Rows.laid_math_bits_deBruijn64tab),("internal/strconv.uint64pow10",Rows.laid_internal_strconv_uint64pow10),("strconv.ErrRange",Rows.laid_strconv_ErrRange),("strconv.ErrSyntax",Rows.laid_strconv_ErrSyntax),("stepper/value.primitives",Rows.laid_stepper_value_primitives)] W/\handlesMet prog [("errors.errorType",Rows.laid_errors_errorType)] W:=h;obtain⟨c,d,a,_⟩:=laid_sentinel b.1.tail.tail.tail Tryz.UG Tryz.YS underlying63 Tryz.rowES underlying406 underlying408 rfl rfl underlying9 Tryz.ZA Tryz.cellsS;exact⟨_,by simpa using World.var?_cell Tryz.UG a 0,.inr ⟨_,_,rfl⟩⟩
theorem Tryz.gPow:prog.globalNamed "internal/strconv.uint64pow10"=some 2:=by kernel_rfl
theorem jO(h:laidMetH prog Rows.slowsRow.laid W):Lib.TabIs prog W oS .u64 Lib.pow10Tab/\EH W:=by have a:laidMet prog [("math/bits.deBruijn32tab",Rows.laid_math_bits_deBruijn32tab),("math/bits.deBruijn64tab",Rows.laid_math_bits_deBruijn64tab),("internal/strconv.uint64pow10",Rows.laid_internal_strconv_uint64pow10),("strconv.ErrRange",Rows.laid_strconv_ErrRange),("strconv.ErrSyntax",Rows.laid_strconv_ErrSyntax),("stepper/value.primitives",Rows.laid_stepper_value_primitives)] W/\handlesMet prog [("errors.errorType",Rows.laid_errors_errorType)] W:=h;exact⟨Lib.tabIs_of_head (n:=20) (t:=358) (e:=101) Tryz.gPow (by kernel_rfl) (by kernel_rfl) (by kernel_rfl) (by kernel_rfl) (by kernel_rfl) a.1.tail.tail,oQ a.1.tail.tail.tail.tail.tail⟩
theorem aAK(os:Os)(args:Array Value):laidMetH prog Rows.slowsRow.laid ((World.doorLaid prog 86 os).forCall (fun _ _=>0) ⟨#[],args,[]⟩).memory :=laidMetH_of_parts3 (fuel:=8) (laidMet_of_run' 8 (by kernel_rfl) (by kernel_rfl)) (by kernel_rfl) (by kernel_rfl)
theorem PJ(b:W.ShapedOpen prog)(a:laidMetH prog Rows.slowsRow.laid W):Low W:=⟨j9 b,(jO a).1,(jO a).2,kK a,lO a⟩
end
end Go.Proofs.YtkgbdddkcjpgfaaGreatDoor
