import Derived.LaidLaws
import Derived.HandedShaped
import Derived.ReadAgain
import Derived.ProofKit
import Derived.LaidMore
import Derived.LaidHandle
import Derived.Stop.Joined
import Derived.Stop.LaidErr
import Derived.SizedLaws
import Derived.Test.YtieooapcfpimlaaGreatDoorL31
import Derived.ChangeSlices
import Derived.Test.YtieooapcfpimlaaGreatDoorL52
namespace Go.Proofs.YtieooapcfpimlaaGreatDoor
set_option maxRecDepth 100000
open Go.Proofs.Tryz
section
open Go
section
variable {H:Type} {enc:TypeId×Value->H}
end
section
variable {H:Type} {enc:TypeId×Value->H}
theorem handed_of_change_shaped {a : Assume} {C : Checked} {os : Os} {f : FuncId} {fn : Func} {s : ChangeSpec} {conds : List PathCond} {apart fresh handsOn again : Bool} {X : World → Array Value → Prop}
    (hX : ∀ (w w' : World) (args : Array Value), w.heap = w'.heap → X w args → X w' args)
    (own : ownKnob C.prog.godebug = none) (started : os.Started) (noInit : C.prog.inits.idxOf? f = none) (hfn : C.prog.funcs[f]? = some fn)
    (witness : ∃ (w : World) (tape : Tape) (i : Input), w.os = os ∧ (w.forCall tape i).Shaped C.prog ∧ i.vars = [] ∧ Input.okWide C.prog (w.forCall tape i) .any w.heap.size f i ∧
      ((s.pre enc C.prog fn conds apart (w.forCall tape i).memory i.args ∧ X (w.forCall tape i).memory i.args) ∧ sizedMet enc C.prog fn (OpenSpec.ofChange s) apart (w.forCall tape i).memory i.args) ∧ a.holds C.prog (lone (Frame.enter C.prog f i.args .normal) [] (w.forCall tape i)))
    (contract : ∀ (W : World) (base : Nat) (args : Array Value) (ds gs : List (DataW H)) (before : List MemPlace), W.ShapedOpen C.prog →
      (∀ (j : Nat) t v, fn.params[j]? = some t → args[j]? = some v → Value.okWide C.prog W .any base t v) →
      DataW.Whole enc C.prog fn.params.toList s.vars apart W args.toList ds gs before →
      conds.all (PathCond.test C.prog ⟨fn.params.toList, ds, s.plain.varTypes C.prog, gs⟩) = true →
      (DataW.weightsEach C.prog (fn.params.toList ++ s.plain.varTypes C.prog) (ds ++ gs)).all (· ≤ reachBytes) = true → X W args →
      Calls C.prog f args W fun e W' => ∃ v, e = .returned v ∧ s.post enc C.prog fn apart fresh handsOn again W args v W') :
    ReturnsInHanded a C os f .any (fun w args => (s.pre enc C.prog fn conds apart w args ∧ X w args) ∧ sizedMet enc C.prog fn (OpenSpec.ofChange s) apart w args) (s.post enc C.prog fn apart fresh handsOn again) := by
  refine returnsInHanded_of_calls own started noInit witness ?_
  intro w tape i _ hsh _ hok hpre _
  obtain ⟨_, _, _, fn', hfn', _, _, _, _, hval⟩ := hok
  have e : fn' = fn := Option.some.inj (hfn'.symm.trans hfn)
  subst e
  obtain ⟨⟨⟨ds, gs, before, hw, hc⟩, hx⟩, hz⟩ := hpre
  have hw' := DataW.Whole.of_heap (w' := w.forCall tape i) (by rfl) hw
  refine (contract (w.forCall tape i) w.heap.size i.args ds gs before hsh hval hw' hc (hz.weights hw) (hX _ _ _ (by rfl) hx)).mono fun e W' ⟨v, he, hp⟩ => ?_
  subst he
  exact ChangeSpec.post_blind hp
end
theorem Tryz.glob7:(((begin prog (fun _ _=>0) default).world.heap[7]?).bind Obj.row?).isSome=true:=by kernel_rfl
theorem Tryz.globN:7<prog.globals.size:=of_decide_eq_true (by kernel_rfl)
theorem size_of_shaped{W:World}(h:W.ShapedOpen prog):8<=W.heap.size:=by obtain⟨⟨z,t⟩,a⟩:=Option.isSome_iff_exists.1 Tryz.glob7;obtain⟨c,b,_⟩:=h.1 7 z t Tryz.globN a;have:=(Array.getElem?_eq_some_iff.1 b).1;omega
end
section
open Go.ChangeShapes Go.WideShapes Go.ChangeAt Go.RowKit
variable {W:World}
theorem Tryz.own:ownKnob prog.godebug=none:=by kernel_rfl
theorem Tryz.et:prog.globalNamed "errors.errorType"=some 2:=by kernel_rfl
theorem Tryz.rt:(prog.cutTypes.find? (·.1 == "internal/reflectlite.rtype")).map (·.2)=some 159:=by kernel_rfl
theorem Tryz.size:prog.types.size=418:=by kernel_rfl
theorem Tryz.oneRow:((List.range 418).filter fun t=>prog.rowNamed t [101,114,114,111,114])=[65]:=by kernel_rfl
theorem Tryz.UG:prog.globalNamed "strconv.ErrRange"=some 6:=by kernel_rfl
theorem Tryz.YS:(prog.globals[6]?).map (·.type)=some 65:=by kernel_rfl
theorem Tryz.ZA:prog.cellsOf 238=1:=by kernel_rfl
theorem Tryz.cellsS:prog.cellsOf 9=1:=by kernel_rfl
theorem TE : "*" ++ "errors.errorString" = "*errors.errorString":=by decide
theorem Tryz.rowES(u:TypeId)(h:prog.typeName? 3 u=some "*errors.errorString"):u=236 :=typeName_ptr_named (nm := "errors.errorString") (by rw [TE];kernel_rfl) (by kernel_rfl) (by decide) u (by rw [TE];exact h)
theorem kK(h:laidMetH prog Rows.listedRow.laid W):GT W:=by
 have d:laidMet prog _ W/\handlesMet prog [("errors.errorType",Rows.laid_errors_errorType)] W:=h;obtain⟨a,u,e,f,g,i,j,b⟩:=d.2 _ (List.mem_singleton.2 rfl);have k:a=[101,114,114,111,114]:=(i_ f).symm;subst k;obtain rfl:=i_ (Tryz.rt.symm.trans g);have c:e∈(List.range 418).filter fun t=>prog.rowNamed t [101,114,114,111,114]:=List.mem_filter.2 ⟨List.mem_range.2 (by rw [<- Tryz.size];exact i),j⟩;rw [Tryz.oneRow] at c;obtain rfl:=List.mem_singleton.1 c;have l:typeHandle prog 65=.pointer (some ⟨8,65,none⟩):=by kernel_rfl
 rw [l] at b;simpa [GT] using World.var?_cell Tryz.et b 0
theorem lO(h:laidMetH prog Rows.listedRow.laid W):GE W:=by have b:laidMet prog [("math/bits.deBruijn32tab",Rows.laid_math_bits_deBruijn32tab),("math/bits.deBruijn64tab",Rows.laid_math_bits_deBruijn64tab),("internal/strconv.uint64pow10",Rows.laid_internal_strconv_uint64pow10),("strconv.ErrRange",Rows.laid_strconv_ErrRange),("strconv.ErrSyntax",Rows.laid_strconv_ErrSyntax),("stepper/value.primitives",Rows.laid_stepper_value_primitives)] W/\handlesMet prog [("errors.errorType",Rows.laid_errors_errorType)] W:=h;obtain⟨c,d,a,_⟩:=laid_sentinel b.1.tail.tail.tail Tryz.UG Tryz.YS underlying65 Tryz.rowES underlying236 underlying238 rfl rfl underlying9 Tryz.ZA Tryz.cellsS;exact⟨_,by simpa using World.var?_cell Tryz.UG a 0,.inr ⟨_,_,rfl⟩⟩
theorem Tryz.gPow:prog.globalNamed "internal/strconv.uint64pow10"=some 1:=by kernel_rfl
theorem jO(h:laidMetH prog Rows.listedRow.laid W):Lib.TabIs prog W oS .u64 Lib.pow10Tab/\EH W:=by have a:laidMet prog [("math/bits.deBruijn32tab",Rows.laid_math_bits_deBruijn32tab),("math/bits.deBruijn64tab",Rows.laid_math_bits_deBruijn64tab),("internal/strconv.uint64pow10",Rows.laid_internal_strconv_uint64pow10),("strconv.ErrRange",Rows.laid_strconv_ErrRange),("strconv.ErrSyntax",Rows.laid_strconv_ErrSyntax),("stepper/value.primitives",Rows.laid_stepper_value_primitives)] W/\handlesMet prog [("errors.errorType",Rows.laid_errors_errorType)] W:=h;exact⟨Lib.tabIs_of_head (n:=20) (t:=97) (e:=69) Tryz.gPow (by kernel_rfl) (by kernel_rfl) (by kernel_rfl) (by kernel_rfl) (by kernel_rfl) a.1.tail.tail,oQ a.1.tail.tail.tail.tail.tail⟩
theorem aAK(os:Os)(args:Array Value):laidMetH prog Rows.listedRow.laid ((World.doorLaid prog 86 os).forCall (fun _ _=>0) ⟨#[],args,[]⟩).memory :=laidMetH_of_parts3 (fuel:=8) (laidMet_of_run' 8 (by kernel_rfl) (by kernel_rfl)) (by kernel_rfl) (by kernel_rfl)
theorem PJ(b:W.ShapedOpen prog)(a:laidMetH prog Rows.listedRow.laid W):Low W:=⟨size_of_shaped b,(jO a).1,(jO a).2,kK a,lO a⟩
end
section
open Go.ChangeShapes Go.WideShapes Go.ChangeAt Go.RowKit Go.Deep
theorem kA{n:Int}(h:(Lit.int .i64 n).wf=true) : -9223372036854775808<=n/\n<=9223372036854775807:=by have a:(decide (-9223372036854775808<=n)&&decide (n<=9223372036854775807))=true:=h;simpa using a
end
section
open Go
theorem aSK:Rows.listedRow.wf (OpenSpec.ofChange Rows.listedSpec)=true:=by kernel_rfl
theorem aSJ:Tryz.f3.params.all (prog.readableRec ·)=true:=by kernel_rfl
theorem aSI:namedTie prog Rows.listedRow.named Rows.listedSpec.vars=true:=by kernel_rfl
theorem aSF:(Rows.listedRow.inPlace==prog.inPlace 3)=true:=by kernel_rfl
theorem aSE:(Rows.listedRow.unfollowed==prog.unfollowed 3)=true:=by kernel_rfl
theorem aSD:(Rows.listedRow.recurses==prog.recurses 3)=true:=by kernel_rfl
theorem aSC:(Rows.listedRow.named==prog.varsNamed 3)=true:=by kernel_rfl
theorem aSB:(Rows.listedRow.maps==(Tryz.f3.params.toList++Rows.listedSpec.plain.varTypes prog).any (prog.mapsRec ·))=true:=by kernel_rfl
theorem aSA:(Rows.listedRow.ifaces==(Tryz.f3.params.toList++Rows.listedSpec.plain.varTypes prog).any (prog.ifacesRec ·))=true:=by kernel_rfl
theorem aR9:(Rows.listedRow.mapsOut==prog.mapsAmong Tryz.f3.resultTypes.toList)=true:=by kernel_rfl
theorem aR8:(Rows.listedRow.loops==(Tryz.f3.params.toList++Rows.listedSpec.plain.varTypes prog).any (prog.loopsFrom ·))=true:=by kernel_rfl
theorem aRT:(Rows.listedRow.wideKeys==(Tryz.f3.params.toList++Rows.listedSpec.plain.varTypes prog++Tryz.f3.resultTypes.toList).any (prog.wideKeysFrom ·))=true:=by kernel_rfl
theorem aR7:Rows.listedSpec.vars.all (prog.varReadable ·)=true:=by kernel_rfl
theorem aR6:Tryz.f3.resultTypes.all (fun t=>prog.readableRec t&&decide (t<prog.types.size))=true:=by kernel_rfl
theorem aR5:(Rows.listedRow.ifacesOut==Tryz.f3.resultTypes.toList.any (prog.ifacesRec ·))=true:=by kernel_rfl
theorem aR4:(Rows.listedRow.loopsOut==Tryz.f3.resultTypes.toList.any (prog.loopsFrom ·))=true:=by kernel_rfl
theorem aR3:(Rows.listedRow.pinned==Rows.listedRow.pinnedBy)=true:=by kernel_rfl
theorem aR2:(Rows.listedRow.veiled==(Tryz.f3.params.toList++Rows.listedSpec.plain.varTypes prog++Tryz.f3.resultTypes.toList).any (prog.veiledRec ·))=true:=by kernel_rfl
theorem aR1:Rows.listedRow.veiledFits prog Tryz.f3.params.toList (Tryz.f3.params.toList++Rows.listedSpec.plain.varTypes prog++Tryz.f3.resultTypes.toList)=true:=by kernel_rfl
theorem aRP:joinedFacts prog 3 Tryz.f3 Rows.listedSpec Rows.listedRow=true:=nW aSK Tryz.fLaid Tryz.fMaps aSJ aSI rfl Tryz.fStops rfl Tryz.fKnobs aSF aSE aSD aSC aSB aSA aR9 aR8 aRT aR7 aR6 aR5 aR4 Tryz.fPlain rfl Tryz.fHeard Tryz.fEnter Tryz.fLifts Tryz.fMake rfl rfl aR3 aR2 aR1
end
section
open Go.ChangeShapes Go.WideShapes Go.ChangeAt Go.RowKit Go.Deep
def InL(t:TypeId):Prop:=t=22\/t=3
theorem kidsL:Kids prog InL:=by
 refine⟨fun {t e} a h=>?_,fun {t e} a h=>?_,fun {t e n} a h=>?_,fun {t b} a h=>?_,fun {t k e} a h=>?_⟩
 all_goals
  rcases a with rfl | rfl
  ·rw [underlying22] at h
   cases h<;>exact .inr rfl
  ·rw [underlying3] at h
   cases h
theorem Tryz.cellsIL:prog.cellsOf 3=1:=by kernel_rfl
theorem aRU{H:Type}{enc:TypeId×Value->H}{W W':World}{v:Value}{d:DataW H}{ps:List MemPlace}(c:DataW.Trod enc prog W 0 (fun _=>true) true 22 v d ps)(a:∀p∈ps,p.block<W.heap.size)(f:Below W.heap.size W W'):DataW.Trod enc prog W' 0 (fun b=>decide (b<W.heap.size)) true 22 v d ps :=
 (rK c a f).respare kidsL (fun t e g h=>by
  rcases g with rfl | rfl
  ·rw [underlying22] at h;cases h;rw [Tryz.cellsIL];omega
  ·rw [underlying3] at h;cases h) (.inl rfl) (fun p i=>decide_eq_true (a p i))
theorem aSG{H:Type}{enc:TypeId×Value->H}{W:World}{r:Reach}{b0 base:Nat}{v:Value}{d:DataW H}{ps:List MemPlace}(g:Value.okWide prog W r b0 22 v)(A:DataW.Trod enc prog W base (fun _=>true) true 22 v d ps):∃l,IntsIn W v l:=by
 obtain⟨a,o,p,rfl⟩:=okWide_slice underlying22 g;obtain⟨t,B⟩:=A;rcases open_ints underlying22 underlying3 Tryz.cellsIL B with⟨h,C⟩ | ⟨u,w,x,y,h,_,D,F,j,C,c,q⟩
 ·simp only [Value.cells,List.cons.injEq,Value.slice.injEq,and_true] at h;obtain⟨rfl,rfl,rfl⟩:=h;exact⟨[],none,0,rfl,n_,fun k i f=>by cases f⟩
 ·simp only [Value.cells,List.cons.injEq,Value.slice.injEq,and_true] at h;obtain⟨rfl,rfl,rfl⟩:=h;simp only [if_true] at j;refine⟨y.take o,some u,p,by rw [List.length_take,j,Nat.min_eq_left D],by rw [List.length_take];omega,fun k i f=>?_⟩;rw [List.getElem?_take] at f;split at f
  ·rename_i G;have n:=c k (by omega);have e:y.getD k 0=i:=by rw [List.getD_eq_getElem?_getD,f];rfl
   rw [e] at n;have z:=kA (q i (q_ f));have E:=c 0 (by omega);obtain⟨b,s,m⟩:=u;obtain rfl:m=none:=by simpa [Addr.add] using World.cell?_spot E
   rw [Addr.add_mid] at n;exact⟨b,s,rfl,World.block_lt_of_cell? _ _ n,n,z.1,z.2⟩
  ·cases f
theorem aRO(os:Os)(b:os.Started)(H:Type)(enc:TypeId×Value->H):ReturnsInHanded {} checked os 3 .any (fun w a=>(Rows.listedSpec.pre enc prog Tryz.f3 [] false w a/\laidMetH prog Rows.listedRow.laid w)/\sizedMet enc prog Tryz.f3 (OpenSpec.ofChange Rows.listedSpec) false w a)
   (Rows.listedSpec.post enc prog Tryz.f3 false true false false):=by
 refine handed_of_change_shaped (C:=checked) (X:=fun w _=>laidMetH prog Rows.listedRow.laid w) (fun _ _ _ z h=>h.of_heap z) Tryz.own b (by kernel_rfl) func3
  (ChangeSpec.witness_shaped (enc:=enc) (C:=checked) (os:=os) (X:=fun w _=>laidMetH prog Rows.listedRow.laid w) false (World.doorLaid prog 86 os) #[.slice none 0 0] 8 rfl (World.shaped_of_RefB (by kernel_rfl) (by kernel_rfl)) (by kernel_rfl) (by kernel_rfl) (by kernel_rfl) (aAK os _)) ?_
 intro W f a A L k m c s _ B D;have d:∀(j:Nat) t v,Tryz.f3.params[j]?=some t->a[j]?=some v->Value.okWide prog W .any f t v:=c;have g:=s;obtain⟨p,q,i,E,rfl,G,I⟩:=s;have n:DataW.TrodAll enc prog W 0 (fun _=>true) true Tryz.f3.params.toList a.toList A p:=i;rw [params3] at n d B;obtain⟨u,M,rfl,rfl,y⟩:=trodAll_one n;obtain⟨rfl,rfl⟩:=trodVars_none E;have o:∀x∈p,x.block<W.heap.size:=DataW.TrodAll.lt n;obtain⟨l,J⟩:=aSG (d 0 22 u rfl rfl) y;clear i c;simp only [List.append_nil] at g;refine(aSH W u l J (PJ m D)).mono fun e N ⟨K,r⟩=>?_;subst K;refine⟨_,rfl,_,_,_,[],p,[],g,?_,?_,?_,r.frame _,fun h=>by cases h⟩
 ·exact trodAll_mk1 (shut_bool underlying4 true)
 ·exact trodAll_mk1 (aRU y o r)
 ·rfl
theorem aRR:Rows.ListedSaid :=
 OpenClaim.holds_of_wide 3 Tryz.f3 rfl rfl rfl rfl rfl rfl rfl ⟨rfl,rfl,rfl,rfl,rfl⟩ rfl rfl rfl rfl rfl (by kernel_rfl) func3 aRP
  (of_decide_eq_true (by kernel_rfl)) (by unfold Func.isWrapper;rw [if_neg (of_decide_eq_false (by kernel_rfl))];exact⟨rfl,rfl⟩)
  (fun b a H enc _=>aRO b a H enc)
end
end Go.Proofs.YtieooapcfpimlaaGreatDoor
