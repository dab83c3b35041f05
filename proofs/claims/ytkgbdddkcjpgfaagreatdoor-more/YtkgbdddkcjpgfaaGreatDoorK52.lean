import Derived.Test.YtkgbdddkcjpgfaaGreatDoorRows
import Derived.JoinedOf
import Derived.KernelRfl
namespace Go.Proofs.YtkgbdddkcjpgfaaGreatDoor
open Go.Proofs.Tryz
section
open Go
theorem Tryz.fLaid:laidOutB prog=true:=by kernel_rfl
theorem Tryz.fMaps:mapsRowed prog=true:=by kernel_rfl
theorem Tryz.fStops:(prog.stops==[])=true:=by kernel_rfl
theorem Tryz.fKnobs:(prog.stopKnobs==[])=true:=by kernel_rfl
theorem Tryz.fHeard:prog.stopsHeard=true:=by kernel_rfl
theorem Tryz.fEnter:prog.mayEnter=true:=by kernel_rfl
theorem Tryz.fLifts:(Rows.checksRow.lifted==prog.liftsFinal)=true:=by kernel_rfl
theorem Tryz.fMake:(prog.make==some Rows.checksRow.make)=true:=by kernel_rfl
theorem Tryz.fPlain:(Rows.checksRow.plainKeys==prog.plainKeys)=true:=by kernel_rfl
theorem nW{P:Program}{f:FuncId}{fn:Func}{s:ChangeSpec}{c:OpenClaim}
  (k1:c.wf (OpenSpec.ofChange s)=true) (k2:laidOutB P=true) (k3:mapsRowed P=true) (k4:fn.params.all (P.readableRec ·)=true) (k5:namedTie P c.named s.vars=true)
  (k6:(c.stops==[])=true) (k7:(P.stops==[])=true) (k8:(c.knobs==[])=true) (k9:(P.stopKnobs==[])=true)
  (k10:(c.inPlace==P.inPlace f)=true) (k11:(c.unfollowed==P.unfollowed f)=true) (k12:(c.recurses==P.recurses f)=true) (k13:(c.named==P.varsNamed f)=true)
  (k14:(c.maps==(fn.params.toList++s.plain.varTypes P).any (P.mapsRec ·))=true) (k15:(c.ifaces==(fn.params.toList++s.plain.varTypes P).any (P.ifacesRec ·))=true) (k16:(c.mapsOut==P.mapsAmong fn.resultTypes.toList)=true)
  (k17:(c.loops==(fn.params.toList++s.plain.varTypes P).any (P.loopsFrom ·))=true) (k17b:(c.wideKeys==(fn.params.toList++s.plain.varTypes P++fn.resultTypes.toList).any (P.wideKeysFrom ·))=true)
  (k18:s.vars.all (P.varReadable ·)=true) (k19:fn.resultTypes.all (fun t=>P.readableRec t&&decide (t<P.types.size))=true) (k20:(c.ifacesOut==fn.resultTypes.toList.any (P.ifacesRec ·))=true) (k21:(c.loopsOut==fn.resultTypes.toList.any (P.loopsFrom ·))=true) (k22:(c.plainKeys==P.plainKeys)=true) (k23:c.shortTexts.isNone=true) (k23b:P.stopsHeard=true) (k24:P.mayEnter=true) (k24b:(c.lifted==P.liftsFinal)=true) (k24c:(P.make==some c.make)=true)
  (hd:c.domain.isEmpty=true) (k25:(c.kinds==[])=true) (k26:(c.pinned==c.pinnedBy)=true)
  (k27:(c.veiled==(fn.params.toList++s.plain.varTypes P++fn.resultTypes.toList).any (P.veiledRec ·))=true) (k28:c.veiledFits P fn.params.toList (fn.params.toList++s.plain.varTypes P++fn.resultTypes.toList)=true):joinedFacts P f fn s c=true:=by
 unfold joinedFacts;rw [k1,k2,k3,k4,k5,k6,k7,k8,k9,k10,k11,k12,k13,k14,k15,k16,k17,k17b,k18,k19,k20,k21,k22,k23,k23b,k24,k24b,k24c,if_pos hd,k25,k26,k27,k28];rfl
theorem more_1:Rows.moreRow.wf (OpenSpec.ofChange Rows.moreSpec)=true:=by kernel_rfl
theorem more_4:Tryz.f6.params.all (prog.readableRec ·)=true:=by kernel_rfl
theorem more_5:namedTie prog Rows.moreRow.named Rows.moreSpec.vars=true:=by kernel_rfl
theorem more_10:(Rows.moreRow.inPlace==prog.inPlace 6)=true:=by kernel_rfl
theorem more_11:(Rows.moreRow.unfollowed==prog.unfollowed 6)=true:=by kernel_rfl
theorem more_12:(Rows.moreRow.recurses==prog.recurses 6)=true:=by kernel_rfl
theorem more_13:(Rows.moreRow.named==prog.varsNamed 6)=true:=by kernel_rfl
theorem more_14:(Rows.moreRow.maps==(Tryz.f6.params.toList++Rows.moreSpec.plain.varTypes prog).any (prog.mapsRec ·))=true:=by kernel_rfl
theorem more_15:(Rows.moreRow.ifaces==(Tryz.f6.params.toList++Rows.moreSpec.plain.varTypes prog).any (prog.ifacesRec ·))=true:=by kernel_rfl
theorem more_16:(Rows.moreRow.mapsOut==prog.mapsAmong Tryz.f6.resultTypes.toList)=true:=by kernel_rfl
theorem more_17:(Rows.moreRow.loops==(Tryz.f6.params.toList++Rows.moreSpec.plain.varTypes prog).any (prog.loopsFrom ·))=true:=by kernel_rfl
theorem aAW:(Rows.moreRow.wideKeys==(Tryz.f6.params.toList++Rows.moreSpec.plain.varTypes prog++Tryz.f6.resultTypes.toList).any (prog.wideKeysFrom ·))=true:=by kernel_rfl
theorem more_18:Rows.moreSpec.vars.all (prog.varReadable ·)=true:=by kernel_rfl
theorem more_19:Tryz.f6.resultTypes.all (fun t=>prog.readableRec t&&decide (t<prog.types.size))=true:=by kernel_rfl
theorem more_20:(Rows.moreRow.ifacesOut==Tryz.f6.resultTypes.toList.any (prog.ifacesRec ·))=true:=by kernel_rfl
theorem more_21:(Rows.moreRow.loopsOut==Tryz.f6.resultTypes.toList.any (prog.loopsFrom ·))=true:=by kernel_rfl
theorem more_26:(Rows.moreRow.pinned==Rows.moreRow.pinnedBy)=true:=by kernel_rfl
theorem more_27:(Rows.moreRow.veiled==(Tryz.f6.params.toList++Rows.moreSpec.plain.varTypes prog++Tryz.f6.resultTypes.toList).any (prog.veiledRec ·))=true:=by kernel_rfl
theorem more_28:Rows.moreRow.veiledFits prog Tryz.f6.params.toList (Tryz.f6.params.toList++Rows.moreSpec.plain.varTypes prog++Tryz.f6.resultTypes.toList)=true:=by kernel_rfl
theorem j6:joinedFacts prog 6 Tryz.f6 Rows.moreSpec Rows.moreRow=true:=nW more_1 Tryz.fLaid Tryz.fMaps more_4 more_5 rfl Tryz.fStops rfl Tryz.fKnobs more_10 more_11 more_12 more_13 more_14 more_15 more_16 more_17 aAW more_18 more_19 more_20 more_21 Tryz.fPlain rfl Tryz.fHeard Tryz.fEnter Tryz.fLifts Tryz.fMake rfl rfl more_26 more_27 more_28
end
end Go.Proofs.YtkgbdddkcjpgfaaGreatDoor
