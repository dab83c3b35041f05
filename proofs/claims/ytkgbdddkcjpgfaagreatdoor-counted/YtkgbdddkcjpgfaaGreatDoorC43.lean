import Derived.Test.YtkgbdddkcjpgfaaGreatDoorRows
import Derived.JoinedOf
import Derived.KernelRfl
namespace Go.Proofs.YtkgbdddkcjpgfaaGreatDoor
open Go.Proofs.Tryz
section
open Go
theorem Tryz.fLaid:laidOutB prog=true:=by kernel_rfl
theorem Tryz.fMaps:mapsRowed prog=true:=by kernel_rfl
theorem Tryz.fStops:(prog.stops==[])=true:=by kernel_rfl
theorem Tryz.fKnobs:(prog.stopKnobs==[])=true:=by kernel_rfl
theorem Tryz.fHeard:prog.stopsHeard=true:=by kernel_rfl
theorem Tryz.fEnter:prog.mayEnter=true:=by kernel_rfl
theorem Tryz.fLifts:(Rows.checksRow.lifted==prog.liftsFinal)=true:=by kernel_rfl
theorem Tryz.fMake:(prog.make==some Rows.checksRow.make)=true:=by kernel_rfl
theorem Tryz.fPlain:(Rows.checksRow.plainKeys==prog.plainKeys)=true:=by kernel_rfl
theorem nW{P:Program}{f:FuncId}{fn:Func}{s:ChangeSpec}{c:OpenClaim}
  (k1:c.wf (OpenSpec.ofChange s)=true) (k2:laidOutB P=true) (k3:mapsRowed P=true) (k4:fn.params.all (P.readableRec ·)=true) (k5:namedTie P c.named s.vars=true)
  (k6:(c.stops==[])=true) (k7:(P.stops==[])=true) (k8:(c.knobs==[])=true) (k9:(P.stopKnobs==[])=true)
  (k10:(c.inPlace==P.inPlace f)=true) (k11:(c.unfollowed==P.unfollowed f)=true) (k12:(c.recurses==P.recurses f)=true) (k13:(c.named==P.varsNamed f)=true)
  (k14:(c.maps==(fn.params.toList++s.plain.varTypes P).any (P.mapsRec ·))=true) (k15:(c.ifaces==(fn.params.toList++s.plain.varTypes P).any (P.ifacesRec ·))=true) (k16:(c.mapsOut==P.mapsAmong fn.resultTypes.toList)=true)
  (k17:(c.loops==(fn.params.toList++s.plain.varTypes P).any (P.loopsFrom ·))=true) (k17b:(c.wideKeys==(fn.params.toList++s.plain.varTypes P++fn.resultTypes.toList).any (P.wideKeysFrom ·))=true)
  (k18:s.vars.all (P.varReadable ·)=true) (k19:fn.resultTypes.all (fun t=>P.readableRec t&&decide (t<P.types.size))=true) (k20:(c.ifacesOut==fn.resultTypes.toList.any (P.ifacesRec ·))=true) (k21:(c.loopsOut==fn.resultTypes.toList.any (P.loopsFrom ·))=true) (k22:(c.plainKeys==P.plainKeys)=true) (k23:c.shortTexts.isNone=true) (k23b:P.stopsHeard=true) (k24:P.mayEnter=true) (k24b:(c.lifted==P.liftsFinal)=true) (k24c:(P.make==some c.make)=true)
  (hd:c.domain.isEmpty=true) (k25:(c.kinds==[])=true) (k26:(c.pinned==c.pinnedBy)=true)
  (k27:(c.veiled==(fn.params.toList++s.plain.varTypes P++fn.resultTypes.toList).any (P.veiledRec ·))=true) (k28:c.veiledFits P fn.params.toList (fn.params.toList++s.plain.varTypes P++fn.resultTypes.toList)=true):joinedFacts P f fn s c=true:=by
 unfold joinedFacts;rw [k1,k2,k3,k4,k5,k6,k7,k8,k9,k10,k11,k12,k13,k14,k15,k16,k17,k17b,k18,k19,k20,k21,k22,k23,k23b,k24,k24b,k24c,if_pos hd,k25,k26,k27,k28];rfl
theorem aDT:Rows.countedRow.wf (OpenSpec.ofChange Rows.countedSpec)=true:=by kernel_rfl
theorem aDS:Tryz.f7.params.all (prog.readableRec ·)=true:=by kernel_rfl
theorem aDR:namedTie prog Rows.countedRow.named Rows.countedSpec.vars=true:=by kernel_rfl
theorem aC1:(Rows.countedRow.inPlace==prog.inPlace 7)=true:=by kernel_rfl
theorem aC0:(Rows.countedRow.unfollowed==prog.unfollowed 7)=true:=by kernel_rfl
theorem aCZ:(Rows.countedRow.recurses==prog.recurses 7)=true:=by kernel_rfl
theorem aCY:(Rows.countedRow.named==prog.varsNamed 7)=true:=by kernel_rfl
theorem aCX:(Rows.countedRow.maps==(Tryz.f7.params.toList++Rows.countedSpec.plain.varTypes prog).any (prog.mapsRec ·))=true:=by kernel_rfl
theorem aCW:(Rows.countedRow.ifaces==(Tryz.f7.params.toList++Rows.countedSpec.plain.varTypes prog).any (prog.ifacesRec ·))=true:=by kernel_rfl
theorem aCV:(Rows.countedRow.mapsOut==prog.mapsAmong Tryz.f7.resultTypes.toList)=true:=by kernel_rfl
theorem aCU:(Rows.countedRow.loops==(Tryz.f7.params.toList++Rows.countedSpec.plain.varTypes prog).any (prog.loopsFrom ·))=true:=by kernel_rfl
theorem aB6:(Rows.countedRow.wideKeys==(Tryz.f7.params.toList++Rows.countedSpec.plain.varTypes prog++Tryz.f7.resultTypes.toList).any (prog.wideKeysFrom ·))=true:=by kernel_rfl
theorem aCT:Rows.countedSpec.vars.all (prog.varReadable ·)=true:=by kernel_rfl
theorem aCS:Tryz.f7.resultTypes.all (fun t=>prog.readableRec t&&decide (t<prog.types.size))=true:=by kernel_rfl
theorem aCR:(Rows.countedRow.ifacesOut==Tryz.f7.resultTypes.toList.any (prog.ifacesRec ·))=true:=by kernel_rfl
theorem aCQ:(Rows.countedRow.loopsOut==Tryz.f7.resultTypes.toList.any (prog.loopsFrom ·))=true:=by kernel_rfl
theorem aCP:(Rows.countedRow.pinned==Rows.countedRow.pinnedBy)=true:=by kernel_rfl
theorem aCO:(Rows.countedRow.veiled==(Tryz.f7.params.toList++Rows.countedSpec.plain.varTypes prog++Tryz.f7.resultTypes.toList).any (prog.veiledRec ·))=true:=by kernel_rfl
theorem aCN:Rows.countedRow.veiledFits prog Tryz.f7.params.toList (Tryz.f7.params.toList++Rows.countedSpec.plain.varTypes prog++Tryz.f7.resultTypes.toList)=true:=by kernel_rfl
theorem aBH:joinedFacts prog 7 Tryz.f7 Rows.countedSpec Rows.countedRow=true:=nW aDT Tryz.fLaid Tryz.fMaps aDS aDR rfl Tryz.fStops rfl Tryz.fKnobs aC1 aC0 aCZ aCY aCX aCW aCV aCU aB6 aCT aCS aCR aCQ Tryz.fPlain rfl Tryz.fHeard Tryz.fEnter Tryz.fLifts Tryz.fMake rfl rfl aCP aCO aCN
end
end Go.Proofs.YtkgbdddkcjpgfaaGreatDoor
