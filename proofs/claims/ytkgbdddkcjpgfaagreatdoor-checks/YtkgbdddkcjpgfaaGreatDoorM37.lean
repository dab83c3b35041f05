/- Closed facts on the row of Checks, one by one. -/
import Derived.Test.YtkgbdddkcjpgfaaGreatDoorM36
namespace Go.Proofs.YtkgbdddkcjpgfaaGreatDoor
open Go
theorem checks_1 : Rows.checksRow.wf (OpenSpec.ofChange Rows.checksSpec) = true := by kernel_rfl
theorem checks_4 : Tryz.f3.params.all (Tryz.prog.readableRec ·) = true := by kernel_rfl
theorem checks_5 : namedTie Tryz.prog Rows.checksRow.named Rows.checksSpec.vars = true := by kernel_rfl
theorem checks_10 : (Rows.checksRow.inPlace == Tryz.prog.inPlace 3) = true := by kernel_rfl
theorem checks_11 : (Rows.checksRow.unfollowed == Tryz.prog.unfollowed 3) = true := by kernel_rfl
theorem checks_12 : (Rows.checksRow.recurses == Tryz.prog.recurses 3) = true := by kernel_rfl
theorem checks_13 : (Rows.checksRow.named == Tryz.prog.varsNamed 3) = true := by kernel_rfl
theorem checks_14 : (Rows.checksRow.maps == (Tryz.f3.params.toList ++ Rows.checksSpec.plain.varTypes Tryz.prog).any (Tryz.prog.mapsRec ·)) = true := by kernel_rfl
theorem checks_15 : (Rows.checksRow.ifaces == (Tryz.f3.params.toList ++ Rows.checksSpec.plain.varTypes Tryz.prog).any (Tryz.prog.ifacesRec ·)) = true := by kernel_rfl
theorem checks_16 : (Rows.checksRow.mapsOut == Tryz.prog.mapsAmong Tryz.f3.resultTypes.toList) = true := by kernel_rfl
theorem checks_17 : (Rows.checksRow.loops == (Tryz.f3.params.toList ++ Rows.checksSpec.plain.varTypes Tryz.prog).any (Tryz.prog.loopsFrom ·)) = true := by kernel_rfl
theorem checks_17b : (Rows.checksRow.wideKeys == (Tryz.f3.params.toList ++ Rows.checksSpec.plain.varTypes Tryz.prog ++ Tryz.f3.resultTypes.toList).any (Tryz.prog.wideKeysFrom ·)) = true := by kernel_rfl
theorem checks_18 : Rows.checksSpec.vars.all (Tryz.prog.varReadable ·) = true := by kernel_rfl
theorem checks_19 : Tryz.f3.resultTypes.all (fun t => Tryz.prog.readableRec t && decide (t < Tryz.prog.types.size)) = true := by kernel_rfl
theorem checks_20 : (Rows.checksRow.ifacesOut == Tryz.f3.resultTypes.toList.any (Tryz.prog.ifacesRec ·)) = true := by kernel_rfl
theorem checks_21 : (Rows.checksRow.loopsOut == Tryz.f3.resultTypes.toList.any (Tryz.prog.loopsFrom ·)) = true := by kernel_rfl
theorem checks_26 : (Rows.checksRow.pinned == Rows.checksRow.pinnedBy) = true := by kernel_rfl
theorem checks_27 : (Rows.checksRow.veiled == (Tryz.f3.params.toList ++ Rows.checksSpec.plain.varTypes Tryz.prog ++ Tryz.f3.resultTypes.toList).any (Tryz.prog.veiledRec ·)) = true := by kernel_rfl
theorem checks_28 : Rows.checksRow.veiledFits Tryz.prog Tryz.f3.params.toList (Tryz.f3.params.toList ++ Rows.checksSpec.plain.varTypes Tryz.prog ++ Tryz.f3.resultTypes.toList) = true := by kernel_rfl
theorem checks_joined : joinedFacts Tryz.prog 3 Tryz.f3 Rows.checksSpec Rows.checksRow = true := joined_parts checks_1 Tryz.fLaid Tryz.fMaps checks_4 checks_5 rfl Tryz.fStops rfl Tryz.fKnobs checks_10 checks_11 checks_12 checks_13 checks_14 checks_15 checks_16 checks_17 checks_17b checks_18 checks_19 checks_20 checks_21 Tryz.fPlain rfl Tryz.fHeard Tryz.fEnter Tryz.fLifts Tryz.fMake rfl rfl checks_26 checks_27 checks_28
end Go.Proofs.YtkgbdddkcjpgfaaGreatDoor
