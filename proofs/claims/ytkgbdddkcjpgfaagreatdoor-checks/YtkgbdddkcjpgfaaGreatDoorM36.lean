/- A row's closed facts, out of their parts. -/
import Derived.JoinedOf
import Derived.Test.YtkgbdddkcjpgfaaGreatDoorRows
import Derived.KernelRfl
namespace Go.Proofs.YtkgbdddkcjpgfaaGreatDoor
open Go

theorem joined_parts {P : Program} {f : FuncId} {fn : Func} {s : ChangeSpec} {c : OpenClaim}
    (k1 : c.wf (OpenSpec.ofChange s) = true) (k2 : laidOutB P = true) (k3 : mapsRowed P = true) (k4 : fn.params.all (P.readableRec ·) = true) (k5 : namedTie P c.named s.vars = true)
    (k6 : (c.stops == []) = true) (k7 : (P.stops == []) = true) (k8 : (c.knobs == []) = true) (k9 : (P.stopKnobs == []) = true)
    (k10 : (c.inPlace == P.inPlace f) = true) (k11 : (c.unfollowed == P.unfollowed f) = true) (k12 : (c.recurses == P.recurses f) = true) (k13 : (c.named == P.varsNamed f) = true)
    (k14 : (c.maps == (fn.params.toList ++ s.plain.varTypes P).any (P.mapsRec ·)) = true) (k15 : (c.ifaces == (fn.params.toList ++ s.plain.varTypes P).any (P.ifacesRec ·)) = true) (k16 : (c.mapsOut == P.mapsAmong fn.resultTypes.toList) = true)
    (k17 : (c.loops == (fn.params.toList ++ s.plain.varTypes P).any (P.loopsFrom ·)) = true) (k17b : (c.wideKeys == (fn.params.toList ++ s.plain.varTypes P ++ fn.resultTypes.toList).any (P.wideKeysFrom ·)) = true)
    (k18 : s.vars.all (P.varReadable ·) = true) (k19 : fn.resultTypes.all (fun t => P.readableRec t && decide (t < P.types.size)) = true) (k20 : (c.ifacesOut == fn.resultTypes.toList.any (P.ifacesRec ·)) = true) (k21 : (c.loopsOut == fn.resultTypes.toList.any (P.loopsFrom ·)) = true) (k22 : (c.plainKeys == P.plainKeys) = true) (k23 : c.shortTexts.isNone = true) (k23b : P.stopsHeard = true) (k24 : P.mayEnter = true) (k24b : (c.lifted == P.liftsFinal) = true) (k24c : (P.make == some c.make) = true)
    (hd : c.domain.isEmpty = true) (k25 : (c.kinds == []) = true) (k26 : (c.pinned == c.pinnedBy) = true)
    (k27 : (c.veiled == (fn.params.toList ++ s.plain.varTypes P ++ fn.resultTypes.toList).any (P.veiledRec ·)) = true) (k28 : c.veiledFits P fn.params.toList (fn.params.toList ++ s.plain.varTypes P ++ fn.resultTypes.toList) = true) : joinedFacts P f fn s c = true := by
  unfold joinedFacts
  rw [k1, k2, k3, k4, k5, k6, k7, k8, k9, k10, k11, k12, k13, k14, k15, k16, k17, k17b, k18, k19, k20, k21, k22, k23, k23b, k24, k24b, k24c, if_pos hd, k25, k26, k27, k28]
  rfl
end Go.Proofs.YtkgbdddkcjpgfaaGreatDoor

/- Closed facts on the program, one by one, for every row. -/
namespace Go.Proofs.YtkgbdddkcjpgfaaGreatDoor
open Go

theorem Tryz.fLaid : laidOutB Tryz.prog = true := by kernel_rfl
theorem Tryz.fMaps : mapsRowed Tryz.prog = true := by kernel_rfl
theorem Tryz.fStops : (Tryz.prog.stops == []) = true := by kernel_rfl
theorem Tryz.fKnobs : (Tryz.prog.stopKnobs == []) = true := by kernel_rfl
theorem Tryz.fHeard : Tryz.prog.stopsHeard = true := by kernel_rfl
theorem Tryz.fEnter : Tryz.prog.mayEnter = true := by kernel_rfl
theorem Tryz.fLifts : (Rows.checksRow.lifted == Tryz.prog.liftsFinal) = true := by kernel_rfl
theorem Tryz.fMake : (Tryz.prog.make == some Rows.checksRow.make) = true := by kernel_rfl
theorem Tryz.fPlain : (Rows.checksRow.plainKeys == Tryz.prog.plainKeys) = true := by kernel_rfl
end Go.Proofs.YtkgbdddkcjpgfaaGreatDoor
