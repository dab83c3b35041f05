/- For every three numbers stepperkeep.Escapes returns true (continuations leave out what was to be done and are entered again, by later inputs too; what was displayed stays; by both engines): the tied card. Conditions: the package-level variables start as the program's text lays them (tied by the given tie); the card's own looks. -/
import Derived.Test.YtkgbdddkcjpgfaaGreatDoorR53
namespace Go.Proofs.YtkgbdddkcjpgfaaGreatDoor
open Go.Proofs.Tryz
section
open Go
theorem escapes_card_holds:Rows.EscapesCardSaid :=
 mN .later true [.data,.data,.data,.handle,.sentinel,.sentinel,.data] true Rows.escapesCard.stood.harness true
  aPH (by kernel_rfl) escapes_row_tie rfl ⟨rfl,rfl⟩ (by kernel_rfl) rfl
  (fun f c d b=>by
   obtain rfl:f=13:=i_ ((show prog.funcNamed "stepper/stepperkeep.Escapes"=some 13 by kernel_rfl).symm.trans d) |>.symm;obtain rfl:c=Tryz.f13:=(i_ (func13.symm.trans b)).symm
   exact⟨by kernel_rfl,fun j t a=>by
    rw [params13] at a;rcases j with _ | _ | _ | j
    ·obtain rfl:3=t:=i_ a;exact(show prog.wantsStandIn 3=false by kernel_rfl)
    ·obtain rfl:3=t:=i_ a;exact(show prog.wantsStandIn 3=false by kernel_rfl)
    ·obtain rfl:3=t:=i_ a;exact(show prog.wantsStandIn 3=false by kernel_rfl)
    ·simp at a⟩)
  (by kernel_rfl)
end
end Go.Proofs.YtkgbdddkcjpgfaaGreatDoor
