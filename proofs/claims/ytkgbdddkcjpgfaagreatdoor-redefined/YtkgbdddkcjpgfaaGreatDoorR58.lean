/- For every four numbers and truth value stepperkeep.Redefined returns true (what is defined or set anew is taken by procedures that were read before, by forms in the midst of which it is set, and by kept continuations, and back; by both engines): the tied card. Conditions: the package-level variables start as the program's text lays them (tied by the given tie); the card's own looks. -/
import Derived.Test.YtkgbdddkcjpgfaaGreatDoorR57
namespace Go.Proofs.YtkgbdddkcjpgfaaGreatDoor
open Go.Proofs.Tryz
section
open Go
theorem redefined_card_holds:Rows.RedefinedCardSaid :=
 mN .later true [.data,.data,.data,.handle,.sentinel,.sentinel,.data] true Rows.redefinedCard.stood.harness true
  aO7 (by kernel_rfl) redefined_row_tie rfl ⟨rfl,rfl⟩ (by kernel_rfl) rfl
  (fun f c d b=>by
   obtain rfl:f=12:=i_ ((show prog.funcNamed "stepper/stepperkeep.Redefined"=some 12 by kernel_rfl).symm.trans d) |>.symm;obtain rfl:c=Tryz.f12:=(i_ (func12.symm.trans b)).symm
   exact⟨by kernel_rfl,fun j t a=>by
    rw [params12] at a;rcases j with _ | _ | _ | _ | _ | j
    ·obtain rfl:3=t:=i_ a;exact(show prog.wantsStandIn 3=false by kernel_rfl)
    ·obtain rfl:3=t:=i_ a;exact(show prog.wantsStandIn 3=false by kernel_rfl)
    ·obtain rfl:3=t:=i_ a;exact(show prog.wantsStandIn 3=false by kernel_rfl)
    ·obtain rfl:3=t:=i_ a;exact(show prog.wantsStandIn 3=false by kernel_rfl)
    ·obtain rfl:4=t:=i_ a;exact(show prog.wantsStandIn 4=false by kernel_rfl)
    ·simp at a⟩)
  (by kernel_rfl)
end
end Go.Proofs.YtkgbdddkcjpgfaaGreatDoor
