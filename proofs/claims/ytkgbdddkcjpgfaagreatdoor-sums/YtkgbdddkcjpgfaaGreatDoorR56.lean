/- For every three numbers stepperkeep.Sums returns true (two numbers come to what they come to, as they stand, by names, through a procedure and behind a let, by both engines): the tied card. Conditions: the package-level variables start as the program's text lays them (tied by the given tie); the card's own looks. -/
import Derived.Test.YtkgbdddkcjpgfaaGreatDoorR55
namespace Go.Proofs.YtkgbdddkcjpgfaaGreatDoor
open Go.Proofs.Tryz
section
open Go
theorem sums_card_holds:Rows.SumsCardSaid :=
 mN .later true [.data,.data,.data,.handle,.sentinel,.sentinel,.data] true Rows.sumsCard.stood.harness true
  aQK (by kernel_rfl) sums_row_tie rfl ⟨rfl,rfl⟩ (by kernel_rfl) rfl
  (fun f c d b=>by
   obtain rfl:f=11:=i_ ((show prog.funcNamed "stepper/stepperkeep.Sums"=some 11 by kernel_rfl).symm.trans d) |>.symm;obtain rfl:c=Tryz.f11:=(i_ (func11.symm.trans b)).symm
   exact⟨by kernel_rfl,fun j t a=>by
    rw [params11] at a;rcases j with _ | _ | _ | j
    ·obtain rfl:3=t:=i_ a;exact(show prog.wantsStandIn 3=false by kernel_rfl)
    ·obtain rfl:3=t:=i_ a;exact(show prog.wantsStandIn 3=false by kernel_rfl)
    ·obtain rfl:3=t:=i_ a;exact(show prog.wantsStandIn 3=false by kernel_rfl)
    ·simp at a⟩)
  (by kernel_rfl)
end
end Go.Proofs.YtkgbdddkcjpgfaaGreatDoor
