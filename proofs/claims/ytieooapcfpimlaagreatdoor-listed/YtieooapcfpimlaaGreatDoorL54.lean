/- For every row of numbers stepperkeep.Listed returns true (a list that is made pair by pair, of the first twelve numbers, is told as it is, taken apart as it is, and is one and the same; by both engines) and what was handed in reads as it did: the tied card. Conditions: the package-level variables start as the program's text lays them (tied by the given tie); the card's own looks. -/
import Derived.Test.YtieooapcfpimlaaGreatDoorTie
import Derived.Test.YtieooapcfpimlaaGreatDoorCards
import Derived.SevenTiedAt
import Derived.Test.YtieooapcfpimlaaGreatDoorL53
namespace Go.Proofs.YtieooapcfpimlaaGreatDoor
open Go.Proofs.Tryz
section
open Go
theorem listed_card_holds:Rows.ListedCardSaid :=
 Claim7.holds_tied_plain_at .later [] [.data,.data,.data,.handle,.sentinel,.sentinel,.data] true Rows.listedCard.stood.harness true
  aRR (fun _ h=>by cases h) (by kernel_rfl) (fun _ h=>by cases h) listed_row_tie rfl ⟨rfl,rfl⟩ (by kernel_rfl) rfl
  (fun f c d a=>by
   obtain rfl:f=3:=i_ ((show prog.funcNamed "stepper/stepperkeep.Listed"=some 3 by kernel_rfl).symm.trans d) |>.symm;obtain rfl:c=Tryz.f3:=(i_ (func3.symm.trans a)).symm
   exact⟨by kernel_rfl,fun j t b=>by
    rw [params3] at b;rcases j with _ | j
    ·obtain rfl:22=t:=i_ b;exact(show prog.wantsStandIn 22=false by kernel_rfl)
    ·simp at b⟩)
  (by kernel_rfl)
end
end Go.Proofs.YtieooapcfpimlaaGreatDoor
