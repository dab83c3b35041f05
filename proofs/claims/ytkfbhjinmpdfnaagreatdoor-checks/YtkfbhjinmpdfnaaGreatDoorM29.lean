/- For every text stepperlaw.Checks returns true (what Check answers is what the document's reference answers) and the text reads as it did: the tied card. Conditions: the package-level variables start as the program's text lays them (tied by the given tie); the card's own looks. -/
import Derived.Test.YtkfbhjinmpdfnaaGreatDoorM28
import Derived.Test.YtkfbhjinmpdfnaaGreatDoorTie
import Derived.Test.YtkfbhjinmpdfnaaGreatDoorCards
import Derived.SevenTiedAt
namespace Go.Proofs.YtkfbhjinmpdfnaaGreatDoor
open Go

theorem checks_card_holds : Rows.ChecksCardSaid :=
  Claim7.holds_tied_plain_at .later [] [.data, .data, .data, .handle, .sentinel, .sentinel] true Rows.checksCard.stood.harness true
    checks_holds (fun _ h => by cases h) (by kernel_rfl) (fun _ h => by cases h) checks_row_tie rfl ⟨rfl, rfl⟩ (by kernel_rfl) rfl
    (fun f fn hf hfn => by
      obtain rfl : f = 3 := Option.some.inj ((show Tryz.prog.funcNamed "stepper/stepperlaw.Checks" = some 3 by kernel_rfl).symm.trans hf) |>.symm
      obtain rfl : fn = Tryz.f3 := (Option.some.inj (Tryz.func3.symm.trans hfn)).symm
      exact ⟨by kernel_rfl, fun j t ht => by
        rw [Tryz.params3] at ht
        have h3 : t = 9 := by
          rcases j with _ | j
          · simpa using ht.symm
          · simp at ht
        subst h3
        exact (show Tryz.prog.wantsStandIn 9 = false by kernel_rfl)⟩)
    (by kernel_rfl)
#print axioms checks_card_holds
end Go.Proofs.YtkfbhjinmpdfnaaGreatDoor
