/-
  DERIVED. GIVEN WITH THE SEED: THE CARDS: each row of YtkgbdddkcjpgfaaGreatDoorRows.lean that lists a variable, with what it lists TIED to the program's text (the seventh form; the later family's looks); each row that meets fmt, with fmt's text TOLD by the authors' own Lean function (tested against real Go, not proved from fmt's source: count such statements apart). THE CARD IS WHAT COUNTS. Prove the row's statement (the work); the ties are given (YtkgbdddkcjpgfaaGreatDoorTie.lean); close each card by the builder's one call (the guide's Derived/Test/ToyasCard.lean, 'card_holds'). Laid BY PROGRAM, IN A SANDBOX (cutbox-door.mjs). By AI agents, Wed Nov 11 2026. No macro, syntax, notation, axiom, sorry.
-/
import Derived.Test.YtkgbdddkcjpgfaaGreatDoorRows
import GoSem.ClaimSeven
namespace Go.Proofs.YtkgbdddkcjpgfaaGreatDoor
namespace Rows

/-- THE TIED CARD OF 'stepperlaw.Checks'. -/
def checksCard : Claim7 := { stood := { row := checksRow, standIns := [], harness := (true, "f2cfe05b9eb596573bc21a009b4a31cb8c7f5fc1b3dcb3c2afb4ccfaa31e2d0c"), looks := true }, kinds := [], alts := [], goes := true, laidByText := true, laidKinds := [.data, .data, .data, .handle, .sentinel, .sentinel], laidTests := true, laidLooks := .later }
def ChecksCardSaid : Prop := Claim7.holds Tryz.pinned (.plain (OpenSpec.ofChange checksSpec)) checksCard

/-- THE TIED CARD OF 'stepperlaw.Slows'. -/
def slowsCard : Claim7 := { stood := { row := slowsRow, standIns := [], harness := (true, "f2cfe05b9eb596573bc21a009b4a31cb8c7f5fc1b3dcb3c2afb4ccfaa31e2d0c"), looks := true }, kinds := [], alts := [], goes := true, laidByText := true, laidKinds := [.data, .data, .data, .handle, .sentinel, .sentinel, .data], laidTests := true, laidLooks := .later }
def SlowsCardSaid : Prop := Claim7.holds Tryz.pinned (.plain (OpenSpec.ofChange slowsSpec)) slowsCard

/-- THE TIED CARD OF 'stepperlaw.Traces'. -/
def tracesCard : Claim7 := { stood := { row := tracesRow, standIns := [], harness := (true, "f2cfe05b9eb596573bc21a009b4a31cb8c7f5fc1b3dcb3c2afb4ccfaa31e2d0c"), looks := true }, kinds := [], alts := [], goes := true, laidByText := true, laidKinds := [.data, .data, .data, .handle, .sentinel, .sentinel, .data], laidTests := true, laidLooks := .later }
def TracesCardSaid : Prop := Claim7.holds Tryz.pinned (.plain (OpenSpec.ofChange tracesSpec)) tracesCard

/-- THE TIED CARD OF 'stepperkeep.More'. -/
def moreCard : Claim7 := { stood := { row := moreRow, standIns := [], harness := (true, "f2cfe05b9eb596573bc21a009b4a31cb8c7f5fc1b3dcb3c2afb4ccfaa31e2d0c"), looks := true }, kinds := [], alts := [], goes := true, laidByText := true, laidKinds := [.data, .data, .data, .handle, .sentinel, .sentinel, .data], laidTests := true, laidLooks := .later }
def MoreCardSaid : Prop := Claim7.holds Tryz.pinned (.plain (OpenSpec.ofChange moreSpec)) moreCard

/-- THE TIED CARD OF 'stepperkeep.Counted'. -/
def countedCard : Claim7 := { stood := { row := countedRow, standIns := [], harness := (true, "f2cfe05b9eb596573bc21a009b4a31cb8c7f5fc1b3dcb3c2afb4ccfaa31e2d0c"), looks := true }, kinds := [], alts := [], goes := true, laidByText := true, laidKinds := [.data, .data, .data, .handle, .sentinel, .sentinel, .data], laidTests := true, laidLooks := .later }
def CountedCardSaid : Prop := Claim7.holds Tryz.pinned (.plain (OpenSpec.ofChange countedSpec)) countedCard

/-- THE TIED CARD OF 'stepperlaw.Fasts'. -/
def fastsCard : Claim7 := { stood := { row := fastsRow, standIns := [], harness := (true, "f2cfe05b9eb596573bc21a009b4a31cb8c7f5fc1b3dcb3c2afb4ccfaa31e2d0c"), looks := true }, kinds := [], alts := [], goes := true, laidByText := true, laidKinds := [.data, .data, .data, .handle, .sentinel, .sentinel, .data], laidTests := true, laidLooks := .later }
def FastsCardSaid : Prop := Claim7.holds Tryz.pinned (.plain (OpenSpec.ofChange fastsSpec)) fastsCard

/-- THE TIED CARD OF 'stepperlaw.Boths'. -/
def bothsCard : Claim7 := { stood := { row := bothsRow, standIns := [], harness := (true, "f2cfe05b9eb596573bc21a009b4a31cb8c7f5fc1b3dcb3c2afb4ccfaa31e2d0c"), looks := true }, kinds := [], alts := [], goes := true, laidByText := true, laidKinds := [.data, .data, .data, .handle, .sentinel, .sentinel, .data], laidTests := true, laidLooks := .later }
def BothsCardSaid : Prop := Claim7.holds Tryz.pinned (.plain (OpenSpec.ofChange bothsSpec)) bothsCard

/-- THE TIED CARD OF 'stepperkeep.Twins'. -/
def twinsCard : Claim7 := { stood := { row := twinsRow, standIns := [], harness := (true, "f2cfe05b9eb596573bc21a009b4a31cb8c7f5fc1b3dcb3c2afb4ccfaa31e2d0c"), looks := true }, kinds := [], alts := [], goes := true, laidByText := true, laidKinds := [.data, .data, .data, .handle, .sentinel, .sentinel, .data], laidTests := true, laidLooks := .later }
def TwinsCardSaid : Prop := Claim7.holds Tryz.pinned (.plain (OpenSpec.ofChange twinsSpec)) twinsCard

/-- THE TIED CARD OF 'stepperkeep.Sums'. -/
def sumsCard : Claim7 := { stood := { row := sumsRow, standIns := [], harness := (true, "f2cfe05b9eb596573bc21a009b4a31cb8c7f5fc1b3dcb3c2afb4ccfaa31e2d0c"), looks := true }, kinds := [], alts := [], goes := true, laidByText := true, laidKinds := [.data, .data, .data, .handle, .sentinel, .sentinel, .data], laidTests := true, laidLooks := .later }
def SumsCardSaid : Prop := Claim7.holds Tryz.pinned (.plain (OpenSpec.ofChange sumsSpec)) sumsCard

/-- THE TIED CARD OF 'stepperkeep.Redefined'. -/
def redefinedCard : Claim7 := { stood := { row := redefinedRow, standIns := [], harness := (true, "f2cfe05b9eb596573bc21a009b4a31cb8c7f5fc1b3dcb3c2afb4ccfaa31e2d0c"), looks := true }, kinds := [], alts := [], goes := true, laidByText := true, laidKinds := [.data, .data, .data, .handle, .sentinel, .sentinel, .data], laidTests := true, laidLooks := .later }
def RedefinedCardSaid : Prop := Claim7.holds Tryz.pinned (.plain (OpenSpec.ofChange redefinedSpec)) redefinedCard

/-- THE TIED CARD OF 'stepperkeep.Escapes'. -/
def escapesCard : Claim7 := { stood := { row := escapesRow, standIns := [], harness := (true, "f2cfe05b9eb596573bc21a009b4a31cb8c7f5fc1b3dcb3c2afb4ccfaa31e2d0c"), looks := true }, kinds := [], alts := [], goes := true, laidByText := true, laidKinds := [.data, .data, .data, .handle, .sentinel, .sentinel, .data], laidTests := true, laidLooks := .later }
def EscapesCardSaid : Prop := Claim7.holds Tryz.pinned (.plain (OpenSpec.ofChange escapesSpec)) escapesCard

/-- THE TIED CARD OF 'stepperkeep.Quiet'. -/
def quietCard : Claim7 := { stood := { row := quietRow, standIns := [], harness := (true, "f2cfe05b9eb596573bc21a009b4a31cb8c7f5fc1b3dcb3c2afb4ccfaa31e2d0c"), looks := true }, kinds := [], alts := [], goes := true, laidByText := true, laidKinds := [.data, .data, .data, .handle, .sentinel, .sentinel, .data], laidTests := true, laidLooks := .later }
def QuietCardSaid : Prop := Claim7.holds Tryz.pinned (.plain (OpenSpec.ofChange quietSpec)) quietCard
end Rows
end Go.Proofs.YtkgbdddkcjpgfaaGreatDoor
