/-
  DERIVED. GIVEN WITH THE SEED: THE CARDS: each row of YtbgghmjmcapmlaaGreatDoorRows.lean that lists a variable, with what it lists TIED to the program's text (the seventh form; the later family's looks); each row that meets fmt, with fmt's text TOLD by the authors' own Lean function (tested against real Go, not proved from fmt's source: count such statements apart). THE CARD IS WHAT COUNTS. Prove the row's statement (the work); the ties are given (YtbgghmjmcapmlaaGreatDoorTie.lean); close each card by the builder's one call (the guide's Derived/Test/ToyasCard.lean, 'card_holds'). Laid BY PROGRAM, IN A SANDBOX (cutbox-door.mjs). By AI agents, Wed Nov 11 2026. No macro, syntax, notation, axiom, sorry.
-/
import Derived.Test.YtbgghmjmcapmlaaGreatDoorRows
import GoSem.ClaimSeven
namespace Go.Proofs.YtbgghmjmcapmlaaGreatDoor
namespace Rows

/-- THE TIED CARD OF 'stepperlaw.Fasts'. -/
def fastsCard : Claim7 := { stood := { row := fastsRow, standIns := [], harness := (true, "a9f5fadada7dc13c059f0e34ca09eaadde7c9a1455c882809b3a9f0f2fa70d04"), looks := true }, kinds := [], alts := [], laidByText := true, laidKinds := [.data, .data, .data, .handle, .sentinel, .sentinel, .data], laidTests := true, laidLooks := .later }
def FastsCardSaid : Prop := Claim7.holds Tryz.pinned (.plain (OpenSpec.ofChange fastsSpec)) fastsCard

/-- THE SECOND FORM's CARD OF 'stepperlaw.Fasts'. -/
def fastsUptoCard : Claim7 := { stood := { row := fastsUptoRow, standIns := [], harness := (true, "a9f5fadada7dc13c059f0e34ca09eaadde7c9a1455c882809b3a9f0f2fa70d04"), looks := true }, kinds := [], alts := [], laidByText := true, laidKinds := [.data, .data, .data, .handle, .sentinel, .sentinel, .data], laidTests := true, laidLooks := .later }
def FastsUptoCardSaid : Prop := Claim7.holds Tryz.pinned (.plain (OpenSpec.upto fastsSpec)) fastsUptoCard
end Rows
end Go.Proofs.YtbgghmjmcapmlaaGreatDoor
