/-
  DERIVED. GIVEN WITH THE SEED: THE CARDS: each row of YtjablghahhhdhaaGreatDoorRows.lean that lists a variable, with what it lists TIED to the program's text (the seventh form; the later family's looks); each row that meets fmt, with fmt's text TOLD by the authors' own Lean function (tested against real Go, not proved from fmt's source: count such statements apart). THE CARD IS WHAT COUNTS. Prove the row's statement (the work); the ties are given (YtjablghahhhdhaaGreatDoorTie.lean); close each card by the builder's one call (the guide's Derived/Test/ToyasCard.lean, 'card_holds'). Laid BY PROGRAM, IN A SANDBOX (cutbox-door.mjs). By AI agents, Wed Nov 11 2026. No macro, syntax, notation, axiom, sorry.
-/
import Derived.Test.YtjablghahhhdhaaGreatDoorRows
import GoSem.ClaimSeven
namespace Go.Proofs.YtjablghahhhdhaaGreatDoor
namespace Rows

/-- THE TIED CARD OF 'spigotkeep.Fixed'. -/
def fixedCard : Claim7 := { stood := { row := fixedRow, standIns := [], harness := (true, "3bf76ff433bdb98627117151e9fc79dd687a45a26d358f10e43d72d6b3ecb0da"), looks := true }, kinds := [], alts := [], laidByText := true, laidKinds := [.data, .data, .data, .data, .sentinel, .sentinel, .sentinel, .sentinel, .sentinel, .data, .sentinel, .sentinel, .pinned], laidTests := true, laidLooks := .later }
def FixedCardSaid : Prop := Claim7.holds Tryz.pinned (.plain (OpenSpec.ofChange fixedSpec)) fixedCard

/-- THE SECOND FORM's CARD OF 'spigotkeep.Fixed'. -/
def fixedUptoCard : Claim7 := { stood := { row := fixedUptoRow, standIns := [], harness := (true, "3bf76ff433bdb98627117151e9fc79dd687a45a26d358f10e43d72d6b3ecb0da"), looks := true }, kinds := [], alts := [], laidByText := true, laidKinds := [.data, .data, .data, .data, .sentinel, .sentinel, .sentinel, .sentinel, .sentinel, .data, .sentinel, .sentinel, .pinned], laidTests := true, laidLooks := .later }
def FixedUptoCardSaid : Prop := Claim7.holds Tryz.pinned (.plain (OpenSpec.upto fixedSpec)) fixedUptoCard
end Rows
end Go.Proofs.YtjablghahhhdhaaGreatDoor
