/-
  DERIVED. GIVEN WITH THE SEED: THE CARDS: each row of YtndoeeampclfaaaGreatDoorRows.lean that lists a variable, with what it lists TIED to the program's text (the seventh form; the later family's looks); each row that meets fmt, with fmt's text TOLD by the authors' own Lean function (tested against real Go, not proved from fmt's source: count such statements apart). THE CARD IS WHAT COUNTS. Prove the row's statement (the work); the ties are given (YtndoeeampclfaaaGreatDoorTie.lean); close each card by the builder's one call (the guide's Derived/Test/ToyasCard.lean, 'card_holds'). Laid BY PROGRAM, IN A SANDBOX (cutbox-door.mjs). By AI agents, Wed Nov 11 2026. No macro, syntax, notation, axiom, sorry.
-/
import Derived.Test.YtndoeeampclfaaaGreatDoorRows
import GoSem.ClaimSeven
namespace Go.Proofs.YtndoeeampclfaaaGreatDoor
namespace Rows

/-- THE TIED CARD OF 'spigotkeep.Ways'. -/
def waysCard : Claim7 := { stood := { row := waysRow, standIns := [], harness := (true, "44bd1eb6012313bf0d388a3bd2f3fddc72ed13d0d249a3e9a24f7f11640ef281"), looks := true }, kinds := [], alts := [], laidByText := true, laidKinds := [.data, .data, .data, .data, .sentinel, .sentinel, .sentinel, .sentinel, .sentinel, .data, .sentinel, .sentinel, .pinned], laidTests := true, laidLooks := .later }
def WaysCardSaid : Prop := Claim7.holds Tryz.pinned (.plain (OpenSpec.ofChange waysSpec)) waysCard

/-- THE SECOND FORM's CARD OF 'spigotkeep.Ways'. -/
def waysUptoCard : Claim7 := { stood := { row := waysUptoRow, standIns := [], harness := (true, "44bd1eb6012313bf0d388a3bd2f3fddc72ed13d0d249a3e9a24f7f11640ef281"), looks := true }, kinds := [], alts := [], laidByText := true, laidKinds := [.data, .data, .data, .data, .sentinel, .sentinel, .sentinel, .sentinel, .sentinel, .data, .sentinel, .sentinel, .pinned], laidTests := true, laidLooks := .later }
def WaysUptoCardSaid : Prop := Claim7.holds Tryz.pinned (.plain (OpenSpec.upto waysSpec)) waysUptoCard
end Rows
end Go.Proofs.YtndoeeampclfaaaGreatDoor
