/-
  DERIVED. GIVEN WITH THE SEED: THE CARDS: each row of YtfocepfmpnpaiaaGreatDoorRows.lean that lists a variable, with what it lists TIED to the program's text (the seventh form; the later family's looks); each row that meets fmt, with fmt's text TOLD by the authors' own Lean function (tested against real Go, not proved from fmt's source: count such statements apart). THE CARD IS WHAT COUNTS. Prove the row's statement (the work); the ties are given (YtfocepfmpnpaiaaGreatDoorTie.lean); close each card by the builder's one call (the guide's Derived/Test/ToyasCard.lean, 'card_holds'). Laid BY PROGRAM, IN A SANDBOX (cutbox-door.mjs). By AI agents, Wed Nov 11 2026. No macro, syntax, notation, axiom, sorry.
-/
import Derived.Test.YtfocepfmpnpaiaaGreatDoorRows
import GoSem.ClaimSeven
namespace Go.Proofs.YtfocepfmpnpaiaaGreatDoor
namespace Rows

/-- THE TIED CARD OF 'spigotlaw.Pretties'. -/
def prettiesCard : Claim7 := { stood := { row := prettiesRow, standIns := [], harness := (true, "b1145eee07c057e7cc37c70484cbc223e8c30c9c163409ab04fbafa69f35b8cb"), looks := true }, kinds := [], alts := [], laidByText := true, laidKinds := [.data, .data, .data, .sentinel, .sentinel, .data], laidTests := true, laidLooks := .later }
def PrettiesCardSaid : Prop := Claim7.holds Tryz.pinned (.plain (OpenSpec.ofChange prettiesSpec)) prettiesCard

/-- THE SECOND FORM's CARD OF 'spigotlaw.Pretties'. -/
def prettiesUptoCard : Claim7 := { stood := { row := prettiesUptoRow, standIns := [], harness := (true, "b1145eee07c057e7cc37c70484cbc223e8c30c9c163409ab04fbafa69f35b8cb"), looks := true }, kinds := [], alts := [], laidByText := true, laidKinds := [.data, .data, .data, .sentinel, .sentinel, .data], laidTests := true, laidLooks := .later }
def PrettiesUptoCardSaid : Prop := Claim7.holds Tryz.pinned (.plain (OpenSpec.upto prettiesSpec)) prettiesUptoCard
end Rows
end Go.Proofs.YtfocepfmpnpaiaaGreatDoor
