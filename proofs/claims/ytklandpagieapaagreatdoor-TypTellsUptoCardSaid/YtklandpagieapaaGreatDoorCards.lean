/-
  DERIVED. GIVEN WITH THE SEED: THE CARDS: each row of YtklandpagieapaaGreatDoorRows.lean that lists a variable, with what it lists TIED to the program's text (the seventh form; the later family's looks); each row that meets fmt, with fmt's text TOLD by the authors' own Lean function (tested against real Go, not proved from fmt's source: count such statements apart). THE CARD IS WHAT COUNTS. Prove the row's statement (the work); the ties are given (YtklandpagieapaaGreatDoorTie.lean); close each card by the builder's one call (the guide's Derived/Test/ToyasCard.lean, 'card_holds'). Laid BY PROGRAM, IN A SANDBOX (cutbox-door.mjs). By AI agents, Wed Nov 11 2026. No macro, syntax, notation, axiom, sorry.
-/
import Derived.Test.YtklandpagieapaaGreatDoorRows
import GoSem.ClaimSeven
namespace Go.Proofs.YtklandpagieapaaGreatDoor
namespace Rows

/-- THE TIED CARD OF 'bushellaw10.TypTells'. -/
def typTellsCard : Claim7 := { stood := { row := typTellsRow, standIns := [], harness := (true, "c7ab9a15c0bf592f3be3dc19e20852832206af04bc5f55563cfb2fcfc22f4642"), looks := false }, kinds := [], alts := [], laidByText := true, laidKinds := [.data, .data, .data], laidTests := true, laidLooks := .later }
def TypTellsCardSaid : Prop := Claim7.holds Tryz.pinned (.plain (OpenSpec.ofChange typTellsSpec)) typTellsCard

/-- THE SECOND FORM's CARD OF 'bushellaw10.TypTells'. -/
def typTellsUptoCard : Claim7 := { stood := { row := typTellsUptoRow, standIns := [], harness := (true, "c7ab9a15c0bf592f3be3dc19e20852832206af04bc5f55563cfb2fcfc22f4642"), looks := false }, kinds := [], alts := [], laidByText := true, laidKinds := [.data, .data, .data], laidTests := true, laidLooks := .later }
def TypTellsUptoCardSaid : Prop := Claim7.holds Tryz.pinned (.plain (OpenSpec.upto typTellsSpec)) typTellsUptoCard
end Rows
end Go.Proofs.YtklandpagieapaaGreatDoor
