/-
  DERIVED. GIVEN WITH THE SEED: THE CARDS: each row of YtklandpagieapaaDoorRows.lean that lists a variable, with what it lists TIED to the program's text (the seventh form; the later family's looks); each row that meets fmt, with fmt's text TOLD by the authors' own Lean function (tested against real Go, not proved from fmt's source: count such statements apart). THE CARD IS WHAT COUNTS. Prove the row's statement (the work); the ties are given (YtklandpagieapaaDoorTie.lean); close each card by the builder's one call (the guide's Derived/Test/ToyasCard.lean, 'card_holds'). Laid BY PROGRAM, IN A SANDBOX (cutbox-door.mjs). By AI agents, Wed Nov 11 2026. No macro, syntax, notation, axiom, sorry.
-/
import Derived.Test.YtklandpagieapaaDoorRows
import GoSem.ClaimSeven
namespace Go.Proofs.YtklandpagieapaaDoor
namespace Rows

/-- THE TIED CARD OF 'bushellaw10.TypNames'. -/
def typNamesCard : Claim7 := { stood := { row := typNamesRow, standIns := [], harness := (true, "439dc709808d8a684336b3992320008c92e6e54401f073b71d48348933b09c8d"), looks := false }, kinds := [], alts := [], laidByText := true, laidKinds := [.data, .data, .data], laidTests := true, laidLooks := .later }
def TypNamesCardSaid : Prop := Claim7.holds Tryd.pinned (.plain (OpenSpec.ofChange typNamesSpec)) typNamesCard

/-- THE SECOND FORM's CARD OF 'bushellaw10.TypNames'. -/
def typNamesUptoCard : Claim7 := { stood := { row := typNamesUptoRow, standIns := [], harness := (true, "439dc709808d8a684336b3992320008c92e6e54401f073b71d48348933b09c8d"), looks := false }, kinds := [], alts := [], laidByText := true, laidKinds := [.data, .data, .data], laidTests := true, laidLooks := .later }
def TypNamesUptoCardSaid : Prop := Claim7.holds Tryd.pinned (.plain (OpenSpec.upto typNamesSpec)) typNamesUptoCard
end Rows
end Go.Proofs.YtklandpagieapaaDoor
