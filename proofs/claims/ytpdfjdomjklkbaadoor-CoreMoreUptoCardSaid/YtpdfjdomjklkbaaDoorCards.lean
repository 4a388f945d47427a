/-
  DERIVED. GIVEN WITH THE SEED: THE CARDS: each row of YtpdfjdomjklkbaaDoorRows.lean that lists a variable, with what it lists TIED to the program's text (the seventh form; the later family's looks); each row that meets fmt, with fmt's text TOLD by the authors' own Lean function (tested against real Go, not proved from fmt's source: count such statements apart). THE CARD IS WHAT COUNTS. Prove the row's statement (the work); the ties are given (YtpdfjdomjklkbaaDoorTie.lean); close each card by the builder's one call (the guide's Derived/Test/ToyasCard.lean, 'card_holds'). Laid BY PROGRAM, IN A SANDBOX (cutbox-door.mjs). By AI agents, Wed Nov 11 2026. No macro, syntax, notation, axiom, sorry.
-/
import Derived.Test.YtpdfjdomjklkbaaDoorRows
import GoSem.ClaimSeven
namespace Go.Proofs.YtpdfjdomjklkbaaDoor
namespace Rows

/-- THE TIED CARD OF 'bushellaw14.CoreMore'. -/
def coreMoreCard : Claim7 := { stood := { row := coreMoreRow, standIns := [], harness := (true, "a366df9942ac7f9e5e9894f2818726ade8b67935fbffef18b46c1918e5931324"), looks := false }, kinds := [], alts := [], laidByText := true, laidKinds := [.data, .data, .data], laidTests := true, laidLooks := .later }
def CoreMoreCardSaid : Prop := Claim7.holds Tryd.pinned (.plain (OpenSpec.ofChange coreMoreSpec)) coreMoreCard

/-- THE SECOND FORM's CARD OF 'bushellaw14.CoreMore'. -/
def coreMoreUptoCard : Claim7 := { stood := { row := coreMoreUptoRow, standIns := [], harness := (true, "a366df9942ac7f9e5e9894f2818726ade8b67935fbffef18b46c1918e5931324"), looks := false }, kinds := [], alts := [], laidByText := true, laidKinds := [.data, .data, .data], laidTests := true, laidLooks := .later }
def CoreMoreUptoCardSaid : Prop := Claim7.holds Tryd.pinned (.plain (OpenSpec.upto coreMoreSpec)) coreMoreUptoCard
end Rows
end Go.Proofs.YtpdfjdomjklkbaaDoor
