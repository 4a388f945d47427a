/-
  DERIVED. GIVEN WITH THE SEED: THE CARDS: each row of YtpdfjdomjklkbaaGreatDoorRows.lean that lists a variable, with what it lists TIED to the program's text (the seventh form; the later family's looks); each row that meets fmt, with fmt's text TOLD by the authors' own Lean function (tested against real Go, not proved from fmt's source: count such statements apart). THE CARD IS WHAT COUNTS. Prove the row's statement (the work); the ties are given (YtpdfjdomjklkbaaGreatDoorTie.lean); close each card by the builder's one call (the guide's Derived/Test/ToyasCard.lean, 'card_holds'). Laid BY PROGRAM, IN A SANDBOX (cutbox-door.mjs). By AI agents, Wed Nov 11 2026. No macro, syntax, notation, axiom, sorry.
-/
import Derived.Test.YtpdfjdomjklkbaaGreatDoorRows
import GoSem.ClaimSeven
namespace Go.Proofs.YtpdfjdomjklkbaaGreatDoor
namespace Rows

/-- THE TIED CARD OF 'bushellaw14.CoreTells'. -/
def coreTellsCard : Claim7 := { stood := { row := coreTellsRow, standIns := [], harness := (true, "bf20b855578dcb598c0e786a080c190249cdf91efb368542a3a6cb93c3132a6c"), looks := false }, kinds := [], alts := [], laidByText := true, laidKinds := [.data, .data, .data], laidTests := true, laidLooks := .later }
def CoreTellsCardSaid : Prop := Claim7.holds Tryz.pinned (.plain (OpenSpec.ofChange coreTellsSpec)) coreTellsCard

/-- THE SECOND FORM's CARD OF 'bushellaw14.CoreTells'. -/
def coreTellsUptoCard : Claim7 := { stood := { row := coreTellsUptoRow, standIns := [], harness := (true, "bf20b855578dcb598c0e786a080c190249cdf91efb368542a3a6cb93c3132a6c"), looks := false }, kinds := [], alts := [], laidByText := true, laidKinds := [.data, .data, .data], laidTests := true, laidLooks := .later }
def CoreTellsUptoCardSaid : Prop := Claim7.holds Tryz.pinned (.plain (OpenSpec.upto coreTellsSpec)) coreTellsUptoCard
end Rows
end Go.Proofs.YtpdfjdomjklkbaaGreatDoor
