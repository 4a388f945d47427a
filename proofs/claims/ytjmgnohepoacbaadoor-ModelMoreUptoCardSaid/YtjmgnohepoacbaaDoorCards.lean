/-
  DERIVED. GIVEN WITH THE SEED: THE CARDS: each row of YtjmgnohepoacbaaDoorRows.lean that lists a variable, with what it lists TIED to the program's text (the seventh form; the later family's looks); each row that meets fmt, with fmt's text TOLD by the authors' own Lean function (tested against real Go, not proved from fmt's source: count such statements apart). THE CARD IS WHAT COUNTS. Prove the row's statement (the work); the ties are given (YtjmgnohepoacbaaDoorTie.lean); close each card by the builder's one call (the guide's Derived/Test/ToyasCard.lean, 'card_holds'). Laid BY PROGRAM, IN A SANDBOX (cutbox-door.mjs). By AI agents, Wed Nov 11 2026. No macro, syntax, notation, axiom, sorry.
-/
import Derived.Test.YtjmgnohepoacbaaDoorRows
import GoSem.ClaimSeven
namespace Go.Proofs.YtjmgnohepoacbaaDoor
namespace Rows

/-- THE TIED CARD OF 'bushellaw17.ModelMore'. -/
def modelMoreCard : Claim7 := { stood := { row := modelMoreRow, standIns := [], harness := (true, "ac9865749bf3c978e5b97ef7770483fab1a7a89395ac91b98ebb200425601128"), looks := false }, kinds := [], alts := [], laidByText := true, laidKinds := [.data, .data, .data], laidTests := true, laidLooks := .later }
def ModelMoreCardSaid : Prop := Claim7.holds Tryd.pinned (.plain (OpenSpec.ofChange modelMoreSpec)) modelMoreCard

/-- THE SECOND FORM's CARD OF 'bushellaw17.ModelMore'. -/
def modelMoreUptoCard : Claim7 := { stood := { row := modelMoreUptoRow, standIns := [], harness := (true, "ac9865749bf3c978e5b97ef7770483fab1a7a89395ac91b98ebb200425601128"), looks := false }, kinds := [], alts := [], laidByText := true, laidKinds := [.data, .data, .data], laidTests := true, laidLooks := .later }
def ModelMoreUptoCardSaid : Prop := Claim7.holds Tryd.pinned (.plain (OpenSpec.upto modelMoreSpec)) modelMoreUptoCard
end Rows
end Go.Proofs.YtjmgnohepoacbaaDoor
