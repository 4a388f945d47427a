/-
  DERIVED. GIVEN WITH THE SEED: THE CARDS: each row of YtlgmddnpmmggdaaDoorRows.lean that lists a variable, with what it lists TIED to the program's text (the seventh form; the later family's looks); each row that meets fmt, with fmt's text TOLD by the authors' own Lean function (tested against real Go, not proved from fmt's source: count such statements apart). THE CARD IS WHAT COUNTS. Prove the row's statement (the work); the ties are given (YtlgmddnpmmggdaaDoorTie.lean); close each card by the builder's one call (the guide's Derived/Test/ToyasCard.lean, 'card_holds'). Laid BY PROGRAM, IN A SANDBOX (cutbox-door.mjs). By AI agents, Wed Nov 11 2026. No macro, syntax, notation, axiom, sorry.
-/
import Derived.Test.YtlgmddnpmmggdaaDoorRows
import GoSem.ClaimSeven
namespace Go.Proofs.YtlgmddnpmmggdaaDoor
namespace Rows

/-- THE TIED CARD OF 'bushellaw13.EvidTells'. -/
def evidTellsCard : Claim7 := { stood := { row := evidTellsRow, standIns := [], harness := (true, "ee5d7f88c24d3b202f0ae12000ab92a928e966159658b26c917a9e8a458eaef2"), looks := true }, kinds := [], alts := [], laidByText := true, laidKinds := [.data, .data, .data], laidTests := true, laidLooks := .later }
def EvidTellsCardSaid : Prop := Claim7.holds Tryd.pinned (.plain (OpenSpec.ofChange evidTellsSpec)) evidTellsCard

/-- THE TIED CARD OF 'bushellaw13.EvidWhole'. -/
def evidWholeCard : Claim7 := { stood := { row := evidWholeRow, standIns := [], harness := (true, "ee5d7f88c24d3b202f0ae12000ab92a928e966159658b26c917a9e8a458eaef2"), looks := true }, kinds := [], alts := [], laidByText := true, laidKinds := [.data, .data, .data], laidTests := true, laidLooks := .later }
def EvidWholeCardSaid : Prop := Claim7.holds Tryd.pinned (.plain (OpenSpec.ofChange evidWholeSpec)) evidWholeCard

/-- THE SECOND FORM's CARD OF 'bushellaw13.EvidTells'. -/
def evidTellsUptoCard : Claim7 := { stood := { row := evidTellsUptoRow, standIns := [], harness := (true, "ee5d7f88c24d3b202f0ae12000ab92a928e966159658b26c917a9e8a458eaef2"), looks := true }, kinds := [], alts := [], laidByText := true, laidKinds := [.data, .data, .data], laidTests := true, laidLooks := .later }
def EvidTellsUptoCardSaid : Prop := Claim7.holds Tryd.pinned (.plain (OpenSpec.upto evidTellsSpec)) evidTellsUptoCard

/-- THE SECOND FORM's CARD OF 'bushellaw13.EvidWhole'. -/
def evidWholeUptoCard : Claim7 := { stood := { row := evidWholeUptoRow, standIns := [], harness := (true, "ee5d7f88c24d3b202f0ae12000ab92a928e966159658b26c917a9e8a458eaef2"), looks := true }, kinds := [], alts := [], laidByText := true, laidKinds := [.data, .data, .data], laidTests := true, laidLooks := .later }
def EvidWholeUptoCardSaid : Prop := Claim7.holds Tryd.pinned (.plain (OpenSpec.upto evidWholeSpec)) evidWholeUptoCard
end Rows
end Go.Proofs.YtlgmddnpmmggdaaDoor
