/-
  DERIVED. GIVEN WITH THE SEED: THE CARDS: each row of YtkbahnimnhafiaaGreatDoorRows.lean that lists a variable, with what it lists TIED to the program's text (the seventh form; the later family's looks); each row that meets fmt, with fmt's text TOLD by the authors' own Lean function (tested against real Go, not proved from fmt's source: count such statements apart). THE CARD IS WHAT COUNTS. Prove the row's statement (the work); the ties are given (YtkbahnimnhafiaaGreatDoorTie.lean); close each card by the builder's one call (the guide's Derived/Test/ToyasCard.lean, 'card_holds'). Laid BY PROGRAM, IN A SANDBOX (cutbox-door.mjs). By AI agents, Wed Nov 11 2026. No macro, syntax, notation, axiom, sorry.
-/
import Derived.Test.YtkbahnimnhafiaaGreatDoorRows
import GoSem.ClaimSeven
namespace Go.Proofs.YtkbahnimnhafiaaGreatDoor
namespace Rows

/-- THE TIED CARD OF 'manciplelaw1.VerPairs'. -/
def verPairsCard : Claim7 := { stood := { row := verPairsRow, standIns := [], harness := (true, "0b27148596009068b35b2b6b9da0dbe6b9a76223ed33337287a014cf78132b86"), looks := true }, kinds := [], alts := [], laidByText := true, laidKinds := [.data, .data, .data, .data, .sentinel, .sentinel, .pinned], laidTests := true, laidLooks := .later }
def VerPairsCardSaid : Prop := Claim7.holds Tryz.pinned (.plain (OpenSpec.ofChange verPairsSpec)) verPairsCard

/-- THE SECOND FORM's CARD OF 'manciplelaw1.VerPairs'. -/
def verPairsUptoCard : Claim7 := { stood := { row := verPairsUptoRow, standIns := [], harness := (true, "0b27148596009068b35b2b6b9da0dbe6b9a76223ed33337287a014cf78132b86"), looks := true }, kinds := [], alts := [], laidByText := true, laidKinds := [.data, .data, .data, .data, .sentinel, .sentinel, .pinned], laidTests := true, laidLooks := .later }
def VerPairsUptoCardSaid : Prop := Claim7.holds Tryz.pinned (.plain (OpenSpec.upto verPairsSpec)) verPairsUptoCard
end Rows
end Go.Proofs.YtkbahnimnhafiaaGreatDoor
