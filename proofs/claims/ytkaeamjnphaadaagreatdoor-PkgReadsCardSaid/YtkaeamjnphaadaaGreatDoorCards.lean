/-
  DERIVED. GIVEN WITH THE SEED: THE CARDS: each row of YtkaeamjnphaadaaGreatDoorRows.lean that lists a variable, with what it lists TIED to the program's text (the seventh form; the later family's looks); each row that meets fmt, with fmt's text TOLD by the authors' own Lean function (tested against real Go, not proved from fmt's source: count such statements apart). THE CARD IS WHAT COUNTS. Prove the row's statement (the work); the ties are given (YtkaeamjnphaadaaGreatDoorTie.lean); close each card by the builder's one call (the guide's Derived/Test/ToyasCard.lean, 'card_holds'). Laid BY PROGRAM, IN A SANDBOX (cutbox-door.mjs). By AI agents, Wed Nov 11 2026. No macro, syntax, notation, axiom, sorry.
-/
import Derived.Test.YtkaeamjnphaadaaGreatDoorRows
import GoSem.ClaimSeven
namespace Go.Proofs.YtkaeamjnphaadaaGreatDoor
namespace Rows

/-- THE TIED CARD OF 'manciplelaw6.PkgReads'. -/
def pkgReadsCard : Claim7 := { stood := { row := pkgReadsRow, standIns := [], harness := (true, "95b59be87efa1fbbb5ba1767ddec41b6233599801eec67cc3309674c4ba1268d"), looks := true }, kinds := [], alts := [], laidByText := true, laidKinds := [.data, .data, .data, .data, .sentinel, .sentinel, .pinned], laidTests := true, laidLooks := .later }
def PkgReadsCardSaid : Prop := Claim7.holds Tryz.pinned (.plain (OpenSpec.ofChange pkgReadsSpec)) pkgReadsCard

/-- THE SECOND FORM's CARD OF 'manciplelaw6.PkgReads'. -/
def pkgReadsUptoCard : Claim7 := { stood := { row := pkgReadsUptoRow, standIns := [], harness := (true, "95b59be87efa1fbbb5ba1767ddec41b6233599801eec67cc3309674c4ba1268d"), looks := true }, kinds := [], alts := [], laidByText := true, laidKinds := [.data, .data, .data, .data, .sentinel, .sentinel, .pinned], laidTests := true, laidLooks := .later }
def PkgReadsUptoCardSaid : Prop := Claim7.holds Tryz.pinned (.plain (OpenSpec.upto pkgReadsSpec)) pkgReadsUptoCard
end Rows
end Go.Proofs.YtkaeamjnphaadaaGreatDoor
