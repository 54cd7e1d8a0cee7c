/-
  DERIVED. GIVEN WITH THE SEED: THE CARDS: each row of YtpfkphmldalmmaaGreatDoorRows.lean that lists a variable, with what it lists TIED to the program's text (the seventh form; the later family's looks); each row that meets fmt, with fmt's text TOLD by the authors' own Lean function (tested against real Go, not proved from fmt's source: count such statements apart). THE CARD IS WHAT COUNTS. Prove the row's statement (the work); the ties are given (YtpfkphmldalmmaaGreatDoorTie.lean); close each card by the builder's one call (the guide's Derived/Test/ToyasCard.lean, 'card_holds'). Laid BY PROGRAM, IN A SANDBOX (cutbox-door.mjs). By AI agents, Wed Nov 11 2026. No macro, syntax, notation, axiom, sorry.
-/
import Derived.Test.YtpfkphmldalmmaaGreatDoorRows
import GoSem.ClaimSeven
namespace Go.Proofs.YtpfkphmldalmmaaGreatDoor
namespace Rows

/-- THE TIED CARD OF 'manciplelaw6.PkgAny'. -/
def pkgAnyCard : Claim7 := { stood := { row := pkgAnyRow, standIns := [], harness := (true, "dc8822d66790f2e06cf0c08932ee1fa18cb229abaf8b0db9c62da1a6e3ce53a7"), looks := true }, kinds := [], alts := [], laidByText := true, laidKinds := [.data, .data, .data, .data, .sentinel, .sentinel, .pinned], laidTests := true, laidLooks := .later }
def PkgAnyCardSaid : Prop := Claim7.holds Tryz.pinned (.plain (OpenSpec.ofChange pkgAnySpec)) pkgAnyCard

/-- THE SECOND FORM's CARD OF 'manciplelaw6.PkgAny'. -/
def pkgAnyUptoCard : Claim7 := { stood := { row := pkgAnyUptoRow, standIns := [], harness := (true, "dc8822d66790f2e06cf0c08932ee1fa18cb229abaf8b0db9c62da1a6e3ce53a7"), looks := true }, kinds := [], alts := [], laidByText := true, laidKinds := [.data, .data, .data, .data, .sentinel, .sentinel, .pinned], laidTests := true, laidLooks := .later }
def PkgAnyUptoCardSaid : Prop := Claim7.holds Tryz.pinned (.plain (OpenSpec.upto pkgAnySpec)) pkgAnyUptoCard
end Rows
end Go.Proofs.YtpfkphmldalmmaaGreatDoor
