/-
  DERIVED. GIVEN WITH THE SEED: THE CARDS: each row of YtkbahnimnhafiaaDoorRows.lean that lists a variable, with what it lists TIED to the program's text (the seventh form; the later family's looks); each row that meets fmt, with fmt's text TOLD by the authors' own Lean function (tested against real Go, not proved from fmt's source: count such statements apart). THE CARD IS WHAT COUNTS. Prove the row's statement (the work); the ties are given (YtkbahnimnhafiaaDoorTie.lean); close each card by the builder's one call (the guide's Derived/Test/ToyasCard.lean, 'card_holds'). Laid BY PROGRAM, IN A SANDBOX (cutbox-door.mjs). By AI agents, Wed Nov 11 2026. No macro, syntax, notation, axiom, sorry.
-/
import Derived.Test.YtkbahnimnhafiaaDoorRows
import GoSem.ClaimSeven
namespace Go.Proofs.YtkbahnimnhafiaaDoor
namespace Rows

/-- THE TIED CARD OF 'manciplelaw1.VerAny'. -/
def verAnyCard : Claim7 := { stood := { row := verAnyRow, standIns := [], harness := (true, "369a765e5562e8bfb3a4a879a3f6deb5e16362d2473bba74105230a6eea029fe"), looks := true }, kinds := [], alts := [], laidByText := true, laidKinds := [.data, .data, .data, .data, .sentinel, .sentinel, .pinned], laidTests := true, laidLooks := .later }
def VerAnyCardSaid : Prop := Claim7.holds Tryd.pinned (.plain (OpenSpec.ofChange verAnySpec)) verAnyCard

/-- THE TIED CARD OF 'manciplelaw1.VerRows'. -/
def verRowsCard : Claim7 := { stood := { row := verRowsRow, standIns := [], harness := (true, "369a765e5562e8bfb3a4a879a3f6deb5e16362d2473bba74105230a6eea029fe"), looks := true }, kinds := [], alts := [], laidByText := true, laidKinds := [.data, .data, .data, .data, .sentinel, .sentinel, .pinned], laidTests := true, laidLooks := .later }
def VerRowsCardSaid : Prop := Claim7.holds Tryd.pinned (.plain (OpenSpec.ofChange verRowsSpec)) verRowsCard

/-- THE TIED CARD OF 'manciplelaw1.VerNumbers'. -/
def verNumbersCard : Claim7 := { stood := { row := verNumbersRow, standIns := [], harness := (true, "369a765e5562e8bfb3a4a879a3f6deb5e16362d2473bba74105230a6eea029fe"), looks := true }, kinds := [], alts := [], laidByText := true, laidKinds := [.data, .data, .data, .data, .sentinel, .sentinel, .pinned], laidTests := true, laidLooks := .later }
def VerNumbersCardSaid : Prop := Claim7.holds Tryd.pinned (.plain (OpenSpec.ofChange verNumbersSpec)) verNumbersCard

/-- THE TIED CARD OF 'manciplelaw1.VerMarks'. -/
def verMarksCard : Claim7 := { stood := { row := verMarksRow, standIns := [], harness := (true, "369a765e5562e8bfb3a4a879a3f6deb5e16362d2473bba74105230a6eea029fe"), looks := true }, kinds := [], alts := [], laidByText := true, laidKinds := [.data, .data, .data, .data, .sentinel, .sentinel, .pinned], laidTests := true, laidLooks := .later }
def VerMarksCardSaid : Prop := Claim7.holds Tryd.pinned (.plain (OpenSpec.ofChange verMarksSpec)) verMarksCard

/-- THE SECOND FORM's CARD OF 'manciplelaw1.VerAny'. -/
def verAnyUptoCard : Claim7 := { stood := { row := verAnyUptoRow, standIns := [], harness := (true, "369a765e5562e8bfb3a4a879a3f6deb5e16362d2473bba74105230a6eea029fe"), looks := true }, kinds := [], alts := [], laidByText := true, laidKinds := [.data, .data, .data, .data, .sentinel, .sentinel, .pinned], laidTests := true, laidLooks := .later }
def VerAnyUptoCardSaid : Prop := Claim7.holds Tryd.pinned (.plain (OpenSpec.upto verAnySpec)) verAnyUptoCard

/-- THE SECOND FORM's CARD OF 'manciplelaw1.VerRows'. -/
def verRowsUptoCard : Claim7 := { stood := { row := verRowsUptoRow, standIns := [], harness := (true, "369a765e5562e8bfb3a4a879a3f6deb5e16362d2473bba74105230a6eea029fe"), looks := true }, kinds := [], alts := [], laidByText := true, laidKinds := [.data, .data, .data, .data, .sentinel, .sentinel, .pinned], laidTests := true, laidLooks := .later }
def VerRowsUptoCardSaid : Prop := Claim7.holds Tryd.pinned (.plain (OpenSpec.upto verRowsSpec)) verRowsUptoCard

/-- THE SECOND FORM's CARD OF 'manciplelaw1.VerNumbers'. -/
def verNumbersUptoCard : Claim7 := { stood := { row := verNumbersUptoRow, standIns := [], harness := (true, "369a765e5562e8bfb3a4a879a3f6deb5e16362d2473bba74105230a6eea029fe"), looks := true }, kinds := [], alts := [], laidByText := true, laidKinds := [.data, .data, .data, .data, .sentinel, .sentinel, .pinned], laidTests := true, laidLooks := .later }
def VerNumbersUptoCardSaid : Prop := Claim7.holds Tryd.pinned (.plain (OpenSpec.upto verNumbersSpec)) verNumbersUptoCard

/-- THE SECOND FORM's CARD OF 'manciplelaw1.VerMarks'. -/
def verMarksUptoCard : Claim7 := { stood := { row := verMarksUptoRow, standIns := [], harness := (true, "369a765e5562e8bfb3a4a879a3f6deb5e16362d2473bba74105230a6eea029fe"), looks := true }, kinds := [], alts := [], laidByText := true, laidKinds := [.data, .data, .data, .data, .sentinel, .sentinel, .pinned], laidTests := true, laidLooks := .later }
def VerMarksUptoCardSaid : Prop := Claim7.holds Tryd.pinned (.plain (OpenSpec.upto verMarksSpec)) verMarksUptoCard
end Rows
end Go.Proofs.YtkbahnimnhafiaaDoor
