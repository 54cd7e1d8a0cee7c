/-
  DERIVED. GIVEN WITH THE SEED: THE CARDS: each row of YtkdildgdodnbbaaGreatDoorRows.lean that lists a variable, with what it lists TIED to the program's text (the seventh form; the later family's looks); each row that meets fmt, with fmt's text TOLD by the authors' own Lean function (tested against real Go, not proved from fmt's source: count such statements apart). THE CARD IS WHAT COUNTS. Prove the row's statement (the work); the ties are given (YtkdildgdodnbbaaGreatDoorTie.lean); close each card by the builder's one call (the guide's Derived/Test/ToyasCard.lean, 'card_holds'). Laid BY PROGRAM, IN A SANDBOX (cutbox-door.mjs). By AI agents, Wed Nov 11 2026. No macro, syntax, notation, axiom, sorry.
-/
import Derived.Test.YtkdildgdodnbbaaGreatDoorRows
import GoSem.ClaimSeven
namespace Go.Proofs.YtkdildgdodnbbaaGreatDoor
namespace Rows

/-- THE TIED CARD OF 'manciplelaw9.AskAny'. -/
def askAnyCard : Claim7 := { stood := { row := askAnyRow, standIns := [], harness := (true, "3137ac7c6ffb4fc68ab5583eb8580803835575555b25b5cbf274218410817b4b"), looks := true }, kinds := [], alts := [], laidByText := true, laidKinds := [.data, .data, .pinned], laidTests := true, laidLooks := .later }
def AskAnyCardSaid : Prop := Claim7.holds Tryz.pinned (.plain (OpenSpec.ofChange askAnySpec)) askAnyCard

/-- THE TIED CARD OF 'manciplelaw9.AskReads'. -/
def askReadsCard : Claim7 := { stood := { row := askReadsRow, standIns := [], harness := (true, "3137ac7c6ffb4fc68ab5583eb8580803835575555b25b5cbf274218410817b4b"), looks := true }, kinds := [], alts := [], laidByText := true, laidKinds := [.data, .data, .pinned], laidTests := true, laidLooks := .later }
def AskReadsCardSaid : Prop := Claim7.holds Tryz.pinned (.plain (OpenSpec.ofChange askReadsSpec)) askReadsCard

/-- THE TIED CARD OF 'manciplelaw9.AskLines'. -/
def askLinesCard : Claim7 := { stood := { row := askLinesRow, standIns := [], harness := (true, "3137ac7c6ffb4fc68ab5583eb8580803835575555b25b5cbf274218410817b4b"), looks := true }, kinds := [], alts := [], laidByText := true, laidKinds := [.data, .data, .pinned], laidTests := true, laidLooks := .later }
def AskLinesCardSaid : Prop := Claim7.holds Tryz.pinned (.plain (OpenSpec.ofChange askLinesSpec)) askLinesCard

/-- THE TIED CARD OF 'manciplelaw9.AskRanges'. -/
def askRangesCard : Claim7 := { stood := { row := askRangesRow, standIns := [], harness := (true, "3137ac7c6ffb4fc68ab5583eb8580803835575555b25b5cbf274218410817b4b"), looks := true }, kinds := [], alts := [], laidByText := true, laidKinds := [.data, .data, .pinned], laidTests := true, laidLooks := .later }
def AskRangesCardSaid : Prop := Claim7.holds Tryz.pinned (.plain (OpenSpec.ofChange askRangesSpec)) askRangesCard

/-- THE SECOND FORM's CARD OF 'manciplelaw9.AskAny'. -/
def askAnyUptoCard : Claim7 := { stood := { row := askAnyUptoRow, standIns := [], harness := (true, "3137ac7c6ffb4fc68ab5583eb8580803835575555b25b5cbf274218410817b4b"), looks := true }, kinds := [], alts := [], laidByText := true, laidKinds := [.data, .data, .pinned], laidTests := true, laidLooks := .later }
def AskAnyUptoCardSaid : Prop := Claim7.holds Tryz.pinned (.plain (OpenSpec.upto askAnySpec)) askAnyUptoCard

/-- THE SECOND FORM's CARD OF 'manciplelaw9.AskReads'. -/
def askReadsUptoCard : Claim7 := { stood := { row := askReadsUptoRow, standIns := [], harness := (true, "3137ac7c6ffb4fc68ab5583eb8580803835575555b25b5cbf274218410817b4b"), looks := true }, kinds := [], alts := [], laidByText := true, laidKinds := [.data, .data, .pinned], laidTests := true, laidLooks := .later }
def AskReadsUptoCardSaid : Prop := Claim7.holds Tryz.pinned (.plain (OpenSpec.upto askReadsSpec)) askReadsUptoCard

/-- THE SECOND FORM's CARD OF 'manciplelaw9.AskLines'. -/
def askLinesUptoCard : Claim7 := { stood := { row := askLinesUptoRow, standIns := [], harness := (true, "3137ac7c6ffb4fc68ab5583eb8580803835575555b25b5cbf274218410817b4b"), looks := true }, kinds := [], alts := [], laidByText := true, laidKinds := [.data, .data, .pinned], laidTests := true, laidLooks := .later }
def AskLinesUptoCardSaid : Prop := Claim7.holds Tryz.pinned (.plain (OpenSpec.upto askLinesSpec)) askLinesUptoCard

/-- THE SECOND FORM's CARD OF 'manciplelaw9.AskRanges'. -/
def askRangesUptoCard : Claim7 := { stood := { row := askRangesUptoRow, standIns := [], harness := (true, "3137ac7c6ffb4fc68ab5583eb8580803835575555b25b5cbf274218410817b4b"), looks := true }, kinds := [], alts := [], laidByText := true, laidKinds := [.data, .data, .pinned], laidTests := true, laidLooks := .later }
def AskRangesUptoCardSaid : Prop := Claim7.holds Tryz.pinned (.plain (OpenSpec.upto askRangesSpec)) askRangesUptoCard
end Rows
end Go.Proofs.YtkdildgdodnbbaaGreatDoor
