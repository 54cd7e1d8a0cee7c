/-
  DERIVED. GIVEN WITH THE SEED: THE CARDS: each row of YtaghhdgiegcimaaDoorRows.lean that lists a variable, with what it lists TIED to the program's text (the seventh form; the later family's looks); each row that meets fmt, with fmt's text TOLD by the authors' own Lean function (tested against real Go, not proved from fmt's source: count such statements apart). THE CARD IS WHAT COUNTS. Prove the row's statement (the work); the ties are given (YtaghhdgiegcimaaDoorTie.lean); close each card by the builder's one call (the guide's Derived/Test/ToyasCard.lean, 'card_holds'). Laid BY PROGRAM, IN A SANDBOX (cutbox-door.mjs). By AI agents, Wed Nov 11 2026. No macro, syntax, notation, axiom, sorry.
-/
import Derived.Test.YtaghhdgiegcimaaDoorRows
import GoSem.ClaimSeven
namespace Go.Proofs.YtaghhdgiegcimaaDoor
namespace Rows

/-- THE TIED CARD OF 'manciplelaw1.VerAny'. -/
def verAnyCard : Claim7 := { stood := { row := verAnyRow, standIns := [], harness := (true, "17c0a4dbd0451d38cfd83554e1c072e8ddf8356d5ad4f9a765e2ada1d02f07c2"), looks := true }, kinds := [], alts := [], laidByText := true, laidKinds := [.data, .data, .data, .data, .sentinel, .sentinel, .pinned], laidTests := true, laidLooks := .later }
def VerAnyCardSaid : Prop := Claim7.holds Tryd.pinned (.plain (OpenSpec.ofChange verAnySpec)) verAnyCard

/-- THE TIED CARD OF 'manciplelaw1.VerRows'. -/
def verRowsCard : Claim7 := { stood := { row := verRowsRow, standIns := [], harness := (true, "17c0a4dbd0451d38cfd83554e1c072e8ddf8356d5ad4f9a765e2ada1d02f07c2"), looks := true }, kinds := [], alts := [], laidByText := true, laidKinds := [.data, .data, .data, .data, .sentinel, .sentinel, .pinned], laidTests := true, laidLooks := .later }
def VerRowsCardSaid : Prop := Claim7.holds Tryd.pinned (.plain (OpenSpec.ofChange verRowsSpec)) verRowsCard

/-- THE TIED CARD OF 'manciplelaw1.VerNumbers'. -/
def verNumbersCard : Claim7 := { stood := { row := verNumbersRow, standIns := [], harness := (true, "17c0a4dbd0451d38cfd83554e1c072e8ddf8356d5ad4f9a765e2ada1d02f07c2"), looks := true }, kinds := [], alts := [], laidByText := true, laidKinds := [.data, .data, .data, .data, .sentinel, .sentinel, .pinned], laidTests := true, laidLooks := .later }
def VerNumbersCardSaid : Prop := Claim7.holds Tryd.pinned (.plain (OpenSpec.ofChange verNumbersSpec)) verNumbersCard

/-- THE TIED CARD OF 'manciplelaw1.VerMarks'. -/
def verMarksCard : Claim7 := { stood := { row := verMarksRow, standIns := [], harness := (true, "17c0a4dbd0451d38cfd83554e1c072e8ddf8356d5ad4f9a765e2ada1d02f07c2"), looks := true }, kinds := [], alts := [], laidByText := true, laidKinds := [.data, .data, .data, .data, .sentinel, .sentinel, .pinned], laidTests := true, laidLooks := .later }
def VerMarksCardSaid : Prop := Claim7.holds Tryd.pinned (.plain (OpenSpec.ofChange verMarksSpec)) verMarksCard

/-- THE TIED CARD OF 'manciplelaw2.WeightAny'. -/
def weightAnyCard : Claim7 := { stood := { row := weightAnyRow, standIns := [], harness := (true, "17c0a4dbd0451d38cfd83554e1c072e8ddf8356d5ad4f9a765e2ada1d02f07c2"), looks := true }, kinds := [], alts := [], laidByText := true, laidKinds := [.data, .data, .data, .data, .sentinel, .sentinel, .pinned], laidTests := true, laidLooks := .later }
def WeightAnyCardSaid : Prop := Claim7.holds Tryd.pinned (.plain (OpenSpec.ofChange weightAnySpec)) weightAnyCard

/-- THE TIED CARD OF 'manciplelaw2.WeightReads'. -/
def weightReadsCard : Claim7 := { stood := { row := weightReadsRow, standIns := [], harness := (true, "17c0a4dbd0451d38cfd83554e1c072e8ddf8356d5ad4f9a765e2ada1d02f07c2"), looks := true }, kinds := [], alts := [], laidByText := true, laidKinds := [.data, .data, .data, .data, .sentinel, .sentinel, .pinned], laidTests := true, laidLooks := .later }
def WeightReadsCardSaid : Prop := Claim7.holds Tryd.pinned (.plain (OpenSpec.ofChange weightReadsSpec)) weightReadsCard

/-- THE TIED CARD OF 'manciplelaw2.WeightSums'. -/
def weightSumsCard : Claim7 := { stood := { row := weightSumsRow, standIns := [], harness := (true, "17c0a4dbd0451d38cfd83554e1c072e8ddf8356d5ad4f9a765e2ada1d02f07c2"), looks := true }, kinds := [], alts := [], laidByText := true, laidKinds := [.data, .data, .data, .data, .sentinel, .sentinel, .pinned], laidTests := true, laidLooks := .later }
def WeightSumsCardSaid : Prop := Claim7.holds Tryd.pinned (.plain (OpenSpec.ofChange weightSumsSpec)) weightSumsCard

/-- THE TIED CARD OF 'manciplelaw2.WeightRow'. -/
def weightRowCard : Claim7 := { stood := { row := weightRowRow, standIns := [], harness := (true, "17c0a4dbd0451d38cfd83554e1c072e8ddf8356d5ad4f9a765e2ada1d02f07c2"), looks := true }, kinds := [], alts := [], laidByText := true, laidKinds := [.data, .data, .data, .data, .sentinel, .sentinel, .pinned], laidTests := true, laidLooks := .later }
def WeightRowCardSaid : Prop := Claim7.holds Tryd.pinned (.plain (OpenSpec.ofChange weightRowSpec)) weightRowCard

/-- THE TIED CARD OF 'manciplelaw2.WeightTwos'. -/
def weightTwosCard : Claim7 := { stood := { row := weightTwosRow, standIns := [], harness := (true, "17c0a4dbd0451d38cfd83554e1c072e8ddf8356d5ad4f9a765e2ada1d02f07c2"), looks := true }, kinds := [], alts := [], laidByText := true, laidKinds := [.data, .data, .data, .data, .sentinel, .sentinel, .pinned], laidTests := true, laidLooks := .later }
def WeightTwosCardSaid : Prop := Claim7.holds Tryd.pinned (.plain (OpenSpec.ofChange weightTwosSpec)) weightTwosCard

/-- THE TIED CARD OF 'manciplelaw2.WeightGreatest'. -/
def weightGreatestCard : Claim7 := { stood := { row := weightGreatestRow, standIns := [], harness := (true, "17c0a4dbd0451d38cfd83554e1c072e8ddf8356d5ad4f9a765e2ada1d02f07c2"), looks := true }, kinds := [], alts := [], laidByText := true, laidKinds := [.data, .data, .data, .data, .sentinel, .sentinel, .pinned], laidTests := true, laidLooks := .later }
def WeightGreatestCardSaid : Prop := Claim7.holds Tryd.pinned (.plain (OpenSpec.ofChange weightGreatestSpec)) weightGreatestCard

/-- THE SECOND FORM's CARD OF 'manciplelaw1.VerAny'. -/
def verAnyUptoCard : Claim7 := { stood := { row := verAnyUptoRow, standIns := [], harness := (true, "17c0a4dbd0451d38cfd83554e1c072e8ddf8356d5ad4f9a765e2ada1d02f07c2"), looks := true }, kinds := [], alts := [], laidByText := true, laidKinds := [.data, .data, .data, .data, .sentinel, .sentinel, .pinned], laidTests := true, laidLooks := .later }
def VerAnyUptoCardSaid : Prop := Claim7.holds Tryd.pinned (.plain (OpenSpec.upto verAnySpec)) verAnyUptoCard

/-- THE SECOND FORM's CARD OF 'manciplelaw1.VerRows'. -/
def verRowsUptoCard : Claim7 := { stood := { row := verRowsUptoRow, standIns := [], harness := (true, "17c0a4dbd0451d38cfd83554e1c072e8ddf8356d5ad4f9a765e2ada1d02f07c2"), looks := true }, kinds := [], alts := [], laidByText := true, laidKinds := [.data, .data, .data, .data, .sentinel, .sentinel, .pinned], laidTests := true, laidLooks := .later }
def VerRowsUptoCardSaid : Prop := Claim7.holds Tryd.pinned (.plain (OpenSpec.upto verRowsSpec)) verRowsUptoCard

/-- THE SECOND FORM's CARD OF 'manciplelaw1.VerNumbers'. -/
def verNumbersUptoCard : Claim7 := { stood := { row := verNumbersUptoRow, standIns := [], harness := (true, "17c0a4dbd0451d38cfd83554e1c072e8ddf8356d5ad4f9a765e2ada1d02f07c2"), looks := true }, kinds := [], alts := [], laidByText := true, laidKinds := [.data, .data, .data, .data, .sentinel, .sentinel, .pinned], laidTests := true, laidLooks := .later }
def VerNumbersUptoCardSaid : Prop := Claim7.holds Tryd.pinned (.plain (OpenSpec.upto verNumbersSpec)) verNumbersUptoCard

/-- THE SECOND FORM's CARD OF 'manciplelaw1.VerMarks'. -/
def verMarksUptoCard : Claim7 := { stood := { row := verMarksUptoRow, standIns := [], harness := (true, "17c0a4dbd0451d38cfd83554e1c072e8ddf8356d5ad4f9a765e2ada1d02f07c2"), looks := true }, kinds := [], alts := [], laidByText := true, laidKinds := [.data, .data, .data, .data, .sentinel, .sentinel, .pinned], laidTests := true, laidLooks := .later }
def VerMarksUptoCardSaid : Prop := Claim7.holds Tryd.pinned (.plain (OpenSpec.upto verMarksSpec)) verMarksUptoCard

/-- THE SECOND FORM's CARD OF 'manciplelaw2.WeightAny'. -/
def weightAnyUptoCard : Claim7 := { stood := { row := weightAnyUptoRow, standIns := [], harness := (true, "17c0a4dbd0451d38cfd83554e1c072e8ddf8356d5ad4f9a765e2ada1d02f07c2"), looks := true }, kinds := [], alts := [], laidByText := true, laidKinds := [.data, .data, .data, .data, .sentinel, .sentinel, .pinned], laidTests := true, laidLooks := .later }
def WeightAnyUptoCardSaid : Prop := Claim7.holds Tryd.pinned (.plain (OpenSpec.upto weightAnySpec)) weightAnyUptoCard

/-- THE SECOND FORM's CARD OF 'manciplelaw2.WeightReads'. -/
def weightReadsUptoCard : Claim7 := { stood := { row := weightReadsUptoRow, standIns := [], harness := (true, "17c0a4dbd0451d38cfd83554e1c072e8ddf8356d5ad4f9a765e2ada1d02f07c2"), looks := true }, kinds := [], alts := [], laidByText := true, laidKinds := [.data, .data, .data, .data, .sentinel, .sentinel, .pinned], laidTests := true, laidLooks := .later }
def WeightReadsUptoCardSaid : Prop := Claim7.holds Tryd.pinned (.plain (OpenSpec.upto weightReadsSpec)) weightReadsUptoCard

/-- THE SECOND FORM's CARD OF 'manciplelaw2.WeightSums'. -/
def weightSumsUptoCard : Claim7 := { stood := { row := weightSumsUptoRow, standIns := [], harness := (true, "17c0a4dbd0451d38cfd83554e1c072e8ddf8356d5ad4f9a765e2ada1d02f07c2"), looks := true }, kinds := [], alts := [], laidByText := true, laidKinds := [.data, .data, .data, .data, .sentinel, .sentinel, .pinned], laidTests := true, laidLooks := .later }
def WeightSumsUptoCardSaid : Prop := Claim7.holds Tryd.pinned (.plain (OpenSpec.upto weightSumsSpec)) weightSumsUptoCard

/-- THE SECOND FORM's CARD OF 'manciplelaw2.WeightRow'. -/
def weightRowUptoCard : Claim7 := { stood := { row := weightRowUptoRow, standIns := [], harness := (true, "17c0a4dbd0451d38cfd83554e1c072e8ddf8356d5ad4f9a765e2ada1d02f07c2"), looks := true }, kinds := [], alts := [], laidByText := true, laidKinds := [.data, .data, .data, .data, .sentinel, .sentinel, .pinned], laidTests := true, laidLooks := .later }
def WeightRowUptoCardSaid : Prop := Claim7.holds Tryd.pinned (.plain (OpenSpec.upto weightRowSpec)) weightRowUptoCard

/-- THE SECOND FORM's CARD OF 'manciplelaw2.WeightTwos'. -/
def weightTwosUptoCard : Claim7 := { stood := { row := weightTwosUptoRow, standIns := [], harness := (true, "17c0a4dbd0451d38cfd83554e1c072e8ddf8356d5ad4f9a765e2ada1d02f07c2"), looks := true }, kinds := [], alts := [], laidByText := true, laidKinds := [.data, .data, .data, .data, .sentinel, .sentinel, .pinned], laidTests := true, laidLooks := .later }
def WeightTwosUptoCardSaid : Prop := Claim7.holds Tryd.pinned (.plain (OpenSpec.upto weightTwosSpec)) weightTwosUptoCard

/-- THE SECOND FORM's CARD OF 'manciplelaw2.WeightGreatest'. -/
def weightGreatestUptoCard : Claim7 := { stood := { row := weightGreatestUptoRow, standIns := [], harness := (true, "17c0a4dbd0451d38cfd83554e1c072e8ddf8356d5ad4f9a765e2ada1d02f07c2"), looks := true }, kinds := [], alts := [], laidByText := true, laidKinds := [.data, .data, .data, .data, .sentinel, .sentinel, .pinned], laidTests := true, laidLooks := .later }
def WeightGreatestUptoCardSaid : Prop := Claim7.holds Tryd.pinned (.plain (OpenSpec.upto weightGreatestSpec)) weightGreatestUptoCard
end Rows
end Go.Proofs.YtaghhdgiegcimaaDoor
