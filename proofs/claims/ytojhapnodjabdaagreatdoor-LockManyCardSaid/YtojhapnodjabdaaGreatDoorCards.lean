/-
  DERIVED. GIVEN WITH THE SEED: THE CARDS: each row of YtojhapnodjabdaaGreatDoorRows.lean that lists a variable, with what it lists TIED to the program's text (the seventh form; the later family's looks); each row that meets fmt, with fmt's text TOLD by the authors' own Lean function (tested against real Go, not proved from fmt's source: count such statements apart). THE CARD IS WHAT COUNTS. Prove the row's statement (the work); the ties are given (YtojhapnodjabdaaGreatDoorTie.lean); close each card by the builder's one call (the guide's Derived/Test/ToyasCard.lean, 'card_holds'). Laid BY PROGRAM, IN A SANDBOX (cutbox-door.mjs). By AI agents, Wed Nov 11 2026. No macro, syntax, notation, axiom, sorry.
-/
import Derived.Test.YtojhapnodjabdaaGreatDoorRows
import GoSem.ClaimSeven
namespace Go.Proofs.YtojhapnodjabdaaGreatDoor
namespace Rows

/-- THE TIED CARD OF 'manciplelaw8.LockAny'. -/
def lockAnyCard : Claim7 := { stood := { row := lockAnyRow, standIns := [], harness := (true, "62eb3cf73c22d391c20e4e84474829c8ff71cdc78a2e09e21bca7f1d10449cec"), looks := true }, kinds := [], alts := [], laidByText := true, laidKinds := [.data, .data, .data, .data, .pinned], laidTests := true, laidLooks := .later }
def LockAnyCardSaid : Prop := Claim7.holds Tryz.pinned (.plain (OpenSpec.ofChange lockAnySpec)) lockAnyCard

/-- THE TIED CARD OF 'manciplelaw8.LockReads'. -/
def lockReadsCard : Claim7 := { stood := { row := lockReadsRow, standIns := [], harness := (true, "62eb3cf73c22d391c20e4e84474829c8ff71cdc78a2e09e21bca7f1d10449cec"), looks := true }, kinds := [], alts := [], laidByText := true, laidKinds := [.data, .data, .data, .data, .pinned], laidTests := true, laidLooks := .later }
def LockReadsCardSaid : Prop := Claim7.holds Tryz.pinned (.plain (OpenSpec.ofChange lockReadsSpec)) lockReadsCard

/-- THE TIED CARD OF 'manciplelaw8.LockTurned'. -/
def lockTurnedCard : Claim7 := { stood := { row := lockTurnedRow, standIns := [], harness := (true, "62eb3cf73c22d391c20e4e84474829c8ff71cdc78a2e09e21bca7f1d10449cec"), looks := true }, kinds := [], alts := [], laidByText := true, laidKinds := [.data, .data, .data, .data, .pinned], laidTests := true, laidLooks := .later }
def LockTurnedCardSaid : Prop := Claim7.holds Tryz.pinned (.plain (OpenSpec.ofChange lockTurnedSpec)) lockTurnedCard

/-- THE TIED CARD OF 'manciplelaw8.LockSums'. -/
def lockSumsCard : Claim7 := { stood := { row := lockSumsRow, standIns := [], harness := (true, "62eb3cf73c22d391c20e4e84474829c8ff71cdc78a2e09e21bca7f1d10449cec"), looks := true }, kinds := [], alts := [], laidByText := true, laidKinds := [.data, .data, .data, .data, .pinned], laidTests := true, laidLooks := .later }
def LockSumsCardSaid : Prop := Claim7.holds Tryz.pinned (.plain (OpenSpec.ofChange lockSumsSpec)) lockSumsCard

/-- THE TIED CARD OF 'manciplelaw8.LockMany'. -/
def lockManyCard : Claim7 := { stood := { row := lockManyRow, standIns := [], harness := (true, "62eb3cf73c22d391c20e4e84474829c8ff71cdc78a2e09e21bca7f1d10449cec"), looks := true }, kinds := [], alts := [], laidByText := true, laidKinds := [.data, .data, .data, .data, .pinned], laidTests := true, laidLooks := .later }
def LockManyCardSaid : Prop := Claim7.holds Tryz.pinned (.plain (OpenSpec.ofChange lockManySpec)) lockManyCard

/-- THE SECOND FORM's CARD OF 'manciplelaw8.LockAny'. -/
def lockAnyUptoCard : Claim7 := { stood := { row := lockAnyUptoRow, standIns := [], harness := (true, "62eb3cf73c22d391c20e4e84474829c8ff71cdc78a2e09e21bca7f1d10449cec"), looks := true }, kinds := [], alts := [], laidByText := true, laidKinds := [.data, .data, .data, .data, .pinned], laidTests := true, laidLooks := .later }
def LockAnyUptoCardSaid : Prop := Claim7.holds Tryz.pinned (.plain (OpenSpec.upto lockAnySpec)) lockAnyUptoCard

/-- THE SECOND FORM's CARD OF 'manciplelaw8.LockReads'. -/
def lockReadsUptoCard : Claim7 := { stood := { row := lockReadsUptoRow, standIns := [], harness := (true, "62eb3cf73c22d391c20e4e84474829c8ff71cdc78a2e09e21bca7f1d10449cec"), looks := true }, kinds := [], alts := [], laidByText := true, laidKinds := [.data, .data, .data, .data, .pinned], laidTests := true, laidLooks := .later }
def LockReadsUptoCardSaid : Prop := Claim7.holds Tryz.pinned (.plain (OpenSpec.upto lockReadsSpec)) lockReadsUptoCard

/-- THE SECOND FORM's CARD OF 'manciplelaw8.LockTurned'. -/
def lockTurnedUptoCard : Claim7 := { stood := { row := lockTurnedUptoRow, standIns := [], harness := (true, "62eb3cf73c22d391c20e4e84474829c8ff71cdc78a2e09e21bca7f1d10449cec"), looks := true }, kinds := [], alts := [], laidByText := true, laidKinds := [.data, .data, .data, .data, .pinned], laidTests := true, laidLooks := .later }
def LockTurnedUptoCardSaid : Prop := Claim7.holds Tryz.pinned (.plain (OpenSpec.upto lockTurnedSpec)) lockTurnedUptoCard

/-- THE SECOND FORM's CARD OF 'manciplelaw8.LockSums'. -/
def lockSumsUptoCard : Claim7 := { stood := { row := lockSumsUptoRow, standIns := [], harness := (true, "62eb3cf73c22d391c20e4e84474829c8ff71cdc78a2e09e21bca7f1d10449cec"), looks := true }, kinds := [], alts := [], laidByText := true, laidKinds := [.data, .data, .data, .data, .pinned], laidTests := true, laidLooks := .later }
def LockSumsUptoCardSaid : Prop := Claim7.holds Tryz.pinned (.plain (OpenSpec.upto lockSumsSpec)) lockSumsUptoCard

/-- THE SECOND FORM's CARD OF 'manciplelaw8.LockMany'. -/
def lockManyUptoCard : Claim7 := { stood := { row := lockManyUptoRow, standIns := [], harness := (true, "62eb3cf73c22d391c20e4e84474829c8ff71cdc78a2e09e21bca7f1d10449cec"), looks := true }, kinds := [], alts := [], laidByText := true, laidKinds := [.data, .data, .data, .data, .pinned], laidTests := true, laidLooks := .later }
def LockManyUptoCardSaid : Prop := Claim7.holds Tryz.pinned (.plain (OpenSpec.upto lockManySpec)) lockManyUptoCard
end Rows
end Go.Proofs.YtojhapnodjabdaaGreatDoor
