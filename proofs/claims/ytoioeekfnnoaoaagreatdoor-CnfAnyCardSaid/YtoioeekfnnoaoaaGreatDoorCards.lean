/-
  DERIVED. GIVEN WITH THE SEED: THE CARDS: each row of YtoioeekfnnoaoaaGreatDoorRows.lean that lists a variable, with what it lists TIED to the program's text (the seventh form; the later family's looks); each row that meets fmt, with fmt's text TOLD by the authors' own Lean function (tested against real Go, not proved from fmt's source: count such statements apart). THE CARD IS WHAT COUNTS. Prove the row's statement (the work); the ties are given (YtoioeekfnnoaoaaGreatDoorTie.lean); close each card by the builder's one call (the guide's Derived/Test/ToyasCard.lean, 'card_holds'). Laid BY PROGRAM, IN A SANDBOX (cutbox-door.mjs). By AI agents, Wed Nov 11 2026. No macro, syntax, notation, axiom, sorry.
-/
import Derived.Test.YtoioeekfnnoaoaaGreatDoorRows
import GoSem.ClaimSeven
namespace Go.Proofs.YtoioeekfnnoaoaaGreatDoor
namespace Rows

/-- THE TIED CARD OF 'manciplelaw13.CnfAny'. -/
def cnfAnyCard : Claim7 := { stood := { row := cnfAnyRow, standIns := [], harness := (true, "9533fc75d319f580593f6fa71eb027d39ec186b88691c3f2188f7fac8f6da2da"), looks := true }, kinds := [], alts := [], laidByText := true, laidKinds := [.data, .data, .data, .data, .sentinel, .sentinel, .pinned], laidTests := true, laidLooks := .later }
def CnfAnyCardSaid : Prop := Claim7.holds Tryz.pinned (.plain (OpenSpec.ofChange cnfAnySpec)) cnfAnyCard

/-- THE TIED CARD OF 'manciplelaw13.CnfReads'. -/
def cnfReadsCard : Claim7 := { stood := { row := cnfReadsRow, standIns := [], harness := (true, "9533fc75d319f580593f6fa71eb027d39ec186b88691c3f2188f7fac8f6da2da"), looks := true }, kinds := [], alts := [], laidByText := true, laidKinds := [.data, .data, .data, .data, .sentinel, .sentinel, .pinned], laidTests := true, laidLooks := .later }
def CnfReadsCardSaid : Prop := Claim7.holds Tryz.pinned (.plain (OpenSpec.ofChange cnfReadsSpec)) cnfReadsCard

/-- THE TIED CARD OF 'manciplelaw13.CnfNorm'. -/
def cnfNormCard : Claim7 := { stood := { row := cnfNormRow, standIns := [], harness := (true, "9533fc75d319f580593f6fa71eb027d39ec186b88691c3f2188f7fac8f6da2da"), looks := true }, kinds := [], alts := [], laidByText := true, laidKinds := [.data, .data, .data, .data, .sentinel, .sentinel, .pinned], laidTests := true, laidLooks := .later }
def CnfNormCardSaid : Prop := Claim7.holds Tryz.pinned (.plain (OpenSpec.ofChange cnfNormSpec)) cnfNormCard

/-- THE TIED CARD OF 'manciplelaw13.CnfBounds'. -/
def cnfBoundsCard : Claim7 := { stood := { row := cnfBoundsRow, standIns := [], harness := (true, "9533fc75d319f580593f6fa71eb027d39ec186b88691c3f2188f7fac8f6da2da"), looks := true }, kinds := [], alts := [], laidByText := true, laidKinds := [.data, .data, .data, .data, .sentinel, .sentinel, .pinned], laidTests := true, laidLooks := .later }
def CnfBoundsCardSaid : Prop := Claim7.holds Tryz.pinned (.plain (OpenSpec.ofChange cnfBoundsSpec)) cnfBoundsCard

/-- THE TIED CARD OF 'manciplelaw13.CnfSame'. -/
def cnfSameCard : Claim7 := { stood := { row := cnfSameRow, standIns := [], harness := (true, "9533fc75d319f580593f6fa71eb027d39ec186b88691c3f2188f7fac8f6da2da"), looks := true }, kinds := [], alts := [], laidByText := true, laidKinds := [.data, .data, .data, .data, .sentinel, .sentinel, .pinned], laidTests := true, laidLooks := .later }
def CnfSameCardSaid : Prop := Claim7.holds Tryz.pinned (.plain (OpenSpec.ofChange cnfSameSpec)) cnfSameCard

/-- THE TIED CARD OF 'manciplelaw13.CnfFirst'. -/
def cnfFirstCard : Claim7 := { stood := { row := cnfFirstRow, standIns := [], harness := (true, "9533fc75d319f580593f6fa71eb027d39ec186b88691c3f2188f7fac8f6da2da"), looks := true }, kinds := [], alts := [], laidByText := true, laidKinds := [.data, .data, .data, .data, .sentinel, .sentinel, .pinned], laidTests := true, laidLooks := .later }
def CnfFirstCardSaid : Prop := Claim7.holds Tryz.pinned (.plain (OpenSpec.ofChange cnfFirstSpec)) cnfFirstCard

/-- THE SECOND FORM's CARD OF 'manciplelaw13.CnfAny'. -/
def cnfAnyUptoCard : Claim7 := { stood := { row := cnfAnyUptoRow, standIns := [], harness := (true, "9533fc75d319f580593f6fa71eb027d39ec186b88691c3f2188f7fac8f6da2da"), looks := true }, kinds := [], alts := [], laidByText := true, laidKinds := [.data, .data, .data, .data, .sentinel, .sentinel, .pinned], laidTests := true, laidLooks := .later }
def CnfAnyUptoCardSaid : Prop := Claim7.holds Tryz.pinned (.plain (OpenSpec.upto cnfAnySpec)) cnfAnyUptoCard

/-- THE SECOND FORM's CARD OF 'manciplelaw13.CnfReads'. -/
def cnfReadsUptoCard : Claim7 := { stood := { row := cnfReadsUptoRow, standIns := [], harness := (true, "9533fc75d319f580593f6fa71eb027d39ec186b88691c3f2188f7fac8f6da2da"), looks := true }, kinds := [], alts := [], laidByText := true, laidKinds := [.data, .data, .data, .data, .sentinel, .sentinel, .pinned], laidTests := true, laidLooks := .later }
def CnfReadsUptoCardSaid : Prop := Claim7.holds Tryz.pinned (.plain (OpenSpec.upto cnfReadsSpec)) cnfReadsUptoCard

/-- THE SECOND FORM's CARD OF 'manciplelaw13.CnfNorm'. -/
def cnfNormUptoCard : Claim7 := { stood := { row := cnfNormUptoRow, standIns := [], harness := (true, "9533fc75d319f580593f6fa71eb027d39ec186b88691c3f2188f7fac8f6da2da"), looks := true }, kinds := [], alts := [], laidByText := true, laidKinds := [.data, .data, .data, .data, .sentinel, .sentinel, .pinned], laidTests := true, laidLooks := .later }
def CnfNormUptoCardSaid : Prop := Claim7.holds Tryz.pinned (.plain (OpenSpec.upto cnfNormSpec)) cnfNormUptoCard

/-- THE SECOND FORM's CARD OF 'manciplelaw13.CnfBounds'. -/
def cnfBoundsUptoCard : Claim7 := { stood := { row := cnfBoundsUptoRow, standIns := [], harness := (true, "9533fc75d319f580593f6fa71eb027d39ec186b88691c3f2188f7fac8f6da2da"), looks := true }, kinds := [], alts := [], laidByText := true, laidKinds := [.data, .data, .data, .data, .sentinel, .sentinel, .pinned], laidTests := true, laidLooks := .later }
def CnfBoundsUptoCardSaid : Prop := Claim7.holds Tryz.pinned (.plain (OpenSpec.upto cnfBoundsSpec)) cnfBoundsUptoCard

/-- THE SECOND FORM's CARD OF 'manciplelaw13.CnfSame'. -/
def cnfSameUptoCard : Claim7 := { stood := { row := cnfSameUptoRow, standIns := [], harness := (true, "9533fc75d319f580593f6fa71eb027d39ec186b88691c3f2188f7fac8f6da2da"), looks := true }, kinds := [], alts := [], laidByText := true, laidKinds := [.data, .data, .data, .data, .sentinel, .sentinel, .pinned], laidTests := true, laidLooks := .later }
def CnfSameUptoCardSaid : Prop := Claim7.holds Tryz.pinned (.plain (OpenSpec.upto cnfSameSpec)) cnfSameUptoCard

/-- THE SECOND FORM's CARD OF 'manciplelaw13.CnfFirst'. -/
def cnfFirstUptoCard : Claim7 := { stood := { row := cnfFirstUptoRow, standIns := [], harness := (true, "9533fc75d319f580593f6fa71eb027d39ec186b88691c3f2188f7fac8f6da2da"), looks := true }, kinds := [], alts := [], laidByText := true, laidKinds := [.data, .data, .data, .data, .sentinel, .sentinel, .pinned], laidTests := true, laidLooks := .later }
def CnfFirstUptoCardSaid : Prop := Claim7.holds Tryz.pinned (.plain (OpenSpec.upto cnfFirstSpec)) cnfFirstUptoCard
end Rows
end Go.Proofs.YtoioeekfnnoaoaaGreatDoor
