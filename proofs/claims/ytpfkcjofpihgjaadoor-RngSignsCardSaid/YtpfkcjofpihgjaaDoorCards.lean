/-
  DERIVED. GIVEN WITH THE SEED: THE CARDS: each row of YtpfkcjofpihgjaaDoorRows.lean that lists a variable, with what it lists TIED to the program's text (the seventh form; the later family's looks); each row that meets fmt, with fmt's text TOLD by the authors' own Lean function (tested against real Go, not proved from fmt's source: count such statements apart). THE CARD IS WHAT COUNTS. Prove the row's statement (the work); the ties are given (YtpfkcjofpihgjaaDoorTie.lean); close each card by the builder's one call (the guide's Derived/Test/ToyasCard.lean, 'card_holds'). Laid BY PROGRAM, IN A SANDBOX (cutbox-door.mjs). By AI agents, Wed Nov 11 2026. No macro, syntax, notation, axiom, sorry.
-/
import Derived.Test.YtpfkcjofpihgjaaDoorRows
import GoSem.ClaimSeven
namespace Go.Proofs.YtpfkcjofpihgjaaDoor
namespace Rows

/-- THE TIED CARD OF 'manciplelaw3.RngSigns'. -/
def rngSignsCard : Claim7 := { stood := { row := rngSignsRow, standIns := [], harness := (true, "ea22c6d0a6f556becd915992538c22ab364bfdc8686fe7b17239bf76b7365d4a"), looks := true }, kinds := [], alts := [], laidByText := true, laidKinds := [.data, .pinned], laidTests := true, laidLooks := .later }
def RngSignsCardSaid : Prop := Claim7.holds Tryd.pinned (.plain (OpenSpec.ofChange rngSignsSpec)) rngSignsCard

/-- THE TIED CARD OF 'manciplelaw3.RngMany'. -/
def rngManyCard : Claim7 := { stood := { row := rngManyRow, standIns := [], harness := (true, "ea22c6d0a6f556becd915992538c22ab364bfdc8686fe7b17239bf76b7365d4a"), looks := true }, kinds := [], alts := [], laidByText := true, laidKinds := [.data, .pinned], laidTests := true, laidLooks := .later }
def RngManyCardSaid : Prop := Claim7.holds Tryd.pinned (.plain (OpenSpec.ofChange rngManySpec)) rngManyCard

/-- THE SECOND FORM's CARD OF 'manciplelaw3.RngSigns'. -/
def rngSignsUptoCard : Claim7 := { stood := { row := rngSignsUptoRow, standIns := [], harness := (true, "ea22c6d0a6f556becd915992538c22ab364bfdc8686fe7b17239bf76b7365d4a"), looks := true }, kinds := [], alts := [], laidByText := true, laidKinds := [.data, .pinned], laidTests := true, laidLooks := .later }
def RngSignsUptoCardSaid : Prop := Claim7.holds Tryd.pinned (.plain (OpenSpec.upto rngSignsSpec)) rngSignsUptoCard

/-- THE SECOND FORM's CARD OF 'manciplelaw3.RngMany'. -/
def rngManyUptoCard : Claim7 := { stood := { row := rngManyUptoRow, standIns := [], harness := (true, "ea22c6d0a6f556becd915992538c22ab364bfdc8686fe7b17239bf76b7365d4a"), looks := true }, kinds := [], alts := [], laidByText := true, laidKinds := [.data, .pinned], laidTests := true, laidLooks := .later }
def RngManyUptoCardSaid : Prop := Claim7.holds Tryd.pinned (.plain (OpenSpec.upto rngManySpec)) rngManyUptoCard
end Rows
end Go.Proofs.YtpfkcjofpihgjaaDoor
