/-
  DERIVED. GIVEN WITH THE SEED: THE CARDS: each row of YtkplahkkmmoppaaGreatDoorRows.lean that lists a variable, with what it lists TIED to the program's text (the seventh form; the later family's looks); each row that meets fmt, with fmt's text TOLD by the authors' own Lean function (tested against real Go, not proved from fmt's source: count such statements apart). THE CARD IS WHAT COUNTS. Prove the row's statement (the work); the ties are given (YtkplahkkmmoppaaGreatDoorTie.lean); close each card by the builder's one call (the guide's Derived/Test/ToyasCard.lean, 'card_holds'). Laid BY PROGRAM, IN A SANDBOX (cutbox-door.mjs). By AI agents, Wed Nov 11 2026. No macro, syntax, notation, axiom, sorry.
-/
import Derived.Test.YtkplahkkmmoppaaGreatDoorRows
import GoSem.ClaimSeven
namespace Go.Proofs.YtkplahkkmmoppaaGreatDoor
namespace Rows

/-- THE TIED CARD OF 'manciplelaw6.PkgAny'. -/
def pkgAnyCard : Claim7 := { stood := { row := pkgAnyRow, standIns := [], harness := (true, "db8ffdce70e4982f83381a681ae6f61607d1c4d0550f486ce4b31993d418ebd9"), looks := true }, kinds := [], alts := [], laidByText := true, laidKinds := [.data, .data, .data, .data, .sentinel, .sentinel, .pinned], laidTests := true, laidLooks := .later }
def PkgAnyCardSaid : Prop := Claim7.holds Tryz.pinned (.plain (OpenSpec.ofChange pkgAnySpec)) pkgAnyCard

/-- THE TIED CARD OF 'manciplelaw6.PkgReads'. -/
def pkgReadsCard : Claim7 := { stood := { row := pkgReadsRow, standIns := [], harness := (true, "db8ffdce70e4982f83381a681ae6f61607d1c4d0550f486ce4b31993d418ebd9"), looks := true }, kinds := [], alts := [], laidByText := true, laidKinds := [.data, .data, .data, .data, .sentinel, .sentinel, .pinned], laidTests := true, laidLooks := .later }
def PkgReadsCardSaid : Prop := Claim7.holds Tryz.pinned (.plain (OpenSpec.ofChange pkgReadsSpec)) pkgReadsCard

/-- THE TIED CARD OF 'manciplelaw6.PkgMeets'. -/
def pkgMeetsCard : Claim7 := { stood := { row := pkgMeetsRow, standIns := [], harness := (true, "db8ffdce70e4982f83381a681ae6f61607d1c4d0550f486ce4b31993d418ebd9"), looks := true }, kinds := [], alts := [], laidByText := true, laidKinds := [.data, .data, .data, .data, .sentinel, .sentinel, .pinned], laidTests := true, laidLooks := .later }
def PkgMeetsCardSaid : Prop := Claim7.holds Tryz.pinned (.plain (OpenSpec.ofChange pkgMeetsSpec)) pkgMeetsCard

/-- THE TIED CARD OF 'manciplelaw6.PkgSizes'. -/
def pkgSizesCard : Claim7 := { stood := { row := pkgSizesRow, standIns := [], harness := (true, "db8ffdce70e4982f83381a681ae6f61607d1c4d0550f486ce4b31993d418ebd9"), looks := true }, kinds := [], alts := [], laidByText := true, laidKinds := [.data, .data, .data, .data, .sentinel, .sentinel, .pinned], laidTests := true, laidLooks := .later }
def PkgSizesCardSaid : Prop := Claim7.holds Tryz.pinned (.plain (OpenSpec.ofChange pkgSizesSpec)) pkgSizesCard

/-- THE TIED CARD OF 'manciplelaw6.PkgOwn'. -/
def pkgOwnCard : Claim7 := { stood := { row := pkgOwnRow, standIns := [], harness := (true, "db8ffdce70e4982f83381a681ae6f61607d1c4d0550f486ce4b31993d418ebd9"), looks := true }, kinds := [], alts := [], laidByText := true, laidKinds := [.data, .data, .data, .data, .sentinel, .sentinel, .pinned], laidTests := true, laidLooks := .later }
def PkgOwnCardSaid : Prop := Claim7.holds Tryz.pinned (.plain (OpenSpec.ofChange pkgOwnSpec)) pkgOwnCard

/-- THE TIED CARD OF 'manciplelaw6.PkgDeps'. -/
def pkgDepsCard : Claim7 := { stood := { row := pkgDepsRow, standIns := [], harness := (true, "db8ffdce70e4982f83381a681ae6f61607d1c4d0550f486ce4b31993d418ebd9"), looks := true }, kinds := [], alts := [], laidByText := true, laidKinds := [.data, .data, .data, .data, .sentinel, .sentinel, .pinned], laidTests := true, laidLooks := .later }
def PkgDepsCardSaid : Prop := Claim7.holds Tryz.pinned (.plain (OpenSpec.ofChange pkgDepsSpec)) pkgDepsCard

/-- THE SECOND FORM's CARD OF 'manciplelaw6.PkgAny'. -/
def pkgAnyUptoCard : Claim7 := { stood := { row := pkgAnyUptoRow, standIns := [], harness := (true, "db8ffdce70e4982f83381a681ae6f61607d1c4d0550f486ce4b31993d418ebd9"), looks := true }, kinds := [], alts := [], laidByText := true, laidKinds := [.data, .data, .data, .data, .sentinel, .sentinel, .pinned], laidTests := true, laidLooks := .later }
def PkgAnyUptoCardSaid : Prop := Claim7.holds Tryz.pinned (.plain (OpenSpec.upto pkgAnySpec)) pkgAnyUptoCard

/-- THE SECOND FORM's CARD OF 'manciplelaw6.PkgReads'. -/
def pkgReadsUptoCard : Claim7 := { stood := { row := pkgReadsUptoRow, standIns := [], harness := (true, "db8ffdce70e4982f83381a681ae6f61607d1c4d0550f486ce4b31993d418ebd9"), looks := true }, kinds := [], alts := [], laidByText := true, laidKinds := [.data, .data, .data, .data, .sentinel, .sentinel, .pinned], laidTests := true, laidLooks := .later }
def PkgReadsUptoCardSaid : Prop := Claim7.holds Tryz.pinned (.plain (OpenSpec.upto pkgReadsSpec)) pkgReadsUptoCard

/-- THE SECOND FORM's CARD OF 'manciplelaw6.PkgMeets'. -/
def pkgMeetsUptoCard : Claim7 := { stood := { row := pkgMeetsUptoRow, standIns := [], harness := (true, "db8ffdce70e4982f83381a681ae6f61607d1c4d0550f486ce4b31993d418ebd9"), looks := true }, kinds := [], alts := [], laidByText := true, laidKinds := [.data, .data, .data, .data, .sentinel, .sentinel, .pinned], laidTests := true, laidLooks := .later }
def PkgMeetsUptoCardSaid : Prop := Claim7.holds Tryz.pinned (.plain (OpenSpec.upto pkgMeetsSpec)) pkgMeetsUptoCard

/-- THE SECOND FORM's CARD OF 'manciplelaw6.PkgSizes'. -/
def pkgSizesUptoCard : Claim7 := { stood := { row := pkgSizesUptoRow, standIns := [], harness := (true, "db8ffdce70e4982f83381a681ae6f61607d1c4d0550f486ce4b31993d418ebd9"), looks := true }, kinds := [], alts := [], laidByText := true, laidKinds := [.data, .data, .data, .data, .sentinel, .sentinel, .pinned], laidTests := true, laidLooks := .later }
def PkgSizesUptoCardSaid : Prop := Claim7.holds Tryz.pinned (.plain (OpenSpec.upto pkgSizesSpec)) pkgSizesUptoCard

/-- THE SECOND FORM's CARD OF 'manciplelaw6.PkgOwn'. -/
def pkgOwnUptoCard : Claim7 := { stood := { row := pkgOwnUptoRow, standIns := [], harness := (true, "db8ffdce70e4982f83381a681ae6f61607d1c4d0550f486ce4b31993d418ebd9"), looks := true }, kinds := [], alts := [], laidByText := true, laidKinds := [.data, .data, .data, .data, .sentinel, .sentinel, .pinned], laidTests := true, laidLooks := .later }
def PkgOwnUptoCardSaid : Prop := Claim7.holds Tryz.pinned (.plain (OpenSpec.upto pkgOwnSpec)) pkgOwnUptoCard

/-- THE SECOND FORM's CARD OF 'manciplelaw6.PkgDeps'. -/
def pkgDepsUptoCard : Claim7 := { stood := { row := pkgDepsUptoRow, standIns := [], harness := (true, "db8ffdce70e4982f83381a681ae6f61607d1c4d0550f486ce4b31993d418ebd9"), looks := true }, kinds := [], alts := [], laidByText := true, laidKinds := [.data, .data, .data, .data, .sentinel, .sentinel, .pinned], laidTests := true, laidLooks := .later }
def PkgDepsUptoCardSaid : Prop := Claim7.holds Tryz.pinned (.plain (OpenSpec.upto pkgDepsSpec)) pkgDepsUptoCard
end Rows
end Go.Proofs.YtkplahkkmmoppaaGreatDoor
