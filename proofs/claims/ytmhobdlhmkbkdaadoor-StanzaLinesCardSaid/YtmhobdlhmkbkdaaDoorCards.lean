/-
  DERIVED. GIVEN WITH THE SEED: THE CARDS: each row of YtmhobdlhmkbkdaaDoorRows.lean that lists a variable, with what it lists TIED to the program's text (the seventh form; the later family's looks); each row that meets fmt, with fmt's text TOLD by the authors' own Lean function (tested against real Go, not proved from fmt's source: count such statements apart). THE CARD IS WHAT COUNTS. Prove the row's statement (the work); the ties are given (YtmhobdlhmkbkdaaDoorTie.lean); close each card by the builder's one call (the guide's Derived/Test/ToyasCard.lean, 'card_holds'). Laid BY PROGRAM, IN A SANDBOX (cutbox-door.mjs). By AI agents, Wed Nov 11 2026. No macro, syntax, notation, axiom, sorry.
-/
import Derived.Test.YtmhobdlhmkbkdaaDoorRows
import GoSem.ClaimSeven
namespace Go.Proofs.YtmhobdlhmkbkdaaDoor
namespace Rows

/-- THE TIED CARD OF 'manciplelaw5.StanzaReads'. -/
def stanzaReadsCard : Claim7 := { stood := { row := stanzaReadsRow, standIns := [], harness := (true, "96496f5b7eeae7314ef4528320f291c203842651a9ba22182d84f458638bb40b"), looks := true }, kinds := [], alts := [], laidByText := true, laidKinds := [.data, .pinned], laidTests := true, laidLooks := .later }
def StanzaReadsCardSaid : Prop := Claim7.holds Tryd.pinned (.plain (OpenSpec.ofChange stanzaReadsSpec)) stanzaReadsCard

/-- THE TIED CARD OF 'manciplelaw5.StanzaOrder'. -/
def stanzaOrderCard : Claim7 := { stood := { row := stanzaOrderRow, standIns := [], harness := (true, "96496f5b7eeae7314ef4528320f291c203842651a9ba22182d84f458638bb40b"), looks := true }, kinds := [], alts := [], laidByText := true, laidKinds := [.data, .pinned], laidTests := true, laidLooks := .later }
def StanzaOrderCardSaid : Prop := Claim7.holds Tryd.pinned (.plain (OpenSpec.ofChange stanzaOrderSpec)) stanzaOrderCard

/-- THE TIED CARD OF 'manciplelaw5.StanzaLines'. -/
def stanzaLinesCard : Claim7 := { stood := { row := stanzaLinesRow, standIns := [], harness := (true, "96496f5b7eeae7314ef4528320f291c203842651a9ba22182d84f458638bb40b"), looks := true }, kinds := [], alts := [], laidByText := true, laidKinds := [.data, .pinned], laidTests := true, laidLooks := .later }
def StanzaLinesCardSaid : Prop := Claim7.holds Tryd.pinned (.plain (OpenSpec.ofChange stanzaLinesSpec)) stanzaLinesCard

/-- THE TIED CARD OF 'manciplelaw5.StanzaBytes'. -/
def stanzaBytesCard : Claim7 := { stood := { row := stanzaBytesRow, standIns := [], harness := (true, "96496f5b7eeae7314ef4528320f291c203842651a9ba22182d84f458638bb40b"), looks := true }, kinds := [], alts := [], laidByText := true, laidKinds := [.data, .pinned], laidTests := true, laidLooks := .later }
def StanzaBytesCardSaid : Prop := Claim7.holds Tryd.pinned (.plain (OpenSpec.ofChange stanzaBytesSpec)) stanzaBytesCard

/-- THE SECOND FORM's CARD OF 'manciplelaw5.StanzaReads'. -/
def stanzaReadsUptoCard : Claim7 := { stood := { row := stanzaReadsUptoRow, standIns := [], harness := (true, "96496f5b7eeae7314ef4528320f291c203842651a9ba22182d84f458638bb40b"), looks := true }, kinds := [], alts := [], laidByText := true, laidKinds := [.data, .pinned], laidTests := true, laidLooks := .later }
def StanzaReadsUptoCardSaid : Prop := Claim7.holds Tryd.pinned (.plain (OpenSpec.upto stanzaReadsSpec)) stanzaReadsUptoCard

/-- THE SECOND FORM's CARD OF 'manciplelaw5.StanzaOrder'. -/
def stanzaOrderUptoCard : Claim7 := { stood := { row := stanzaOrderUptoRow, standIns := [], harness := (true, "96496f5b7eeae7314ef4528320f291c203842651a9ba22182d84f458638bb40b"), looks := true }, kinds := [], alts := [], laidByText := true, laidKinds := [.data, .pinned], laidTests := true, laidLooks := .later }
def StanzaOrderUptoCardSaid : Prop := Claim7.holds Tryd.pinned (.plain (OpenSpec.upto stanzaOrderSpec)) stanzaOrderUptoCard

/-- THE SECOND FORM's CARD OF 'manciplelaw5.StanzaLines'. -/
def stanzaLinesUptoCard : Claim7 := { stood := { row := stanzaLinesUptoRow, standIns := [], harness := (true, "96496f5b7eeae7314ef4528320f291c203842651a9ba22182d84f458638bb40b"), looks := true }, kinds := [], alts := [], laidByText := true, laidKinds := [.data, .pinned], laidTests := true, laidLooks := .later }
def StanzaLinesUptoCardSaid : Prop := Claim7.holds Tryd.pinned (.plain (OpenSpec.upto stanzaLinesSpec)) stanzaLinesUptoCard

/-- THE SECOND FORM's CARD OF 'manciplelaw5.StanzaBytes'. -/
def stanzaBytesUptoCard : Claim7 := { stood := { row := stanzaBytesUptoRow, standIns := [], harness := (true, "96496f5b7eeae7314ef4528320f291c203842651a9ba22182d84f458638bb40b"), looks := true }, kinds := [], alts := [], laidByText := true, laidKinds := [.data, .pinned], laidTests := true, laidLooks := .later }
def StanzaBytesUptoCardSaid : Prop := Claim7.holds Tryd.pinned (.plain (OpenSpec.upto stanzaBytesSpec)) stanzaBytesUptoCard
end Rows
end Go.Proofs.YtmhobdlhmkbkdaaDoor
