/-
  DERIVED. GIVEN WITH THE SEED: THE CARDS: each row of YtgnaiidgjmicaaaGreatDoorRows.lean that lists a variable, with what it lists TIED to the program's text (the seventh form; the later family's looks); each row that meets fmt, with fmt's text TOLD by the authors' own Lean function (tested against real Go, not proved from fmt's source: count such statements apart). THE CARD IS WHAT COUNTS. Prove the row's statement (the work); the ties are given (YtgnaiidgjmicaaaGreatDoorTie.lean); close each card by the builder's one call (the guide's Derived/Test/ToyasCard.lean, 'card_holds'). Laid BY PROGRAM, IN A SANDBOX (cutbox-door.mjs). By AI agents, Wed Nov 11 2026. No macro, syntax, notation, axiom, sorry.
-/
import Derived.Test.YtgnaiidgjmicaaaGreatDoorRows
import GoSem.ClaimSeven
namespace Go.Proofs.YtgnaiidgjmicaaaGreatDoor
namespace Rows

/-- THE TIED CARD OF 'manciplelaw7.RepoFinds'. -/
def repoFindsCard : Claim7 := { stood := { row := repoFindsRow, standIns := [], harness := (true, "311e6a08e69ab666c6ef23e57109686a8b66a3a4c0e30cc657bad280bc239ed0"), looks := true }, kinds := [], alts := [], laidByText := true, laidKinds := [.data, .data, .data, .data, .sentinel, .sentinel, .pinned], laidTests := true, laidLooks := .later }
def RepoFindsCardSaid : Prop := Claim7.holds Tryz.pinned (.plain (OpenSpec.ofChange repoFindsSpec)) repoFindsCard

/-- THE TIED CARD OF 'manciplelaw7.RepoParts'. -/
def repoPartsCard : Claim7 := { stood := { row := repoPartsRow, standIns := [], harness := (true, "311e6a08e69ab666c6ef23e57109686a8b66a3a4c0e30cc657bad280bc239ed0"), looks := true }, kinds := [], alts := [], laidByText := true, laidKinds := [.data, .data, .data, .data, .sentinel, .sentinel, .pinned], laidTests := true, laidLooks := .later }
def RepoPartsCardSaid : Prop := Claim7.holds Tryz.pinned (.plain (OpenSpec.ofChange repoPartsSpec)) repoPartsCard

/-- THE TIED CARD OF 'manciplelaw12.CostRanks'. -/
def costRanksCard : Claim7 := { stood := { row := costRanksRow, standIns := [], harness := (true, "311e6a08e69ab666c6ef23e57109686a8b66a3a4c0e30cc657bad280bc239ed0"), looks := true }, kinds := [], alts := [], laidByText := true, laidKinds := [.data, .data, .data, .data, .sentinel, .sentinel, .pinned], laidTests := true, laidLooks := .later }
def CostRanksCardSaid : Prop := Claim7.holds Tryz.pinned (.plain (OpenSpec.ofChange costRanksSpec)) costRanksCard

/-- THE TIED CARD OF 'manciplelaw12.CostRows'. -/
def costRowsCard : Claim7 := { stood := { row := costRowsRow, standIns := [], harness := (true, "311e6a08e69ab666c6ef23e57109686a8b66a3a4c0e30cc657bad280bc239ed0"), looks := true }, kinds := [], alts := [], laidByText := true, laidKinds := [.data, .data, .data, .data, .sentinel, .sentinel, .pinned], laidTests := true, laidLooks := .later }
def CostRowsCardSaid : Prop := Claim7.holds Tryz.pinned (.plain (OpenSpec.ofChange costRowsSpec)) costRowsCard

/-- THE SECOND FORM's CARD OF 'manciplelaw7.RepoFinds'. -/
def repoFindsUptoCard : Claim7 := { stood := { row := repoFindsUptoRow, standIns := [], harness := (true, "311e6a08e69ab666c6ef23e57109686a8b66a3a4c0e30cc657bad280bc239ed0"), looks := true }, kinds := [], alts := [], laidByText := true, laidKinds := [.data, .data, .data, .data, .sentinel, .sentinel, .pinned], laidTests := true, laidLooks := .later }
def RepoFindsUptoCardSaid : Prop := Claim7.holds Tryz.pinned (.plain (OpenSpec.upto repoFindsSpec)) repoFindsUptoCard

/-- THE SECOND FORM's CARD OF 'manciplelaw7.RepoParts'. -/
def repoPartsUptoCard : Claim7 := { stood := { row := repoPartsUptoRow, standIns := [], harness := (true, "311e6a08e69ab666c6ef23e57109686a8b66a3a4c0e30cc657bad280bc239ed0"), looks := true }, kinds := [], alts := [], laidByText := true, laidKinds := [.data, .data, .data, .data, .sentinel, .sentinel, .pinned], laidTests := true, laidLooks := .later }
def RepoPartsUptoCardSaid : Prop := Claim7.holds Tryz.pinned (.plain (OpenSpec.upto repoPartsSpec)) repoPartsUptoCard

/-- THE SECOND FORM's CARD OF 'manciplelaw12.CostRanks'. -/
def costRanksUptoCard : Claim7 := { stood := { row := costRanksUptoRow, standIns := [], harness := (true, "311e6a08e69ab666c6ef23e57109686a8b66a3a4c0e30cc657bad280bc239ed0"), looks := true }, kinds := [], alts := [], laidByText := true, laidKinds := [.data, .data, .data, .data, .sentinel, .sentinel, .pinned], laidTests := true, laidLooks := .later }
def CostRanksUptoCardSaid : Prop := Claim7.holds Tryz.pinned (.plain (OpenSpec.upto costRanksSpec)) costRanksUptoCard

/-- THE SECOND FORM's CARD OF 'manciplelaw12.CostRows'. -/
def costRowsUptoCard : Claim7 := { stood := { row := costRowsUptoRow, standIns := [], harness := (true, "311e6a08e69ab666c6ef23e57109686a8b66a3a4c0e30cc657bad280bc239ed0"), looks := true }, kinds := [], alts := [], laidByText := true, laidKinds := [.data, .data, .data, .data, .sentinel, .sentinel, .pinned], laidTests := true, laidLooks := .later }
def CostRowsUptoCardSaid : Prop := Claim7.holds Tryz.pinned (.plain (OpenSpec.upto costRowsSpec)) costRowsUptoCard
end Rows
end Go.Proofs.YtgnaiidgjmicaaaGreatDoor
