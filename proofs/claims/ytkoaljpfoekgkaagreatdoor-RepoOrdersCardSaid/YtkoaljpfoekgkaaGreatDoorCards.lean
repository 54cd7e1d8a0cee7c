/-
  DERIVED. GIVEN WITH THE SEED: THE CARDS: each row of YtkoaljpfoekgkaaGreatDoorRows.lean that lists a variable, with what it lists TIED to the program's text (the seventh form; the later family's looks); each row that meets fmt, with fmt's text TOLD by the authors' own Lean function (tested against real Go, not proved from fmt's source: count such statements apart). THE CARD IS WHAT COUNTS. Prove the row's statement (the work); the ties are given (YtkoaljpfoekgkaaGreatDoorTie.lean); close each card by the builder's one call (the guide's Derived/Test/ToyasCard.lean, 'card_holds'). Laid BY PROGRAM, IN A SANDBOX (cutbox-door.mjs). By AI agents, Wed Nov 11 2026. No macro, syntax, notation, axiom, sorry.
-/
import Derived.Test.YtkoaljpfoekgkaaGreatDoorRows
import GoSem.ClaimSeven
namespace Go.Proofs.YtkoaljpfoekgkaaGreatDoor
namespace Rows

/-- THE TIED CARD OF 'manciplelaw7.RepoOrders'. -/
def repoOrdersCard : Claim7 := { stood := { row := repoOrdersRow, standIns := [], harness := (true, "805f736737884c5b2dbded8da6e8289b7ea02b2f103dec361a194ba9c6da8295"), looks := true }, kinds := [], alts := [], laidByText := true, laidKinds := [.data, .data, .data, .data, .sentinel, .sentinel, .pinned], laidTests := true, laidLooks := .later }
def RepoOrdersCardSaid : Prop := Claim7.holds Tryz.pinned (.plain (OpenSpec.ofChange repoOrdersSpec)) repoOrdersCard

/-- THE TIED CARD OF 'manciplelaw7.RepoMany'. -/
def repoManyCard : Claim7 := { stood := { row := repoManyRow, standIns := [], harness := (true, "805f736737884c5b2dbded8da6e8289b7ea02b2f103dec361a194ba9c6da8295"), looks := true }, kinds := [], alts := [], laidByText := true, laidKinds := [.data, .data, .data, .data, .sentinel, .sentinel, .pinned], laidTests := true, laidLooks := .later }
def RepoManyCardSaid : Prop := Claim7.holds Tryz.pinned (.plain (OpenSpec.ofChange repoManySpec)) repoManyCard

/-- THE TIED CARD OF 'manciplelaw12.CostRanks'. -/
def costRanksCard : Claim7 := { stood := { row := costRanksRow, standIns := [], harness := (true, "805f736737884c5b2dbded8da6e8289b7ea02b2f103dec361a194ba9c6da8295"), looks := true }, kinds := [], alts := [], laidByText := true, laidKinds := [.data, .data, .data, .data, .sentinel, .sentinel, .pinned], laidTests := true, laidLooks := .later }
def CostRanksCardSaid : Prop := Claim7.holds Tryz.pinned (.plain (OpenSpec.ofChange costRanksSpec)) costRanksCard

/-- THE TIED CARD OF 'manciplelaw12.CostRows'. -/
def costRowsCard : Claim7 := { stood := { row := costRowsRow, standIns := [], harness := (true, "805f736737884c5b2dbded8da6e8289b7ea02b2f103dec361a194ba9c6da8295"), looks := true }, kinds := [], alts := [], laidByText := true, laidKinds := [.data, .data, .data, .data, .sentinel, .sentinel, .pinned], laidTests := true, laidLooks := .later }
def CostRowsCardSaid : Prop := Claim7.holds Tryz.pinned (.plain (OpenSpec.ofChange costRowsSpec)) costRowsCard

/-- THE SECOND FORM's CARD OF 'manciplelaw7.RepoOrders'. -/
def repoOrdersUptoCard : Claim7 := { stood := { row := repoOrdersUptoRow, standIns := [], harness := (true, "805f736737884c5b2dbded8da6e8289b7ea02b2f103dec361a194ba9c6da8295"), looks := true }, kinds := [], alts := [], laidByText := true, laidKinds := [.data, .data, .data, .data, .sentinel, .sentinel, .pinned], laidTests := true, laidLooks := .later }
def RepoOrdersUptoCardSaid : Prop := Claim7.holds Tryz.pinned (.plain (OpenSpec.upto repoOrdersSpec)) repoOrdersUptoCard

/-- THE SECOND FORM's CARD OF 'manciplelaw7.RepoMany'. -/
def repoManyUptoCard : Claim7 := { stood := { row := repoManyUptoRow, standIns := [], harness := (true, "805f736737884c5b2dbded8da6e8289b7ea02b2f103dec361a194ba9c6da8295"), looks := true }, kinds := [], alts := [], laidByText := true, laidKinds := [.data, .data, .data, .data, .sentinel, .sentinel, .pinned], laidTests := true, laidLooks := .later }
def RepoManyUptoCardSaid : Prop := Claim7.holds Tryz.pinned (.plain (OpenSpec.upto repoManySpec)) repoManyUptoCard

/-- THE SECOND FORM's CARD OF 'manciplelaw12.CostRanks'. -/
def costRanksUptoCard : Claim7 := { stood := { row := costRanksUptoRow, standIns := [], harness := (true, "805f736737884c5b2dbded8da6e8289b7ea02b2f103dec361a194ba9c6da8295"), looks := true }, kinds := [], alts := [], laidByText := true, laidKinds := [.data, .data, .data, .data, .sentinel, .sentinel, .pinned], laidTests := true, laidLooks := .later }
def CostRanksUptoCardSaid : Prop := Claim7.holds Tryz.pinned (.plain (OpenSpec.upto costRanksSpec)) costRanksUptoCard

/-- THE SECOND FORM's CARD OF 'manciplelaw12.CostRows'. -/
def costRowsUptoCard : Claim7 := { stood := { row := costRowsUptoRow, standIns := [], harness := (true, "805f736737884c5b2dbded8da6e8289b7ea02b2f103dec361a194ba9c6da8295"), looks := true }, kinds := [], alts := [], laidByText := true, laidKinds := [.data, .data, .data, .data, .sentinel, .sentinel, .pinned], laidTests := true, laidLooks := .later }
def CostRowsUptoCardSaid : Prop := Claim7.holds Tryz.pinned (.plain (OpenSpec.upto costRowsSpec)) costRowsUptoCard
end Rows
end Go.Proofs.YtkoaljpfoekgkaaGreatDoor
