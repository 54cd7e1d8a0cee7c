/- Rows of numbers in memory; the reference's clauses: which are the same, which may be, where they hold: walked. -/
import Derived.Test.YtebeemnpamgmlaaEa
import Derived.Test.YtebeemnpamgmlaaBr
import Derived.BigQuiet
namespace Go.Proofs.Ytebeemnpamgmlaa.Cl
open Go.RowKit Up
def encI (x : Int) : List Value := [.int .i64 x]
theorem fitsI : Rg.Fits encI 1 := ⟨fun _ => rfl, fun x u hu => by
  obtain rfl : u = .int .i64 x := by simpa [encI] using hu
  rfl⟩
theorem sliceI : Rg.SliceT Try.prog encI 1 23 3 := ⟨fitsI, by decide, by kernel_rfl, Rg.info_of (z := .int .i64 0) (b := 8) (by kernel_rfl) (by rfl) (by decide)⟩
abbrev IRow (w : World) (A : Option Addr) (l : List Int) : Prop := Rg.Row encI 1 w A l
abbrev GRow (w : World) (A : Option Addr) (t : List (List Int)) : Prop := Gr.Row encI 1 w A t
theorem irow_at {w : World} {A : Option Addr} {l : List Int} (h : IRow w A l) (k : Nat) (hk : k < l.length) : ∃ ad x, A = some ad ∧ l[k] = x ∧ ad.block < w.heap.size ∧ w.cell? (ad.add k) = some (.int .i64 x) := by
  obtain ⟨ad, x, h1, h2, h3, h4⟩ := Rg.row_at h k hk
  refine ⟨ad, x, h1, h2, h3, ?_⟩
  have := h4 0 (.int .i64 x) rfl
  rwa [if_pos rfl, Nat.mul_one] at this
theorem irow_below {w w' : World} {A : Option Addr} {l : List Int} (h : IRow w A l) (hb : Below w.heap.size w w') : IRow w' A l := Rg.row_below h hb
/-- The cell at a place, in whatever world keeps what lies below. -/
theorem cell_below {w w' : World} {ad : Addr} {k : Nat} {v : Value} (h : w.cell? (ad.add k) = some v) (hl : ad.block < w.heap.size) (hb : Below w.heap.size w w') : w'.cell? (ad.add k) = some v := by
  refine (hb.cell ?_).trans h
  rw [Rs.add_block]; exact hl
end Go.Proofs.Ytebeemnpamgmlaa.Cl
namespace Go.Proofs.Ytebeemnpamgmlaa
open Go.RowKit Cl Up
attribute [local go_sem ↓] Go.wp_at_zero Go.wp_at_succ
end Go.Proofs.Ytebeemnpamgmlaa
