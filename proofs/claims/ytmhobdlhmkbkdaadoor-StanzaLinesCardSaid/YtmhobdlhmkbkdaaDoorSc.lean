/- Fields in memory; a field copied, a line as a field: walked. -/
import Derived.Test.YtmhobdlhmkbkdaaDoorSb
namespace Go.Proofs.YtmhobdlhmkbkdaaDoor
open Go.RowKit
attribute [local go_sem ↓] Go.wp_at_zero Go.wp_at_succ

/-- A block of one's own of three cells. -/
theorem cell_three {w W1 u : World} {a b c : Value} {T : TypeId} (h1 : w.alloc (.cells #[a, b, c] T) = W1) (hb : Below W1.heap.size W1 u) :
    u.cell? ⟨w.heap.size, 0, none⟩ = some a ∧ u.cell? ⟨w.heap.size, 1, none⟩ = some b ∧ u.cell? ⟨w.heap.size, 2, none⟩ = some c ∧ u.frozen? ⟨w.heap.size, 0, none⟩ = false ∧ u.frozen? ⟨w.heap.size, 1, none⟩ = false ∧ u.frozen? ⟨w.heap.size, 2, none⟩ = false := by
  subst h1
  have h : u.heap[w.heap.size]? = some (.cells #[a, b, c] T (0, 0)) := (hb.block _ (by simp)).trans (heap_alloc_new w _)
  refine ⟨?_, ?_, ?_, ?_, ?_, ?_⟩ <;> simp [World.cell?, World.frozen?, h]
/-- The cells of the field that came, and those of the one that goes. -/
def FC (b : Nat) (key val : List UInt8) (line : Int) (u : World) : Prop :=
  u.cell? ⟨b, 0, none⟩ = some (.string ⟨key.toArray⟩) ∧ u.cell? ⟨b, 1, none⟩ = some (.string ⟨val.toArray⟩) ∧ u.cell? ⟨b, 2, none⟩ = some (.int .i64 line) ∧
  u.cell? ⟨b + 1, 0, none⟩ = some (.string ⟨#[]⟩) ∧ u.cell? ⟨b + 1, 1, none⟩ = some (.string ⟨#[]⟩) ∧ u.cell? ⟨b + 1, 2, none⟩ = some (.int .i64 0) ∧ u.frozen? ⟨b + 1, 0, none⟩ = false ∧ u.frozen? ⟨b + 1, 1, none⟩ = false ∧ u.frozen? ⟨b + 1, 2, none⟩ = false
theorem fc_of {w W1 W2 u : World} {key val : List UInt8} {line : Int} (h1 : w.alloc (.cells #[.string ⟨key.toArray⟩, .string ⟨val.toArray⟩, .int .i64 line] 43) = W1) (h2 : W1.alloc (.cells #[.string ⟨#[]⟩, .string ⟨#[]⟩, .int .i64 0] 43) = W2) (hb : Below W2.heap.size W2 u) : FC w.heap.size key val line u := by
  have hs1 : W1.heap.size = w.heap.size + 1 := by rw [← h1]; simp
  have hb1 : Below W1.heap.size W1 u := (alloc_low h2).trans (hb.mono (alloc_low h2).size)
  obtain ⟨a0, a1, a2, _⟩ := cell_three h1 hb1
  have h := cell_three h2 hb
  rw [hs1] at h
  exact ⟨a0, a1, a2, h⟩
theorem fc3 {b : Nat} {key val : List UInt8} {line : Int} {u : World} (h : FC b key val line u) : u.cell? ⟨b, 0, none⟩ = some (.string ⟨key.toArray⟩) ∧ u.cell? ⟨b, 1, none⟩ = some (.string ⟨val.toArray⟩) ∧ u.cell? ⟨b, 2, none⟩ = some (.int .i64 line) := ⟨h.1, h.2.1, h.2.2.1⟩
theorem fc_set {b : Nat} {key val : List UInt8} {line : Int} {u : World} (h : FC b key val line u) (x y z : Value) :
    (((u.setCell ⟨b + 1, 0, none⟩ x).setCell ⟨b + 1, 1, none⟩ y).setCell ⟨b + 1, 2, none⟩ z).cell? ⟨b, 0, none⟩ = some (.string ⟨key.toArray⟩) ∧ (((u.setCell ⟨b + 1, 0, none⟩ x).setCell ⟨b + 1, 1, none⟩ y).setCell ⟨b + 1, 2, none⟩ z).cell? ⟨b, 1, none⟩ = some (.string ⟨val.toArray⟩) ∧ (((u.setCell ⟨b + 1, 0, none⟩ x).setCell ⟨b + 1, 1, none⟩ y).setCell ⟨b + 1, 2, none⟩ z).cell? ⟨b, 2, none⟩ = some (.int .i64 line) := by
  have far : ∀ j, (((u.setCell ⟨b + 1, 0, none⟩ x).setCell ⟨b + 1, 1, none⟩ y).setCell ⟨b + 1, 2, none⟩ z).cell? ⟨b, j, none⟩ = u.cell? ⟨b, j, none⟩ := fun j => by
    rw [World.cell?_setCell_far _ _ _ _ (by show b + 1 ≠ b; omega), World.cell?_setCell_far _ _ _ _ (by show b + 1 ≠ b; omega), World.cell?_setCell_far _ _ _ _ (by show b + 1 ≠ b; omega)]
  exact ⟨(far 0).trans h.1, (far 1).trans h.2.1, (far 2).trans h.2.2.1⟩
theorem fc_get {b : Nat} {key val : List UInt8} {line : Int} {u : World} (h : FC b key val line u) (x y z : Value) :
    (((u.setCell ⟨b + 1, 0, none⟩ x).setCell ⟨b + 1, 1, none⟩ y).setCell ⟨b + 1, 2, none⟩ z).cell? ⟨b + 1, 0, none⟩ = some x ∧ (((u.setCell ⟨b + 1, 0, none⟩ x).setCell ⟨b + 1, 1, none⟩ y).setCell ⟨b + 1, 2, none⟩ z).cell? ⟨b + 1, 1, none⟩ = some y ∧ (((u.setCell ⟨b + 1, 0, none⟩ x).setCell ⟨b + 1, 1, none⟩ y).setCell ⟨b + 1, 2, none⟩ z).cell? ⟨b + 1, 2, none⟩ = some z := by
  obtain ⟨_, _, _, b0, b1, b2, _⟩ := h
  refine ⟨?_, ?_, ?_⟩ <;> simp [go_sem, b0, b1, b2]
set_option maxRecDepth 100000 in
set_option maxHeartbeats 1600000 in
theorem fClone_any (key val : List UInt8) (line : Int) (w : World) (hk : key.length ≤ 140737488355328) (hv : val.length ≤ 140737488355328) :
    Calls Tryd.prog 29 #[.agg #[.string ⟨key.toArray⟩, .string ⟨val.toArray⟩, .int .i64 line]] w fun e w' => e = .returned (.agg #[.string ⟨key.toArray⟩, .string ⟨val.toArray⟩, .int .i64 line]) ∧ Below w.heap.size w w' := by
  obtain ⟨W1, hW1⟩ : ∃ W, w.alloc (.cells #[.string ⟨key.toArray⟩, .string ⟨val.toArray⟩, .int .i64 line] 43) = W := ⟨_, rfl⟩
  obtain ⟨W2, hW2⟩ : ∃ W, W1.alloc (.cells #[.string ⟨#[]⟩, .string ⟨#[]⟩, .int .i64 0] 43) = W := ⟨_, rfl⟩
  have HFC : Hid (∀ u, Below W2.heap.size W2 u → FC w.heap.size key val line u) := fun u hb => fc_of hW1 hW2 hb
  have hs1 : W1.heap.size = w.heap.size + 1 := by rw [← hW1]; simp
  have HBW : Hid (Below w.heap.size w W2) := (alloc_low hW1).trans ((alloc_low hW2).mono (alloc_low hW1).size)
  have HK := Lib.hid hk
  have HV := Lib.hid hv
  clear hk hv
  go_enter Tryd.func29, Tryd.ntmps29
  go_wp2_with fail
  have HB1 : Hid (Below W2.heap.size W2 W2.drew) := (Below.refl _ _).drew
  obtain ⟨a0, a1, a2, b0, b1, b2, f0, f1, f2⟩ := HFC.out _ HB1.out
  clear hW1 hW2
  clear b0 b1 b2 f0 f1 f2
  go_region_held3 (fun w' => w'.cell? ⟨w.heap.size, 0, none⟩ = some (.string ⟨key.toArray⟩) ∧ w'.cell? ⟨w.heap.size, 1, none⟩ = some (.string ⟨val.toArray⟩) ∧ w'.cell? ⟨w.heap.size, 2, none⟩ = some (.int .i64 line))
    (first
      | exact fc3 (HFC.out _ HB1.out)
      | exact fc3 (HFC.out _ HB2.out)
      | exact fc3 (HFC.out _ HB3.out)
      | exact fc_set (HFC.out _ HB3.out) _ _ _)
    (first
      | (go_at_call 40; refine (clone_any val _ (by have := HV.out; omega)).mono ?_; rintro _ u3 ⟨rfl, hb3⟩; have HB3 := Lib.hid (HB2.out.trans (hb3.mono HB2.out.size)); clear hb3; obtain ⟨_, _, _, b0, b1, b2, f0, f1, f2⟩ := HFC.out _ HB3.out)
      | (go_at_call 40; refine (clone_any key _ (by have := HK.out; omega)).mono ?_; rintro _ u2 ⟨rfl, hb2⟩; have HB2 := Lib.hid (HB1.out.trans (hb2.mono HB1.out.size)); clear hb2))
  have HBV : Hid (Below w.heap.size w (((u3.setCell ⟨w.heap.size + 1, 0, none⟩ (.string ⟨key.toArray⟩)).setCell ⟨w.heap.size + 1, 1, none⟩ (.string ⟨val.toArray⟩)).setCell ⟨w.heap.size + 1, 2, none⟩ (.int .i64 line))) :=
    (((HBW.out.trans (HB3.out.mono HBW.out.size)).setCell (Nat.le_succ _) _).setCell (Nat.le_succ _) _).setCell (Nat.le_succ _) _
  have g := fc_get (HFC.out _ HB3.out) (.string ⟨key.toArray⟩) (.string ⟨val.toArray⟩) (.int .i64 line)
  go_wp2_with fail
  generalize ((u3.setCell ⟨w.heap.size + 1, 0, none⟩ (.string ⟨key.toArray⟩)).setCell ⟨w.heap.size + 1, 1, none⟩ (.string ⟨val.toArray⟩)).setCell ⟨w.heap.size + 1, 2, none⟩ (.int .i64 line) = V at *
  obtain ⟨g0, g1, g2⟩ := g
  refine bodyPost_ret (v := .agg #[.string ⟨key.toArray⟩, .string ⟨val.toArray⟩, .int .i64 line]) ?_ rfl ⟨rfl, HBV.out⟩
  simp [results, Tryd.results29, go_sem, g0, g1, g2]
end Go.Proofs.YtmhobdlhmkbkdaaDoor
