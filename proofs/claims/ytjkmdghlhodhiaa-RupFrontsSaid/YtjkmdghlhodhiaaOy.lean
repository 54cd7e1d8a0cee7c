/- Appends in regions that draw, onto what may be empty and without room; worlds behind allocs and draws. -/
import Derived.Test.YtjkmdghlhodhiaaEl
import Derived.Test.YtjkmdghlhodhiaaBo
import Derived.Deep.DrawnRows
import Derived.Deep.RegionLaw
namespace Go.Proofs.Ytjkmdghlhodhiaa.Up
open Go.RowKit Cl
theorem bal {B : Nat} {u X : World} {o : Obj} (h : Below B u X) (hB : B ≤ u.heap.size) : Below B u (X.alloc o) := h.alloc (Nat.le_trans hB h.size) o
theorem below_to {B : Nat} {a X y : World} (h : Below B a X) (hy : Below X.heap.size X y) (hB : B ≤ a.heap.size) : Below B a y := h.trans (hy.mono (Nat.le_trans hB h.size))
theorem size_to {a b c : World} (h1 : Below a.heap.size a b) (h2 : Below b.heap.size b c) : a.heap.size ≤ c.heap.size := Nat.le_trans h1.size h2.size
theorem keepQ {y c v X W : World} (h1 : Below y.heap.size y c) (h2 : Below c.heap.size c v) (h : Below v.heap.size v X) (h6 : Below c.heap.size X W) : Below y.heap.size y W :=
  (below_to (below_to h1 h2 (Nat.le_refl _)) h (Nat.le_refl _)).trans (h6.mono h1.size)
section
variable {α : Type} {enc : α → List Value} {K : Nat} {T : TypeId} {w : World}
theorem own0_new (hf : Rg.Fits enc K) {B n : Nat} {v : Value} {l : List α} (h : Own0 enc K w B T v l) (hn : l.length = n) (h0 : 0 < n) : ∃ g c, v = .slice (some ⟨g, 0, none⟩) n c ∧ B ≤ g ∧ g < w.heap.size ∧ Rg.Row enc K w (some ⟨g, 0, none⟩) l := by
  rcases h with ⟨rfl, a, rfl⟩ | h
  · exact absurd hn (by simp; omega)
  · obtain ⟨C, c, rfl, hr, _⟩ := Rg.row_own hf h
    obtain ⟨g, rfl, hb, hs, _⟩ := Rg.own_form h (by omega)
    exact ⟨g, c, by rw [hn], hb, hs, hr⟩
/-- One element in a block just made. -/
theorem row_one (_hf : Rg.Fits enc K) (w : World) (T : TypeId) (x : α) (cs : Array Value) (h : cs.toList = enc x) : Rg.Row enc K (w.alloc (.cells cs T)) (some ⟨w.heap.size, 0, none⟩) [x] := fun _ => by
  refine ⟨_, rfl, by simp, fun i hi j v hv => ?_⟩
  have hi0 : i = 0 := by simpa using hi
  subst hi0
  have hn := Rg.news_new w T [x] cs (by rw [h]; exact (Rg.flat_one enc x).symm) j v (by rw [Rg.flat_one enc x]; exact hv)
  have ha := Rg.add_j (⟨w.heap.size, 0, none⟩ : Addr) 0 j
  rw [Nat.zero_add] at ha
  rw [ha] at hn
  rw [Nat.zero_mul]
  exact hn
end
end Go.Proofs.Ytjkmdghlhodhiaa.Up
