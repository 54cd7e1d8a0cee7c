/- Rows and grids that are laid by hand; what a world must hold stays. -/
import Derived.Test.YtjkmdghlhodhiaaEd
import Derived.Test.YtjkmdghlhodhiaaEf
namespace Go.Proofs.Ytjkmdghlhodhiaa.Cl
open Go.RowKit
/-- A row of one cell each, in a block just made. -/
theorem row1_new {α : Type} {enc : α → List Value} (h1 : ∀ x, (enc x).length = 1) (w : World) (T : TypeId) (l : List α) (cs : Array Value) (h : cs.toList = Rg.flat enc l) : Rg.Row enc 1 (w.alloc (.cells cs T)) (some ⟨w.heap.size, 0, none⟩) l := fun _ => by
  refine ⟨_, rfl, by simp, fun i hi j v hv => ?_⟩
  have hj : j = 0 := by
    have := (List.getElem?_eq_some_iff.1 hv).1
    rw [h1] at this; omega
  subst hj
  rw [if_pos rfl]
  have hf : Rg.Fits enc 1 ∨ True := .inr trivial
  have hget : (Rg.flat enc l)[i * 1]? = some v := by
    have : ∀ (l : List α) (i : Nat) (hi : i < l.length) v, (enc l[i])[0]? = some v → (Rg.flat enc l)[i]? = some v := fun l => by
      induction l with
      | nil => exact fun i hi => absurd hi (by simp)
      | cons a l ih =>
        intro i hi v hv
        have ha := h1 a
        match ea : enc a, ha with
        | [u], _ =>
          show (enc a ++ Rg.flat enc l)[i]? = some v
          rw [ea]
          match i with
          | 0 => rw [List.getElem_cons_zero, ea] at hv; exact hv
          | i + 1 => exact ih i (by simpa using hi) v hv
    rw [Nat.mul_one]; exact this l i hi v hv
  exact Rg.news_new w T l cs h _ _ hget
theorem irow_new (w : World) (T : TypeId) (l : List Int) (cs : Array Value) (h : cs.toList = Rg.flat encI l) : IRow (w.alloc (.cells cs T)) (some ⟨w.heap.size, 0, none⟩) l := row1_new (fun _ => rfl) w T l cs h
theorem drow_new (w : World) (T : TypeId) (ds : List Desc) (cs : Array Value) (h : cs.toList = Rg.flat encO ds) : Rg.Row encO 1 (w.alloc (.cells cs T)) (some ⟨w.heap.size, 0, none⟩) ds := row1_new (fun _ => rfl) w T ds cs h
theorem irow_nil (w : World) (A : Option Addr) : IRow w A [] := fun h => absurd h (by simp)
/-- A grid out of a row of descriptors. -/
theorem grid_of {w : World} {A : Option Addr} {ds : List Desc} {t : List (List Int)} (h : Rg.Row encO 1 w A ds) (hl : ds.length = t.length) (hr : ∀ (i : Nat) (d : Desc) (l : List Int), ds[i]? = some d → t[i]? = some l → d.2.1 = l.length ∧ IRow w d.1 l) : GRow w A t := ⟨ds, h, hl, hr⟩
theorem in_nil (w : World) : ∀ (i : Nat) (d : Desc) (l : List Int), ([] : List Desc)[i]? = some d → ([] : List (List Int))[i]? = some l → d.2.1 = l.length ∧ IRow w d.1 l := fun i d l h => by simp at h
theorem in_cons {w : World} {d : Desc} {l : List Int} {ds : List Desc} {t : List (List Int)} (h1 : d.2.1 = l.length) (h2 : IRow w d.1 l) (h : ∀ (i : Nat) (d : Desc) (l : List Int), ds[i]? = some d → t[i]? = some l → d.2.1 = l.length ∧ IRow w d.1 l) : ∀ (i : Nat) (d' : Desc) (l' : List Int), (d :: ds)[i]? = some d' → (l :: t)[i]? = some l' → d'.2.1 = l'.length ∧ IRow w d'.1 l'
  | 0, d', l', e1, e2 => by
    obtain rfl : d = d' := by simpa using e1
    obtain rfl : l = l' := by simpa using e2
    exact ⟨h1, h2⟩
  | i + 1, d', l', e1, e2 => h i d' l' (by simpa using e1) (by simpa using e2)
theorem below2 {a b c : World} (h1 : Below a.heap.size a b ∧ a.heap.size ≤ b.heap.size) (h2 : Below b.heap.size b c ∧ b.heap.size ≤ c.heap.size) : Below a.heap.size a c ∧ a.heap.size ≤ c.heap.size := ⟨h1.1.trans (h2.1.mono h1.2), Nat.le_trans h1.2 h2.2⟩

/-- What a world must hold for the program (its library's variables): it stays. -/
def Stays (Q : World → Prop) : Prop := ∀ u v : World, Q u → Below u.heap.size u v → Q v
theorem addr_b (b k : Nat) : (⟨b, 0, none⟩ : Addr).add k = ⟨b, k, none⟩ := by
  unfold Addr.add
  split
  · rename_i h0; rw [h0]
  · show (⟨b, 0 + k, none⟩ : Addr) = _; rw [Nat.zero_add]
end Go.Proofs.Ytjkmdghlhodhiaa.Cl
