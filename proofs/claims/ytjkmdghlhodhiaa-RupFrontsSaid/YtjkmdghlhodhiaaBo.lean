/- Appends onto what may be empty and without room. -/
import Derived.Test.YtjkmdghlhodhiaaBr
import Derived.Deep.DrawnRows
import Derived.Deep.RegionLaw
namespace Go.Proofs.Ytjkmdghlhodhiaa.Up
open Go.RowKit
section
variable {α : Type} {enc : α → List Value} {K : Nat} {P : Program} {ST T : TypeId} {w : World}
/-- A row of one's own, or an empty one without room. -/
def Own0 (enc : α → List Value) (K : Nat) (w : World) (B : Nat) (T : TypeId) (v : Value) (l : List α) : Prop := (l = [] ∧ ∃ a, v = .slice (some a) 0 0) ∨ Rg.Own enc K w B T v l
theorem own0_below {w' : World} {B : Nat} {v : Value} {l : List α} (h : Own0 enc K w B T v l) (hb : Below w.heap.size w w') : Own0 enc K w' B T v l := h.imp_right fun h => Rg.own_below h hb
theorem own0_row (hf : Rg.Fits enc K) {B n : Nat} {v : Value} {l : List α} (h : Own0 enc K w B T v l) (hn : l.length = n) : ∃ C c, v = .slice C n c ∧ Rg.Row enc K w C l := by
  rcases h with ⟨rfl, a, rfl⟩ | h
  · exact ⟨some a, 0, by rw [← hn]; rfl, Rg.row_nil _ _⟩
  · obtain ⟨C, c, rfl, hr, _⟩ := Rg.row_own hf h
    exact ⟨C, c, by rw [hn], hr⟩
theorem run_appO (hT : Rg.SliceT P enc K ST T) (ty : TypeId) (B : Nat) (v : Value) (l m : List α) (hown : Own0 enc K w B T v l) (A : Option Addr) (c : Nat) (hrow : Rg.Row enc K w A m)
    (hsz : l.length + m.length ≤ 1000000) (hB : B ≤ w.heap.size) :
    ∃ v' w', (Builtin.append_ #[ST, ST] ty #[v, .slice A m.length c]).run P w = .ok v' w' ∧ Own0 enc K w' B T v' (l ++ m) ∧ Below B w w' := by
  rcases hown with ⟨rfl, ⟨g, rfl⟩⟩ | hown
  · cases m with
    | nil =>
      obtain ⟨i, z, hi, hz0, hz1, hz2, hb⟩ := hT.info
      refine ⟨.slice (some g) 0 0, w, ?_, .inl ⟨rfl, g, rfl⟩, Below.refl _ _⟩
      refine run_append_nothing w ST ST ty T i hT.under hi (some g) 0 0 (Nat.le_refl _) _ ?_
      cases A with
      | none => exact Src.ofNil w hT.under c
      | some a => exact Src.ofSlice w hT.under a 0 c [] (by simp) (fun j u h => by simp at h) (fun u h => by cases h)
    | cons x m =>
      have hrow0 := hrow
      obtain ⟨i, z, hi, hz0, hz1, hz2, hb⟩ := hT.info
      obtain ⟨a, rfl, _, hc⟩ := hrow (by simp)
      have hby : (x :: m).length * i.bytes ≤ 1000000 * 1000 := Nat.mul_le_mul (by simpa using hsz) hb
      have hsz2 : (x :: m).length ≤ 1000000 := by simpa using hsz
      have e1 := run_append_nil (P := P) w ST ty T i z hT.under hi hz0 a (x :: m).length c (Rg.flat enc (x :: m)) (by rw [hz2]; exact Rg.flat_len hT.fits _) (Rg.row_news hT.fits hc) (by simp) (by omega) (Nat.le_trans hby (by decide))
      have e2 := run_append_grow (P := P) w ST ty T i z hT.under hi hz0 g 0 0 [] (by simp) (fun j u h => by simp at h) a (x :: m).length c (Rg.flat enc (x :: m)) (by rw [hz2]; exact Rg.flat_len hT.fits _) (Rg.row_news hT.fits hc) (by simp) (by simp only [Nat.zero_add]; omega) (growslice_fits (need := 0 + (x :: m).length) (old := 0) (by simp) (by rw [Nat.zero_add]; exact Nat.le_trans hby (by decide)))
      have e3 : (Builtin.append_ #[ST, ST] ty #[.slice (some g) 0 0, .slice (some a) (x :: m).length c]).run P w = (Builtin.append_ #[ST, ST] ty #[.slice none 0 0, .slice (some a) (x :: m).length c]).run P w := by
        rw [e1, e2]
        simp only [Nat.zero_add, Array.empty_append]
      obtain ⟨v', w', hr, h2, h3, h4⟩ := Rg.run_appS hT ty B (.slice none 0 0) [] (x :: m) (Rg.own_nil _ _ _) (some a) c hrow0 hsz hB
      exact ⟨v', w', e3.trans hr, .inr h2, Rg.grown_below (Rg.own_nil (enc := enc) (K := K) w B T) hB h3⟩
  · obtain ⟨v', w', hr, h2, h3, h4⟩ := Rg.run_appS hT ty B v l m hown A c hrow hsz hB
    exact ⟨v', w', hr, .inr h2, Rg.grown_below hown hB h3⟩
theorem step_appO (hT : Rg.SliceT P enc K ST T) {ops : Array Oper} {o : Oper} {a : Act} {G : Act → World → Prop} {Q : Exit → Act → World → Prop} {E : Prop} (hgd : o.guard = none) (sl x : Operand)
    (ho : o.op = .call { callee := .builtin .append, args := #[sl, x], argTypes := #[ST, ST] })
    (B : Nat) (v : Value) (l m : List α) (hs : a.eval sl = v) (A : Option Addr) (n c : Nat) (hx : a.eval x = .slice A n c) (hn : m.length = n) (hown : Own0 enc K w B T v l)
    (hrow : Rg.Row enc K w A m) (hsz : l.length + m.length ≤ 1000000) (hB : B ≤ w.heap.size)
    (h : ∀ v' w', Own0 enc K w' B T v' (l ++ m) → Below B w w' → G (a.put o.dst v') w') : if Region.wanted o (yielded ops a.tmps) = true then Oper.wp P o a w G Q else E := by
  subst hn
  have hw : Region.wanted o (yielded ops a.tmps) = true := by simp [Region.wanted, hgd]
  rw [if_pos hw]
  obtain ⟨v', w', hr, h2, h3⟩ := run_appO hT o.type B v l m hown A c hrow hsz hB
  unfold Oper.wp execOp
  simp only [ho, resolve, invoke, builtin, Sem.run_bind, Sem.run_pure, Result.andThen_ok, List.map_toArray, List.map_cons, List.map_nil, hs, hx, hr]
  exact h v' w' h2 h3
end
theorem wpList_appO {α : Type} {enc : α → List Value} {K : Nat} {P : Program} {ST T : TypeId} {w : World} (hT : Rg.SliceT P enc K ST T) {ops : Array Oper} {rest : List Oper} {o : Oper} {a : Act} {Q : Exit → Act → World → Prop} (hgd : o.guard = none) (sl x : Operand)
    (ho : o.op = .call { callee := .builtin .append, args := #[sl, x], argTypes := #[ST, ST] })
    (B : Nat) (v : Value) (l m : List α) (hs : a.eval sl = v) (A : Option Addr) (n c : Nat) (hx : a.eval x = .slice A n c) (hn : m.length = n) (hown : Own0 enc K w B T v l)
    (hrow : Rg.Row enc K w A m) (hsz : l.length + m.length ≤ 1000000) (hB : B ≤ w.heap.size)
    (h : ∀ v' w', Own0 enc K w' B T v' (l ++ m) → Below B w w' → wpList P ops Q rest (a.put o.dst v') w') : wpList P ops Q (o :: rest) a w := by
  subst hn
  refine wpList_plain hgd fun _ hK => ?_
  obtain ⟨v', w', hr, h2, h3⟩ := run_appO hT o.type B v l m hown A c hrow hsz hB
  unfold Oper.wp execOp
  simp only [ho, resolve, invoke, builtin, Sem.run_bind, Sem.run_pure, Result.andThen_ok, List.map_toArray, List.map_cons, List.map_nil, hs, hx, hr]
  exact hK _ _ (h v' w' h2 h3)
end Go.Proofs.Ytjkmdghlhodhiaa.Up
