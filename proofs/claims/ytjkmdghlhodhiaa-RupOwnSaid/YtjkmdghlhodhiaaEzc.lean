/- What comes in, with what it weighs: rows of rows are not longer than memory reaches; nothing of the program. -/
import Derived.Test.YtjkmdghlhodhiaaEzb
namespace Go.Proofs.Ytjkmdghlhodhiaa.Cl
open Go.ChangeShapes Go.WideShapes Go.RowKit
/-- No weight is more than memory reaches. -/
def Fits (l : List Nat) : Prop := ∀ x ∈ l, x ≤ 140737488355328
theorem fits_of {l : List Nat} (h : l.all (· ≤ reachBytes) = true) : Fits l := fun x hx => by
  have := List.all_eq_true.1 h x hx
  rw [decide_eq_true_eq] at this
  unfold reachBytes at this
  omega
theorem heavy_mem {H : Type} {P : Program} {e : TypeId} : ∀ (l : List (DataW H)) (d : DataW H), d ∈ l → ∀ x ∈ d.weights P e, x ∈ DataW.weightsAll P e l
  | a :: l, d, h, x, hx => by
    unfold DataW.weightsAll
    rcases List.mem_cons.1 h with rfl | h
    · exact List.mem_append_left _ hx
    · exact List.mem_append_right _ (heavy_mem l d h x hx)
theorem each_mem {H : Type} {P : Program} : ∀ (ts : List TypeId) (ds : List (DataW H)) (i : Nat) (t : TypeId) (d : DataW H), ts[i]? = some t → ds[i]? = some d → ∀ x ∈ d.weights P t, x ∈ DataW.weightsEach P ts ds
  | _ :: _, _ :: _, 0, _, _, h1, h2, x, hx => by
    cases h1; cases h2
    unfold DataW.weightsEach
    exact List.mem_append_left _ hx
  | _ :: ts, _ :: ds, i + 1, t, d, h1, h2, x, hx => by
    unfold DataW.weightsEach
    exact List.mem_append_right _ (each_mem ts ds i t d h1 h2 x hx)
/-- What one of the arguments weighs. -/
theorem fits_each {H : Type} {P : Program} {ts : List TypeId} {ds : List (DataW H)} (h : (DataW.weightsEach P ts ds).all (· ≤ reachBytes) = true) (i : Nat) {t : TypeId} {d : DataW H} (h1 : ts[i]? = some t) (h2 : ds[i]? = some d) : Fits (d.weights P t) := fun x hx => fits_of h x (each_mem ts ds i t d h1 h2 x hx)
section
variable {H : Type} {enc : TypeId × Value → H} {P : Program} {W : World} {b0 : Nat} {t e f : TypeId} {v : Value} {d : DataW H} {ps : List MemPlace}
/-- What is read of a slice of numbers weighs eight for each. -/
theorem ints_heavy {fuel : Nat} {cs : List Value} {x : DataW H × List MemPlace} (ht : P.underlying t = some (.slice e)) (cb : P.bytesOf e = 8) (h : DataW.trod enc P W 0 (fun _ => true) true fuel t cs = some x) {A : Option Addr} {n c : Nat} (hc : cs = [.slice A n c]) (hw : Fits (x.1.weights P t)) : n ≤ 17592186044416 := by
  rcases Go.Deep.open_slice ht h with ⟨hcs, _⟩ | ⟨a, len, cap, m, k, D, Pl, hcs, _, hl, _, hmm, hx, _⟩
  · rw [hc] at hcs; cases hcs; exact Nat.zero_le _
  · rw [hc] at hcs; cases hcs
    have hd : x.1 = .slice ((List.range n).map D) ((List.range (m - n)).map fun j => D (n + j)) := by rw [hx]
    have := hw ((((List.range n).map D).length + ((List.range (m - n)).map fun j => D (n + j)).length) * P.bytesOf e) (by
      rw [hd]; unfold DataW.weights; rw [ht]; exact List.mem_cons_self ..)
    rw [cb] at this
    simp at this
    omega
theorem open_gridW (ht : P.underlying t = some (.slice e)) (he : P.underlying e = some (.slice f)) (hs : P.underlying f = some (.int .i64)) (ce : P.cellsOf e = 1) (cf : P.cellsOf f = 1) (cb : P.bytesOf f = 8)
    (hval : Value.okWide P W .any b0 t v) (h : DataW.Trod enc P W 0 (fun _ => true) true t v d ps) :
    ∃ (A : Option Addr) (c : Nat) (l : List (List Int)), v = .slice A l.length c ∧ CRow W A l ∧ (Fits (d.weights P t) → ∀ x ∈ l, x.length ≤ 17592186044416) ∧ ∀ x ∈ l, ∀ y ∈ x, In64 y := by
  obtain ⟨a0, l0, k0, rfl⟩ := okWide_slice ht hval
  obtain ⟨fuel, hf⟩ := h
  rcases Go.Deep.open_slice ht hf with ⟨hcs, _⟩ | ⟨a, len, cap, m, n, D, Pl, hcs, _, hl, _, hmm, hx, hi⟩
  · exact ⟨none, 0, [], by simpa [Value.cells] using hcs, crow_nil _ _, fun _ x hx => (by cases hx), fun x hx => (by cases hx)⟩
  · simp only [if_true] at hmm
    have hd : d = .slice ((List.range len).map D) ((List.range (m - len)).map fun j => D (len + j)) := (Prod.mk.inj hx).1
    have each : ∀ i, i < len → ∃ y : Desc × List Int, (Rg.At encO W (a.add (i * 1)) y.1 ∧ (a.add (i * 1)).block < W.heap.size) ∧ (y.1.2.1 = y.2.length ∧ IRow W y.1.1 y.2) ∧ y.1.2.1 ≤ y.1.2.2 ∧ (Fits ((D i).weights P e) → y.2.length ≤ 17592186044416) ∧ ∀ z ∈ y.2, In64 z := fun i hil => by
      obtain ⟨cs', hc, ht'⟩ := hi i (by omega)
      rw [ce] at hc
      obtain ⟨A, c, l, hcs2, hrow, h64, hle⟩ := open_intsC he hs cf ht'
      obtain ⟨_, hcl2, hat⟩ := World.cells?_some hc
      have c0 := (hat 0 (by omega)).trans (show cs'[0]? = some (.slice A l.length c) by rw [hcs2]; rfl)
      have ci := World.block_lt_of_cell? W _ c0
      refine ⟨((A, l.length, c), l), ⟨fun j u hu => ?_, by rwa [Rs.add_block] at ci⟩, ⟨rfl, hrow⟩, hle, fun hw => ints_heavy he cb ht' hcs2 hw, h64⟩
      match j with
      | 0 => cases hu; rw [if_pos rfl]; exact c0
      | j + 1 => simp [encO] at hu
    obtain ⟨g, hg⟩ := Go.Deep.choose_lt each
    have hlen : ((List.range len).map fun i => (g i).2).length = len := by simp
    refine ⟨some a, cap, (List.range len).map fun i => (g i).2, by rw [hlen]; simpa [Value.cells] using hcs, ⟨(List.range len).map fun i => (g i).1, row_cells fun i hi2 => ?_, ⟨by simp, fun i d' l' h1 h2 => ?_⟩, fun d' hd' => ?_⟩, fun hw x hx2 => ?_, fun x hx2 => ?_⟩
    · have hi3 : i < len := by simpa using hi2
      have := (hg i hi3).1
      simpa using this
    · obtain ⟨hi3, e1⟩ := List.getElem?_eq_some_iff.1 h1
      obtain ⟨hi4, e2⟩ := List.getElem?_eq_some_iff.1 h2
      have hi5 : i < len := by simpa using hi3
      have := (hg i hi5).2.1
      simp only [List.getElem_map, List.getElem_range] at e1 e2
      rw [← e1, ← e2]; exact this
    · obtain ⟨i, hi2, rfl⟩ := List.mem_map.1 hd'
      exact (hg i (List.mem_range.1 hi2)).2.2.1
    · obtain ⟨i, hi2, rfl⟩ := List.mem_map.1 hx2
      have hil := List.mem_range.1 hi2
      refine (hg i hil).2.2.2.1 fun y hy => hw y ?_
      rw [hd]
      unfold DataW.weights
      rw [ht]
      refine List.mem_cons_of_mem _ (List.mem_append_left _ ?_)
      exact heavy_mem _ (D i) (List.mem_map.2 ⟨i, List.mem_range.2 hil, rfl⟩) _ hy
    · obtain ⟨i, hi2, rfl⟩ := List.mem_map.1 hx2
      exact (hg i (List.mem_range.1 hi2)).2.2.2.2
end
end Go.Proofs.Ytjkmdghlhodhiaa.Cl
