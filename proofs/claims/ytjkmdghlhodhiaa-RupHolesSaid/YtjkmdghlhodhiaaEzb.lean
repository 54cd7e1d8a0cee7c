/- What comes in: rows of numbers, of truths, rows of rows; nothing of the program. -/
import Derived.Test.YtjkmdghlhodhiaaEm
import Derived.Deep.Slices
import Derived.Deep.Strs
import Derived.Handed
namespace Go.Proofs.Ytjkmdghlhodhiaa.Cl
open Go.ChangeShapes Go.WideShapes Go.RowKit
section
variable {H : Type} {enc : TypeId × Value → H} {P : Program} {W : World} {b0 : Nat} {t e f : TypeId} {v : Value} {d : DataW H} {ps : List MemPlace}
theorem row_cells {α : Type} {en : α → List Value} {w : World} {a : Addr} {l : List α} (h : ∀ i (hi : i < l.length), Rg.At en w (a.add (i * 1)) l[i] ∧ (a.add (i * 1)).block < w.heap.size) : Rg.Row en 1 w (some a) l := fun h0 => by
  refine ⟨a, rfl, ?_, fun i hi => (h i hi).1⟩
  have := (h 0 h0).2
  rwa [Rs.add_block] at this
theorem open_intsC {fuel : Nat} {cs : List Value} {x : DataW H × List MemPlace} (ht : P.underlying t = some (.slice e)) (hs : P.underlying e = some (.int .i64)) (ce : P.cellsOf e = 1) (h : DataW.trod enc P W 0 (fun _ => true) true fuel t cs = some x) :
    ∃ (A : Option Addr) (c : Nat) (l : List Int), cs = [.slice A l.length c] ∧ IRow W A l ∧ (∀ y ∈ l, In64 y) ∧ l.length ≤ c := by
  rcases Go.Deep.open_slice ht h with ⟨hcs, _⟩ | ⟨a, len, cap, m, n, D, Pl, hcs, _, hl, _, hmm, _, hi⟩
  · exact ⟨none, 0, [], hcs, fun h => absurd h (by simp), by simp, Nat.le_refl _⟩
  · simp only [if_true] at hmm
    have each : ∀ i, i < len → ∃ y : Int, (Rg.At encI W (a.add (i * 1)) y ∧ (a.add (i * 1)).block < W.heap.size) ∧ In64 y := fun i hil => by
      obtain ⟨cs', hc, ht'⟩ := hi i (by omega)
      rw [ce] at hc
      obtain ⟨y, e0, _, wx⟩ := DataW.trod_int hs ht'
      obtain ⟨_, hcl2, hat⟩ := World.cells?_some hc
      have c0 := (hat 0 (by omega)).trans (show cs'[0]? = some (.int .i64 y) by rw [e0]; rfl)
      have ci := World.block_lt_of_cell? W _ c0
      have hy : (decide ((-9223372036854775808 : Int) ≤ y) && decide (y ≤ 9223372036854775807)) = true := wx
      refine ⟨y, ⟨fun j u hu => ?_, by rwa [Rs.add_block] at ci⟩, by simpa [In64] using hy⟩
      match j with
      | 0 => cases hu; rw [if_pos rfl]; exact c0
      | j + 1 => simp [encI] at hu
    obtain ⟨g, hg⟩ := Go.Deep.choose_lt each
    have hlen : ((List.range len).map g).length = len := by simp
    refine ⟨some a, cap, (List.range len).map g, by rw [hlen]; exact hcs, row_cells fun i hi2 => ?_, fun y hy => ?_, by rw [hlen]; exact hl⟩
    · rw [hlen] at hi2
      have := (hg i hi2).1
      simpa using this
    · obtain ⟨i, hi2, rfl⟩ := List.mem_map.1 hy
      exact (hg i (List.mem_range.1 hi2)).2
theorem open_ints (ht : P.underlying t = some (.slice e)) (hs : P.underlying e = some (.int .i64)) (ce : P.cellsOf e = 1)
    (hval : Value.okWide P W .any b0 t v) (h : DataW.Trod enc P W 0 (fun _ => true) true t v d ps) :
    ∃ (A : Option Addr) (c : Nat) (l : List Int), v = .slice A l.length c ∧ IRow W A l ∧ ∀ y ∈ l, In64 y := by
  obtain ⟨a0, l0, k0, rfl⟩ := okWide_slice ht hval
  obtain ⟨fuel, hf⟩ := h
  obtain ⟨A, c, l, hcs, h1, h2, _⟩ := open_intsC ht hs ce hf
  exact ⟨A, c, l, by simpa [Value.cells] using hcs, h1, h2⟩
theorem open_bools (ht : P.underlying t = some (.slice e)) (hs : P.underlying e = some .bool) (ce : P.cellsOf e = 1)
    (hval : Value.okWide P W .any b0 t v) (h : DataW.Trod enc P W 0 (fun _ => true) true t v d ps) :
    ∃ (A : Option Addr) (c : Nat) (l : List Bool), v = .slice A l.length c ∧ BRow W A l := by
  obtain ⟨a0, l0, k0, rfl⟩ := okWide_slice ht hval
  obtain ⟨fuel, hf⟩ := h
  rcases Go.Deep.open_slice ht hf with ⟨hcs, _⟩ | ⟨a, len, cap, m, n, D, Pl, hcs, _, hl, _, hmm, _, hi⟩
  · exact ⟨none, 0, [], by simpa [Value.cells] using hcs, fun h => absurd h (by simp)⟩
  · simp only [if_true] at hmm
    have each : ∀ i, i < len → ∃ y : Bool, Rg.At encB W (a.add (i * 1)) y ∧ (a.add (i * 1)).block < W.heap.size := fun i hil => by
      obtain ⟨cs', hc, ht'⟩ := hi i (by omega)
      rw [ce] at hc
      obtain ⟨y, e0, _⟩ := DataW.trod_bool hs ht'
      obtain ⟨_, hcl2, hat⟩ := World.cells?_some hc
      have c0 := (hat 0 (by omega)).trans (show cs'[0]? = some (.bool y) by rw [e0]; rfl)
      have ci := World.block_lt_of_cell? W _ c0
      refine ⟨y, fun j u hu => ?_, by rwa [Rs.add_block] at ci⟩
      match j with
      | 0 => cases hu; rw [if_pos rfl]; exact c0
      | j + 1 => simp [encB] at hu
    obtain ⟨g, hg⟩ := Go.Deep.choose_lt each
    have hlen : ((List.range len).map g).length = len := by simp
    refine ⟨some a, cap, (List.range len).map g, by rw [hlen]; simpa [Value.cells] using hcs, row_cells fun i hi2 => ?_⟩
    rw [hlen] at hi2
    have := hg i hi2
    simpa using this
theorem open_gridC (ht : P.underlying t = some (.slice e)) (he : P.underlying e = some (.slice f)) (hs : P.underlying f = some (.int .i64)) (ce : P.cellsOf e = 1) (cf : P.cellsOf f = 1)
    (hval : Value.okWide P W .any b0 t v) (h : DataW.Trod enc P W 0 (fun _ => true) true t v d ps) :
    ∃ (A : Option Addr) (c : Nat) (l : List (List Int)), v = .slice A l.length c ∧ CRow W A l := by
  obtain ⟨a0, l0, k0, rfl⟩ := okWide_slice ht hval
  obtain ⟨fuel, hf⟩ := h
  rcases Go.Deep.open_slice ht hf with ⟨hcs, _⟩ | ⟨a, len, cap, m, n, D, Pl, hcs, _, hl, _, hmm, _, hi⟩
  · exact ⟨none, 0, [], by simpa [Value.cells] using hcs, crow_nil _ _⟩
  · simp only [if_true] at hmm
    have each : ∀ i, i < len → ∃ y : Desc × List Int, (Rg.At encO W (a.add (i * 1)) y.1 ∧ (a.add (i * 1)).block < W.heap.size) ∧ (y.1.2.1 = y.2.length ∧ IRow W y.1.1 y.2) ∧ y.1.2.1 ≤ y.1.2.2 := fun i hil => by
      obtain ⟨cs', hc, ht'⟩ := hi i (by omega)
      rw [ce] at hc
      obtain ⟨A, c, l, hcs2, hrow, _, hle⟩ := open_intsC he hs cf ht'
      obtain ⟨_, hcl2, hat⟩ := World.cells?_some hc
      have c0 := (hat 0 (by omega)).trans (show cs'[0]? = some (.slice A l.length c) by rw [hcs2]; rfl)
      have ci := World.block_lt_of_cell? W _ c0
      refine ⟨((A, l.length, c), l), ⟨fun j u hu => ?_, by rwa [Rs.add_block] at ci⟩, ⟨rfl, hrow⟩, hle⟩
      match j with
      | 0 => cases hu; rw [if_pos rfl]; exact c0
      | j + 1 => simp [encO] at hu
    obtain ⟨g, hg⟩ := Go.Deep.choose_lt each
    have hlen : ((List.range len).map fun i => (g i).2).length = len := by simp
    refine ⟨some a, cap, (List.range len).map fun i => (g i).2, by rw [hlen]; simpa [Value.cells] using hcs, (List.range len).map fun i => (g i).1, row_cells fun i hi2 => ?_, ⟨by simp, fun i d' l' h1 h2 => ?_⟩, fun d' hd' => ?_⟩
    · have hi3 : i < len := by simpa using hi2
      have := (hg i hi3).1
      simpa using this
    · obtain ⟨hi3, e1⟩ := List.getElem?_eq_some_iff.1 h1
      obtain ⟨hi4, e2⟩ := List.getElem?_eq_some_iff.1 h2
      have hi5 : i < len := by simpa using hi3
      have := (hg i hi5).2.1
      simp only [List.getElem_map, List.getElem_range] at e1 e2
      rw [← e1, ← e2]; exact this
    · obtain ⟨i, hi2, rfl⟩ := List.mem_map.1 hd'
      exact (hg i (List.mem_range.1 hi2)).2.2
theorem open_grid (ht : P.underlying t = some (.slice e)) (he : P.underlying e = some (.slice f)) (hs : P.underlying f = some (.int .i64)) (ce : P.cellsOf e = 1) (cf : P.cellsOf f = 1)
    (hval : Value.okWide P W .any b0 t v) (h : DataW.Trod enc P W 0 (fun _ => true) true t v d ps) :
    ∃ (A : Option Addr) (c : Nat) (l : List (List Int)), v = .slice A l.length c ∧ GRow W A l := by
  obtain ⟨A, c, l, h1, h2⟩ := open_gridC ht he hs ce cf hval h
  exact ⟨A, c, l, h1, crow_grow h2⟩
end
theorem slice_caps {H : Type} {enc : TypeId × Value → H} {P : Program} {W : World} {t e : TypeId} {A : Option Addr} {n c : Nat} {d : DataW H} {ps : List MemPlace} (ht : P.underlying t = some (.slice e)) (h : DataW.Trod enc P W 0 (fun _ => true) true t (.slice A n c) d ps) : n ≤ c ∧ c ≤ maxLen := by
  obtain ⟨fuel, hf⟩ := h
  rcases Go.Deep.open_slice ht hf with ⟨hcs, _⟩ | ⟨a, len, cap, m, k, D, Pl, hcs, _, hl, hm, _⟩
  · simp [Value.cells] at hcs
    rw [hcs.2.1, hcs.2.2]; exact ⟨Nat.le_refl _, Nat.zero_le _⟩
  · simp [Value.cells] at hcs
    obtain ⟨_, rfl, rfl⟩ := hcs
    exact ⟨hl, hm⟩
end Go.Proofs.Ytjkmdghlhodhiaa.Cl
