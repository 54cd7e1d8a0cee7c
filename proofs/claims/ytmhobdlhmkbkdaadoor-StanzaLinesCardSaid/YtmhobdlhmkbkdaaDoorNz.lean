/- Slices of fields and of texts that came in: how their cells read, and how long their texts may be. -/
import Derived.Test.YtmhobdlhmkbkdaaDoorSf
import Derived.Deep.Slices
import Derived.Deep.Strs
import Derived.RowKit
import Derived.Handed
namespace Go.Proofs.YtmhobdlhmkbkdaaDoor
open Go.ChangeShapes Go.WideShapes Go.RowKit
theorem slice_capZ {H : Type} {enc : TypeId × Value → H} {P : Program} {W : World} {t e : TypeId} {A : Option Addr} {n c : Nat} {d : DataW H} {ps : List MemPlace} (ht : P.underlying t = some (.slice e)) (h : DataW.Trod enc P W 0 (fun _ => true) true t (.slice A n c) d ps) : n ≤ maxLen := by
  obtain ⟨fuel, hf⟩ := h
  rcases Go.Deep.open_slice ht hf with ⟨hcs, _⟩ | ⟨a, len, cap, m, k, D, Pl, hcs, _, hl, hm, _⟩
  · simp [Value.cells] at hcs
    rw [hcs.2.1]; exact Nat.zero_le _
  · simp [Value.cells] at hcs
    obtain ⟨_, rfl, rfl⟩ := hcs
    exact Nat.le_trans hl hm
theorem weightsAll_mem {H : Type} {P : Program} {e : TypeId} : ∀ (l : List (DataW H)) (d : DataW H), d ∈ l → ∀ x ∈ d.weights P e, x ∈ DataW.weightsAll P e l
  | a :: l, d, h, x, hx => by
    unfold DataW.weightsAll
    rcases List.mem_cons.1 h with rfl | h
    · exact List.mem_append_left _ hx
    · exact List.mem_append_right _ (weightsAll_mem l d h x hx)
theorem cell_inZ {w : World} {a : Addr} {v : Value} (h : w.cell? a = some v) : a.block < w.heap.size := by
  unfold World.cell? at h
  rcases Nat.lt_or_ge a.block w.heap.size with hl | hl
  · exact hl
  · rw [Array.getElem?_eq_none hl] at h; cases h
instance : Inhabited Sz.Fld := ⟨⟨[], [], 0⟩⟩
theorem one_of3 {α : Type} {cs : List α} {n : Nat} (hl : cs.length = 3) (hn : n < 3) : (cs.drop n).take 1 = [cs[n]'(by omega)] := by
  rw [List.drop_eq_getElem_cons (by omega)]; rfl
/-- What a weight list may hold. -/
def Fits47 (l : List Nat) : Prop := ∀ x ∈ l, x ≤ 140737488355328
theorem fits_of {l : List Nat} (h : l.all (· ≤ reachBytes) = true) : Fits47 l := fun x hx => by
  have := List.all_eq_true.1 h x hx
  rw [decide_eq_true_eq] at this
  unfold reachBytes at this
  omega
theorem open_fields {H : Type} {enc : TypeId × Value → H} {P : Program} {W : World} {b0 : Nat} {t e ts ti : TypeId} {n0 n1 n2 : Field} {v : Value} {d : DataW H} {ps : List MemPlace}
    (ht : P.underlying t = some (.slice e)) (he : P.underlying e = some (.struct #[n0, n1, n2])) (h0 : n0.type = ts ∧ n0.offset = 0) (h1 : n1.type = ts ∧ n1.offset = 1) (h2 : n2.type = ti ∧ n2.offset = 2)
    (hs : P.underlying ts = some .string) (hb : P.underlying ti = some (.int .i64)) (cs : P.cellsOf ts = 1) (cb : P.cellsOf ti = 1) (ce : P.cellsOf e = 3)
    (hval : Value.okWide P W .any b0 t v) (h : DataW.Trod enc P W 0 (fun _ => true) true t v d ps) :
    ∃ (A : Option Addr) (c : Nat) (l : List Sz.Fld), v = .slice A l.length c ∧ Rg.Row Sz.encF 3 W A l ∧ (Fits47 (d.weights P t) → ∀ s ∈ l, s.key.length ≤ 140737488355328 ∧ s.val.length ≤ 140737488355328) := by
  obtain ⟨a0, l0, k0, rfl⟩ := okWide_slice ht hval
  obtain ⟨fuel, hf⟩ := h
  rcases Go.Deep.open_slice ht hf with ⟨hcs, _⟩ | ⟨a, len, cap, m, n, D, Pl, hcs, _, hl, _, hmm, hx, hi⟩
  · simp [Value.cells] at hcs
    obtain ⟨rfl, rfl, rfl⟩ := hcs
    exact ⟨none, 0, [], rfl, fun h => absurd h (by simp), fun _ s hs => by cases hs⟩
  · simp [Value.cells] at hcs
    obtain ⟨rfl, rfl, rfl⟩ := hcs
    simp only [if_true] at hmm
    have hd : d = .slice ((List.range l0).map D) ((List.range (m - l0)).map fun j => D (l0 + j)) := (Prod.mk.inj hx).1
    have each : ∀ i, i < l0 → ∃ s : Sz.Fld, Rg.At Sz.encF W (a.add (i * 3)) s ∧ (a.add (i * 3)).block < W.heap.size ∧ (∀ x, x = s.key.length ∨ x = s.val.length → x ∈ (D i).weights P e) := fun i hil => by
      obtain ⟨cs', hc, ht'⟩ := hi i (by omega)
      rw [ce] at hc
      obtain ⟨y0, y1, y2, m', hxx, hcl, g0, g1, g2⟩ := Go.Deep.trod_struct3 he ht'
      rw [ce] at hcl
      rw [h0.1, h0.2, cs, one_of3 hcl (by omega)] at g0
      rw [h1.1, h1.2, cs, one_of3 hcl (by omega)] at g1
      rw [h2.1, h2.2, cb, one_of3 hcl (by omega)] at g2
      obtain ⟨s0, e0, q0, m0⟩ := DataW.trod_string hs g0
      obtain ⟨s1, e1, q1, m1⟩ := DataW.trod_string hs g1
      obtain ⟨b2, e2, _⟩ := DataW.trod_int hb g2
      obtain ⟨_, hcl2, hat⟩ := World.cells?_some hc
      have c0 := (hat 0 (by omega)).trans ((List.getElem?_eq_getElem (by omega)).trans (congrArg some (List.cons.inj e0).1))
      have c1 := (hat 1 (by omega)).trans ((List.getElem?_eq_getElem (by omega)).trans (congrArg some (List.cons.inj e1).1))
      have c2 := (hat 2 (by omega)).trans ((List.getElem?_eq_getElem (by omega)).trans (congrArg some (List.cons.inj e2).1))
      have ci := cell_inZ c0
      rw [Rs.add_block] at ci
      refine ⟨⟨s0.data.toList, s1.data.toList, b2⟩, fun j u hu => ?_, ci, fun x hx => ?_⟩
      · match j with
        | 0 => cases hu; rw [if_pos rfl]; exact c0
        | 1 => cases hu; exact c1
        | 2 => cases hu; exact c2
        | j + 3 => simp [Sz.encF] at hu
      · have hDi : D i = .agg [y0.1, y1.1, y2.1] := (Prod.mk.inj hxx).1
        rw [hDi]
        unfold DataW.weights
        rw [he]
        show x ∈ DataW.weightsEach P [n0.type, n1.type, n2.type] [y0.1, y1.1, y2.1]
        rw [q0, q1]
        rcases hx with rfl | rfl
        · unfold DataW.weightsEach
          refine List.mem_append_left _ ?_
          unfold DataW.weights
          exact List.mem_singleton.2 rfl
        · unfold DataW.weightsEach
          refine List.mem_append_right _ ?_
          unfold DataW.weightsEach
          refine List.mem_append_left _ ?_
          unfold DataW.weights
          exact List.mem_singleton.2 rfl
    obtain ⟨f, hf2⟩ := Go.Deep.choose_lt each
    have hlen : ((List.range l0).map f).length = l0 := by simp
    refine ⟨some a, k0, (List.range l0).map f, by rw [hlen], fun h => ?_, fun hw s hs => ?_⟩
    · rw [hlen] at h
      refine ⟨a, rfl, ?_, fun i hi2 => ?_⟩
      · have := (hf2 0 h).2.1
        rwa [Rs.add_block] at this
      · rw [hlen] at hi2
        have := (hf2 i hi2).1
        simpa using this
    · obtain ⟨i, hi2, rfl⟩ := List.mem_map.1 hs
      have hil := List.mem_range.1 hi2
      obtain ⟨_, _, hm⟩ := hf2 i hil
      have hin : ∀ x ∈ (D i).weights P e, x ≤ 140737488355328 := fun x hx => hw x (by
        rw [hd]
        unfold DataW.weights
        rw [ht]
        refine List.mem_cons_of_mem _ (List.mem_append_left _ ?_)
        exact weightsAll_mem _ (D i) (List.mem_map.2 ⟨i, List.mem_range.2 hil, rfl⟩) x hx)
      exact ⟨hin _ (hm _ (Or.inl rfl)), hin _ (hm _ (Or.inr rfl))⟩
theorem open_texts {H : Type} {enc : TypeId × Value → H} {P : Program} {W : World} {b0 : Nat} {t e : TypeId} {v : Value} {d : DataW H} {ps : List MemPlace}
    (ht : P.underlying t = some (.slice e)) (hs : P.underlying e = some .string) (ce : P.cellsOf e = 1)
    (hval : Value.okWide P W .any b0 t v) (h : DataW.Trod enc P W 0 (fun _ => true) true t v d ps) :
    ∃ (A : Option Addr) (c : Nat) (l : List (List UInt8)), v = .slice A l.length c ∧ Rg.Row encT 1 W A l ∧ (Fits47 (d.weights P t) → ∀ s ∈ l, s.length ≤ 140737488355328) := by
  obtain ⟨a0, l0, k0, rfl⟩ := okWide_slice ht hval
  obtain ⟨fuel, hf⟩ := h
  rcases Go.Deep.open_slice ht hf with ⟨hcs, _⟩ | ⟨a, len, cap, m, n, D, Pl, hcs, _, hl, _, hmm, hx, hi⟩
  · simp [Value.cells] at hcs
    obtain ⟨rfl, rfl, rfl⟩ := hcs
    exact ⟨none, 0, [], rfl, fun h => absurd h (by simp), fun _ s hs => by cases hs⟩
  · simp [Value.cells] at hcs
    obtain ⟨rfl, rfl, rfl⟩ := hcs
    simp only [if_true] at hmm
    have hd : d = .slice ((List.range l0).map D) ((List.range (m - l0)).map fun j => D (l0 + j)) := (Prod.mk.inj hx).1
    have each : ∀ i, i < l0 → ∃ s : List UInt8, Rg.At encT W (a.add (i * 1)) s ∧ (a.add (i * 1)).block < W.heap.size ∧ s.length ∈ (D i).weights P e := fun i hil => by
      obtain ⟨cs', hc, ht'⟩ := hi i (by omega)
      rw [ce] at hc
      obtain ⟨s0, e0, q0, m0⟩ := DataW.trod_string hs ht'
      obtain ⟨_, hcl2, hat⟩ := World.cells?_some hc
      have c0 := (hat 0 (by omega)).trans (show cs'[0]? = some (.string s0) by rw [e0]; rfl)
      have ci := cell_inZ c0
      rw [Rs.add_block] at ci
      refine ⟨s0.data.toList, fun j u hu => ?_, ci, ?_⟩
      · match j with
        | 0 => cases hu; rw [if_pos rfl]; exact c0
        | j + 1 => simp [encT] at hu
      · have hDi : D i = .lit (.string s0.data.toList) := (Prod.mk.inj q0).1
        rw [hDi]
        unfold DataW.weights
        exact List.mem_singleton.2 rfl
    obtain ⟨f, hf2⟩ := Go.Deep.choose_lt each
    have hlen : ((List.range l0).map f).length = l0 := by simp
    refine ⟨some a, k0, (List.range l0).map f, by rw [hlen], fun h => ?_, fun hw s hs => ?_⟩
    · rw [hlen] at h
      refine ⟨a, rfl, ?_, fun i hi2 => ?_⟩
      · have := (hf2 0 h).2.1
        rwa [Rs.add_block] at this
      · rw [hlen] at hi2
        have := (hf2 i hi2).1
        simpa using this
    · obtain ⟨i, hi2, rfl⟩ := List.mem_map.1 hs
      have hil := List.mem_range.1 hi2
      obtain ⟨_, _, hm⟩ := hf2 i hil
      refine hw _ ?_
      rw [hd]
      unfold DataW.weights
      rw [ht]
      refine List.mem_cons_of_mem _ (List.mem_append_left _ ?_)
      exact weightsAll_mem _ (D i) (List.mem_map.2 ⟨i, List.mem_range.2 hil, rfl⟩) _ hm
end Go.Proofs.YtmhobdlhmkbkdaaDoor
