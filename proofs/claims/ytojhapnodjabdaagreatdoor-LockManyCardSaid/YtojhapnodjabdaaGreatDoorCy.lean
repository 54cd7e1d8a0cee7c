/- A slice of entries that came in: how its cells read. -/
import Derived.Test.YtojhapnodjabdaaGreatDoorCf
import Derived.Deep.Slices
import Derived.Deep.Strs
import Derived.RowKit
import Derived.Handed
namespace Go.Proofs.YtojhapnodjabdaaGreatDoor
open Go.ChangeShapes Go.WideShapes Go.RowKit Lk At
theorem Lk.cell_inZ {w : World} {a : Addr} {v : Value} (h : w.cell? a = some v) : a.block < w.heap.size := by
  unfold World.cell? at h
  rcases Nat.lt_or_ge a.block w.heap.size with hl | hl
  · exact hl
  · rw [Array.getElem?_eq_none hl] at h; cases h
theorem Lk.one_of2 {α : Type} {cs : List α} {n : Nat} (hl : cs.length = 2) (hn : n < 2) : (cs.drop n).take 1 = [cs[n]'(by omega)] := by
  rw [List.drop_eq_getElem_cons (by omega)]; rfl
theorem Lk.open_ents {H : Type} {enc : TypeId × Value → H} {P : Program} {W : World} {b0 : Nat} {t e ts : TypeId} {n0 n1 : Field} {v : Value} {d : DataW H} {ps : List MemPlace}
    (ht : P.underlying t = some (.slice e)) (he : P.underlying e = some (.struct #[n0, n1])) (h0 : n0.type = ts ∧ n0.offset = 0) (h1 : n1.type = ts ∧ n1.offset = 1)
    (hs : P.underlying ts = some .string) (cs : P.cellsOf ts = 1) (ce : P.cellsOf e = 2)
    (hval : Value.okWide P W .any b0 t v) (h : DataW.Trod enc P W 0 (fun _ => true) true t v d ps) :
    ∃ (A : Option Addr) (c : Nat) (l : List Ent), v = .slice A l.length c ∧ ERow W A l := by
  obtain ⟨a0, l0, k0, rfl⟩ := okWide_slice ht hval
  obtain ⟨fuel, hf⟩ := h
  rcases Go.Deep.open_slice ht hf with ⟨hcs, _⟩ | ⟨a, len, cap, m, n, D, Pl, hcs, _, hl, _, hmm, hx, hi⟩
  · simp [Value.cells] at hcs
    obtain ⟨rfl, rfl, rfl⟩ := hcs
    exact ⟨none, 0, [], rfl, fun h => absurd h (by simp)⟩
  · simp [Value.cells] at hcs
    obtain ⟨rfl, rfl, rfl⟩ := hcs
    simp only [if_true] at hmm
    have each : ∀ i, i < l0 → ∃ s : Ent, Rg.At encE W (a.add (i * 2)) s ∧ (a.add (i * 2)).block < W.heap.size := fun i hil => by
      obtain ⟨cs', hc, ht'⟩ := hi i (by omega)
      rw [ce] at hc
      obtain ⟨y0, y1, m', hxx, hcl, g0, g1⟩ := trod_struct2 he ht'
      rw [ce] at hcl
      rw [h0.1, h0.2, cs, one_of2 hcl (by omega)] at g0
      rw [h1.1, h1.2, cs, one_of2 hcl (by omega)] at g1
      obtain ⟨s0, e0, _, _⟩ := DataW.trod_string hs g0
      obtain ⟨s1, e1, _, _⟩ := DataW.trod_string hs g1
      obtain ⟨_, hcl2, hat⟩ := World.cells?_some hc
      have c0 := (hat 0 (by omega)).trans ((List.getElem?_eq_getElem (by omega)).trans (congrArg some (List.cons.inj e0).1))
      have c1 := (hat 1 (by omega)).trans ((List.getElem?_eq_getElem (by omega)).trans (congrArg some (List.cons.inj e1).1))
      have ci := cell_inZ c0
      rw [Rs.add_block] at ci
      refine ⟨(s0.data.toList, s1.data.toList), fun j u hu => ?_, ci⟩
      match j with
      | 0 => cases hu; rw [if_pos rfl]; exact c0
      | 1 => cases hu; exact c1
      | j + 2 => simp [encE] at hu
    obtain ⟨f, hf2⟩ := Go.Deep.choose_lt each
    have hlen : ((List.range l0).map f).length = l0 := by simp
    refine ⟨some a, k0, (List.range l0).map f, by rw [hlen], fun h => ?_⟩
    rw [hlen] at h
    refine ⟨a, rfl, ?_, fun i hi2 => ?_⟩
    · have := (hf2 0 h).2
      rwa [Rs.add_block] at this
    · rw [hlen] at hi2
      have := (hf2 i hi2).1
      simpa using this
end Go.Proofs.YtojhapnodjabdaaGreatDoor
