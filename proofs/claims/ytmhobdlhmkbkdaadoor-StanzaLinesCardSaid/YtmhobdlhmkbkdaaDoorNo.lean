/- A slice of bytes that came in: how its cells read. -/
import Derived.Test.YtmhobdlhmkbkdaaDoorLsl
import Derived.Test.YtmhobdlhmkbkdaaDoorNz
namespace Go.Proofs.YtmhobdlhmkbkdaaDoor
open Go.ChangeShapes Go.WideShapes Go.RowKit
theorem open_octets {H : Type} {enc : TypeId × Value → H} {P : Program} {W : World} {b0 : Nat} {t e : TypeId} {v : Value} {d : DataW H} {ps : List MemPlace}
    (ht : P.underlying t = some (.slice e)) (hs : P.underlying e = some (.int .u8)) (ce : P.cellsOf e = 1)
    (hval : Value.okWide P W .any b0 t v) (h : DataW.Trod enc P W 0 (fun _ => true) true t v d ps) :
    ∃ (A : Option Addr) (c : Nat) (l : List UInt8), v = .slice A l.length c ∧ Rg.Row Sz.encU 1 W A l := by
  obtain ⟨a0, l0, k0, rfl⟩ := okWide_slice ht hval
  obtain ⟨fuel, hf⟩ := h
  rcases Go.Deep.open_slice ht hf with ⟨hcs, _⟩ | ⟨a, len, cap, m, n, D, Pl, hcs, _, hl, _, hmm, hx, hi⟩
  · simp [Value.cells] at hcs
    obtain ⟨rfl, rfl, rfl⟩ := hcs
    exact ⟨none, 0, [], rfl, fun h => absurd h (by simp)⟩
  · simp [Value.cells] at hcs
    obtain ⟨rfl, rfl, rfl⟩ := hcs
    simp only [if_true] at hmm
    have each : ∀ i, i < l0 → ∃ s : UInt8, Rg.At Sz.encU W (a.add (i * 1)) s ∧ (a.add (i * 1)).block < W.heap.size := fun i hil => by
      obtain ⟨cs', hc, ht'⟩ := hi i (by omega)
      rw [ce] at hc
      obtain ⟨x, e0, _, wx⟩ := DataW.trod_int hs ht'
      obtain ⟨_, hcl2, hat⟩ := World.cells?_some hc
      have c0 := (hat 0 (by omega)).trans (show cs'[0]? = some (.int .u8 x) by rw [e0]; rfl)
      have ci := cell_inZ c0
      rw [Rs.add_block] at ci
      have hx2 : 0 ≤ x ∧ x ≤ 255 := by have h : (decide ((0 : Int) ≤ x) && decide (x ≤ 255)) = true := wx; simpa using h
      refine ⟨UInt8.ofNat x.toNat, fun j u hu => ?_, ci⟩
      match j with
      | 0 =>
        have e : ((UInt8.ofNat x.toNat).toNat : Int) = x := by rw [UInt8.toNat_ofNat']; omega
        cases hu; rw [if_pos rfl]
        show _ = some (Value.int .u8 ((UInt8.ofNat x.toNat).toNat : Int))
        rw [e]; exact c0
      | j + 1 => simp [Sz.encU] at hu
    obtain ⟨f, hf2⟩ := Go.Deep.choose_lt each
    have hlen : ((List.range l0).map f).length = l0 := by simp
    refine ⟨some a, k0, (List.range l0).map f, by rw [hlen], fun h => ?_⟩
    rw [hlen] at h
    refine ⟨a, rfl, ?_, fun i hi2 => ?_⟩
    · have := (hf2 0 h).2
      rwa [Rs.add_block] at this
    · rw [hlen] at hi2
      have := (hf2 i hi2).1
      simpa using this
end Go.Proofs.YtmhobdlhmkbkdaaDoor
