/- A slice of unsigned numbers that came in: how it reads, and that it reads so again. -/
import Derived.Test.YtaghhdgiegcimaaDoorWy
import Derived.ChangeSlices
import Derived.RowKit
namespace Go.Proofs.YtaghhdgiegcimaaDoor
open Go.RowKit Go.ChangeShapes Go.WideShapes

theorem block_of_add (a : Addr) (n : Nat) : (a.add n).block = a.block := by unfold Addr.add; split <;> rfl
theorem cell_lt {w : World} {a : Addr} {v : Value} (h : w.cell? a = some v) : a.block < w.heap.size := by
  rcases Nat.lt_or_ge a.block w.heap.size with h1 | h1
  · exact h1
  · unfold World.cell? at h
    rw [Array.getElem?_eq_none h1] at h
    cases h
set_option maxRecDepth 100000 in
theorem open_u64s {H : Type} {enc : TypeId × Value → H} {W : World} {v : Value} {d : DataW H} {ps : List MemPlace} {b0 : Nat} (hval : Value.okWide Tryd.prog W .any b0 53 v) (h : DataW.Trod enc Tryd.prog W 0 (fun _ => true) true 53 v d ps) :
    ∃ (A : Option Addr) (c : Nat) (ns : List Nat), v = .slice A ns.length c ∧ URow W A ns ∧ (∀ n ∈ ns, n < Wm.W) ∧ ∀ W', Below W.heap.size W W' → DataW.Trod enc Tryd.prog W' 0 (fun _ => true) true 53 v d ps := by
  obtain ⟨a0, l0, k0, rfl⟩ := okWide_slice Tryd.underlying53 hval
  obtain ⟨fuel, hf⟩ := h
  rcases open_ints Tryd.underlying53 Tryd.underlying35 (by kernel_rfl) hf with ⟨hcs, hx⟩ | ⟨a, len, cap, zs, hcs, hb, hl, hm, hz, hx, hcell, hwf⟩
  · simp [Value.cells] at hcs
    obtain ⟨rfl, rfl, rfl⟩ := hcs
    cases hx
    exact ⟨none, 0, [], rfl, fun h => absurd h (by simp), by simp, fun W' _ => shut_slice_nil Tryd.underlying53⟩
  · simp [Value.cells] at hcs
    obtain ⟨rfl, rfl, rfl⟩ := hcs
    simp only [if_true] at hz
    cases hx
    have hw0 : ∀ n ∈ zs, 0 ≤ n ∧ n < 18446744073709551616 := fun n hn => by
      have h : (decide ((0 : Int) ≤ n) && decide (n ≤ 18446744073709551615)) = true := hwf n hn
      simp at h; omega
    have hlen : ((zs.take l0).map Int.toNat).length = l0 := by simp; omega
    refine ⟨some a, k0, (zs.take l0).map Int.toNat, by rw [hlen], ?_, ?_, ?_⟩
    · intro h0
      rw [hlen] at h0
      refine ⟨a, rfl, ?_, ?_⟩
      · have := cell_lt (hcell 0 (by omega)); rwa [block_of_add] at this
      · intro j hj
        have hj2 : j < l0 := by omega
        have hj3 : j < zs.length := by omega
        rw [hcell j hj3]
        have e1 : zs.getD j 0 = zs[j] := by simp [List.getD, hj3]
        have := hw0 zs[j] (List.getElem_mem hj3)
        rw [e1]
        simp
        omega
    · intro n hn
      simp only [List.mem_map] at hn
      obtain ⟨z, hz1, rfl⟩ := hn
      have := hw0 z (List.mem_of_mem_take hz1)
      unfold Wm.W; omega
    · intro W' hb'
      refine ⟨_, shut_ints 0 Tryd.underlying53 Tryd.underlying35 (by kernel_rfl) hb hl hm (by simpa using hz) (fun i hi => ?_) hwf⟩
      rw [hb'.cell (cell_lt (hcell i hi))]
      exact hcell i hi
end Go.Proofs.YtaghhdgiegcimaaDoor
