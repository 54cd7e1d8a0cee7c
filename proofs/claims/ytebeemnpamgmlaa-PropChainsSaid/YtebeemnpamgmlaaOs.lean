/- A chain of clauses: the law walked over what the program must answer. -/
import Derived.Test.YtebeemnpamgmlaaOq
namespace Go.Proofs.Ytebeemnpamgmlaa.Up
open Go.RowKit Cl
def chC (r : Nat) : List Int := [-((r + 1 : Nat) : Int), ((r + 1 : Nat) : Int) + 1]
def chL (t K j : Nat) : List (List Int) := (List.range j).map fun i => chC ((i + t) % K)
theorem chL_len (t K j : Nat) : (chL t K j).length = j := by unfold chL; simp
theorem chL_more (t K j : Nat) : chL t K (j + 1) = chL t K j ++ [chC ((j + t) % K)] := by
  unfold chL
  rw [List.range_succ, List.map_append]; rfl
theorem chL_mem {t K : Nat} (h0 : 0 < K) (c : List Int) : c ∈ chL t K K ↔ ∃ j : Nat, 1 ≤ j ∧ j + 1 ≤ K + 1 ∧ c = [-(j : Int), (j : Int) + 1] := by
  constructor
  · intro h
    obtain ⟨i, _, rfl⟩ := List.mem_map.1 h
    have := Nat.mod_lt (i + t) h0
    exact ⟨(i + t) % K + 1, by omega, by omega, rfl⟩
  · rintro ⟨j, h1, h2, rfl⟩
    refine List.mem_map.2 ⟨(j - 1 + (K - t % K)) % K, List.mem_range.2 (Nat.mod_lt _ h0), ?_⟩
    have e : ((j - 1 + (K - t % K)) % K + t) % K = j - 1 := by
      rw [Nat.mod_add_mod]
      have h3 := Nat.mod_lt t h0
      have h4 := Nat.div_add_mod t K
      have h5 : j - 1 + (K - t % K) + t = j - 1 + K * (t / K + 1) := by
        rw [Nat.mul_add, Nat.mul_one]; omega
      rw [h5, Nat.add_mul_mod_self_left, Nat.mod_eq_of_lt (by omega)]
    rw [e]
    unfold chC
    rw [show j - 1 + 1 = j by omega]
theorem chL_lits {t K : Nat} (h0 : 0 < K) : ∀ c ∈ chL t K K, ∀ x ∈ c, LitOf (K + 1) x := fun c hc x hx => by
  obtain ⟨j, h1, h2, rfl⟩ := (chL_mem h0 c).1 hc
  simp at hx
  unfold LitOf
  omega
theorem from_len (a : Int) (n : Nat) : (from' a n).length = n := by unfold from'; simp
theorem from_at {a : Int} {n i : Nat} (h : i < (from' a n).length) : (from' a n)[i] = a + (i : Int) := by simp only [from', List.getElem_map, List.getElem_range]
theorem up_fromS {a : Int} {n : Nat} (h : 1 ≤ a) : Up (from' a n) := by
  unfold Up
  refine List.pairwise_iff_getElem.2 fun i j h1 h2 hij => ?_
  rw [from_at, from_at]; omega
def downL (k : Nat) : List Int := (List.range k).map fun i => -((i + 1 : Nat) : Int)
theorem down_len (k : Nat) : (downL k).length = k := by unfold downL; simp
theorem down_at {k i : Nat} (h : i < (downL k).length) : (downL k)[i] = -((i + 1 : Nat) : Int) := by simp only [downL, List.getElem_map, List.getElem_range]
theorem up_down (k : Nat) : Up (downL k) := by
  unfold Up
  refine List.pairwise_iff_getElem.2 fun i j h1 h2 hij => ?_
  rw [down_at, down_at]; omega
theorem mem_down (k : Nat) (x : Int) : x ∈ downL k ↔ -(k : Int) ≤ x ∧ x ≤ -1 := by
  unfold downL
  rw [List.mem_map]
  refine ⟨?_, fun h => ⟨(-x - 1).toNat, List.mem_range.2 (by omega), by omega⟩⟩
  rintro ⟨i, hi, rfl⟩
  have := List.mem_range.1 hi
  omega
/-- What Close answers in a chain. -/
theorem chain_a {t K f : Nat} {out : List Int} {bad : Bool} (h0 : 0 < K) (hf : 1 ≤ f) (hfk : f ≤ K + 1) (h : IsClose (chL t K K) [(f : Int)] out bad) : bad = false ∧ out = from' f (K + 2 - f) := by
  obtain ⟨h1, h2⟩ := chain_up (k := K + 1) hf hfk (chL_mem (t := t) h0)
  rcases h with ⟨_, _, h3⟩ | ⟨h3, _, h4, h5⟩
  · exact absurd h3 h2
  · exact ⟨h3, up_eq h4 (up_fromS (by omega)) fun x => by rw [h5, h1, mem_from]; omega⟩
theorem chain_b {t K f : Nat} {l' : List (List Int)} {out : List Int} {bad : Bool} (h0 : 0 < K) (hf : 1 ≤ f) (hfk : f ≤ K + 1) (hl : ∀ c ∈ chL t K K, c ∈ l') (hk : [-((K + 1 : Nat) : Int)] ∈ l') (h : IsClose l' [(f : Int)] out bad) : bad = true ∧ out = [] := by
  have h1 := chain_bad (k := K + 1) hf hfk (chL_mem (t := t) h0) hl hk
  rcases h with ⟨h2, h3, _⟩ | ⟨_, h3, _⟩
  · exact ⟨h2, h3⟩
  · exact absurd h1 h3
theorem chain_c {t K : Nat} {out : List Int} {bad : Bool} (h0 : 0 < K) (h : IsClose (chL t K K) [-((K + 1 : Nat) : Int)] out bad) : bad = false ∧ out = downL (K + 1) := by
  obtain ⟨h1, h2⟩ := chain_down (k := K + 1) (by omega) (chL_mem (t := t) h0)
  rcases h with ⟨_, _, h3⟩ | ⟨h3, _, h4, h5⟩
  · exact absurd h3 h2
  · exact ⟨h3, up_eq h4 (up_down _) fun x => by rw [h5, h1, mem_down]⟩
end Go.Proofs.Ytebeemnpamgmlaa.Up
