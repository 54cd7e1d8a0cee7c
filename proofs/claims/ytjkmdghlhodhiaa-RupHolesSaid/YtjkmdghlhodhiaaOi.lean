/- Proofs, plain: their steps, fronts of them; what a taken one says. No program is named here. -/
import Derived.Test.YtjkmdghlhodhiaaEa
namespace Go.Proofs.Ytjkmdghlhodhiaa.Up
open Cl
open Classical in
/-- The steps of a proof behind some clauses: the first that is wrong, and why. -/
noncomputable def stepsP (n : Int) : Nat → List (List Int) → List (List Int) → Nat × Int
  | _, _, [] => (0, 0)
  | i, all, c :: r => if checkC n c = 0 then (if Fol all c then stepsP n (i + 1) (all ++ [c]) r else (i, 13)) else (i, checkC n c)
noncomputable def proofP (n : Int) (l p : List (List Int)) : Nat × Int := if (checkAll n l).2 = 0 then stepsP n 0 l p else (0, (checkAll n l).2)
/-- So many steps are taken. -/
def Taken (n : Int) (l p : List (List Int)) (j : Nat) : Prop := ∀ q (h : q < p.length), q < j → checkC n p[q] = 0 ∧ Fol (l ++ p.take q) p[q]
theorem taken_more {n : Int} {l p : List (List Int)} {j : Nat} {c : List Int} (h : Taken n l p j) (hj : j < p.length) (hx : p[j] = c) (h1 : checkC n c = 0) (h2 : Fol (l ++ p.take j) c) : Taken n l p (j + 1) := fun q hq hlt => by
  by_cases e : q = j
  · subst e; rw [hx]; exact ⟨h1, h2⟩
  · exact h q hq (by omega)
theorem steps_front (n : Int) : ∀ (j : Nat) (p l : List (List Int)) (i : Nat), j ≤ p.length → Taken n l p j → stepsP n i l p = stepsP n (i + j) (l ++ p.take j) (p.drop j)
  | 0, p, l, i, _, _ => by rw [List.take_zero, List.append_nil, List.drop_zero]; rfl
  | j + 1, [], l, i, h, _ => absurd h (by simp)
  | j + 1, c :: p, l, i, h, ht => by
    obtain ⟨h1, h2⟩ := ht 0 (by simp) (by omega)
    have h2' : Fol l c := by rw [List.take_zero, List.append_nil] at h2; exact h2
    rw [stepsP, if_pos (show checkC n c = 0 from h1), if_pos h2', steps_front n j p (l ++ [c]) (i + 1) (by simpa using h) fun q hq hlt => by
      have := ht (q + 1) (by simpa using hq) (by omega)
      rw [List.take_succ_cons, List.getElem_cons_succ] at this
      rw [List.append_assoc]; exact this]
    rw [List.take_succ_cons, List.drop_succ_cons, List.append_assoc, show i + 1 + j = i + (j + 1) by omega]
    rfl
theorem proof_err {n : Int} {l p : List (List Int)} (ha : (checkAll n l).2 = 0) {j : Nat} {c : List Int} (h : Taken n l p j) (hj : j < p.length) (hx : p[j] = c) (h1 : checkC n c ≠ 0) : proofP n l p = (j, checkC n c) := by
  unfold proofP
  rw [if_pos ha, steps_front n j p l 0 (by omega) h, List.drop_eq_getElem_cons hj, hx, stepsP, if_neg h1, Nat.zero_add]
theorem proof_not {n : Int} {l p : List (List Int)} (ha : (checkAll n l).2 = 0) {j : Nat} {c : List Int} (h : Taken n l p j) (hj : j < p.length) (hx : p[j] = c) (h1 : checkC n c = 0) (h2 : ¬ Fol (l ++ p.take j) c) : proofP n l p = (j, 13) := by
  unfold proofP
  rw [if_pos ha, steps_front n j p l 0 (by omega) h, List.drop_eq_getElem_cons hj, hx, stepsP, if_pos h1, if_neg h2, Nat.zero_add]
theorem proof_ok {n : Int} {l p : List (List Int)} (ha : (checkAll n l).2 = 0) (h : Taken n l p p.length) : proofP n l p = (0, 0) := by
  unfold proofP
  rw [if_pos ha, steps_front n p.length p l 0 (Nat.le_refl _) h, List.drop_eq_nil_of_le (Nat.le_refl _), stepsP]
theorem steps_taken (n : Int) : ∀ (p l : List (List Int)) (i : Nat), (stepsP n i l p).2 = 0 → Taken n l p p.length
  | [], _, _, _ => fun q hq => absurd hq (by simp)
  | c :: p, l, i, h => by
    rw [stepsP] at h
    split at h
    · rename_i h1
      split at h
      · rename_i h2
        have ih := steps_taken n p (l ++ [c]) (i + 1) h
        intro q hq hlt
        match q with
        | 0 => exact ⟨h1, by rw [List.take_zero, List.append_nil]; exact h2⟩
        | q + 1 =>
          have := ih q (by simpa using hq) (by simpa using hq)
          rw [List.append_assoc] at this
          exact this
      · exact absurd (show (13 : Int) = 0 from h) (by decide)
    · rename_i h1; exact absurd h h1
theorem proof_taken {n : Int} {l p : List (List Int)} (h : (proofP n l p).2 = 0) : (checkAll n l).2 = 0 ∧ Taken n l p p.length ∧ proofP n l p = (0, 0) := by
  unfold proofP at h
  split at h
  · rename_i ha
    have ht := steps_taken n p l 0 h
    exact ⟨ha, ht, proof_ok ha ht⟩
  · rename_i ha; exact absurd h ha
theorem taken_lits {n : Int} {l p : List (List Int)} {j : Nat} (h : Taken n l p j) : ∀ c ∈ p.take j, checkC n c = 0 := fun c hc => by
  obtain ⟨i, hi, rfl⟩ := List.mem_iff_getElem.1 hc
  rw [List.length_take] at hi
  rw [List.getElem_take]
  exact (h i (by omega) (by omega)).1
/-- What is taken holds in each model of the clauses. -/
theorem taken_holds {n : Nat} {l p : List (List Int)} {m : List Bool} (hm : m.length = n) (ha : (checkAll n l).2 = 0) (hl : ∀ c ∈ l, holdsC m c = true) : ∀ j, j ≤ p.length → Taken n l p j → ∀ c ∈ p.take j, holdsC m c = true
  | 0, _, _ => fun c h => absurd h (by simp)
  | j + 1, hj, ht => by
    have ih := taken_holds hm ha hl j (by omega) (fun q hq h => ht q hq (by omega))
    have hjl : j < p.length := by omega
    obtain ⟨h1, h2⟩ := ht j hjl (by omega)
    have hlits : ∀ c ∈ l ++ p.take j, ∀ x ∈ c, LitOf n x := fun c hc x hx => by
      rcases List.mem_append.1 hc with hc | hc
      · exact all_lits ha c hc x hx
      · exact (check_ok (taken_lits (fun q hq h => ht q hq (by omega) : Taken n l p j) c hc)).2.2.2 x hx
    have hh := fol_holds hm hlits (fun x hx => (check_ok h1).2.2.2 x hx) (fun c hc => by
      rcases List.mem_append.1 hc with hc | hc
      · exact hl c hc
      · exact ih c hc) h2
    intro c hc
    rw [List.take_succ_eq_append_getElem hjl] at hc
    rcases List.mem_append.1 hc with hc | hc
    · exact ih c hc
    · rw [List.mem_singleton.1 hc]; exact hh
theorem taken_front {n : Int} {l p : List (List Int)} {k : Nat} (h : Taken n l p p.length) : Taken n l (p.take k) (p.take k).length := fun q hq _ => by
  have hq' : q < p.length ∧ q < k := by rw [List.length_take] at hq; omega
  have := h q hq'.1 hq'.1
  rw [List.getElem_take, List.take_take, Nat.min_eq_left (by omega)]
  exact this
end Go.Proofs.Ytjkmdghlhodhiaa.Up
