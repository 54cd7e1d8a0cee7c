/- Versions that are taken one by one, and refused one by one, in words: what the text says, what is read of it. No program is named here. -/
import Derived.Test.YtbehmagjkdljfaaGreatDoorTg
import Derived.Test.YtbehmagjkdljfaaGreatDoorDa
namespace Go.Proofs.YtbehmagjkdljfaaGreatDoor.Pt
open Go.RowKit Rs At
/-- The text of the first j versions. -/
def sepP (t : Bool) (j : Nat) : List UInt8 := if j = 0 then [] else if t then [32, 124, 32] else [32, 38, 32]
def sgnP (t : Bool) : List UInt8 := if t then [61, 32] else [33, 61, 32]
def txtP (t : Bool) : Nat → List UInt8
  | 0 => [97, 32, 40]
  | j + 1 => txtP t j ++ sepP t j ++ sgnP t ++ decT (j + 1)
def badP (t : Bool) (k : Nat) : Bool := decide (16 < k) || (!t && decide (8 < k))
def okP (t : Bool) (k : Nat) : Bool :=
  match parseA (txtP t k ++ [41]) with
  | (e, ⟨nm, l⟩) =>
    if badP t k then e == 4 && nm == [] && decide (l = [])
    else e == 0 && nm == [97] && ((List.range (k + 2)).all fun i => hasR (l.map Sp.piece) (decT i) == ((decide (1 ≤ i) && decide (i ≤ k)) == t)) && (!t || textA ⟨nm, l⟩ == txtP t k ++ [41])
theorem ok_all : ((List.range 18).all fun k => okP true (k + 1) && okP false (k + 1)) = true := by decide +kernel
theorem len_all : ((List.range 19).all fun k => decide ((txtP true k).length ≤ 200) && decide ((txtP false k).length ≤ 200)) = true := by decide +kernel
theorem dec_all : ((List.range 20).all fun k => decide (Vm.check (decT k) = 0) && decide ((decT k).length ≤ 2)) = true := by decide +kernel
theorem len_p {t : Bool} {k : Nat} (h : k ≤ 18) : (txtP t k).length ≤ 200 := by
  have h1 := List.all_eq_true.1 len_all k (List.mem_range.2 (by omega))
  rw [Bool.and_eq_true, decide_eq_true_eq, decide_eq_true_eq] at h1
  cases t
  · exact h1.2
  · exact h1.1
theorem dec_p {k : Nat} (h : k ≤ 19) : Vm.check (decT k) = 0 ∧ (decT k).length ≤ 2 := by
  have h1 := List.all_eq_true.1 dec_all k (List.mem_range.2 (by omega))
  rwa [Bool.and_eq_true, decide_eq_true_eq, decide_eq_true_eq] at h1
theorem ok_p {t : Bool} {k : Nat} (h1 : 1 ≤ k) (h : k ≤ 18) : okP t k = true := by
  have h2 := List.all_eq_true.1 ok_all (k - 1) (List.mem_range.2 (by omega))
  rw [Nat.sub_add_cancel h1, Bool.and_eq_true] at h2
  cases t
  · exact h2.2
  · exact h2.1
theorem bad_p {t : Bool} {k : Nat} (h1 : 1 ≤ k) (h : k ≤ 18) (hb : badP t k = true) : parseA (txtP t k ++ [41]) = (4, ⟨[], []⟩) := by
  have h2 := ok_p (t := t) h1 h
  unfold okP at h2
  match hx : parseA (txtP t k ++ [41]) with
  | (e, ⟨nm, l⟩) =>
    rw [hx] at h2
    dsimp only at h2
    rw [if_pos hb, Bool.and_eq_true, Bool.and_eq_true, beq_iff_eq, beq_iff_eq, decide_eq_true_eq] at h2
    obtain ⟨⟨rfl, rfl⟩, rfl⟩ := h2
    rfl
theorem good_p {t : Bool} {k : Nat} (h1 : 1 ≤ k) (h : k ≤ 18) (hb : badP t k = false) : ∃ l, parseA (txtP t k ++ [41]) = (0, ⟨[97], l⟩) ∧
    (∀ i, i ≤ k + 1 → hasR (l.map Sp.piece) (decT i) = ((decide (1 ≤ i) && decide (i ≤ k)) == t)) ∧ (t = true → textA ⟨[97], l⟩ = txtP t k ++ [41]) := by
  have h2 := ok_p (t := t) h1 h
  unfold okP at h2
  match hx : parseA (txtP t k ++ [41]) with
  | (e, ⟨nm, l⟩) =>
    rw [hx] at h2
    dsimp only at h2
    rw [if_neg (by rw [hb]; decide), Bool.and_eq_true, Bool.and_eq_true, Bool.and_eq_true, beq_iff_eq, beq_iff_eq] at h2
    obtain ⟨⟨⟨rfl, rfl⟩, h3⟩, h4⟩ := h2
    refine ⟨l, rfl, fun i hi => ?_, fun ht => ?_⟩
    · have := List.all_eq_true.1 h3 i (List.mem_range.2 (by omega))
      rwa [beq_iff_eq] at this
    · subst ht
      simpa using h4
end Go.Proofs.YtbehmagjkdljfaaGreatDoor.Pt
