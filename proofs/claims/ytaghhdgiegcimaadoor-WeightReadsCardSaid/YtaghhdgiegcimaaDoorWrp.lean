/- What the reference's ParseWeight computes, and that it is what the program's Parse does. No walk. -/
import Derived.Test.YtaghhdgiegcimaaDoorWpu
import Derived.Test.YtaghhdgiegcimaaDoorWs
namespace Go.Proofs.YtaghhdgiegcimaaDoor
open Go.RowKit

/-- The text behind its sign. -/
theorem mgn_cons (l : List UInt8) : l = if Wm.sgnd l then 45 :: Wm.mgn l else Wm.mgn l := by
  unfold Wm.mgn Wm.sgnd
  cases l with
  | nil => rfl
  | cons c t =>
    by_cases hc : c = 45
    · subst hc; simp
    · simp [hc]
theorem pieces_sgn (l : List UInt8) : Vm.has 112 l = Vm.has 112 (Wm.mgn l) ∧ Wm.mgn (Vm.fst 112 l) = Vm.fst 112 (Wm.mgn l) ∧ Wm.sgnd (Vm.fst 112 l) = Wm.sgnd l ∧ Vm.snd 112 l = Vm.snd 112 (Wm.mgn l) := by
  have hl := mgn_cons l
  cases hs : Wm.sgnd l
  · have hm : Wm.mgn l = l := by unfold Wm.mgn; rw [hs]; rfl
    rw [hm]
    have hf : Wm.sgnd (Vm.fst 112 l) = false := by
      unfold Vm.fst Wm.sgnd at *
      cases l with
      | nil => rfl
      | cons c t =>
        rw [List.takeWhile_cons]
        cases c != 112
        · rfl
        · exact hs
    refine ⟨rfl, ?_, hf, rfl⟩
    unfold Wm.mgn; rw [hf]; rfl
  · rw [hs] at hl
    simp only [if_true] at hl
    generalize Wm.mgn l = t at *
    subst hl
    have h1 : Vm.fst 112 (45 :: t) = 45 :: Vm.fst 112 t := by unfold Vm.fst; rw [List.takeWhile_cons]; rfl
    refine ⟨?_, ?_, ?_, ?_⟩
    · unfold Vm.has; simp
    · rw [h1]; rfl
    · rw [h1]; rfl
    · unfold Vm.snd; rw [List.dropWhile_cons]; rfl
def plainB (l : List UInt8) : Bool := !l.isEmpty && (!(l.head? == some 48 && decide (1 < l.length)) && l.all Vm.dig)
theorem plainB_iff (l : List UInt8) : plainB l = true ↔ Wm.plain l := by
  unfold plainB Wm.plain
  cases l with
  | nil => simp
  | cons c t =>
    cases t with
    | nil => simp
    | cons d u =>
      simp
      constructor
      · rintro ⟨h1, h2⟩; exact ⟨h2, h1⟩
      · rintro ⟨h1, h2⟩; exact ⟨h2, h1⟩
/-- The reference's form: a, b the texts behind their signs. -/
def refForm (l : List UInt8) : Bool :=
  Vm.has 112 (Wm.mgn l) && (plainB (Vm.fst 112 (Wm.mgn l)) && (plainB (Wm.mgn (Vm.snd 112 l)) && (!(Wm.sgnd (Vm.snd 112 l) && Wm.mgn (Vm.snd 112 l) == [48]) && lastOdd (Vm.fst 112 (Wm.mgn l)))))
theorem lastOdd_mgn (l : List UInt8) (h : Wm.mgn l ≠ []) : lastOdd (Wm.mgn l) = lastOdd l := by
  have hl := mgn_cons l
  unfold lastOdd
  cases hs : Wm.sgnd l
  · rw [hs] at hl; simp only [Bool.false_eq_true, if_false] at hl; rw [← hl]
  · rw [hs] at hl; simp only [if_true] at hl
    generalize Wm.mgn l = t at *
    subst hl
    cases t with
    | nil => exact absurd rfl h
    | cons c u => rfl
theorem lastOdd_zero : lastOdd [48] = false := by decide
theorem refForm_eq (l : List UInt8) : refForm l = formOk l := by
  obtain ⟨p1, p2, p3, p4⟩ := pieces_sgn l
  have e : formOk l = (Vm.has 112 l && (Wm.decB (Vm.fst 112 l) && (Wm.decB (Vm.snd 112 l) && lastOdd (Vm.fst 112 l)))) := rfl
  rw [Bool.eq_iff_iff, e]
  unfold refForm
  rw [← p1, ← p2]
  simp only [Bool.and_eq_true, plainB_iff, Wm.decB_iff, Bool.not_eq_true', Bool.and_eq_false_imp, beq_eq_false_iff_ne]
  generalize Vm.fst 112 l = a
  generalize Vm.snd 112 l = b
  unfold Wm.decOk
  constructor
  · rintro ⟨h1, h2, h3, h4, h5⟩
    rw [lastOdd_mgn a h2.1] at h5
    refine ⟨h1, ⟨h2, fun h => ?_⟩, ⟨h3, fun h => ?_⟩, h5⟩
    · have := lastOdd_mgn a h2.1
      rw [h, lastOdd_zero, h5] at this; cases this
    · cases hs : Wm.sgnd b
      · rfl
      · exact absurd h (h4 hs)
  · rintro ⟨h1, ⟨h2, _⟩, ⟨h3, h4⟩, h5⟩
    refine ⟨h1, h2, h3, fun h h6 => ?_, by rw [lastOdd_mgn a h2.1]; exact h5⟩
    rw [h4 h6] at h; cases h
/-- The reference's range: m, n the numbers behind the signs. -/
def refRange (m n : Nat) (neg : Bool) : Bool := decide (m ≤ 9007199254740991) && (decide (n ≤ 5000) && (decide (-1074 ≤ Wm.sg neg n) && decide ((m.log2 : Int) + 1 + Wm.sg neg n ≤ 1024)))
theorem refRange_eq (l : List UInt8) : refRange (Vm.num (Wm.mgn (Vm.fst 112 l))) (Vm.num (Wm.mgn (Vm.snd 112 l))) (Wm.sgnd (Vm.snd 112 l)) = Wm.rangeOk (Wm.nmb (Vm.fst 112 l)) (Wm.nmb (Vm.snd 112 l)) := by
  generalize Vm.fst 112 l = a
  generalize Vm.snd 112 l = b
  have hsg : Wm.sg (Wm.sgnd b) (Vm.num (Wm.mgn b)) = if Wm.sgnd b then -(Vm.num (Wm.mgn b) : Int) else Vm.num (Wm.mgn b) := by unfold Wm.sg; cases Wm.sgnd b <;> simp
  unfold refRange
  rw [hsg]
  unfold Wm.nmb
  generalize Vm.num (Wm.mgn a) = m at *
  generalize Vm.num (Wm.mgn b) = n at *
  by_cases hm : m ≤ 9007199254740991
  · rw [decide_eq_true hm, Bool.true_and]
    have hF : ∀ g : Bool, (if g = true then (if m ≤ 9223372036854775808 then -(m : Int) else -9223372036854775808) else (if m < 9223372036854775808 then (m : Int) else 9223372036854775807)) = if g then -(m : Int) else m := by
      intro g; cases g <;> simp only [Bool.false_eq_true, if_false, if_true] <;> rw [if_pos (by omega)]
    rw [hF]
    rw [Wm.rangeOk_mid (by split <;> omega) (by split <;> omega)]
    have hna : (if Wm.sgnd a = true then -(m : Int) else m).natAbs = m := by split <;> omega
    rw [hna]
    rw [Bool.eq_iff_iff]
    simp only [Bool.and_eq_true, decide_eq_true_eq]
    cases Wm.sgnd b
    · simp only [Bool.false_eq_true, if_false]
      split <;> omega
    · simp only [if_true]
      split <;> omega
  · rw [decide_eq_false hm, Bool.false_and]
    symm
    cases Wm.sgnd a
    · simp only [Bool.false_eq_true, if_false]
      exact Wm.rangeOk_hi (by split <;> omega)
    · simp only [if_true]
      exact Wm.rangeOk_lo (by split <;> omega)
theorem told_again (l : List UInt8) (h : errW l = 0) : Wm.textW (outW l) = l := by
  rcases lit_cases l with rfl | rfl | rfl | rfl | rfl | ⟨_, _, _, _, _, he, hv⟩
  · decide +kernel
  · decide +kernel
  · decide +kernel
  · decide +kernel
  · decide +kernel
  · unfold outW
    rw [if_pos h, hv]
    rw [he] at h
    unfold prodOf
    rw [if_pos h]
    unfold prodErr at h
    cases hf : formOk l
    · rw [hf] at h; simp at h
    · rw [hf] at h
      simp only [if_true] at h
      cases hr : Wm.rangeOk (Wm.nmb (Vm.fst 112 l)) (Wm.nmb (Vm.snd 112 l))
      · rw [hr] at h; simp at h
      · have hf2 := hf
        unfold formOk at hf2
        simp only [Bool.and_eq_true, Wm.decB_iff] at hf2
        obtain ⟨h1, h2, h3, h4⟩ := hf2
        have hodd := odd_ne (Vm.fst 112 l) ((Wm.decB_iff _).2 h2) h4
        have hF := nmb_bounds (Vm.fst 112 l)
        have hcut := Wm.cut112' l h1
        have i1 := Wm.itoa_of (Vm.fst 112 l) h2
        have i2 := Wm.itoa_of (Vm.snd 112 l) h3
        generalize Wm.nmb (Vm.fst 112 l) = F at *
        generalize Wm.nmb (Vm.snd 112 l) = P at *
        have hlo : -9007199254740992 < F := by
          rcases Int.lt_or_le (-9007199254740992) F with h5 | h5
          · exact h5
          · rw [Wm.rangeOk_lo h5] at hr; cases hr
        have hhi : F < 9007199254740992 := by
          rcases Int.lt_or_le F 9007199254740992 with h5 | h5
          · exact h5
          · rw [Wm.rangeOk_hi h5] at hr; cases hr
        rw [Wm.rangeOk_mid hlo hhi] at hr
        simp only [Bool.and_eq_true, decide_eq_true_eq] at hr
        unfold Wm.prodVal
        rw [textW_prod (decide (F < 0)) (k := F.natAbs) (e := P) (by omega) (by omega) hr.1 (by omega)]
        have hsF : Wm.sg (decide (F < 0)) F.natAbs = F := by
          unfold Wm.sg
          by_cases hneg : F < 0
          · rw [decide_eq_true hneg]; simp; omega
          · rw [decide_eq_false hneg]; simp; omega
        rw [hsF, i1 (by omega) (by omega), i2 (by omega) (by omega)]
        exact hcut.symm
end Go.Proofs.YtaghhdgiegcimaaDoor
