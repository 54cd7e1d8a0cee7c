/- Numbers of at most six digits, literals in words, plain: there and back. No program is named here. -/
import Derived.Test.YtjkmdghlhodhiaaUl
namespace Go.Proofs.Ytjkmdghlhodhiaa.Cl
open Sz
theorem snocRec {P : List UInt8 → Prop} (h0 : P []) (h1 : ∀ t c, P t → P (t ++ [c])) : ∀ s, P s := fun s => by
  have : ∀ k (s : List UInt8), s.length = k → P s := fun k => by
    induction k with
    | zero => exact fun s e => by rw [List.length_eq_zero_iff.1 e]; exact h0
    | succ k ih =>
      intro s e
      have hs : s ≠ [] := fun h => by rw [h] at e; simp at e
      rw [← List.dropLast_concat_getLast hs]
      exact h1 _ _ (ih _ (by rw [List.length_dropLast, e]; rfl))
  exact this _ s rfl
def digB (c : UInt8) : Bool := decide (48 ≤ c.toNat) && decide (c.toNat ≤ 57)
def num (s : List UInt8) : Nat := s.foldl (fun n c => 10 * n + (c.toNat - 48)) 0
def numP (s : List UInt8) : Option Nat := if s.isEmpty || (decide (6 < s.length) || (s.getD 0 0 == 48 && decide (1 < s.length))) then none else if s.all digB then some (num s) else none
theorem num_snoc (s : List UInt8) (c : UInt8) : num (s ++ [c]) = 10 * num s + (c.toNat - 48) := by unfold num; rw [List.foldl_append]; rfl
theorem num_dec : ∀ (k n : Nat), n < 10 ^ (k + 1) → num (decF k n) = n
  | 0, n, h => by
    have : decF 0 n = [] ++ [dg n] := rfl
    rw [this, num_snoc, dg_nat]
    show 10 * 0 + _ = _
    simp at h; omega
  | k + 1, n, h => by
    rw [decF_succ]
    split
    · have : [dg n] = [] ++ [dg n] := rfl
      rw [this, num_snoc, dg_nat]
      show 10 * 0 + _ = _
      omega
    · rw [num_snoc, num_dec k (n / 10) (by rw [Nat.pow_succ] at h; omega), dg_nat]; omega
theorem dg_dig (n : Nat) : digB (dg n) = true := by
  unfold digB; rw [dg_nat]; simp; omega
theorem dec_all : ∀ (k n : Nat), (decF k n).all digB = true
  | 0, n => by
    show ([dg n]).all digB = true
    rw [List.all_cons, dg_dig]; rfl
  | k + 1, n => by
    rw [decF_succ]
    split
    · rw [List.all_cons, dg_dig]; rfl
    · rw [List.all_append, dec_all k (n / 10), List.all_cons, dg_dig]; rfl
theorem dec_some : ∀ (k n : Nat), decF k n ≠ []
  | 0, _ => by unfold decF; simp
  | k + 1, n => by rw [decF_succ]; split <;> simp
theorem dec_len : ∀ (k n j : Nat), n < 10 ^ (j + 1) → (decF k n).length ≤ j + 1
  | 0, n, j, _ => by show 1 ≤ j + 1; omega
  | k + 1, n, j, h => by
    rw [decF_succ]
    split
    · show 1 ≤ j + 1; omega
    · match j with
      | 0 => simp at h; omega
      | j + 1 =>
        have := dec_len k (n / 10) j (by rw [Nat.pow_succ] at h; omega)
        rw [List.length_append]; show _ + 1 ≤ _; omega
theorem dec_head : ∀ (k n : Nat), 0 < n → n < 10 ^ (k + 1) → (decF k n).getD 0 0 ≠ 48
  | 0, n, h, h2 => by
    show dg n ≠ 48
    intro e
    have := dg_nat n
    rw [e] at this
    have : (48 : UInt8).toNat = 48 := rfl
    simp at h2; omega
  | k + 1, n, h, h2 => by
    rw [decF_succ]
    split
    · show dg n ≠ 48
      intro e
      have := dg_nat n
      rw [e] at this
      have : (48 : UInt8).toNat = 48 := rfl
      omega
    · have ih := dec_head k (n / 10) (by omega) (by rw [Nat.pow_succ] at h2; omega)
      match hd : decF k (n / 10) with
      | [] => exact absurd hd (dec_some k _)
      | c :: r => rw [hd] at ih; exact ih
theorem numP_dec {n : Nat} (h : n < 1000000) : numP (decT n) = some n := by
  have h1 : n < 10 ^ 21 := Nat.lt_of_lt_of_le h (by decide)
  have h2 := dec_len 20 n 5 (by omega)
  have h3 := dec_some 20 n
  have h4 := dec_all 20 n
  have h5 := num_dec 20 n h1
  have h6 := dec_head 20 n
  unfold decT
  unfold numP
  match hd : decF 20 n with
  | [] => exact absurd hd h3
  | c :: r =>
    rw [hd] at h2 h4 h5 h6
    have e1 : decide (6 < (c :: r).length) = false := decide_eq_false (by omega)
    have e2 : ((c :: r).getD 0 0 == 48 && decide (1 < (c :: r).length)) = false := by
      by_cases h0 : n = 0
      · have : decF 20 n = [dg n] := by rw [decF_succ, if_pos (by omega)]
        rw [hd] at this
        rw [this]; simp
      · have : ((c :: r).getD 0 0 == 48) = false := by simpa using h6 (by omega) h1
        rw [this]; rfl
    rw [e1, e2, h4, h5]; rfl
theorem num_pos : ∀ (s : List UInt8), s.all digB = true → s ≠ [] → s.getD 0 0 ≠ 48 → 0 < num s := fun s => by
  induction s using snocRec with
  | h0 => exact fun _ h => absurd rfl h
  | h1 t c ih =>
    intro ha _ h0
    rw [num_snoc]
    have ha' : t.all digB = true ∧ digB c = true := by rw [List.all_append] at ha; simpa using ha
    match t, ih, ha', h0 with
    | [], _, ha', h0 =>
      have hc := ha'.2
      unfold digB at hc
      simp at hc
      have : c ≠ 48 := h0
      have : c.toNat ≠ 48 := fun e => this (UInt8.toNat_inj.1 e)
      omega
    | a :: t, ih, ha', h0 =>
      have := ih ha'.1 (by simp) h0
      omega
theorem dec_num : ∀ (s : List UInt8) (k : Nat), s.all digB = true → s ≠ [] → (s.length = 1 ∨ s.getD 0 0 ≠ 48) → s.length ≤ k + 1 → decF k (num s) = s := fun s => by
  induction s using snocRec with
  | h0 => exact fun _ _ h => absurd rfl h
  | h1 t c ih =>
    intro k ha _ h0 hl
    have ha' : t.all digB = true ∧ digB c = true := by rw [List.all_append] at ha; simpa using ha
    have hc := ha'.2
    unfold digB at hc
    simp at hc
    have hdg : ∀ m, dg (10 * m + (c.toNat - 48)) = c := fun m => UInt8.toNat_inj.1 (by rw [dg_nat]; omega)
    rw [num_snoc]
    match t, ih, ha', h0, hl with
    | [], _, _, _, _ =>
      show decF k (10 * 0 + (c.toNat - 48)) = [c]
      match k with
      | 0 => show [dg _] = _; rw [hdg]
      | k + 1 => rw [decF_succ, if_pos (by omega), hdg]
    | a :: t, ih, ha', h0, hl =>
      have h0' : (a :: t).getD 0 0 ≠ 48 := by
        rcases h0 with h0 | h0
        · simp at h0
        · exact h0
      have hp := num_pos (a :: t) ha'.1 (by simp) h0'
      match k with
      | 0 => simp at hl
      | k + 1 =>
        have hi := ih k ha'.1 (by simp) (.inr h0') (by simp at hl ⊢; omega)
        rw [decF_succ, if_neg (by omega), hdg, show (10 * num (a :: t) + (c.toNat - 48)) / 10 = num (a :: t) by omega, hi]
theorem num_lt : ∀ (s : List UInt8), s.all digB = true → num s < 10 ^ s.length := fun s => by
  induction s using snocRec with
  | h0 => exact fun _ => by decide
  | h1 t c ih =>
    intro ha
    have ha' : t.all digB = true ∧ digB c = true := by rw [List.all_append] at ha; simpa using ha
    have hc := ha'.2
    unfold digB at hc
    simp at hc
    have := ih ha'.1
    rw [num_snoc, List.length_append, List.length_singleton, Nat.pow_succ]
    omega
theorem numP_back {s : List UInt8} {n : Nat} (h : numP s = some n) : decT n = s ∧ n < 1000000 := by
  unfold numP at h
  split at h
  · cases h
  · rename_i h1
    split at h
    · rename_i h2
      obtain rfl := Option.some.inj h
      have h1' : s ≠ [] ∧ s.length ≤ 6 ∧ (s.length = 1 ∨ s.getD 0 0 ≠ 48) := by
        match s with
        | [] => exact absurd rfl h1
        | c :: r =>
          have e0 : ((c :: r : List UInt8)).isEmpty = false := rfl
          rw [e0, Bool.false_or, Bool.or_eq_true, not_or] at h1
          have a1 := h1.1
          have a2 := h1.2
          rw [decide_eq_true_iff] at a1
          refine ⟨by simp, by omega, ?_⟩
          by_cases hr : 1 < (c :: r).length
          · refine .inr fun e => a2 ?_
            rw [e, decide_eq_true hr]; rfl
          · exact .inl (by simp at hr ⊢; exact hr)
      refine ⟨dec_num s 20 h2 h1'.1 h1'.2.2 (by omega), ?_⟩
      have := num_lt s h2
      have : 10 ^ s.length ≤ 10 ^ 6 := Nat.pow_le_pow_right (by decide) h1'.2.1
      omega
    · cases h
/-- Any number in words. -/
def wordZ (x : Int) : List UInt8 := if x < 0 then 45 :: decT x.natAbs else decT x.natAbs
def litP (s : List UInt8) : Option Int :=
  if s.getD 0 0 == 45 then (match numP (s.drop 1) with | some n => if n = 0 then none else some (-(n : Int)) | none => none)
  else match numP s with | some n => if n = 0 then none else some (n : Int) | none => none
theorem dec_not (n : Nat) (c : UInt8) (h : digB c = false) : c ∉ decT n := fun hm => by
  have := List.all_eq_true.1 (dec_all 20 n) c hm
  rw [h] at this; exact absurd this (by decide)
theorem word_not {x : Int} {c : UInt8} (h : digB c = false) (h2 : c ≠ 45) : c ∉ wordZ x := by
  unfold wordZ
  split
  · intro hm
    rcases List.mem_cons.1 hm with e | e
    · exact h2 e
    · exact dec_not _ c h e
  · exact dec_not _ c h
theorem dec_no45 (n : Nat) : ((decT n).getD 0 0 == (45 : UInt8)) = false := by
  match hd : decT n with
  | [] => rfl
  | c :: r =>
    have hc : c ∈ decT n := by rw [hd]; simp
    have h2 : (45 : UInt8) ∉ decT n := dec_not n 45 (by decide)
    have : c ≠ 45 := fun e => h2 (e ▸ hc)
    simpa using this
theorem litP_word {x : Int} (h0 : x ≠ 0) (h1 : x.natAbs < 1000000) : litP (wordZ x) = some x := by
  unfold wordZ
  split
  · unfold litP
    rw [if_pos (show (((45 : UInt8) :: decT x.natAbs).getD 0 0 == 45) = true from rfl), List.drop_one, List.tail_cons, numP_dec h1]
    show (if x.natAbs = 0 then none else some (-(x.natAbs : Int))) = some x
    rw [if_neg (by omega)]
    exact congrArg some (by omega)
  · unfold litP
    rw [dec_no45, if_neg (by decide), numP_dec h1]
    show (if x.natAbs = 0 then none else some (x.natAbs : Int)) = some x
    rw [if_neg (by omega)]
    exact congrArg some (by omega)
theorem litP_back {s : List UInt8} {x : Int} (h : litP s = some x) : wordZ x = s ∧ x ≠ 0 ∧ x.natAbs < 1000000 := by
  unfold litP at h
  split at h
  · rename_i h45
    match s, h45, h with
    | c :: r, h45, h =>
      have hc : c = 45 := by simpa using h45
      subst hc
      cases hn : numP r with
      | none => rw [List.drop_one, List.tail_cons, hn] at h; cases h
      | some n =>
        rw [List.drop_one, List.tail_cons, hn] at h
        dsimp only at h
        split at h
        · cases h
        · rename_i hz
          obtain rfl := Option.some.inj h
          obtain ⟨e, hl⟩ := numP_back hn
          refine ⟨?_, by omega, by omega⟩
          unfold wordZ
          rw [if_pos (by omega), show (-(n : Int)).natAbs = n by omega, e]
  · cases hn : numP s with
    | none => rw [hn] at h; cases h
    | some n =>
      rw [hn] at h
      dsimp only at h
      split at h
      · cases h
      · obtain rfl := Option.some.inj h
        obtain ⟨e, hl⟩ := numP_back hn
        refine ⟨?_, by omega, by omega⟩
        unfold wordZ
        rw [if_neg (by omega), show ((n : Int)).natAbs = n by omega, e]
end Go.Proofs.Ytjkmdghlhodhiaa.Cl
