/- Decimal texts: digits that spell a number, and what the library reads of them. No program is named here. -/
import Derived.Test.YtaghhdgiegcimaaDoorVm
import Derived.Test.YtaghhdgiegcimaaDoorWm
import Derived.Lib.ItoaNum
import Derived.Lib.ParseIntB
namespace Go.Proofs.YtaghhdgiegcimaaDoor.Wm
open Go.Lib

theorem num_snoc (l : List UInt8) (c : UInt8) : Vm.num (l ++ [c]) = 10 * Vm.num l + (c.toNat - 48) := by
  unfold Vm.num; rw [List.foldl_append]; rfl
theorem dig_iff (c : UInt8) : Vm.dig c = true ↔ 48 ≤ c.toNat ∧ c.toNat ≤ 57 := by unfold Vm.dig; simp
theorem ofNat_toNat (n : Nat) (h : n < 256) : (UInt8.ofNat n).toNat = n := by rw [UInt8.toNat_ofNat']; omega
/-- Digits, none of them a nought ahead of others. -/
def plain (l : List UInt8) : Prop := l ≠ [] ∧ l.all Vm.dig = true ∧ (l.head? = some 48 → l = [48])
theorem dec_small {u : Nat} (h : u < 10) : decDigits u = [UInt8.ofNat (48 + u)] := by rw [decDigits, dif_pos h]
theorem dec_big {u : Nat} (h : ¬ u < 10) : decDigits u = decDigits (u / 10) ++ [UInt8.ofNat (48 + u % 10)] := by rw [decDigits, dif_neg h]
theorem dec_plain : ∀ (n u : Nat), u ≤ n → plain (decDigits u) ∧ Vm.num (decDigits u) = u ∧ (0 < u → (decDigits u).head? ≠ some 48)
  | 0, u, h => by
    obtain rfl : u = 0 := by omega
    rw [dec_small (by omega)]
    refine ⟨⟨by simp, by decide, fun _ => rfl⟩, by decide, fun h => by omega⟩
  | n + 1, u, h => by
    by_cases c : u < 10
    · rw [dec_small c]
      have hd : (UInt8.ofNat (48 + u)).toNat = 48 + u := ofNat_toNat _ (by omega)
      refine ⟨⟨by simp, ?_, fun h => ?_⟩, ?_, fun h0 h => ?_⟩
      · simp only [List.all_cons, List.all_nil, Bool.and_true]; rw [dig_iff, hd]; omega
      · simp only [List.head?_cons, Option.some.injEq] at h; rw [h]
      · have := num_snoc [] (UInt8.ofNat (48 + u)); rw [List.nil_append, hd] at this; rw [this]; simp [Vm.num]
      · simp only [List.head?_cons, Option.some.injEq] at h
        rw [h] at hd; have : (48 : UInt8).toNat = 48 := rfl
        omega
    · obtain ⟨⟨h1, h2, h3⟩, h4, h5⟩ := dec_plain n (u / 10) (by omega)
      have hd : (UInt8.ofNat (48 + u % 10)).toNat = 48 + u % 10 := ofNat_toNat _ (by omega)
      have h6 := h5 (by omega)
      rw [dec_big c]
      have hh : (decDigits (u / 10) ++ [UInt8.ofNat (48 + u % 10)]).head? = (decDigits (u / 10)).head? := by
        rw [List.head?_append]
        cases hx : (decDigits (u / 10)).head? with
        | none => rw [List.head?_eq_none_iff] at hx; exact absurd hx h1
        | some _ => rfl
      refine ⟨⟨by simp, ?_, fun h => ?_⟩, ?_, fun _ => ?_⟩
      · rw [List.all_append, h2]; simp only [List.all_cons, List.all_nil, Bool.and_true, Bool.true_and]; rw [dig_iff, hd]; omega
      · rw [hh] at h; exact absurd h h6
      · rw [num_snoc, h4, hd]; omega
      · rw [hh]; exact h6
theorem snoc_ind {P : List UInt8 → Prop} (h0 : P []) (h1 : ∀ l c, P l → P (l ++ [c])) (l : List UInt8) : P l := by
  have : ∀ m : List UInt8, P m.reverse := fun m => by
    induction m with
    | nil => exact h0
    | cons c m ih => rw [List.reverse_cons]; exact h1 _ _ ih
  have h := this l.reverse
  rwa [List.reverse_reverse] at h
/-- Digits without noughts ahead are just what is written of their number. -/
theorem dec_num (l : List UInt8) : plain l → decDigits (Vm.num l) = l ∧ (l.head? ≠ some 48 → 0 < Vm.num l) := by
  refine snoc_ind (P := fun l => plain l → decDigits (Vm.num l) = l ∧ (l.head? ≠ some 48 → 0 < Vm.num l)) (fun h => absurd rfl h.1) (fun l c ih h => ?_) l
  obtain ⟨_, h2, h3⟩ := h
  rw [List.all_append] at h2
  simp only [List.all_cons, List.all_nil, Bool.and_true, Bool.and_eq_true] at h2
  obtain ⟨h2, hc⟩ := h2
  rw [dig_iff] at hc
  have hb : UInt8.ofNat (48 + (c.toNat - 48)) = c := by rw [show 48 + (c.toNat - 48) = c.toNat from by omega]; exact UInt8.ofNat_toNat
  by_cases hl : l = []
  · subst hl
    rw [num_snoc]
    have : Vm.num [] = 0 := rfl
    rw [this, Nat.mul_zero, Nat.zero_add, dec_small (by omega), hb]
    refine ⟨rfl, fun h => ?_⟩
    simp only [List.nil_append, List.head?_cons, ne_eq, Option.some.injEq] at h
    rcases Nat.eq_zero_or_pos (c.toNat - 48) with h0 | h0
    · exact absurd (UInt8.toNat.inj (show c.toNat = (48 : UInt8).toNat by show c.toNat = 48; omega)) h
    · exact h0
  · have hh : (l ++ [c]).head? = l.head? := by
      cases l with
      | nil => exact absurd rfl hl
      | cons _ _ => rfl
    have h48 : l.head? ≠ some 48 := fun h => by
      have := h3 (hh.trans h)
      have := congrArg List.length this
      simp at this; exact hl this
    obtain ⟨i1, i2⟩ := ih ⟨hl, h2, fun h => absurd h h48⟩
    have hp := i2 h48
    rw [num_snoc, dec_big (by omega), show (10 * Vm.num l + (c.toNat - 48)) / 10 = Vm.num l from by omega, show (10 * Vm.num l + (c.toNat - 48)) % 10 = c.toNat - 48 from by omega, i1, hb]
    exact ⟨rfl, fun _ => by omega⟩
/-- The last digit tells whether the number is odd. -/
theorem num_last (l : List UInt8) (h : l ≠ []) : Vm.num l % 2 = ((l.getLast h).toNat - 48) % 2 := by
  obtain ⟨m, c, rfl⟩ : ∃ m c, l = m ++ [c] := ⟨l.dropLast, l.getLast h, (List.dropLast_concat_getLast h).symm⟩
  rw [num_snoc, List.getLast_concat]; omega

/-- What ParseInt makes of digits. -/
theorem parseUintM_num : ∀ (l : List UInt8) (acc : Nat), l.all Vm.dig = true → acc ≤ 18446744073709551615 →
    parseUintM 18446744073709551615 acc l = if l.foldl (fun n c => 10 * n + (c.toNat - 48)) acc ≤ 18446744073709551615 then .ok (l.foldl (fun n c => 10 * n + (c.toNat - 48)) acc) else .range
  | [], acc, _, h => by simp [parseUintM, h]
  | c :: l, acc, h, ha => by
    simp only [List.all_cons, Bool.and_eq_true] at h
    have hc := (dig_iff c).1 h.1
    have mono : ∀ (l : List UInt8) (a : Nat), a ≤ l.foldl (fun n c => 10 * n + (c.toNat - 48)) a := fun l => by
      induction l with
      | nil => intro a; exact Nat.le_refl _
      | cons c l ih => intro a; rw [List.foldl_cons]; exact Nat.le_trans (by omega) (ih _)
    have hm := mono l (10 * acc + (c.toNat - 48))
    rw [List.foldl_cons]
    unfold parseUintM
    rw [if_pos hc, show acc * 10 + (c.toNat - 48) = 10 * acc + (c.toNat - 48) from by omega]
    by_cases c1 : 10 * acc + (c.toNat - 48) ≤ 18446744073709551615
    · rw [if_neg (by omega), if_neg (by omega)]
      exact parseUintM_num l _ h.2 c1
    · rw [if_neg (show ¬ l.foldl (fun n c => 10 * n + (c.toNat - 48)) (10 * acc + (c.toNat - 48)) ≤ 18446744073709551615 by omega)]
      split
      · rfl
      · rw [if_pos (by omega)]
/-- A sign and digits. -/
def sgnd (l : List UInt8) : Bool := l.head? == some 45
def mgn (l : List UInt8) : List UInt8 := if sgnd l then l.drop 1 else l
/-- What is written of a number: a sign but not of zero. -/
def decOk (l : List UInt8) : Prop := plain (mgn l) ∧ (mgn l = [48] → sgnd l = false)
/-- The number, or the end of int64 on its side. -/
def nmb (l : List UInt8) : Int :=
  if sgnd l then (if Vm.num (mgn l) ≤ 9223372036854775808 then -(Vm.num (mgn l) : Int) else -9223372036854775808)
  else (if Vm.num (mgn l) < 9223372036854775808 then (Vm.num (mgn l) : Int) else 9223372036854775807)
theorem parse_nmb (l : List UInt8) (h : plain (mgn l)) : parseIntB 64 l = .ok (nmb l) ∨ (parseIntB 64 l = .range ∧ intSat 64 l = nmb l) := by
  obtain ⟨h1, h2, _⟩ := h
  have hu := parseUintM_num (mgn l) 0 h2 (by omega)
  have hB : parseUintB 64 (mgn l) = if Vm.num (mgn l) ≤ 18446744073709551615 then .ok (Vm.num (mgn l)) else .range := by
    unfold parseUintB; rw [if_neg h1]; exact hu
  clear hu
  unfold nmb
  cases l with
  | nil => exact absurd rfl h1
  | cons c r =>
    have h45 : (45 : UInt8).toNat = 45 := rfl
    by_cases hc : c = 45
    · have hs : sgnd (c :: r) = true := by unfold sgnd; rw [hc]; rfl
      have hm : mgn (c :: r) = r := by unfold mgn; rw [hs]; rfl
      rw [hm] at hB ⊢
      rw [hs]
      unfold parseIntB intSat
      subst hc
      simp only [h45, or_true, if_true, hB]
      by_cases g1 : Vm.num r ≤ 18446744073709551615
      · simp only [if_pos g1]
        by_cases g2 : Vm.num r ≤ 9223372036854775808
        · left
          rw [if_neg (by simp), if_neg (by simp; omega)]
          simp [g2]
        · right
          rw [if_neg (by simp), if_pos (by simp; omega)]
          simp [g2]
      · right
        simp only [if_neg g1]
        simp; omega
    · have hs : sgnd (c :: r) = false := by unfold sgnd; simp [hc]
      have hm : mgn (c :: r) = c :: r := by unfold mgn; rw [hs]; rfl
      rw [hm] at hB h2 ⊢
      rw [hs]
      have hd : Vm.dig c = true := by simp only [List.all_cons, Bool.and_eq_true] at h2; exact h2.1
      rw [dig_iff] at hd
      unfold parseIntB intSat
      simp only [List.head?_cons, Option.map_some, Option.some.injEq]
      rw [if_neg (show ¬ (c.toNat = 43 ∨ c.toNat = 45) by omega), hB, if_neg (show ¬ c.toNat = 45 by omega)]
      by_cases g1 : Vm.num (c :: r) ≤ 18446744073709551615
      · simp only [if_pos g1]
        by_cases g2 : Vm.num (c :: r) < 9223372036854775808
        · left
          rw [if_neg (by simp; omega), if_neg (by simp; omega), if_neg (show ¬ c.toNat = 45 by omega)]
          simp [g2]
        · right
          rw [if_pos (by simp; omega)]
          simp [g2]
      · right
        simp only [if_neg g1]
        simp; omega
theorem mgn_eq (l : List UInt8) : Lib.trimPrefix l [45] = mgn l := by
  unfold Lib.trimPrefix mgn sgnd Lib.hasPrefix
  cases l with
  | nil => rfl
  | cons c t =>
    by_cases hc : c = 45
    · subst hc; rfl
    · have h1 : (List.isPrefixOf [45] (c :: t)) = false := by simp [List.isPrefixOf]; exact fun h => hc h.symm
      rw [h1]; simp [hc]
theorem mgn_le (l : List UInt8) : (mgn l).length ≤ l.length := by
  unfold mgn; split
  · rw [List.length_drop]; omega
  · exact Nat.le_refl _
def decB (l : List UInt8) : Bool := if (mgn l).isEmpty || (mgn l).head? == some 48 then l == [48] else (Vm.undigs (mgn l)).isEmpty
theorem undigs_nil (l : List UInt8) : (Vm.undigs l).isEmpty = true ↔ l.all Vm.dig = true := by
  unfold Vm.undigs
  induction l with
  | nil => simp
  | cons c t ih =>
    rw [List.dropWhile_cons, List.all_cons]
    cases hc : Vm.dig c
    · simp
    · simp only [if_true, Bool.true_and]; exact ih
theorem decB_iff (l : List UInt8) : decB l = true ↔ decOk l := by
  unfold decB decOk plain
  constructor
  · intro h
    split at h
    · have : l = [48] := by simpa using h
      subst this
      refine ⟨⟨by decide, by decide, fun _ => rfl⟩, fun _ => rfl⟩
    · rename_i h2
      simp only [Bool.or_eq_true, List.isEmpty_iff, beq_iff_eq, not_or] at h2
      refine ⟨⟨h2.1, (undigs_nil _).1 h, fun h3 => absurd h3 h2.2⟩, fun h3 => absurd (by rw [h3]; rfl) h2.2⟩
  · rintro ⟨⟨h1, h2, h3⟩, h4⟩
    split
    · rename_i h5
      simp only [Bool.or_eq_true, List.isEmpty_iff, beq_iff_eq] at h5
      rcases h5 with h5 | h5
      · exact absurd h5 h1
      · have h6 := h3 h5
        have h7 := h4 h6
        have : mgn l = l := by unfold mgn; rw [h7]; rfl
        rw [this] at h6
        rw [h6]; rfl
    · exact (undigs_nil _).2 h2
end Go.Proofs.YtaghhdgiegcimaaDoor.Wm
