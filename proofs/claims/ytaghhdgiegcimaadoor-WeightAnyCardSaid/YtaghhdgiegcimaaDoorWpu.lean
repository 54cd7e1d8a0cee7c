/- What is told is read again. No walk. -/
import Derived.Test.YtaghhdgiegcimaaDoorWl
import Derived.Test.YtaghhdgiegcimaaDoorWr
namespace Go.Proofs.YtaghhdgiegcimaaDoor
open Go.RowKit

namespace Wm
theorem dec_head (u : Nat) : ∃ c t, Lib.decDigits u = c :: t ∧ c ≠ 45 := by
  obtain ⟨⟨h1, h2, _⟩, _⟩ := dec_plain u u (Nat.le_refl _)
  cases h : Lib.decDigits u with
  | nil => exact absurd h h1
  | cons c t =>
    refine ⟨c, t, rfl, ?_⟩
    rw [h] at h2
    simp only [List.all_cons, Bool.and_eq_true] at h2
    intro hc; subst hc
    have := h2.1; revert this; decide
theorem itoa_parts (z : Int) : sgnd (Lib.itoa z) = decide (z < 0) ∧ mgn (Lib.itoa z) = Lib.decDigits z.natAbs := by
  unfold Lib.itoa
  split
  · rename_i h
    refine ⟨by rw [decide_eq_true h]; rfl, rfl⟩
  · rename_i h
    obtain ⟨c, t, e, hc⟩ := dec_head z.toNat
    have hs : sgnd (Lib.decDigits z.toNat) = false := by rw [e]; unfold sgnd; simp [hc]
    refine ⟨by rw [hs, decide_eq_false h], ?_⟩
    unfold mgn; rw [hs]
    rw [if_neg Bool.false_ne_true, show z.toNat = z.natAbs from by omega]
theorem itoa_decB (z : Int) : decB (Lib.itoa z) = true := by
  rw [decB_iff]
  obtain ⟨h1, h2⟩ := itoa_parts z
  obtain ⟨p1, p2, _⟩ := dec_plain z.natAbs z.natAbs (Nat.le_refl _)
  unfold decOk
  rw [h1, h2]
  refine ⟨p1, fun h => ?_⟩
  rw [h] at p2
  have : Vm.num [48] = 0 := by decide
  rw [this] at p2
  exact decide_eq_false (by omega)
theorem itoa_nmb (z : Int) (h1 : -9223372036854775808 ≤ z) (h2 : z < 9223372036854775808) : nmb (Lib.itoa z) = z := by
  obtain ⟨e1, e2⟩ := itoa_parts z
  obtain ⟨_, p2, _⟩ := dec_plain z.natAbs z.natAbs (Nat.le_refl _)
  unfold nmb
  rw [e1, e2, p2]
  by_cases h : z < 0
  · rw [decide_eq_true h, if_pos rfl, if_pos (by omega)]; omega
  · rw [decide_eq_false h, if_neg Bool.false_ne_true, if_pos (by omega)]; omega
theorem itoa_no (z : Int) (c : UInt8) (h : c ∈ Lib.itoa z) : c = 45 ∨ Vm.dig c = true := by
  obtain ⟨e1, e2⟩ := itoa_parts z
  obtain ⟨⟨_, p, _⟩, _⟩ := dec_plain z.natAbs z.natAbs (Nat.le_refl _)
  rw [List.all_eq_true] at p
  unfold Lib.itoa at h
  split at h
  · rcases List.mem_cons.1 h with h | h
    · exact Or.inl h
    · exact Or.inr (p c h)
  · rw [show z.toNat = z.natAbs from by omega] at h
    exact Or.inr (p c h)
/-- A text of one's own is its numeral. -/
theorem itoa_of (l : List UInt8) (h : decOk l) (hs : nmb l ≠ -9223372036854775808) (hs2 : nmb l ≠ 9223372036854775807) : Lib.itoa (nmb l) = l := by
  obtain ⟨hp, h0⟩ := h
  obtain ⟨d1, d2⟩ := dec_num (mgn l) hp
  have hl : l = if sgnd l then 45 :: mgn l else mgn l := by
    unfold mgn sgnd
    cases l with
    | nil => rfl
    | cons c t =>
      by_cases hc : c = 45
      · subst hc; simp
      · simp [hc]
  unfold nmb at hs hs2 ⊢
  cases hsg : sgnd l
  · rw [hsg] at hs hs2 hl
    simp only [Bool.false_eq_true, if_false] at hs hs2 hl ⊢
    by_cases hb : Vm.num (mgn l) < 9223372036854775808
    · rw [if_pos hb]
      unfold Lib.itoa
      rw [if_neg (by omega), Int.toNat_natCast, d1]
      exact hl.symm
    · rw [if_neg hb] at hs2; exact absurd rfl hs2
  · rw [hsg] at hs hs2 hl
    simp only [if_true] at hs hs2 hl ⊢
    by_cases hb : Vm.num (mgn l) ≤ 9223372036854775808
    · rw [if_pos hb]
      have hpos : 0 < Vm.num (mgn l) := by
        refine d2 (fun h => ?_)
        have := h0 (hp.2.2 h)
        rw [hsg] at this; cases this
      unfold Lib.itoa
      rw [if_pos (by omega), Int.natAbs_neg, Int.natAbs_natCast, d1]
      exact hl.symm
    · rw [if_neg hb] at hs; exact absurd rfl hs
theorem cut112 (a b : List UInt8) (h : ∀ c ∈ a, c ≠ 112) : Vm.has 112 (a ++ 112 :: b) = true ∧ Vm.fst 112 (a ++ 112 :: b) = a ∧ Vm.snd 112 (a ++ 112 :: b) = b := by
  induction a with
  | nil => refine ⟨?_, ?_, ?_⟩ <;> simp [Vm.has, Vm.fst, Vm.snd]
  | cons c t ih =>
    obtain ⟨i1, i2, i3⟩ := ih (fun x hx => h x (List.mem_cons_of_mem _ hx))
    have hc : c ≠ 112 := h c (List.mem_cons_self ..)
    have hcb : (c != 112) = true := by simp [hc]
    refine ⟨?_, ?_, ?_⟩
    · unfold Vm.has at *; simp
    · unfold Vm.fst at *; rw [List.cons_append, List.takeWhile_cons, hcb]; simp only [if_true]; rw [i2]
    · unfold Vm.snd at *; rw [List.cons_append, List.dropWhile_cons, hcb]; simp only [if_true]; exact i3
theorem cut112' (l : List UInt8) (h : Vm.has 112 l = true) : l = Vm.fst 112 l ++ 112 :: Vm.snd 112 l := by
  induction l with
  | nil => simp [Vm.has] at h
  | cons c t ih =>
    unfold Vm.fst Vm.snd
    by_cases hc : c = 112
    · subst hc; simp
    · have hcb : (c != 112) = true := by simp [hc]
      have ht : Vm.has 112 t = true := by
        unfold Vm.has at *
        simp only [List.contains_cons, Bool.or_eq_true, beq_iff_eq] at h
        rcases h with h | h
        · exact absurd h.symm hc
        · exact h
      rw [List.takeWhile_cons, List.dropWhile_cons, hcb]
      simp only [if_true, List.cons_append]
      exact congrArg (List.cons c) (ih ht)
end Wm
theorem lit_none (l : List UInt8) (h : Vm.has 112 l = true) : litW l = none := by
  rcases lit_cases l with rfl | rfl | rfl | rfl | rfl | ⟨h1, h2, h3, h4, h5, _, _⟩
  · exact absurd h (by decide)
  · exact absurd h (by decide)
  · exact absurd h (by decide)
  · exact absurd h (by decide)
  · exact absurd h (by decide)
  · rw [beq_eq_false_iff_ne] at h1 h2 h3 h4 h5
    unfold litW; rw [if_neg h1, if_neg h2, if_neg h3, if_neg h4, if_neg h5]
theorem lastOdd_itoa (z : Int) (h : z.natAbs % 2 = 1) : lastOdd (Lib.itoa z) = true := by
  obtain ⟨e1, e2⟩ := Wm.itoa_parts z
  obtain ⟨⟨p1, p2, _⟩, p3, _⟩ := Wm.dec_plain z.natAbs z.natAbs (Nat.le_refl _)
  have hlast : (Lib.itoa z).getLast? = (Lib.decDigits z.natAbs).getLast? := by
    unfold Lib.itoa
    split
    · cases hd : Lib.decDigits z.natAbs with
      | nil => exact absurd hd p1
      | cons c t => rfl
    · rw [show z.toNat = z.natAbs from by omega]
  have hn := Wm.num_last _ p1
  rw [p3, h] at hn
  have hdig : Vm.dig ((Lib.decDigits z.natAbs).getLast p1) = true := by rw [List.all_eq_true] at p2; exact p2 _ (List.getLast_mem p1)
  rw [Wm.dig_iff] at hdig
  unfold lastOdd
  rw [hlast, List.getLast?_eq_some_getLast p1]
  simp only [Option.getD_some]
  rw [beq_iff_eq]
  omega
theorem parse_prod (n : Bool) {k : Nat} {e : Int} (ho : k % 2 = 1) (h2 : k < 2 ^ 53) (lo : -1074 ≤ e) (hi : (k.log2 : Int) + e ≤ 1023) :
    errW (Lib.itoa (Wm.sg n k) ++ 112 :: Lib.itoa e) = 0 ∧ outW (Lib.itoa (Wm.sg n k) ++ 112 :: Lib.itoa e) = Wm.word n (Wm.rungOf k e) := by
  have hsg : Wm.sg n k = if n then -(k : Int) else k := by unfold Wm.sg; cases n <;> simp
  have hb : -9007199254740992 < Wm.sg n k ∧ Wm.sg n k < 9007199254740992 := by rw [hsg]; cases n <;> simp <;> omega
  have hna : (Wm.sg n k).natAbs = k := Wm.sg_nat n k
  obtain ⟨c1, c2, c3⟩ := Wm.cut112 (Lib.itoa (Wm.sg n k)) (Lib.itoa e) (fun c hc => by
    rcases Wm.itoa_no _ c hc with rfl | h
    · decide
    · intro h3; subst h3; revert h; decide)
  have hl := lit_none _ c1
  have hform : formOk (Lib.itoa (Wm.sg n k) ++ 112 :: Lib.itoa e) = true := by
    unfold formOk
    rw [c1, c2, c3, Wm.itoa_decB, Wm.itoa_decB, lastOdd_itoa _ (by rw [hna]; exact ho)]; rfl
  have he2 : e ≤ 1023 := by omega
  have hr : Wm.rangeOk (Wm.sg n k) e = true := by
    rw [Wm.rangeOk_mid hb.1 hb.2, hna, decide_eq_true lo, decide_eq_true (by omega)]; rfl
  have herr : prodErr (Lib.itoa (Wm.sg n k) ++ 112 :: Lib.itoa e) = 0 := by
    unfold prodErr
    rw [hform, c2, c3, Wm.itoa_nmb _ (by omega) (by omega), Wm.itoa_nmb _ (by omega) (by omega), hr]; rfl
  have herrW : errW (Lib.itoa (Wm.sg n k) ++ 112 :: Lib.itoa e) = 0 := by unfold errW; rw [hl]; exact herr
  refine ⟨herrW, ?_⟩
  unfold outW
  rw [if_pos herrW]
  unfold valW prodOf
  rw [hl, if_pos herr, c2, c3, Wm.itoa_nmb _ (by omega) (by omega), Wm.itoa_nmb _ (by omega) (by omega)]
  unfold Wm.prodVal
  rw [hna]
  have hd : decide (Wm.sg n k < 0) = n := by rw [hsg]; cases n <;> simp <;> omega
  rw [hd]; rfl
/-- What is told of a number is read again as it. -/
theorem parse_text (b : Nat) (hb : b < Wm.W) (hn : Wm.nan b = false) : errW (Wm.textW b) = 0 ∧ outW (Wm.textW b) = b := by
  rcases kinds b hb with h | ⟨n, rfl⟩ | ⟨n, r, hf, rfl⟩ | ⟨n, rfl⟩
  · rw [hn] at h; cases h
  · cases n <;> exact ⟨by decide +kernel, by decide +kernel⟩
  · rw [textW_fin n hf]
    obtain ⟨s1, s2, s3, s4, s5⟩ := Wm.kOf_spec hf.1 hf.2
    have := parse_prod n s1 s2 s3 s4
    rw [s5] at this
    exact this
  · cases n <;> exact ⟨by decide +kernel, by decide +kernel⟩
theorem textW_len (b : Nat) (hb : b < Wm.W) : (Wm.textW b).length ≤ 100 := by
  rcases kinds b hb with h | ⟨n, rfl⟩ | ⟨n, r, hf, rfl⟩ | ⟨n, rfl⟩
  · unfold Wm.textW; rw [h, if_pos rfl]; decide
  · cases n <;> decide +kernel
  · rw [textW_fin n hf]
    obtain ⟨s1, s2, s3, s4, s5⟩ := Wm.kOf_spec hf.1 hf.2
    have hna := Wm.sg_nat n (Wm.kOf r)
    have h1 := Lib.itoa_length_le (Wm.sg n (Wm.kOf r)) (by omega) (by omega)
    have h2 := Lib.itoa_length_le (Wm.eOf r) (by omega) (by omega)
    unfold Wm.textF
    rw [List.length_append, List.length_cons]; omega
  · cases n <;> decide +kernel
end Go.Proofs.YtaghhdgiegcimaaDoor
