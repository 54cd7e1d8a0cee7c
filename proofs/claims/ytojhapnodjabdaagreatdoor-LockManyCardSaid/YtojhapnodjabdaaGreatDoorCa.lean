/- CRC-32 on numbers: the sum of a text, its eight digits; texts that differ in one byte have unlike sums. No program is named here. -/
import Derived.Test.YtojhapnodjabdaaGreatDoorQa
namespace Go.Proofs.YtojhapnodjabdaaGreatDoor.Lk
/-- One bit. -/
def bit1 (c : Nat) : Nat := if c % 2 = 1 then (c / 2) ^^^ 3988292384 else c / 2
def bits : Nat → Nat → Nat
  | 0, c => c
  | k + 1, c => bits k (bit1 c)
def crcB (c : Nat) (b : UInt8) : Nat := bits 8 (c ^^^ b.toNat)
def crcF (s : List UInt8) (c : Nat) : Nat := s.foldl crcB c
def sumL (s : List UInt8) : Nat := crcF s 4294967295 ^^^ 4294967295
theorem xor_lt {a b : Nat} (ha : a < 4294967296) (hb : b < 4294967296) : a ^^^ b < 4294967296 := Nat.xor_lt_two_pow (n := 32) ha hb
theorem bit1_lt {c : Nat} (h : c < 4294967296) : bit1 c < 4294967296 := by
  unfold bit1; split
  · exact xor_lt (by omega) (by omega)
  · omega
theorem bits_lt : ∀ (k : Nat) {c : Nat}, c < 4294967296 → bits k c < 4294967296
  | 0, _, h => h
  | k + 1, _, h => bits_lt k (bit1_lt h)
theorem bits_more : ∀ (k c : Nat), bits (k + 1) c = bit1 (bits k c)
  | 0, _ => rfl
  | k + 1, c => bits_more k (bit1 c)
theorem byte_lt4 (b : UInt8) : b.toNat < 4294967296 := Nat.lt_trans b.toNat_lt (by decide)
theorem crcB_lt {c : Nat} (b : UInt8) (h : c < 4294967296) : crcB c b < 4294967296 := bits_lt 8 (xor_lt h (byte_lt4 b))
theorem crcF_lt : ∀ (s : List UInt8) {c : Nat}, c < 4294967296 → crcF s c < 4294967296
  | [], _, h => h
  | b :: s, _, h => crcF_lt s (crcB_lt b h)
theorem crcF_app (s t : List UInt8) (c : Nat) : crcF (s ++ t) c = crcF t (crcF s c) := List.foldl_append
theorem sumL_lt (s : List UInt8) : sumL s < 4294967296 := xor_lt (crcF_lt s (by decide)) (by decide)
theorem top_low {c : Nat} (h : c < 2147483648) : c.testBit 31 = false := Nat.testBit_lt_two_pow (i := 31) h
theorem top_poly {c : Nat} (h : c < 2147483648) : (c ^^^ 3988292384).testBit 31 = true := by
  rw [Nat.testBit_xor, top_low h]; decide
theorem xor_left {a b x : Nat} (h : a ^^^ x = b ^^^ x) : a = b := by
  have := congrArg (· ^^^ x) h
  simpa [Nat.xor_assoc] using this
theorem bit1_inj {c d : Nat} (hc : c < 4294967296) (hd : d < 4294967296) (h : bit1 c = bit1 d) : c = d := by
  have hc2 : c / 2 < 2147483648 := by omega
  have hd2 : d / 2 < 2147483648 := by omega
  unfold bit1 at h
  split at h <;> split at h
  · have := xor_left h; omega
  · have e := congrArg (Nat.testBit · 31) h
    simp only [top_poly hc2, top_low hd2] at e; cases e
  · have e := congrArg (Nat.testBit · 31) h
    simp only [top_poly hd2, top_low hc2] at e; cases e
  · omega
theorem bits_inj : ∀ (k : Nat) {c d : Nat}, c < 4294967296 → d < 4294967296 → bits k c = bits k d → c = d
  | 0, _, _, _, _, h => h
  | k + 1, _, _, hc, hd, h => bit1_inj hc hd (bits_inj k (bit1_lt hc) (bit1_lt hd) h)
theorem crcB_left {c d : Nat} (b : UInt8) (hc : c < 4294967296) (hd : d < 4294967296) (h : crcB c b = crcB d b) : c = d :=
  xor_left (bits_inj 8 (xor_lt hc (byte_lt4 b)) (xor_lt hd (byte_lt4 b)) h)
theorem crcB_right {c : Nat} {a b : UInt8} (hc : c < 4294967296) (h : crcB c a = crcB c b) : a = b := by
  have e := bits_inj 8 (xor_lt hc (byte_lt4 a)) (xor_lt hc (byte_lt4 b)) h
  rw [Nat.xor_comm c, Nat.xor_comm c] at e
  exact UInt8.toNat_inj.1 (xor_left e)
theorem crcF_inj : ∀ (s : List UInt8) {c d : Nat}, c < 4294967296 → d < 4294967296 → crcF s c = crcF s d → c = d
  | [], _, _, _, _, h => h
  | b :: s, _, _, hc, hd, h => crcB_left b hc hd (crcF_inj s (crcB_lt b hc) (crcB_lt b hd) h)
/-- Two texts that differ in one byte, of one length, have unlike sums. -/
theorem sum_one (s : List UInt8) (k : Nat) (b : UInt8) (hk : k < s.length) (hb : s[k] ≠ b) : sumL (s.set k b) ≠ sumL s := by
  intro h
  have h1 := xor_left h
  have e1 : s.set k b = s.take k ++ b :: s.drop (k + 1) := List.set_eq_take_append_cons_drop.trans (by rw [if_pos hk])
  have e2 : s = s.take k ++ s[k] :: s.drop (k + 1) := by rw [← List.drop_eq_getElem_cons hk, List.take_append_drop]
  rw [e1, congrArg (crcF · 4294967295) e2, crcF_app, crcF_app] at h1
  have hc : crcF (s.take k) 4294967295 < 4294967296 := crcF_lt _ (by decide)
  have h2 := crcF_inj (s.drop (k + 1)) (crcB_lt b hc) (crcB_lt s[k] hc) h1
  exact hb (crcB_right hc h2).symm
/-- A digit of sixteen. -/
def hexd (d : Nat) : UInt8 := ([48, 49, 50, 51, 52, 53, 54, 55, 56, 57, 97, 98, 99, 100, 101, 102] : List UInt8)[d]?.getD 48
/-- The last j of a number's digits of sixteen. -/
def hexj : Nat → Nat → List UInt8
  | 0, _ => []
  | j + 1, n => hexj j (n / 16) ++ [hexd (n % 16)]
theorem hexj_len : ∀ (j n : Nat), (hexj j n).length = j
  | 0, _ => rfl
  | j + 1, n => by unfold hexj; rw [List.length_append, hexj_len j]; rfl
theorem hexd_inj : ∀ a, a < 16 → ∀ b, b < 16 → hexd a = hexd b → a = b := by decide
theorem hexj_inj : ∀ (j n m : Nat), n < 16 ^ j → m < 16 ^ j → hexj j n = hexj j m → n = m
  | 0, n, m, hn, hm, _ => by simp at hn hm; omega
  | j + 1, n, m, hn, hm, h => by
    unfold hexj at h
    obtain ⟨h1, h2⟩ := List.append_inj h (by rw [hexj_len, hexj_len])
    have e1 := hexj_inj j (n / 16) (m / 16) (by rw [Nat.div_lt_iff_lt_mul (by decide)]; rwa [Nat.pow_succ] at hn) (by rw [Nat.div_lt_iff_lt_mul (by decide)]; rwa [Nat.pow_succ] at hm) h1
    have e2 := hexd_inj (n % 16) (by omega) (m % 16) (by omega) (by simpa using h2)
    omega
/-- The line that closes a text. -/
def sumLine (s : List UInt8) : List UInt8 := [115, 117, 109, 32] ++ hexj 8 (sumL s) ++ [10]
theorem sumLine_len (s : List UInt8) : (sumLine s).length = 13 := by unfold sumLine; simp [hexj_len]
theorem sumLine_inj {s t : List UInt8} (h : sumLine s = sumLine t) : sumL s = sumL t := by
  unfold sumLine at h
  have h1 := List.append_cancel_left (List.append_cancel_right h)
  exact hexj_inj 8 _ _ (sumL_lt s) (sumL_lt t) h1
/-- The hexadecimal digits without noughts ahead. -/
def hexn (n : Nat) : List UInt8 := if _h : n < 16 then [hexd n] else hexn (n / 16) ++ [hexd (n % 16)]
termination_by n
theorem hexn_pad : ∀ (j n : Nat), n < 16 ^ (j + 1) → (hexn n).length ≤ j + 1 ∧ 1 ≤ (hexn n).length ∧ List.replicate (j + 1 - (hexn n).length) 48 ++ hexn n = hexj (j + 1) n
  | 0, n, h => by
    have : n < 16 := by simpa using h
    unfold hexn
    rw [dif_pos this]
    refine ⟨Nat.le_refl _, Nat.le_refl _, ?_⟩
    show [hexd n] = [hexd (n % 16)]
    rw [Nat.mod_eq_of_lt this]
  | j + 1, n, h => by
    by_cases h16 : n < 16
    · unfold hexn
      rw [dif_pos h16]
      obtain ⟨_, _, h3⟩ := hexn_pad j (n / 16) (by rw [Nat.div_lt_iff_lt_mul (by decide)]; rwa [Nat.pow_succ] at h)
      have e0 : n / 16 = 0 := by omega
      rw [e0] at h3
      unfold hexn at h3
      rw [dif_pos (by decide)] at h3
      refine ⟨by simp, by simp, ?_⟩
      unfold hexj
      rw [e0, ← h3, Nat.mod_eq_of_lt h16]
      show List.replicate (j + 1) 48 ++ [hexd n] = (List.replicate j 48 ++ [48]) ++ [hexd n]
      rw [List.replicate_succ']
    · obtain ⟨h1, h2, h3⟩ := hexn_pad j (n / 16) (by rw [Nat.div_lt_iff_lt_mul (by decide)]; rwa [Nat.pow_succ] at h)
      have e : hexn n = hexn (n / 16) ++ [hexd (n % 16)] := by
        conv => lhs; unfold hexn
        rw [dif_neg h16]
      rw [e]
      refine ⟨by rw [List.length_append]; simp; omega, by rw [List.length_append]; simp, ?_⟩
      have el : (hexn (n / 16) ++ [hexd (n % 16)]).length = (hexn (n / 16)).length + 1 := by simp
      rw [el, show j + 1 + 1 - ((hexn (n / 16)).length + 1) = j + 1 - (hexn (n / 16)).length by omega, ← List.append_assoc, h3]
      rfl
theorem sum_line_hexn (s : List UInt8) : (hexn (sumL s)).length ≤ 8 ∧ [115, 117, 109, 32] ++ (List.replicate (8 - (hexn (sumL s)).length) 48 ++ hexn (sumL s)) ++ [10] = sumLine s := by
  obtain ⟨h1, _, h3⟩ := hexn_pad 7 (sumL s) (sumL_lt s)
  exact ⟨h1, by rw [h3]; rfl⟩
end Go.Proofs.YtojhapnodjabdaaGreatDoor.Lk
