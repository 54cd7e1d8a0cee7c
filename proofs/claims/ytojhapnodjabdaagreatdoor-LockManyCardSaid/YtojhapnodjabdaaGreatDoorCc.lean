/- The sum of a text, bit by bit: the program's, the reference's, walked. -/
import Derived.Test.YtojhapnodjabdaaGreatDoorCa
import Derived.Test.YtojhapnodjabdaaGreatDoorBa
import Derived.Laws.BitsAllLaws
namespace Go.Proofs.YtojhapnodjabdaaGreatDoor
open Go.RowKit Lk
attribute [local go_sem ↓] Go.wp_at_zero Go.wp_at_succ
theorem Lk.and_one (m : Nat) (h : m < 4294967296) : Go.bits .and .u32 (m : Int) 1 = ((m % 2 : Nat) : Int) := by
  have := u32_and_nat m 1 h (by decide)
  rw [Nat.and_one_is_mod] at this
  exact this
theorem Lk.xor_nat (a b x : Nat) (ha : a < 4294967296) (hb : b < 4294967296) (h : a ^^^ b = x) : Go.bits .xor .u32 (a : Int) (b : Int) = (x : Int) := by
  rw [u32_xor_nat a b ha hb, h]
theorem Lk.half (m q : Nat) (h : m / 2 = q) : (m : Int) / 2 = (q : Int) := by omega
theorem Lk.bits_odd (m q x k : Nat) (h : m % 2 = 1) (hq : m / 2 = q) (hx : q ^^^ 3988292384 = x) : Lk.bits (k + 1) m = Lk.bits k x := by
  show Lk.bits k (bit1 m) = _
  unfold bit1; rw [if_pos h, hq, hx]
theorem Lk.bits_even (m q k : Nat) (h : m % 2 = 0) (hq : m / 2 = q) : Lk.bits (k + 1) m = Lk.bits k q := by
  show Lk.bits k (bit1 m) = _
  unfold bit1; rw [if_neg (by omega), hq]
set_option maxHeartbeats 800000 in
theorem divided_any (c : Nat) (w : World) (hc : c < 4294967296) :
    Calls Tryz.prog 42 #[.int .u32 c] w fun e w' => e = .returned (.int .u32 (Lk.bits 8 c : Nat)) ∧ w = w' := by
  obtain ⟨R, hR⟩ : ∃ R, Lk.bits 8 c = R := ⟨_, rfl⟩
  rw [hR]
  have HR := Lib.hid hR
  clear hR
  go_enter Tryz.func42, Tryz.ntmps42
  go_wp2_with fail
  go_loop [0, 4] (fun x i => ∃ k m : Nat, k ≤ 8 ∧ i = .int .i64 k ∧ x = .int .u32 m ∧ Hid (m < 4294967296) ∧ Hid (Lk.bits (8 - k) m = R)) (fun _ i => 8 - (intOf i).toNat)
  case atStart => exact ⟨0, c, Nat.zero_le _, rfl, rfl, hc, HR.out⟩
  case round =>
    obtain ⟨k, m, hk, rfl, rfl, HM, HE⟩ := hrel
    by_cases hlt : k < 8
    · obtain ⟨q, hq⟩ : ∃ q, m / 2 = q := ⟨_, rfl⟩
      have a1 := Lk.and_one m HM.out
      have a2 := Lk.half m q hq
      have HQ : Hid (q < 4294967296) := by have := HM.out; show _ < _; omega
      obtain ⟨j, hj⟩ : ∃ j, 8 - k = j + 1 := ⟨7 - k, by omega⟩
      have HJ : Hid (8 - (k + 1) = j) := by show _ = _; omega
      rw [hj] at HE
      clear hj
      by_cases h2 : m % 2 = 1
      · obtain ⟨x, hx⟩ : ∃ x, q ^^^ 3988292384 = x := ⟨_, rfl⟩
        have HE2 : Hid (Lk.bits j x = R) := (bits_odd m q x j h2 hq hx).symm.trans HE.out
        have HX : Hid (x < 4294967296) := by show _ < _; rw [← hx]; exact xor_lt HQ.out (by decide)
        have a3 : Go.bits .xor .u32 (q : Int) 3988292384 = (x : Int) := Lk.xor_nat q 3988292384 x HQ.out (by decide) hx
        rw [h2] at a1
        clear hq hx h2
        go_wp2_with fail
        go_round
        case rel => exact ⟨k + 1, x, by omega, by go_num, rfl, HX, by show _ = _; rw [HJ.out]; exact HE2.out⟩
        case measure => simp [intOf]; omega
      · have h0 : m % 2 = 0 := by omega
        have HE2 : Hid (Lk.bits j q = R) := (bits_even m q j h0 hq).symm.trans HE.out
        rw [h0] at a1
        clear hq h0 h2
        go_wp2_with fail
        go_round
        case rel => exact ⟨k + 1, q, by omega, by go_num, rfl, HQ, by show _ = _; rw [HJ.out]; exact HE2.out⟩
        case measure => simp [intOf]; omega
    · obtain rfl : k = 8 := by omega
      go_wp2_with fail
      go_ret
      exact ⟨by rw [← HE.out]; rfl, rfl⟩
theorem Lk.crcF_take (s : List UInt8) (k : Nat) (hk : k < s.length) : crcF (s.take (k + 1)) 4294967295 = Lk.bits 8 (crcF (s.take k) 4294967295 ^^^ s[k].toNat) := by
  rw [List.take_succ_eq_append_getElem hk, crcF_app]; rfl
set_option maxHeartbeats 800000 in
theorem lockSum_any (s : List UInt8) (w : World) (hs : s.length ≤ 1000000) :
    Calls Tryz.prog 23 #[.string ⟨s.toArray⟩] w fun e w' => e = .returned (.int .u32 (sumL s : Nat)) ∧ w = w' := by
  obtain ⟨R, hR⟩ : ∃ R, sumL s = R := ⟨_, rfl⟩
  rw [hR]
  have HR : Hid (crcF (s.take s.length) 4294967295 ^^^ 4294967295 = R) := by show _ = _; rw [List.take_length]; exact hR
  clear hR
  go_enter Tryz.func23, Tryz.ntmps23
  go_wp2_with fail
  go_loop [3, 7] (fun x i => ∃ k m : Nat, k ≤ s.length ∧ i = .int .i64 k ∧ x = .int .u32 m ∧ Hid (m < 4294967296) ∧ Hid (crcF (s.take k) 4294967295 = m)) (fun _ i => s.length - (intOf i).toNat)
  case atStart => exact ⟨0, 4294967295, Nat.zero_le _, rfl, rfl, by show _ < _; decide, rfl⟩
  case round =>
    obtain ⟨k, m, hk, rfl, rfl, HM, HE⟩ := hrel
    by_cases hlt : k < s.length
    · obtain ⟨b, hb, hbl⟩ := byte_at s k hlt
      obtain ⟨x, hx⟩ : ∃ x, m ^^^ b.toNat = x := ⟨_, rfl⟩
      have HX : Hid (x < 4294967296) := by show _ < _; rw [← hx]; exact xor_lt HM.out (byte_lt4 b)
      have a3 := Lk.xor_nat m b.toNat x HM.out (byte_lt4 b) hx
      have a4 : IntKind.u32.wrap (b.toNat : Int) = (b.toNat : Int) := by rw [IntKind.wrap_u32']; have := b.toNat_lt; omega
      have HT := crcF_take s k hlt
      rw [HE.out, hbl, hx] at HT
      have HT2 := Lib.hid HT
      clear hx hbl HT
      go_wp2_with fail
      refine (divided_any x _ HX.out).mono ?_
      rintro _ u ⟨rfl, rfl⟩
      obtain ⟨y, hy⟩ : ∃ y, Lk.bits 8 x = y := ⟨_, rfl⟩
      have HY : Hid (y < 4294967296) := by show _ < _; rw [← hy]; exact bits_lt 8 HX.out
      rw [hy] at HT2 ⊢
      clear hy
      go_wp2_with fail
      go_round
      case rel => exact ⟨k + 1, y, by omega, by go_num, rfl, HY, HT2⟩
      case measure => simp [intOf]; omega
    · obtain rfl : k = s.length := by omega
      have hr := HR.out
      rw [HE.out] at hr
      have a5 : Go.bits .xor .u32 (m : Int) 4294967295 = (R : Int) := Lk.xor_nat m 4294967295 R HM.out (by decide) hr
      have a6 : Go.bits .xor .u32 IntKind.u32.max (m : Int) = (R : Int) := Lk.xor_nat 4294967295 m R (by decide) HM.out (by rw [Nat.xor_comm]; exact hr)
      clear hr
      go_wp2_with fail
      go_ret
      exact ⟨rfl, rfl⟩
end Go.Proofs.YtojhapnodjabdaaGreatDoor
