/- The reference's sum, its digits, its version, Check, Get; the law's Few: walked. -/
import Derived.Test.YtojhapnodjabdaaGreatDoorCm
import Derived.Laws.ShiftsVarLaws
namespace Go.Proofs.YtojhapnodjabdaaGreatDoor
open Go.RowKit Lk At
attribute [local go_sem ↓] Go.wp_at_zero Go.wp_at_succ
set_option maxHeartbeats 1600000 in
theorem refSum_any (s : List UInt8) (w : World) (hs : s.length ≤ 1000000) :
    Calls Tryz.prog 24 #[.string ⟨s.toArray⟩] w fun e w' => e = .returned (.int .u32 (sumL s : Nat)) ∧ w = w' := by
  obtain ⟨R, hR⟩ : ∃ R, sumL s = R := ⟨_, rfl⟩
  rw [hR]
  have HR : Hid (crcF (s.take s.length) 4294967295 ^^^ 4294967295 = R) := by show _ = _; rw [List.take_length]; exact hR
  clear hR
  go_enter Tryz.func24, Tryz.ntmps24
  go_wp2_with fail
  go_loop [3, 4] (fun x i => ∃ k m : Nat, k ≤ s.length ∧ i = .int .i64 k ∧ x = .int .u32 m ∧ Hid (m < 4294967296) ∧ Hid (crcF (s.take k) 4294967295 = m)) (fun _ i => s.length - (intOf i).toNat)
  case atStart => exact ⟨0, 4294967295, Nat.zero_le _, rfl, rfl, by show _ < _; decide, rfl⟩
  case round =>
    obtain ⟨k, m, hk, rfl, rfl, HM, HE⟩ := hrel
    by_cases hlt : k < s.length
    · obtain ⟨b, hb, hbl⟩ := byte_at s k hlt
      obtain ⟨x, hx⟩ : ∃ x, m ^^^ b.toNat = x := ⟨_, rfl⟩
      have HX : Hid (x < 4294967296) := by show _ < _; rw [← hx]; exact xor_lt HM.out (byte_lt4 b)
      have a3 := Lk.xor_nat m b.toNat x HM.out (byte_lt4 b) hx
      have a4 : IntKind.u32.wrap (b.toNat : Int) = (b.toNat : Int) := by rw [IntKind.wrap_u32']; have := b.toNat_lt; omega
      have HT := crcF_take s k hlt
      rw [HE.out, hbl, hx] at HT
      obtain ⟨Y, hY⟩ : ∃ Y, Lk.bits 8 x = Y := ⟨_, rfl⟩
      rw [hY] at HT
      have HT2 := Lib.hid HT
      have HYY := Lib.hid hY
      clear hx hbl HT hY
      go_wp2_with fail
      clear a3 a4
      go_loop [3, 5] (fun y j => ∃ q r : Nat, q ≤ 8 ∧ j = .int .i64 q ∧ y = .int .u32 r ∧ Hid (r < 4294967296) ∧ Hid (Lk.bits (8 - q) r = Y)) (fun _ j => 8 - (intOf j).toNat)
      case atStart => exact ⟨0, x, Nat.zero_le _, rfl, rfl, HX.out, HYY.out⟩
      case round =>
        obtain ⟨q, r, hq, rfl, rfl, HRR, HEE⟩ := hrel
        by_cases hl2 : q < 8
        · obtain ⟨p, hp⟩ : ∃ p, r / 2 = p := ⟨_, rfl⟩
          have a1 := Lk.and_one r HRR.out
          have a2 := Lk.half r p hp
          have HQ : Hid (p < 4294967296) := by have := HRR.out; show _ < _; omega
          obtain ⟨j, hj⟩ : ∃ j, 8 - q = j + 1 := ⟨7 - q, by omega⟩
          have HJ : Hid (8 - (q + 1) = j) := by show _ = _; omega
          rw [hj] at HEE
          clear hj
          by_cases h2 : r % 2 = 1
          · obtain ⟨z, hz⟩ : ∃ z, p ^^^ 3988292384 = z := ⟨_, rfl⟩
            have HE2 : Hid (Lk.bits j z = Y) := (bits_odd r p z j h2 hp hz).symm.trans HEE.out
            have HZ : Hid (z < 4294967296) := by show _ < _; rw [← hz]; exact xor_lt HQ.out (by decide)
            have a3 : Go.bits .xor .u32 (p : Int) 3988292384 = (z : Int) := Lk.xor_nat p 3988292384 z HQ.out (by decide) hz
            rw [h2] at a1
            clear hp hz h2
            go_wp2_with fail
            go_round
            case rel => exact ⟨q + 1, z, by omega, by go_num, rfl, HZ, by show _ = _; rw [HJ.out]; exact HE2.out⟩
            case measure => simp [intOf]; omega
          · have h0 : r % 2 = 0 := by omega
            have HE2 : Hid (Lk.bits j p = Y) := (bits_even r p j h0 hp).symm.trans HEE.out
            rw [h0] at a1
            clear hp h0 h2
            go_wp2_with fail
            go_round
            case rel => exact ⟨q + 1, p, by omega, by go_num, rfl, HQ, by show _ = _; rw [HJ.out]; exact HE2.out⟩
            case measure => simp [intOf]; omega
        · obtain rfl : q = 8 := by omega
          have HRY : Hid (r = Y) := HEE.out
          go_wp2_with fail
          go_round
          case rel => exact ⟨k + 1, r, by omega, by go_num, rfl, HRR, by show _ = _; rw [HRY.out]; exact HT2.out⟩
          case measure => simp [intOf]; omega
    · obtain rfl : k = s.length := by omega
      have hr := HR.out
      rw [HE.out] at hr
      have a5 : Go.bits .xor .u32 (m : Int) 4294967295 = (R : Int) := Lk.xor_nat m 4294967295 R HM.out (by decide) hr
      clear hr
      go_wp2_with fail
      go_ret
      exact ⟨rfl, rfl⟩
theorem Lk.dig16 (m : Nat) (h : m < 16) : ∃ c, ({ data := #[48, 49, 50, 51, 52, 53, 54, 55, 56, 57, 97, 98, 99, 100, 101, 102] } : ByteArray)[m]'(Nat.lt_of_lt_of_le h (by decide)) = c ∧ hexd m = c := by
  refine ⟨_, rfl, ?_⟩
  have key : ∀ m (h : m < 16), hexd m = ({ data := #[48, 49, 50, 51, 52, 53, 54, 55, 56, 57, 97, 98, 99, 100, 101, 102] } : ByteArray)[m]'(Nat.lt_of_lt_of_le h (by decide)) := by decide
  exact key m h
theorem Lk.conv_dig (m : Nat) (h : m < 16) (W : World) : (convert 5 9 (.int .u8 ((hexd m).toNat : Int))).run Tryz.prog W = .ok (.string ⟨[hexd m].toArray⟩) W := by
  have key : ∀ m, m < 16 → Utf8.encode ((hexd m).toNat : Int) = ⟨[hexd m].toArray⟩ := by decide +kernel
  rw [run_convert_int_string W _ _ .u8 _ (by kernel_rfl) Tryz.underlying9, key m h]
theorem Lk.and15b (u : Nat) (h : u < 4294967296) (m : Nat) (hm : u % 16 = m) : Go.bits .and .u32 (u : Int) 15 = (m : Int) := by
  have h1 := u32_and_nat u 15 h (by decide)
  have h2 : u &&& 15 = u % 16 := Nat.and_two_pow_sub_one_eq_mod u 4
  rw [h2, hm] at h1
  exact h1
set_option maxRecDepth 100000 in
set_option maxHeartbeats 3200000 in
theorem refHex_any (n : Nat) (w : World) (hn : n < 4294967296) :
    Calls Tryz.prog 35 #[.int .u32 n] w fun e w' => e = .returned (.string ⟨(hexj 8 n).toArray⟩) ∧ w = w' := by
  have HN := Lib.hid hn
  clear hn
  go_enter Tryz.func35, Tryz.ntmps35
  go_wp2_with fail
  go_loop [3, 4] (fun v i => ∃ (t : Nat) (d : List UInt8), t ≤ 8 ∧ v = .string ⟨d.toArray⟩ ∧ i = .int .i64 (28 - 4 * (t : Int)) ∧ Hid (d = hexj t (n / 16 ^ (8 - t))) ∧ Hid (d.length ≤ 8)) (fun _ i => (intOf i + 4).toNat)
  case atStart => exact ⟨0, [], Nat.zero_le _, rfl, rfl, rfl, Nat.zero_le _⟩
  case round =>
    obtain ⟨t, d, ht, rfl, rfl, HD, HL⟩ := hrel
    have htt : t = 0 ∨ t = 1 ∨ t = 2 ∨ t = 3 ∨ t = 4 ∨ t = 5 ∨ t = 6 ∨ t = 7 ∨ t = 8 := by omega
    clear ht
    rcases htt with rfl | rfl | rfl | rfl | rfl | rfl | rfl | rfl | rfl
    · have HQ : Hid (n / 268435456 < 4294967296) := Nat.lt_of_le_of_lt (Nat.div_le_self _ _) HN.out
      obtain ⟨q, hq⟩ : ∃ q, n / 268435456 = q := ⟨_, rfl⟩
      have a2 : (n : Int) / 268435456 = (q : Int) := by omega
      obtain ⟨m, hm⟩ : ∃ m, q % 16 = m := ⟨_, rfl⟩
      rw [hq] at HQ
      have a1 := and15b q HQ.out m hm
      have hm16 : m < 16 := by omega
      have m0 : (0 : Int) ≤ (m : Int) := by omega
      have m1 : (m : Int) < 16 := by omega
      obtain ⟨c, hc, hh⟩ := dig16 m hm16
      have hcv := conv_dig m hm16
      rw [hh] at hcv
      have hcat := ByteArray.mk_append_mk d [c]
      obtain ⟨D, hD⟩ : ∃ D, d ++ [c] = D := ⟨_, rfl⟩
      rw [hD] at hcat
      have HD2 : Hid (D = hexj (0 + 1) (n / 16 ^ (8 - (0 + 1)))) := by
        show _ = _
        have e1 : n / 16 ^ (8 - (0 + 1)) = q := hq
        have e2 : n / 16 ^ (8 - 0) = q / 16 := by rw [← hq, Nat.div_div_eq_div_mul]
        rw [e1, ← hD, HD.out, e2]
        show _ = hexj 0 (q / 16) ++ [hexd (q % 16)]
        rw [hm, hh]
      have HL2 : Hid (D.length ≤ 8) := by show _ ≤ _; rw [HD2.out, hexj_len]; decide
      have hdl := HL.out
      clear hq hm hh hD HD
      go_wp2_with fail
      go_round
      case rel => exact ⟨0 + 1, D, by decide, rfl, by go_num, HD2, HL2⟩
      case measure => simp [intOf]
    · have HQ : Hid (n / 16777216 < 4294967296) := Nat.lt_of_le_of_lt (Nat.div_le_self _ _) HN.out
      obtain ⟨q, hq⟩ : ∃ q, n / 16777216 = q := ⟨_, rfl⟩
      have a2 : (n : Int) / 16777216 = (q : Int) := by omega
      obtain ⟨m, hm⟩ : ∃ m, q % 16 = m := ⟨_, rfl⟩
      rw [hq] at HQ
      have a1 := and15b q HQ.out m hm
      have hm16 : m < 16 := by omega
      have m0 : (0 : Int) ≤ (m : Int) := by omega
      have m1 : (m : Int) < 16 := by omega
      obtain ⟨c, hc, hh⟩ := dig16 m hm16
      have hcv := conv_dig m hm16
      rw [hh] at hcv
      have hcat := ByteArray.mk_append_mk d [c]
      obtain ⟨D, hD⟩ : ∃ D, d ++ [c] = D := ⟨_, rfl⟩
      rw [hD] at hcat
      have HD2 : Hid (D = hexj (1 + 1) (n / 16 ^ (8 - (1 + 1)))) := by
        show _ = _
        have e1 : n / 16 ^ (8 - (1 + 1)) = q := hq
        have e2 : n / 16 ^ (8 - 1) = q / 16 := by rw [← hq, Nat.div_div_eq_div_mul]
        rw [e1, ← hD, HD.out, e2]
        show _ = hexj 1 (q / 16) ++ [hexd (q % 16)]
        rw [hm, hh]
      have HL2 : Hid (D.length ≤ 8) := by show _ ≤ _; rw [HD2.out, hexj_len]; decide
      have hdl := HL.out
      clear hq hm hh hD HD
      go_wp2_with fail
      go_round
      case rel => exact ⟨1 + 1, D, by decide, rfl, by go_num, HD2, HL2⟩
      case measure => simp [intOf]
    · have HQ : Hid (n / 1048576 < 4294967296) := Nat.lt_of_le_of_lt (Nat.div_le_self _ _) HN.out
      obtain ⟨q, hq⟩ : ∃ q, n / 1048576 = q := ⟨_, rfl⟩
      have a2 : (n : Int) / 1048576 = (q : Int) := by omega
      obtain ⟨m, hm⟩ : ∃ m, q % 16 = m := ⟨_, rfl⟩
      rw [hq] at HQ
      have a1 := and15b q HQ.out m hm
      have hm16 : m < 16 := by omega
      have m0 : (0 : Int) ≤ (m : Int) := by omega
      have m1 : (m : Int) < 16 := by omega
      obtain ⟨c, hc, hh⟩ := dig16 m hm16
      have hcv := conv_dig m hm16
      rw [hh] at hcv
      have hcat := ByteArray.mk_append_mk d [c]
      obtain ⟨D, hD⟩ : ∃ D, d ++ [c] = D := ⟨_, rfl⟩
      rw [hD] at hcat
      have HD2 : Hid (D = hexj (2 + 1) (n / 16 ^ (8 - (2 + 1)))) := by
        show _ = _
        have e1 : n / 16 ^ (8 - (2 + 1)) = q := hq
        have e2 : n / 16 ^ (8 - 2) = q / 16 := by rw [← hq, Nat.div_div_eq_div_mul]
        rw [e1, ← hD, HD.out, e2]
        show _ = hexj 2 (q / 16) ++ [hexd (q % 16)]
        rw [hm, hh]
      have HL2 : Hid (D.length ≤ 8) := by show _ ≤ _; rw [HD2.out, hexj_len]; decide
      have hdl := HL.out
      clear hq hm hh hD HD
      go_wp2_with fail
      go_round
      case rel => exact ⟨2 + 1, D, by decide, rfl, by go_num, HD2, HL2⟩
      case measure => simp [intOf]
    · have HQ : Hid (n / 65536 < 4294967296) := Nat.lt_of_le_of_lt (Nat.div_le_self _ _) HN.out
      obtain ⟨q, hq⟩ : ∃ q, n / 65536 = q := ⟨_, rfl⟩
      have a2 : (n : Int) / 65536 = (q : Int) := by omega
      obtain ⟨m, hm⟩ : ∃ m, q % 16 = m := ⟨_, rfl⟩
      rw [hq] at HQ
      have a1 := and15b q HQ.out m hm
      have hm16 : m < 16 := by omega
      have m0 : (0 : Int) ≤ (m : Int) := by omega
      have m1 : (m : Int) < 16 := by omega
      obtain ⟨c, hc, hh⟩ := dig16 m hm16
      have hcv := conv_dig m hm16
      rw [hh] at hcv
      have hcat := ByteArray.mk_append_mk d [c]
      obtain ⟨D, hD⟩ : ∃ D, d ++ [c] = D := ⟨_, rfl⟩
      rw [hD] at hcat
      have HD2 : Hid (D = hexj (3 + 1) (n / 16 ^ (8 - (3 + 1)))) := by
        show _ = _
        have e1 : n / 16 ^ (8 - (3 + 1)) = q := hq
        have e2 : n / 16 ^ (8 - 3) = q / 16 := by rw [← hq, Nat.div_div_eq_div_mul]
        rw [e1, ← hD, HD.out, e2]
        show _ = hexj 3 (q / 16) ++ [hexd (q % 16)]
        rw [hm, hh]
      have HL2 : Hid (D.length ≤ 8) := by show _ ≤ _; rw [HD2.out, hexj_len]; decide
      have hdl := HL.out
      clear hq hm hh hD HD
      go_wp2_with fail
      go_round
      case rel => exact ⟨3 + 1, D, by decide, rfl, by go_num, HD2, HL2⟩
      case measure => simp [intOf]
    · have HQ : Hid (n / 4096 < 4294967296) := Nat.lt_of_le_of_lt (Nat.div_le_self _ _) HN.out
      obtain ⟨q, hq⟩ : ∃ q, n / 4096 = q := ⟨_, rfl⟩
      have a2 : (n : Int) / 4096 = (q : Int) := by omega
      obtain ⟨m, hm⟩ : ∃ m, q % 16 = m := ⟨_, rfl⟩
      rw [hq] at HQ
      have a1 := and15b q HQ.out m hm
      have hm16 : m < 16 := by omega
      have m0 : (0 : Int) ≤ (m : Int) := by omega
      have m1 : (m : Int) < 16 := by omega
      obtain ⟨c, hc, hh⟩ := dig16 m hm16
      have hcv := conv_dig m hm16
      rw [hh] at hcv
      have hcat := ByteArray.mk_append_mk d [c]
      obtain ⟨D, hD⟩ : ∃ D, d ++ [c] = D := ⟨_, rfl⟩
      rw [hD] at hcat
      have HD2 : Hid (D = hexj (4 + 1) (n / 16 ^ (8 - (4 + 1)))) := by
        show _ = _
        have e1 : n / 16 ^ (8 - (4 + 1)) = q := hq
        have e2 : n / 16 ^ (8 - 4) = q / 16 := by rw [← hq, Nat.div_div_eq_div_mul]
        rw [e1, ← hD, HD.out, e2]
        show _ = hexj 4 (q / 16) ++ [hexd (q % 16)]
        rw [hm, hh]
      have HL2 : Hid (D.length ≤ 8) := by show _ ≤ _; rw [HD2.out, hexj_len]; decide
      have hdl := HL.out
      clear hq hm hh hD HD
      go_wp2_with fail
      go_round
      case rel => exact ⟨4 + 1, D, by decide, rfl, by go_num, HD2, HL2⟩
      case measure => simp [intOf]
    · have HQ : Hid (n / 256 < 4294967296) := Nat.lt_of_le_of_lt (Nat.div_le_self _ _) HN.out
      obtain ⟨q, hq⟩ : ∃ q, n / 256 = q := ⟨_, rfl⟩
      have a2 : (n : Int) / 256 = (q : Int) := by omega
      obtain ⟨m, hm⟩ : ∃ m, q % 16 = m := ⟨_, rfl⟩
      rw [hq] at HQ
      have a1 := and15b q HQ.out m hm
      have hm16 : m < 16 := by omega
      have m0 : (0 : Int) ≤ (m : Int) := by omega
      have m1 : (m : Int) < 16 := by omega
      obtain ⟨c, hc, hh⟩ := dig16 m hm16
      have hcv := conv_dig m hm16
      rw [hh] at hcv
      have hcat := ByteArray.mk_append_mk d [c]
      obtain ⟨D, hD⟩ : ∃ D, d ++ [c] = D := ⟨_, rfl⟩
      rw [hD] at hcat
      have HD2 : Hid (D = hexj (5 + 1) (n / 16 ^ (8 - (5 + 1)))) := by
        show _ = _
        have e1 : n / 16 ^ (8 - (5 + 1)) = q := hq
        have e2 : n / 16 ^ (8 - 5) = q / 16 := by rw [← hq, Nat.div_div_eq_div_mul]
        rw [e1, ← hD, HD.out, e2]
        show _ = hexj 5 (q / 16) ++ [hexd (q % 16)]
        rw [hm, hh]
      have HL2 : Hid (D.length ≤ 8) := by show _ ≤ _; rw [HD2.out, hexj_len]; decide
      have hdl := HL.out
      clear hq hm hh hD HD
      go_wp2_with fail
      go_round
      case rel => exact ⟨5 + 1, D, by decide, rfl, by go_num, HD2, HL2⟩
      case measure => simp [intOf]
    · have HQ : Hid (n / 16 < 4294967296) := Nat.lt_of_le_of_lt (Nat.div_le_self _ _) HN.out
      obtain ⟨q, hq⟩ : ∃ q, n / 16 = q := ⟨_, rfl⟩
      have a2 : (n : Int) / 16 = (q : Int) := by omega
      obtain ⟨m, hm⟩ : ∃ m, q % 16 = m := ⟨_, rfl⟩
      rw [hq] at HQ
      have a1 := and15b q HQ.out m hm
      have hm16 : m < 16 := by omega
      have m0 : (0 : Int) ≤ (m : Int) := by omega
      have m1 : (m : Int) < 16 := by omega
      obtain ⟨c, hc, hh⟩ := dig16 m hm16
      have hcv := conv_dig m hm16
      rw [hh] at hcv
      have hcat := ByteArray.mk_append_mk d [c]
      obtain ⟨D, hD⟩ : ∃ D, d ++ [c] = D := ⟨_, rfl⟩
      rw [hD] at hcat
      have HD2 : Hid (D = hexj (6 + 1) (n / 16 ^ (8 - (6 + 1)))) := by
        show _ = _
        have e1 : n / 16 ^ (8 - (6 + 1)) = q := hq
        have e2 : n / 16 ^ (8 - 6) = q / 16 := by rw [← hq, Nat.div_div_eq_div_mul]
        rw [e1, ← hD, HD.out, e2]
        show _ = hexj 6 (q / 16) ++ [hexd (q % 16)]
        rw [hm, hh]
      have HL2 : Hid (D.length ≤ 8) := by show _ ≤ _; rw [HD2.out, hexj_len]; decide
      have hdl := HL.out
      clear hq hm hh hD HD
      go_wp2_with fail
      go_round
      case rel => exact ⟨6 + 1, D, by decide, rfl, by go_num, HD2, HL2⟩
      case measure => simp [intOf]
    · have HQ : Hid (n / 1 < 4294967296) := Nat.lt_of_le_of_lt (Nat.div_le_self _ _) HN.out
      obtain ⟨q, hq⟩ : ∃ q, n / 1 = q := ⟨_, rfl⟩
      have a2 : (n : Int) / 1 = (q : Int) := by omega
      obtain ⟨m, hm⟩ : ∃ m, q % 16 = m := ⟨_, rfl⟩
      rw [hq] at HQ
      have a1 := and15b q HQ.out m hm
      have hm16 : m < 16 := by omega
      have m0 : (0 : Int) ≤ (m : Int) := by omega
      have m1 : (m : Int) < 16 := by omega
      obtain ⟨c, hc, hh⟩ := dig16 m hm16
      have hcv := conv_dig m hm16
      rw [hh] at hcv
      have hcat := ByteArray.mk_append_mk d [c]
      obtain ⟨D, hD⟩ : ∃ D, d ++ [c] = D := ⟨_, rfl⟩
      rw [hD] at hcat
      have HD2 : Hid (D = hexj (7 + 1) (n / 16 ^ (8 - (7 + 1)))) := by
        show _ = _
        have e1 : n / 16 ^ (8 - (7 + 1)) = q := hq
        have e2 : n / 16 ^ (8 - 7) = q / 16 := by rw [← hq, Nat.div_div_eq_div_mul]
        rw [e1, ← hD, HD.out, e2]
        show _ = hexj 7 (q / 16) ++ [hexd (q % 16)]
        rw [hm, hh]
      have HL2 : Hid (D.length ≤ 8) := by show _ ≤ _; rw [HD2.out, hexj_len]; decide
      have hdl := HL.out
      clear hq hm hh hD HD
      go_wp2_with fail
      go_round
      case rel => exact ⟨7 + 1, D, by decide, rfl, by go_num, HD2, HL2⟩
      case measure => simp [intOf]
    · have HE : Hid (d = hexj 8 n) := by show _ = _; rw [HD.out]; show hexj 8 (n / 1) = _; rw [Nat.div_one]
      go_wp2_with fail
      go_ret
      exact ⟨by rw [HE.out]; rfl, rfl⟩
/-- What Few tells. -/
def Lk.FewR (w : World) (n : Nat) (l : List Ent) (e : Ending) (w' : World) : Prop := ∃ r, e = .returned (.bool r) ∧ Below w.heap.size w w' ∧ (r = true → n ≤ 80 ∧ ∀ e ∈ l, e.1.length ≤ 100 ∧ e.2.length ≤ 100)
set_option maxRecDepth 100000 in
set_option maxHeartbeats 1600000 in
theorem few8_any (A : Option Addr) (n c : Nat) (l : List Ent) (w : World) (hn : l.length = n) (hr : ERow w A l) :
    Calls Tryz.prog 9 #[.slice A n c] w (FewR w n l) := by
  have HN := Lib.hid hn
  have HR := Lib.hid hr
  clear hn hr
  by_cases h80 : 80 < n
  · have d0 : decide ((80 : Int) < (n : Int)) = true := decide_eq_true (by omega)
    go_enter Tryz.func9, Tryz.ntmps9
    go_wp2_with fail
    go_ret
    exact ⟨false, rfl, Below.refl _ _, fun h => absurd h Bool.false_ne_true⟩
  · have d0 : decide ((80 : Int) < (n : Int)) = false := decide_eq_false (by omega)
    have hn80 : n ≤ 80 := by omega
    clear h80
    go_enter Tryz.func9, Tryz.ntmps9
    go_wp2_with fail
    go_loop [3] (fun i => ∃ k : Nat, k ≤ n ∧ i = .int .i64 k ∧ Hid (∀ e ∈ l.take k, e.1.length ≤ 100 ∧ e.2.length ≤ 100)) (fun i => n - (intOf i).toNat)
    case atStart => exact ⟨0, Nat.zero_le _, rfl, fun e he => absurd he (by simp)⟩
    case round =>
      obtain ⟨k, hk, rfl, HK⟩ := hrel
      by_cases hlt : k < n
      · have hkl : k < l.length := by rw [HN.out]; exact hlt
        obtain ⟨ad, rfl, hc⟩ := erow_at HR.out k hkl
        obtain ⟨c0, c1⟩ := hc _ (Below.refl _ _)
        have ht : l.take (k + 1) = l.take k ++ [l[k]] := List.take_succ_eq_append_getElem hkl
        obtain ⟨E, hE⟩ : ∃ E, l[k] = E := ⟨_, rfl⟩
        rw [hE] at c0 c1 ht
        obtain ⟨nm, v⟩ := E
        dsimp only at c0 c1
        have HT := Lib.hid ht
        clear hc hE ht
        by_cases h1 : 100 < nm.length
        · have d1 : decide ((100 : Int) < (nm.length : Int)) = true := decide_eq_true (by omega)
          go_wp2_with fail
          go_ret
          exact ⟨false, rfl, Below.refl _ _, fun h => absurd h Bool.false_ne_true⟩
        · have d1 : decide ((100 : Int) < (nm.length : Int)) = false := decide_eq_false (by omega)
          by_cases h2 : 100 < v.length
          · have d2 : decide ((100 : Int) < (v.length : Int)) = true := decide_eq_true (by omega)
            go_wp2_with fail
            go_ret
            exact ⟨false, rfl, Below.refl _ _, fun h => absurd h Bool.false_ne_true⟩
          · have d2 : decide ((100 : Int) < (v.length : Int)) = false := decide_eq_false (by omega)
            have HK2 : Hid (∀ e ∈ l.take (k + 1), e.1.length ≤ 100 ∧ e.2.length ≤ 100) := fun e he => by
              rw [HT.out] at he
              rcases List.mem_append.1 he with he | he
              · exact HK.out e he
              · rw [List.mem_singleton.1 he]; constructor <;> (dsimp only; omega)
            go_wp2_with fail
            go_round
            case rel => exact ⟨k + 1, by omega, by go_num, HK2⟩
            case measure => simp [intOf]; omega
      · obtain rfl : k = n := by omega
        have HK2 : Hid (∀ e ∈ l, e.1.length ≤ 100 ∧ e.2.length ≤ 100) := fun e he => HK.out e (by rw [List.take_of_length_le (by rw [HN.out]; exact Nat.le_refl _)]; exact he)
        go_wp2_with fail
        go_ret
        exact ⟨true, rfl, Below.refl _ _, fun _ => ⟨hn80, HK2.out⟩⟩
end Go.Proofs.YtojhapnodjabdaaGreatDoor
