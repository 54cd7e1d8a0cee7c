/- WeightTwos. -/
import Derived.Test.YtaghhdgiegcimaaDoorWan
namespace Go.Proofs.YtaghhdgiegcimaaDoor
open Go.RowKit

set_option maxHeartbeats 800000 in
set_option maxRecDepth 20000 in
theorem decN_any (n : Nat) (hn : n < 9223372036854775808) (w : World) :
    Calls Tryd.prog 42 #[.int .i64 n] w fun e w' => e = .returned (.string ⟨(Lib.itoa n).toArray⟩) ∧ Below w.heap.size w w' := by
  have hn0 : (0 : Int) ≤ (n : Int) := by omega
  have HI : Hid (Lib.itoa (n : Int) = Lib.decDigits n) := by show _ = _; unfold Lib.itoa; rw [if_neg (by omega)]; rfl
  have HN := Lib.hid hn
  clear hn
  go_enter Tryd.func42, Tryd.ntmps42
  have hcv := conv_oneW w 5 (48 + (n : Int) % 10) (dgt n) (by rw [dgt_nat]; omega)
  go_wp2_with fail
  have HS0 := Lib.hid (dSt_start n)
  have hb0 : Below w.heap.size w (w.alloc (.cells #[.int .u8 (48 + (n : Int) % 10)] 5)) := (Below.refl _ _).alloc (Nat.le_refl _) _
  have HB0 := Lib.hid hb0
  clear hcv hb0
  go_loopw [0, 3] (fun x s wr => ∃ (m : Nat) (d : List UInt8), x = .int .i64 m ∧ s = .string ⟨d.toArray⟩ ∧ d.length ≤ 20 ∧ Hid (DSt n m d) ∧ Hid (Below w.heap.size w wr)) (fun x _ _ => (intOf x).toNat)
  case atStart => exact ⟨n, [dgt n], rfl, rfl, by simp, HS0, HB0⟩
  case round =>
    clear HS0 HB0 hn0
    obtain ⟨m, d, rfl, rfl, hd, HS, HB⟩ := hrel
    have hm0 : (0 : Int) ≤ (m : Int) := by omega
    by_cases h10 : 10 ≤ m
    · have g1 : (10 : Int) ≤ (m : Int) := by omega
      have HS1 := Lib.hid (dSt_next HS.out h10)
      have hl1 := dSt_len HS1.out (by have := HN.out; omega)
      have hcv := conv_oneW wr 5 (48 + (m : Int) / 10 % 10) (dgt (m / 10)) (by rw [dgt_nat]; omega)
      obtain ⟨c, hc⟩ : ∃ c, dgt (m / 10) = c := ⟨_, rfl⟩
      rw [hc] at hcv HS1 hl1
      have hmn := HS.out.2
      have HDV : Hid ((m : Int) / 10 = ((m / 10 : Nat) : Int)) := by show _ = _; omega
      have hq0 : (0 : Int) ≤ (m : Int) / 10 := by omega
      have hq1 : (m : Int) / 10 ≤ 922337203685477580 := by have := HN.out; omega
      clear hc HS hmn
      go_wp2_with fail
      go_roundw
      case rel => exact ⟨m / 10, c :: d, by rw [HDV.out], congrArg Value.string (ByteArray.mk_append_mk [c] d), hl1, HS1, HB.out.alloc HB.out.size _⟩
      case measure => simp [intOf]; omega
    · go_wp2_with fail
      go_ret
      have h := HS.out.1
      rw [if_pos (by omega)] at h
      exact ⟨by rw [HI.out, ← h]; rfl, HB.out⟩
set_option maxRecDepth 20000 in
set_option maxHeartbeats 800000 in
theorem decL_any (n : Int) (h1 : -5000 ≤ n) (h2 : n < 9223372036854775808) (w : World) :
    Calls Tryd.prog 42 #[.int .i64 n] w fun e w' => e = .returned (.string ⟨(Lib.itoa n).toArray⟩) ∧ Below w.heap.size w w' := by
  by_cases hn : 0 ≤ n
  · obtain ⟨k, rfl⟩ : ∃ k : Nat, n = k := ⟨n.toNat, by omega⟩
    exact decN_any k (by omega) w
  · obtain ⟨k, rfl⟩ : ∃ k : Nat, n = -(k : Int) := ⟨n.natAbs, by omega⟩
    have HV : Hid (Lib.itoa (-(k : Int)) = 45 :: Lib.itoa k) := by
      show _ = _; unfold Lib.itoa
      rw [if_pos (by omega), if_neg (by omega), Int.natAbs_neg, Int.natAbs_natCast, Int.toNat_natCast]
    have hl := Lib.itoa_length_le (k : Int) (by omega) (by omega)
    have hk0 : 0 < k := by omega
    clear hn h2
    go_enter Tryd.func42, Tryd.ntmps42
    go_wp2_with fail
    refine (decN_any k (by omega) _).mono ?_
    rintro _ w1 ⟨rfl, hb⟩
    have HD := Lib.hid hb
    clear hb
    go_wp2_with fail
    go_ret
    refine ⟨?_, HD.out⟩
    rw [HV.out]
    show Ending.returned (.string (ByteArray.mk ([45] : List UInt8).toArray ++ ByteArray.mk (Lib.itoa k).toArray)) = _
    rw [ByteArray.mk_append_mk]; rfl
end Go.Proofs.YtaghhdgiegcimaaDoor
