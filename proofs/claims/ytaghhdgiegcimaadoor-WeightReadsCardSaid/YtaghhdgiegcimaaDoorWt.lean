/- The reference's texts of numbers: Decimal, Word. -/
import Derived.Test.YtaghhdgiegcimaaDoorWr
namespace Go.Proofs.YtaghhdgiegcimaaDoor
open Go.RowKit

theorem conv_oneW (w : World) (T : TypeId) (x : Int) (b : UInt8) (hx : (b.toNat : Int) = x) : (convert 78 9 (.slice (some ⟨w.heap.size, 0, none⟩) 1 1)).run Tryd.prog (w.alloc (.cells #[.int .u8 x] T)) = .ok (.string ⟨[b].toArray⟩) (w.alloc (.cells #[.int .u8 x] T)) :=
  run_convert_bytes_back (P := Tryd.prog) _ _ _ _ _ 1 [b] Tryd.underlying78 Tryd.underlying5 Tryd.underlying9 (fun j hj => by
    match j, hj with
    | 0, _ =>
      have h2 : ([b][0].toNat : Int) = x := hx
      rw [h2]
      simp [Addr.add])
def dgt (n : Nat) : UInt8 := UInt8.ofNat (48 + n % 10)
theorem dgt_nat (n : Nat) : (dgt n).toNat = 48 + n % 10 := by unfold dgt; rw [UInt8.toNat_ofNat']; omega
/-- The digits d end the numeral of n, of which m is still to be told. -/
def DSt (n m : Nat) (d : List UInt8) : Prop := (if m < 10 then d else Lib.decDigits (m / 10) ++ d) = Lib.decDigits n ∧ m ≤ n
theorem dSt_start (n : Nat) : DSt n n [dgt n] := by
  refine ⟨?_, Nat.le_refl _⟩
  unfold dgt
  split
  · rename_i h; rw [Wm.dec_small h, show n % 10 = n from by omega]
  · rename_i h; rw [Wm.dec_big h]
theorem dSt_next {n m : Nat} {d : List UInt8} (h : DSt n m d) (hm : 10 ≤ m) : DSt n (m / 10) (dgt (m / 10) :: d) := by
  obtain ⟨h1, h2⟩ := h
  refine ⟨?_, by omega⟩
  rw [if_neg (by omega)] at h1
  rw [← h1]
  unfold dgt
  split
  · rename_i h3; rw [Wm.dec_small h3, show m / 10 % 10 = m / 10 from by omega]; rfl
  · rename_i h3; conv => rhs; rw [Wm.dec_big h3]
    rw [List.append_assoc]; rfl
theorem dSt_len {n m : Nat} {d : List UInt8} (h : DSt n m d) (hn : n < 18446744073709551616) : d.length ≤ 20 := by
  have h1 := congrArg List.length h.1
  have h2 : (Lib.decDigits n).length ≤ 20 := by rw [Lib.decDigits_length]; exact Lib.nDigits_le20 n hn
  split at h1
  · omega
  · rw [List.length_append] at h1; omega
set_option maxHeartbeats 800000 in
theorem decimalW_any (n : Nat) (hn : n < 18446744073709551616) (w : World) :
    Calls Tryd.prog 21 #[.int .u64 n] w fun e w' => e = .returned (.string ⟨(Lib.decDigits n).toArray⟩) ∧ Below w.heap.size w w' := by
  have hn0 : (0 : Int) ≤ (n : Int) := by omega
  have HN := Lib.hid hn
  clear hn
  go_enter Tryd.func21, Tryd.ntmps21
  have hcv := conv_oneW w 5 (48 + (n : Int) % 10) (dgt n) (by rw [dgt_nat]; omega)
  go_wp2_with fail
  have HS0 := Lib.hid (dSt_start n)
  have hb0 : Below w.heap.size w (w.alloc (.cells #[.int .u8 (48 + (n : Int) % 10)] 5)) := (Below.refl _ _).alloc (Nat.le_refl _) _
  have HB0 := Lib.hid hb0
  clear hcv hb0
  go_loopw [0, 3] (fun x s wr => ∃ (m : Nat) (d : List UInt8), x = .int .u64 m ∧ s = .string ⟨d.toArray⟩ ∧ d.length ≤ 20 ∧ Hid (DSt n m d) ∧ Hid (Below w.heap.size w wr)) (fun x _ _ => (intOf x).toNat)
  case atStart => exact ⟨n, [dgt n], rfl, rfl, by simp, HS0, HB0⟩
  case round =>
    clear HS0 HB0 hn0
    obtain ⟨m, d, rfl, rfl, hd, HS, HB⟩ := hrel
    have hm0 : (0 : Int) ≤ (m : Int) := by omega
    by_cases h10 : 10 ≤ m
    · have g1 : (10 : Int) ≤ (m : Int) := by omega
      have HS1 := Lib.hid (dSt_next HS.out h10)
      have hl1 := dSt_len HS1.out HN.out
      have hcv := conv_oneW wr 5 (48 + (m : Int) / 10 % 10) (dgt (m / 10)) (by rw [dgt_nat]; omega)
      obtain ⟨c, hc⟩ : ∃ c, dgt (m / 10) = c := ⟨_, rfl⟩
      rw [hc] at hcv HS1 hl1
      have hwr : IntKind.u64.wrap ((m : Int) / 10) = (m : Int) / 10 := IntWalk.u64_in _ (by have := HS.out.2; have := HN.out; omega)
      have hq0 : (0 : Int) ≤ (m : Int) / 10 := by omega
      have HDV : Hid ((m : Int) / 10 = ((m / 10 : Nat) : Int)) := by show _ = _; omega
      clear hc HS
      go_wp2_with fail
      go_roundw
      case rel => exact ⟨m / 10, c :: d, by rw [HDV.out], congrArg Value.string (ByteArray.mk_append_mk [c] d), hl1, HS1, HB.out.alloc HB.out.size _⟩
      case measure => simp [intOf]; omega
    · go_wp2_with fail
      go_ret
      have h := HS.out.1
      rw [if_pos (by omega)] at h
      exact ⟨by rw [← h]; rfl, HB.out⟩
end Go.Proofs.YtaghhdgiegcimaaDoor
