/- The reference's Decimal, walked, for the texts of stanzas: a number in digits, exactly. -/
import Derived.Test.YtoioeekfnnoaoaaGreatDoorBa
import Derived.Laws.IdiomStrings
namespace Go.Proofs.YtoioeekfnnoaoaaGreatDoor.Sz
open Go.RowKit

/-- The digit of a number below ten. -/
def dg (n : Nat) : UInt8 := UInt8.ofNat (48 + n % 10)
theorem dg_nat (n : Nat) : (dg n).toNat = 48 + n % 10 := by
  unfold dg
  rw [UInt8.toNat_ofNat']
  omega
theorem conv_one (w : World) (T : TypeId) (x : Int) (n : Nat) (hx : x = ((n % 10 : Nat) : Int)) : (convert 69 9 (.slice (some ⟨w.heap.size, 0, none⟩) 1 1)).run Tryz.prog (w.alloc (.cells #[.int .u8 (48 + x)] T)) = .ok (.string ⟨[dg n].toArray⟩) (w.alloc (.cells #[.int .u8 (48 + x)] T)) :=
  run_convert_bytes_back (P := Tryz.prog) _ _ _ _ _ 1 [dg n] Tryz.underlying69 Tryz.underlying5 Tryz.underlying9 (fun j hj => by
    match j, hj with
    | 0, _ =>
      have h2 : ([dg n][0].toNat : Int) = 48 + x := by show ((dg n).toNat : Int) = _; rw [dg_nat, hx]; omega
      rw [h2]
      simp [Addr.add])
/-- A number's digits, no more than k + 1. -/
def decF : Nat → Nat → List UInt8
  | 0, n => [dg n]
  | k + 1, n => if n < 10 then [dg n] else decF k (n / 10) ++ [dg n]
theorem decF_succ (k n : Nat) : decF (k + 1) n = if n < 10 then [dg n] else decF k (n / 10) ++ [dg n] := rfl
/-- A number in digits. -/
def decT (n : Nat) : List UInt8 := decF 20 n
/-- What Decimal's loop keeps: what is left, what is written. -/
def DcSt (n m : Nat) (d : List UInt8) : Prop := ∃ k, d.length + k = 21 ∧ m < 10 ^ k ∧ decT n = if m < 10 then d else decF (k - 1) (m / 10) ++ d
theorem dcSt_start {n : Nat} (hn : n < 10000000000000000000) : DcSt n n [dg n] :=
  ⟨20, rfl, by have : (10 : Nat) ^ 20 = 100000000000000000000 := by decide
               omega, rfl⟩
theorem dcSt_next {n m : Nat} {d : List UInt8} (h : DcSt n m d) (hm : 10 ≤ m) : DcSt n (m / 10) (dg (m / 10) :: d) ∧ d.length < 20 := by
  obtain ⟨k, hk, hp, he⟩ := h
  rw [if_neg (by omega)] at he
  match k, hk, hp, he with
  | 0, _, hp, _ => simp at hp; omega
  | 1, _, hp, _ => simp at hp; omega
  | k + 2, hk, hp, he =>
    refine ⟨⟨k + 1, by rw [List.length_cons]; omega, ?_, ?_⟩, by omega⟩
    · rw [Nat.pow_succ] at hp; omega
    · rw [he]
      show decF (k + 1) (m / 10) ++ d = if m / 10 < 10 then dg (m / 10) :: d else decF k (m / 10 / 10) ++ dg (m / 10) :: d
      rw [decF_succ]
      by_cases h : m / 10 < 10
      · rw [if_pos h, if_pos h]; rfl
      · rw [if_neg h, if_neg h, List.append_assoc]; rfl
set_option maxHeartbeats 800000 in
theorem decT_any (n : Nat) (hn : n < 10000000000000000000) (w : World) :
    Calls Tryz.prog 68 #[.int .u64 n] w fun e w' => e = .returned (.string ⟨(decT n).toArray⟩) ∧ Below w.heap.size w w' := by
  have hn0 : (0 : Int) ≤ (n : Int) := by omega
  have HN := Lib.hid hn
  clear hn
  obtain ⟨R, hR⟩ : ∃ R, decT n = R := ⟨_, rfl⟩
  have HR := Lib.hid hR
  rw [hR]
  clear hR
  go_enter Tryz.func68, Tryz.ntmps68
  have hcv := conv_one w 5 ((n : Int) % 10) n (by omega)
  go_wp2_with fail
  have HS0 := Lib.hid (dcSt_start HN.out)
  have hb0 : Below w.heap.size w (w.alloc (.cells #[.int .u8 (48 + (n : Int) % 10)] 5)) := (Below.refl _ _).alloc (Nat.le_refl _) _
  have HB0 := Lib.hid hb0
  clear hcv hb0
  go_loopw [0, 3] (fun x s wr => ∃ (m : Nat) (d : List UInt8), m ≤ n ∧ x = .int .u64 m ∧ s = .string ⟨d.toArray⟩ ∧ d.length ≤ 20 ∧ Hid (DcSt n m d) ∧ Hid (Below w.heap.size w wr)) (fun x _ _ => (intOf x).toNat)
  case atStart => exact ⟨n, [dg n], Nat.le_refl _, rfl, rfl, by simp, HS0, HB0⟩
  case round =>
    clear HS0 HB0 hn0
    obtain ⟨m, d, hmn, rfl, rfl, hd, HS, HB⟩ := hrel
    have hm0 : (0 : Int) ≤ (m : Int) := by omega
    by_cases h10 : 10 ≤ m
    · have g1 : (10 : Int) ≤ (m : Int) := by omega
      obtain ⟨hs1, hl1⟩ := dcSt_next HS.out h10
      have HS1 := Lib.hid hs1
      have hdv : (m : Int) / 10 = ((m / 10 : Nat) : Int) := by omega
      have hcv := conv_one wr 5 (((m / 10 : Nat) : Int) % 10) (m / 10) (by omega)
      have hcv' : (convert 69 9 (.slice (some ⟨wr.heap.size, 0, none⟩) 1 1)).run Tryz.prog (wr.alloc (.cells #[.int .u8 (48 + (m : Int) / 10 % 10)] 5)) = .ok (.string ⟨[dg (m / 10)].toArray⟩) (wr.alloc (.cells #[.int .u8 (48 + (m : Int) / 10 % 10)] 5)) := by rw [hdv]; exact hcv
      have HDV := Lib.hid hdv
      clear hcv hdv hs1
      obtain ⟨c, hc⟩ : ∃ c, dg (m / 10) = c := ⟨_, rfl⟩
      rw [hc] at hcv' HS1
      have hwr : IntKind.u64.wrap ((m : Int) / 10) = (m : Int) / 10 := IntWalk.u64_in _ (by have := HN.out; omega)
      have hq0 : (0 : Int) ≤ (m : Int) / 10 := by omega
      clear hc HS
      go_wp2_with fail
      go_roundw
      case rel => exact ⟨m / 10, c :: d, by omega, by rw [HDV.out], congrArg Value.string (ByteArray.mk_append_mk [c] d), by rw [List.length_cons]; omega, HS1, HB.out.alloc HB.out.size _⟩
      case measure => simp [intOf]; omega
    · have HD : Hid (R = d) := by
        obtain ⟨k, _, _, he⟩ := HS.out
        rw [if_pos (by omega)] at he
        show _ = _
        rw [← HR.out, he]
      go_wp2_with fail
      go_ret
      rw [HD.out]
      exact ⟨rfl, HB.out⟩
theorem decF_all : ∀ k n, ∀ c ∈ decF k n, 48 ≤ c.toNat ∧ c.toNat ≤ 57
  | 0, n, c, h => by
    rw [List.mem_singleton.1 h, dg_nat]; omega
  | k + 1, n, c, h => by
    rw [decF_succ] at h
    split at h
    · rw [List.mem_singleton.1 h, dg_nat]; omega
    · rcases List.mem_append.1 h with h | h
      · exact decF_all k _ c h
      · rw [List.mem_singleton.1 h, dg_nat]; omega
theorem decF_len : ∀ k n, (decF k n).length ≤ k + 1
  | 0, n => Nat.le_refl _
  | k + 1, n => by
    rw [decF_succ]
    split
    · simp
    · rw [List.length_append]
      have := decF_len k (n / 10)
      simp; omega
end Go.Proofs.YtoioeekfnnoaoaaGreatDoor.Sz
