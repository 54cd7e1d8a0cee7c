/- What Close asks; Close: walked. -/
import Derived.Test.YtjkmdghlhodhiaaOxf
import Derived.Test.YtjkmdghlhodhiaaOxd
import Derived.Test.YtjkmdghlhodhiaaOk
import Derived.Test.YtjkmdghlhodhiaaEx
namespace Go.Proofs.Ytjkmdghlhodhiaa
open Go.RowKit Cl Up
attribute [local go_sem ↓] Go.wp_at_zero Go.wp_at_succ
theorem Up.check_good {n : Nat} {l : List (List Int)} (hn : n ≤ 256) (hl : l.length ≤ 131072) (hln : ∀ c ∈ l, ∀ x ∈ c, LitOf n x) (hlc : ∀ c ∈ l, c.length ≤ 256) : checkAll n l = (0, 0) := by
  have hb : nBad (n : Int) = false := by unfold nBad; simp; omega
  unfold checkAll
  rw [if_neg (by rw [hb]; decide), if_neg (by omega)]
  refine firstC_ok n l 0 fun c hc => ?_
  rw [clE_check hb]
  unfold clE
  rw [if_neg (by have := hlc c hc; omega), if_neg]
  rw [List.any_eq_true]
  rintro ⟨x, h1, h2⟩
  obtain ⟨a0, a1, a2⟩ := hln c hc x h1
  unfold litBad at h2
  simp at h2
  omega
set_option maxRecDepth 100000 in
set_option maxHeartbeats 1600000 in
theorem pAccept_any (n : Nat) (A B : Option Addr) (ll kk c d : Nat) (l : List (List Int)) (s : List Int) (w : World) (hl : l.length = ll) (hg : GRow w A l) (hk : s.length = kk) (hs : IRow w B s) (hn : n ≤ 256) (hln : ∀ c ∈ l, ∀ x ∈ c, LitOf n x) (hsn : ∀ x ∈ s, LitOf n x) (hl2 : ll ≤ 1000) (hk2 : kk ≤ 1000) (hlc : ∀ c ∈ l, c.length ≤ 256) :
    Calls Try.prog 54 #[.int .i64 n, .slice A ll c, .slice B kk d] w fun e w' => e = .returned (.tuple #[]) ∧ Below w.heap.size w w' := by
  have HCA : Hid (Calls Try.prog 25 #[.int .i64 n, .slice A ll c] w fun e w' => e = .returned (.tuple #[.int .i64 0, .int .i64 0]) ∧ Below w.heap.size w w') := by
    have h := pCheckAll_any n A ll c l w hl hg
    rw [check_good hn (by omega) hln hlc] at h
    exact h
  have HK := Lib.hid hk
  have HS := Lib.hid hs
  have HSN := Lib.hid hsn
  have wn : IntKind.i64.wrap (-(n : Int)) = -(n : Int) := IntWalk.i64_in _ (by omega)
  have wn2 : IntKind.i64.wrap (0 - (n : Int)) = -(n : Int) := (IntWalk.i64_in _ (by omega)).trans (by omega)
  clear hl hg hk hs hln hsn hlc
  go_enter Try.func54, Try.ntmps54
  go_wp2_with (go_at_call 25; refine HCA.out.mono ?_)
  rintro _ u1 ⟨rfl, hb⟩
  have HB1 := Lib.hid hb
  clear hb HCA
  go_wp2_with fail
  refine (require_yes _).mono ?_
  rintro _ z ⟨rfl, rfl⟩
  go_wp2_with fail
  go_loopw [22] (fun i wr => ∃ k : Nat, k ≤ kk ∧ i = .int .i64 k ∧ Hid (Below w.heap.size w wr)) (fun i _ => kk - (intOf i).toNat)
  case atStart => exact ⟨0, Nat.zero_le _, rfl, HB1⟩
  case round =>
    obtain ⟨k, hk, rfl, HB⟩ := hrel
    by_cases hlt : k < kk
    · have HKL := Lib.hid hlt
      have hkl : k < s.length := by rw [HK.out]; exact hlt
      obtain ⟨ad, x, rfl, hx, hxb, hc⟩ := irow_at (irow_below HS.out HB.out) k hkl
      obtain ⟨a0, a1, a2⟩ := HSN.out x (hx ▸ List.getElem_mem hkl)
      have j0 : (0 : Int) ≤ (k : Int) := by omega
      have j1 : (k : Int) < (kk : Int) := by omega
      have d0 : decide (-(n : Int) ≤ x) = true := decide_eq_true a2
      have d1 : decide (x ≤ (n : Int)) = true := decide_eq_true a1
      have d2 : (x != 0) = true := by simpa using a0
      clear hx hxb hkl a0 a1 a2
      go_wp2_with fail
      refine (require_yes _).mono ?_
      rintro _ z ⟨rfl, rfl⟩
      go_wp2_with fail
      go_roundw
      case rel => exact ⟨k + 1, (by have := HKL.out; omega), by go_num, HB.out⟩
      case measure => have := HKL.out; simp [intOf]; omega
    · go_wp2_with fail
      go_end0
      exact ⟨rfl, HB.out⟩
end Go.Proofs.Ytjkmdghlhodhiaa
