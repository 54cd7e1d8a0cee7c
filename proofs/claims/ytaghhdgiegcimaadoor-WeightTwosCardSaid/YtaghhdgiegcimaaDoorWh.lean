/- The world's tables; trailing zeros; the program's text of a number. -/
import Derived.Test.YtaghhdgiegcimaaDoorWg
import Derived.Test.YtaghhdgiegcimaaDoorWq
import Derived.Test.YtaghhdgiegcimaaDoorVh
import Derived.WalkSmall
import Derived.Lib.AppendIntMem
import Derived.Lib.ItoaLen
import Derived.Lib.TrailingZeros
namespace Go.Proofs.YtaghhdgiegcimaaDoor
open Go.RowKit

namespace Wm
theorem ctz_tz {x : Nat} (h0 : 0 < x) (h : x < 18446744073709551616) : Lib.ctz 64 x = tz x := by
  obtain ⟨m, e, _⟩ := Lib.ctzFrom_spec 64 x h0 h
  have : Lib.ctz 64 x = Lib.ctzFrom 64 x := by unfold Lib.ctz; rw [if_neg (by omega)]
  rw [this]
  generalize Lib.ctzFrom 64 x = t at *
  rw [e, Nat.mul_comm, tz_mul (by omega), tz_odd (by omega)]; omega
theorem tz_lt {m i : Nat} (h0 : 0 < m) (h : m < 2 ^ i) : tz m < i := by
  have e := (od_spec m m (Nat.le_refl _) h0).2
  have hp := od_pos h0
  rcases Nat.lt_or_ge (tz m) i with h1 | h1
  · exact h1
  · have : 2 ^ i ≤ 2 ^ tz m := Nat.pow_le_pow_right (by decide) h1
    have : 1 * 2 ^ tz m ≤ od m * 2 ^ tz m := Nat.mul_le_mul_right _ hp
    omega
theorem tz_neg {m : Nat} (h0 : 0 < m) (h : m < 2 ^ 53) : tz (18446744073709551616 - m) = tz m := by
  obtain ⟨ho, e⟩ := od_spec m m (Nat.le_refl _) h0
  have ht := tz_lt h0 h
  have hle := od_le m
  generalize od m = k at *
  generalize tz m = t at *
  have e2 : 18446744073709551616 - m = (2 ^ (64 - t) - k) * 2 ^ t := by
    rw [Nat.sub_mul, ← Nat.pow_add, show 64 - t + t = 64 from by omega, ← e]
  have h2 : 2 ^ (64 - t) = 2 * 2 ^ (63 - t) := by rw [show 64 - t = (63 - t) + 1 from by omega, Nat.pow_succ]; omega
  have h4 : k < 2 ^ (64 - t) := by
    have h5 : k * 2 ^ t < 2 ^ (64 - t) * 2 ^ t := by
      rw [← Nat.pow_add, show 64 - t + t = 64 from by omega, ← e]; omega
    exact Nat.lt_of_mul_lt_mul_right h5
  rw [e2, tz_mul (by omega), tz_odd (by omega)]; omega
/-- The number with its sign. -/
def sg (n : Bool) (k : Nat) : Int := (if n then -1 else 1) * (k : Int)
theorem sg_nat (n : Bool) (k : Nat) : (sg n k).natAbs = k := by unfold sg; cases n <;> simp
def textF (n : Bool) (r : Nat) : List UInt8 := Lib.itoa (sg n (kOf r)) ++ 112 :: Lib.itoa (eOf r)
def signed (n : Bool) (l : List UInt8) : List UInt8 := if n then 45 :: l else l
/-- P201's Text. -/
def textW (b : Nat) : List UInt8 :=
  if nan b then [110, 97, 110] else if rung b = 9218868437227405312 then signed (neg b) [105, 110, 102] else if rung b = 0 then signed (neg b) [48] else textF (neg b) (rung b)
end Wm

/-- What the program leans on: the library's tables as its text lays them. -/
def KOk (w : World) : Prop := MaxOk w ∧ Lib.TabIs Tryd.prog w "internal/strconv.uint64pow10" .u64 Lib.pow10Tab ∧ Lib.TabIs Tryd.prog w "math/bits.deBruijn64tab" .u8 (Lib.deBruijn64tab.map Int.ofNat) ∧ ∃ tp p, w.var? Tryd.prog "strconv.ErrRange" = some #[.iface tp p]
theorem var_lt {w : World} {n : String} {g : Nat} {cs : Array Value} (hg : Tryd.prog.globalNamed n = some g) (h : w.var? Tryd.prog n = some cs) : g < w.heap.size := by
  unfold World.var? at h
  simp only [hg, Option.bind_some] at h
  rcases Nat.lt_or_ge g w.heap.size with h1 | h1
  · exact h1
  · simp [Array.getElem?_eq_none h1] at h
theorem kOk_below {w w' : World} (h : KOk w) (hb : Below w.heap.size w w') : KOk w' := by
  obtain ⟨h1, h2, h3, tp, p, h4⟩ := h
  have g2 : Tryd.prog.globalNamed "internal/strconv.uint64pow10" = some 5 := by kernel_rfl
  have g3 : Tryd.prog.globalNamed "math/bits.deBruijn64tab" = some 1 := by kernel_rfl
  have g4 : Tryd.prog.globalNamed "strconv.ErrRange" = some 3 := by kernel_rfl
  exact ⟨maxOk_below h1 hb, var?_below hb g2 (var_lt g2 h2) h2, var?_below hb g3 (var_lt g3 h3) h3, tp, p, var?_below hb g4 (var_lt g4 h4) h4⟩
theorem kOk_tab {w : World} (h : KOk w) : TabAt 1 Lib.deBruijn64tab w := by
  intro j hj
  have := Lib.TabIs.cell h.2.2.1 (show Tryd.prog.globalNamed "math/bits.deBruijn64tab" = some 1 by kernel_rfl) j (by simpa using hj)
  rw [this]
  simp [List.getD, hj]

set_option maxHeartbeats 2000000 in
theorem product_any (n : Bool) (r : Nat) (h : Fin r) (w : World) (hk : KOk w) :
    Calls Tryd.prog 63 #[.float .f64 (Wm.word n r)] w fun e w' => e = .returned (.string ⟨(Wm.textF n r).toArray⟩) ∧ Below w.heap.size w w' := by
  have hf := Wm.fOf_lt r
  obtain ⟨x1, x2⟩ := Wm.fx_spec h.1
  have h53 := Wm.ldx_53 n (Wm.fOf r) hf
  have hti := Wm.toInt_word n (Wm.fOf r) hf
  obtain ⟨M, hM⟩ : ∃ M, 4503599627370496 + Wm.fOf r = M := ⟨_, rfl⟩
  rw [hM] at x1 x2 hti
  obtain ⟨F, hF⟩ : ∃ F : Int, (if n then -1 else 1) * (M : Int) = F := ⟨_, rfl⟩
  rw [hF] at hti
  have hcv : ∀ W : World, (convert 39 2 (.float .f64 (Wm.word n (4841369599423283200 + Wm.fOf r)))).run Tryd.prog W = .ok (.int .i64 F) W :=
    fun W => run_convert_float_int W 39 2 .f64 .i64 _ _ (by kernel_rfl) Tryd.underlying2 hti
  have hM0 : 0 < M := by omega
  have hM1 : M < 2 ^ 53 := by omega
  have hFb : -9007199254740992 ≤ F ∧ F ≤ 9007199254740992 := by rw [← hF]; cases n <;> simp <;> omega
  obtain ⟨U, hU⟩ : ∃ U : Nat, IntKind.u64.wrap F = (U : Int) ∧ 0 < U ∧ U < 18446744073709551616 ∧ Wm.tz U = Wm.tz M := by
    rw [← hF]
    cases n
    · refine ⟨M, ?_, hM0, by omega, rfl⟩
      rw [IntKind.wrap_u64]; simp; omega
    · refine ⟨18446744073709551616 - M, ?_, by omega, by omega, Wm.tz_neg hM0 hM1⟩
      rw [IntKind.wrap_u64]; simp; omega
  have hctz := Wm.ctz_tz hU.2.1 hU.2.2.1
  rw [hU.2.2.2] at hctz
  have hz := Wm.tz_lt hM0 hM1
  have hU1 := hU.1
  have hFr : Fin (4602678819172646912 + Wm.fOf r) := ⟨by omega, by omega⟩
  clear hti
  go_enter Tryd.func63, Tryd.ntmps63
  go_wp2_with fail
  refine (frexp_any n r h _).mono ?_
  rintro e' w' ⟨rfl, rfl⟩
  go_wp2_with fail
  refine (ldexp_any n (4602678819172646912 + Wm.fOf r) 53 hFr (by omega) (by omega) _).mono ?_
  rintro e' w' ⟨rfl, rfl⟩
  rw [h53]
  clear h53 hf hM hFr
  go_wp2_with fail
  refine (Tryd.bits_TrailingZeros64 U hU.2.2.1 _ (fun _ => kOk_tab hk)).mono ?_
  rintro e' w' ⟨rfl, rfl⟩
  rw [hctz]
  clear hctz hU hcv hU1
  have HD : F / 2 ^ Wm.tz M = Wm.sg n (Wm.kOf r) := by
    have e := (Wm.od_spec M M (Nat.le_refl _) hM0).2
    rw [x1] at e
    rw [← hF]
    have e3 : (if n then -1 else 1) * (M : Int) = Wm.sg n (Wm.kOf r) * (2 : Int) ^ Wm.tz M := by
      unfold Wm.sg
      conv => lhs; rw [e]
      rw [Int.natCast_mul, Int.mul_assoc, Int.natCast_pow]; rfl
    rw [e3, Int.mul_ediv_cancel _ (Int.ne_of_gt (Int.pow_pos (by decide)))]
  have hkb := (Wm.kOf_spec h.1 h.2).2.1
  have hsb : -9007199254740992 ≤ Wm.sg n (Wm.kOf r) ∧ Wm.sg n (Wm.kOf r) ≤ 9007199254740992 := by unfold Wm.sg; cases n <;> simp <;> omega
  have hxb : -2000 ≤ Wm.xOf r ∧ Wm.xOf r ≤ 2000 := by
    have := h.2
    have := (Wm.nrm_lo h.1 h.2).2
    unfold Wm.xOf; split <;> omega
  have HT : Hid (Wm.textF n r = Lib.itoa (Wm.sg n (Wm.kOf r)) ++ 112 :: Lib.itoa (Wm.eOf r)) := rfl
  have he0 : Wm.xOf r + ((Wm.tz M : Int) - 53) = Wm.eOf r := by omega
  clear x1 x2 hF hkb
  generalize Wm.tz M = z at *
  go_wp2_with fail
  refine (Tryd.strconv_FormatInt_10 _ (by omega) (by omega) _ hk.2.1).mono ?_
  rintro e' w1 ⟨g1, k1, os1, g2⟩; subst g1
  have HB1 := Lib.hid (g2 ▸ Lib.below_grow _ _ (Nat.le_refl _) k1 os1 : Below w'.heap.size w' w1)
  have hk1 := kOk_below hk HB1.out
  clear g2 hk
  have hl1 := Lib.itoa_length_le (Wm.sg n (Wm.kOf r)) (by omega) (by omega)
  have hl2 := Lib.itoa_length_le (Wm.eOf r) (by omega) (by omega)
  go_wp2_with fail
  refine (Tryd.strconv_Itoa _ (by omega) (by omega) _ hk1.2.1).mono ?_
  rintro e' w2 ⟨g1, k2, os2, g2⟩; subst g1
  have HB2 := Lib.hid (HB1.out.trans ((g2 ▸ Lib.below_grow _ _ (Nat.le_refl _) k2 os2 : Below w1.heap.size w1 w2).mono HB1.out.size))
  clear g2
  go_wp2_with fail
  go_ret
  refine ⟨?_, HB2.out⟩
  rw [HT.out]
  show Ending.returned (.string ((ByteArray.mk _ ++ ByteArray.mk #[112]) ++ ByteArray.mk _)) = _
  rw [show (#[112] : Array UInt8) = ([112] : List UInt8).toArray from rfl, ByteArray.mk_append_mk, ByteArray.mk_append_mk, List.append_assoc]
  rfl
end Go.Proofs.YtaghhdgiegcimaaDoor
