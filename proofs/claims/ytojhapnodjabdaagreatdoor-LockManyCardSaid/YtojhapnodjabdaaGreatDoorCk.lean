/- A number in digits of sixteen, as the library tells it: walked. -/
import Derived.Test.YtojhapnodjabdaaGreatDoorCg
import Derived.Test.YtojhapnodjabdaaGreatDoorCc
import Derived.Laws.BitsAllLaws
import Derived.Laws.ShiftsVarLaws
namespace Go.Proofs.YtojhapnodjabdaaGreatDoor
open Go.RowKit Lk
/-- What the library's table must hold. -/
def Lk.Sixt (w : World) : Prop := w.cell? ⟨3, 15, none⟩ = some (.int .u8 4)
/-- What the walks ask of a world. -/
def Lk.WOk (w : World) : Prop := MaxOk w ∧ Sixt w
theorem Lk.wok_below {w w' : World} (h : WOk w) (hb : Below w.heap.size w w') : WOk w' := by
  refine ⟨maxOk_below h.1 hb, ?_⟩
  have hlt := World.block_lt_of_cell? w _ h.2
  exact (hb.cell hlt).trans h.2
attribute [local go_sem ↓] Go.wp_at_zero Go.wp_at_succ
set_option maxRecDepth 100000 in
theorem tz64_any (w : World) (h : Sixt w) : Calls Tryz.prog 126 #[.int .u64 16] w fun e w' => e = .returned (.int .i64 4) ∧ w = w' := by
  have h15 : w.cell? ⟨3, 15, none⟩ = some (.int .u8 4) := h
  have b1 : Go.bits .and .u64 16 (IntKind.u64.wrap (-16)) = 16 := by decide
  have b2 : Go.bits .and .u64 16 18446744073709551600 = 16 := by decide
  go_enter Tryz.func126, Tryz.ntmps126
  go_wp2_with fail
  go_ret
  exact ⟨rfl, rfl⟩
theorem tz_any (w : World) (h : Sixt w) : Calls Tryz.prog 112 #[.int .u64 16] w fun e w' => e = .returned (.int .i64 4) ∧ w = w' := by
  go_enter Tryz.func112, Tryz.ntmps112
  go_wp2_with fail
  refine (tz64_any _ h).mono ?_
  rintro _ z ⟨rfl, rfl⟩
  go_wp2_with fail
  go_ret
  exact ⟨rfl, rfl⟩
theorem isPow_any (w : World) : Calls Tryz.prog 111 #[.int .i64 16] w fun e w' => e = .returned (.bool true) ∧ w = w' := by
  have b1 : Go.bits .and .i64 16 15 = 0 := by decide
  go_enter Tryz.func111, Tryz.ntmps111
  go_wp2_with fail
  go_ret
  exact ⟨rfl, rfl⟩
theorem Lk.dig_at (m : Nat) (h : m < 16) : ∃ c, ({ data := #[48, 49, 50, 51, 52, 53, 54, 55, 56, 57, 97, 98, 99, 100, 101, 102, 103, 104, 105, 106, 107, 108, 109, 110, 111, 112, 113, 114, 115, 116, 117, 118, 119, 120, 121, 122] } : ByteArray)[m]'(Nat.lt_trans h (by decide)) = c ∧ hexd m = c := by
  refine ⟨_, rfl, ?_⟩
  have key : ∀ m (h : m < 16), hexd m = ({ data := #[48, 49, 50, 51, 52, 53, 54, 55, 56, 57, 97, 98, 99, 100, 101, 102, 103, 104, 105, 106, 107, 108, 109, 110, 111, 112, 113, 114, 115, 116, 117, 118, 119, 120, 121, 122] } : ByteArray)[m]'(Nat.lt_trans h (by decide)) := by decide
  exact key m h
theorem Lk.slice65 (b p : Nat) (hp : p < 65) (W : World) : (Instr.sliceAt 131 (.pointer (some ⟨b, 0, none⟩)) (some (.int .i64 p)) none none).run Tryz.prog W = .ok (.slice (some ⟨b, p, none⟩) (65 - p) (65 - p)) W := by
  have hl : Tryz.prog.arrayLen 131 = 65 := by kernel_rfl
  have he : Tryz.prog.elem 131 = 5 := by kernel_rfl
  have i0 : (0 : Int) ≤ (p : Int) := by omega
  have i1 : (p : Int) ≤ 65 := by omega
  have i2 : (p : Int) ≤ Tryz.prog.arrayLen 131 := by rw [hl]; omega
  have i3 : ¬ p = 65 := by omega
  have ht : Tryz.prog.underlying 131 = some (.array (Tryz.prog.arrayLen 131) (Tryz.prog.elem 131)) := by kernel_rfl
  rw [run_sliceAt_array_l W _ _ ht .i64 p i0 i2, he]
  have hz : (sizeOf 5).run Tryz.prog W = .ok 1 W := by simp [go_sem]
  rw [hz, hl]
  have i4 : ¬ 65 = p := fun h => i3 h.symm
  have e : (⟨b, 0, none⟩ : Addr).add p = ⟨b, p, none⟩ := by unfold Addr.add; split <;> simp_all
  show Result.ok (slicedAt ⟨b, 0, none⟩ p 65 65 1) W = _
  unfold slicedAt
  rw [if_neg i4, Nat.mul_one, e]
theorem Lk.and15 (u : Nat) (h : u < 4294967296) (m : Nat) (hm : u % 16 = m) : Go.bits .and .u64 (u : Int) 15 = (m : Int) := by
  have h1 := u64_and_nat u 15 (by omega) (by decide)
  have h2 : u &&& 15 = u % 16 := Nat.and_two_pow_sub_one_eq_mod u 4
  rw [h2, hm] at h1
  exact h1
set_option maxRecDepth 100000 in
set_option maxHeartbeats 3200000 in
theorem formatBits_any (n : Nat) (w : World) (hn : n < 4294967296) (hw : Sixt w) :
    Calls Tryz.prog 92 #[.slice none 0 0, .int .u64 n, .int .i64 16, .bool false, .bool false] w fun e w' => e = .returned (.tuple #[.slice none 0 0, .string ⟨(hexn n).toArray⟩]) ∧ Below w.heap.size w w' := by
  obtain ⟨W1, hW1⟩ : ∃ W, w.alloc (.cells Tryz.zeroCells131 131) = W := ⟨_, rfl⟩
  have HBW : Hid (Below w.heap.size w W1) := alloc_low hW1
  have HS : Hid (Sixt W1) := by
    have hlt := World.block_lt_of_cell? w _ hw
    exact (HBW.out.cell hlt).trans hw
  have HBF : Hid (Buf w.heap.size (lay []) 131 (0, 0) W1) := by
    show Buf _ _ _ _ _
    rw [← hW1]; exact buf_new w _ _ _ (by kernel_rfl)
  have HN := Lib.hid hn
  clear hn hw
  go_enter Tryz.func92, Tryz.ntmps92
  go_wp2_with fail
  clear hW1
  refine (isPow_any _).mono ?_
  rintro _ z ⟨rfl, rfl⟩
  go_wp2_with fail
  refine (tz_any _ HS.out).mono ?_
  rintro _ z ⟨rfl, rfl⟩
  go_wp2_with fail
  go_loopw [1, 13] (fun x i wr => ∃ (u j : Nat) (d : List UInt8), x = .int .u64 u ∧ i = .int .i64 j ∧ Hid (j + d.length = 65) ∧ Hid (HexSt n u d) ∧ Hid (Buf w.heap.size (lay d) 131 (0, 0) wr) ∧ Hid (Below w.heap.size w wr)) (fun x _ _ => (intOf x).toNat)
  case atStart => exact ⟨n, 65, [], rfl, rfl, rfl, hex_start HN.out, HBF.out, HBW.out⟩
  case round =>
    obtain ⟨u, j, d, rfl, rfl, HJ, HX, HF, HB⟩ := hrel
    have HLT : Hid (w.heap.size < wr.heap.size) := buf_lt HF.out
    have HD : Hid (d.length ≤ 7) := HX.out.2.2
    obtain ⟨p, hp⟩ : ∃ p, j = p + 1 := ⟨j - 1, by have := HJ.out; have := HD.out; omega⟩
    have HP : Hid (p + 1 + d.length = 65) := by show _ = _; rw [← hp]; exact HJ.out
    have hkp : (j : Int) - 1 = (p : Int) := by omega
    have hwp : IntKind.i64.wrap ((j : Int) - 1) = (p : Int) := by rw [hkp]; exact IntWalk.i64_in _ (by have := HP.out; omega)
    have hwq : IntKind.i64.wrap (p : Int) = (p : Int) := IntWalk.i64_in _ (by have := HP.out; omega)
    have hp0 : (0 : Int) ≤ (p : Int) := by omega
    have hp1 : (p : Int) < 65 := by have := HP.out; omega
    have hpl : p < (lay d).length := by rw [lay_len d (by have := HD.out; omega)]; omega
    have c0 := buf_cell HF.out p hpl
    have f0 := buf_free HF.out p (Or.inr (Nat.zero_le _))
    have HSET : Hid (∀ c : UInt8, Buf w.heap.size (lay (c :: d)) 131 (0, 0) (wr.setCell ⟨w.heap.size, p, none⟩ (.int .u8 (c.toNat : Int)))) := fun c => by
      have h := buf_set HF.out p c
      have e := lay_set d c (by have := HD.out; omega)
      rw [show 65 - d.length - 1 = p by have := HP.out; omega] at e
      rwa [e] at h
    have HBS : Hid (∀ x, Below w.heap.size w (wr.setCell ⟨w.heap.size, p, none⟩ x)) := fun x => HB.out.setCell (Nat.le_refl _) _
    obtain ⟨y, hy⟩ : ∃ y : Int, ((lay d)[p].toNat : Int) = y := ⟨_, rfl⟩
    rw [hy] at c0
    clear hy hpl hp
    by_cases h16 : u < 16
    · have d0 : decide ((16 : Int) ≤ (u : Int)) = false := decide_eq_false (by omega)
      have u0 : (0 : Int) ≤ (u : Int) := by omega
      have u1 : (u : Int) < 36 := by omega
      obtain ⟨c, hc, hh⟩ := dig_at u h16
      have HR : Hid (hexn n = c :: d) := by show _ = _; rw [HX.out.1, hexn_one h16, hh]; rfl
      have HBC := Lib.hid (HSET.out c)
      have hcv := fun W (hW : Buf w.heap.size (lay (c :: d)) 131 (0, 0) W) => conv_from W hW p (65 - p) (65 - p) (c :: d) (by have := HP.out; simp; omega) (fun q hq => by
        have := lay_at (c :: d) q hq
        rwa [show 65 - (c :: d).length = p by have := HP.out; simp; omega] at this)
      have hcw := hcv _ HBC.out
      have HL : Hid (p < 65) := by show _ < _; omega
      have hsl := slice65 w.heap.size p HL.out (wr.setCell ⟨w.heap.size, p, none⟩ (.int .u8 (c.toNat : Int)))
      clear hh hcv
      go_wp2_with fail
      go_ret2
      exact ⟨by rw [HR.out]; rfl, HBS.out _⟩
    · have d0 : decide ((16 : Int) ≤ (u : Int)) = true := decide_eq_true (by omega)
      obtain ⟨m, hm⟩ : ∃ m, u % 16 = m := ⟨_, rfl⟩
      have hm16 : m < 16 := by omega
      have m0 : (0 : Int) ≤ (m : Int) := by omega
      have m1 : (m : Int) < 36 := by omega
      obtain ⟨c, hc, hh⟩ := dig_at m hm16
      have a1 := and15 u HX.out.2.1 m hm
      obtain ⟨q, hq⟩ : ∃ q, u / 16 = q := ⟨_, rfl⟩
      have a2 : (u : Int) / 16 = (q : Int) := by omega
      have HQ : Hid (HexSt n q (c :: d)) := by
        have := hex_step HN.out HX.out h16
        rw [hm, hh, hq] at this; exact this
      have HLT2 : Hid (q < u) := by show _ < _; omega
      have HBC := Lib.hid (HSET.out c)
      clear hh hm hq
      go_wp2_with fail
      go_roundw
      case rel => exact ⟨q, p, c :: d, rfl, rfl, by have := HP.out; show _ = _; simp; omega, HQ, HBC, HBS.out _⟩
      case measure => have := HLT2.out; simp [intOf]; omega
theorem formatUint_any (n : Nat) (w : World) (hn : n < 4294967296) (hw : Sixt w) :
    Calls Tryz.prog 50 #[.int .u64 n, .int .i64 16] w fun e w' => e = .returned (.string ⟨(hexn n).toArray⟩) ∧ Below w.heap.size w w' := by
  have H : Calls Tryz.prog 66 #[.int .u64 n, .int .i64 16] w fun e w' => e = .returned (.string ⟨(hexn n).toArray⟩) ∧ Below w.heap.size w w' := by
    have HN := Lib.hid hn
    have HW := Lib.hid hw
    clear hn hw
    go_enter Tryz.func66, Tryz.ntmps66
    go_wp2_with fail
    refine (formatBits_any n _ HN.out HW.out).mono ?_
    rintro _ z ⟨rfl, hb⟩
    have HB := Lib.hid hb
    clear hb
    go_wp2_with fail
    go_ret
    exact ⟨rfl, HB.out⟩
  go_enter Tryz.func50, Tryz.ntmps50
  go_wp2_with fail
  refine H.mono ?_
  rintro _ z ⟨rfl, hb⟩
  have HB := Lib.hid hb
  clear hb
  go_wp2_with fail
  go_ret
  exact ⟨rfl, HB.out⟩
theorem Lk.bcat4 (a b c d : List UInt8) : (({ data := a.toArray } : ByteArray) ++ { data := b.toArray } ++ { data := c.toArray } ++ { data := d.toArray }) = { data := (a ++ b ++ c ++ d).toArray } := by
  rw [ByteArray.mk_append_mk, ByteArray.mk_append_mk, ByteArray.mk_append_mk]
theorem Lk.repeat0 (k : Nat) : Lib.repeatL [48] k = List.replicate k 48 := by
  induction k with
  | zero => rfl
  | succ k ih => rw [List.replicate_succ, ← ih]; rfl
set_option maxRecDepth 100000 in
theorem sumLine_any (s : List UInt8) (w : World) (hw : WOk w) (hs : s.length ≤ 1000000) :
    Calls Tryz.prog 34 #[.string ⟨s.toArray⟩] w fun e w' => e = .returned (.string ⟨(sumLine s).toArray⟩) ∧ Below w.heap.size w w' := by
  obtain ⟨hl, he⟩ := sum_line_hexn s
  obtain ⟨n, hn⟩ : ∃ n, sumL s = n := ⟨_, rfl⟩
  have hlt := sumL_lt s
  obtain ⟨R, hR⟩ : ∃ R, sumLine s = R := ⟨_, rfl⟩
  obtain ⟨h, hh⟩ : ∃ h, hexn n = h := ⟨_, rfl⟩
  rw [hn] at hl he hlt
  rw [hh] at hl he
  rw [hR] at he ⊢
  have HLT := Lib.hid hlt
  have HW := Lib.hid hw
  have HE := Lib.hid he
  have HH := Lib.hid hh
  have HN := Lib.hid hn
  have a0 : IntKind.u64.wrap (n : Int) = (n : Int) := by rw [IntKind.wrap_u64]; omega
  obtain ⟨k, hk⟩ : ∃ k, 8 - h.length = k := ⟨_, rfl⟩
  have a1 : (8 : Int) - (h.length : Int) = (k : Int) := by omega
  have a2 : IntKind.i64.wrap (k : Int) = (k : Int) := IntWalk.i64_in _ (by omega)
  have hk8 : k ≤ 8 := by omega
  clear hlt hw he hh hn hR
  go_enter Tryz.func34, Tryz.ntmps34
  go_wp2_with fail
  refine (lockSum_any s _ hs).mono ?_
  rintro _ z ⟨rfl, rfl⟩
  rw [HN.out]
  go_wp2_with fail
  refine (formatUint_any n _ HLT.out HW.out.2).mono ?_
  rintro _ z ⟨rfl, hb⟩
  have HB := Lib.hid hb
  clear hb
  rw [HH.out]
  go_wp2_with fail
  have HC : Hid (Calls Tryz.prog 51 #[.string ⟨#[48]⟩, .int .i64 k] z fun e w' => e = .returned (.string ⟨(List.replicate k 48).toArray⟩) ∧ Below z.heap.size z w') := (Tryz.strings_Repeat ⟨#[48]⟩ k z (by omega) (by show 1 * k ≤ _; omega)).mono fun e w' ⟨h1, h2⟩ => ⟨by rw [h1]; show Ending.returned (.string ⟨(Lib.repeatL [48] k).toArray⟩) = _; rw [repeat0], h2⟩
  refine HC.out.mono ?_
  rintro _ y ⟨rfl, hb⟩
  have HB2 := Lib.hid (HB.out.trans (hb.mono HB.out.size))
  have HE2 : Hid ([115, 117, 109, 32] ++ List.replicate k 48 ++ h ++ [10] = R) := by show _ = _; rw [← HE.out, hk]; simp only [List.append_assoc]
  clear hb HC HB
  obtain ⟨rp, hrp⟩ : ∃ r, List.replicate k (48 : UInt8) = r := ⟨_, rfl⟩
  have hrl : rp.length ≤ 8 := by rw [← hrp, List.length_replicate]; exact hk8
  rw [hrp] at HE2 ⊢
  clear hrp
  go_wp2_with fail
  go_ret
  refine ⟨?_, HB2.out⟩
  rw [← HE2.out]
  exact congrArg (fun x => Ending.returned (.string x)) (bcat4 [115, 117, 109, 32] rp h [10])
end Go.Proofs.YtojhapnodjabdaaGreatDoor
