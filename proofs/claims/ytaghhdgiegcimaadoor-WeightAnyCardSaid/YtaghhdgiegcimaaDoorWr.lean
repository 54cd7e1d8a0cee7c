/- The program's Sum and Greatest. -/
import Derived.Test.YtaghhdgiegcimaaDoorWl
import Derived.Deep.QuietTactic
import Derived.BigQuiet
import Derived.Deep.RegionHeld3
namespace Go.Proofs.YtaghhdgiegcimaaDoor
open Go.RowKit

/-- A slice that reads as these floats. -/
def FRow (w : World) (A : Option Addr) (bs : List Nat) : Prop := 0 < bs.length → ∃ ad, A = some ad ∧ ∀ j (h : j < bs.length), w.cell? (ad.add j) = some (.float .f64 bs[j])
theorem fRow_at {w : World} {A : Option Addr} {bs : List Nat} (h : FRow w A bs) (k : Nat) (hk : k < bs.length) : ∃ ad b, A = some ad ∧ bs[k] = b ∧ w.cell? (ad.add k) = some (.float .f64 b) := by
  obtain ⟨ad, e, hc⟩ := h (by omega)
  exact ⟨ad, _, e, rfl, hc k hk⟩
theorem add_nan (x y : Nat) (h : Ieee.double.add x y = none) (W : World) : ∃ q, q < Wm.W ∧ Wm.nan q = true ∧ (binOp .add 39 (.float .f64 x) (.float .f64 y)).run Tryd.prog W = .ok (.float .f64 q) W.drew := by
  refine ⟨(Question.nanBits .f64 x y).cut (W.tape W.drawn (.nanBits .f64 x y)), ?_, ?_, ?_⟩
  · generalize W.tape W.drawn (.nanBits .f64 x y) = t
    show (t % 2) * 2 ^ 63 + 0x7ff0000000000000 + 1 + (t / 2) % (2 ^ 52 - 1) < Wm.W
    unfold Wm.W; omega
  · generalize W.tape W.drawn (.nanBits .f64 x y) = t
    show decide (9218868437227405312 < Wm.rung ((t % 2) * 2 ^ 63 + 0x7ff0000000000000 + 1 + (t / 2) % (2 ^ 52 - 1))) = true
    unfold Wm.rung
    refine decide_eq_true ?_
    have h1 : t % 2 < 2 := Nat.mod_lt _ (by decide)
    have h2 : t / 2 % (2 ^ 52 - 1) < 2 ^ 52 - 1 := Nat.mod_lt _ (by decide)
    generalize t % 2 = a at *
    generalize t / 2 % (2 ^ 52 - 1) = u at *
    rcases (by omega : a = 0 ∨ a = 1) with rfl | rfl <;> omega
  · have h' : FloatKind.f64.format.add x y = none := h
    simp [binOp, Op.floatArith, h', Question.forced]
theorem add_some (x y r : Nat) (h : Ieee.double.add x y = some r) (W : World) : (binOp .add 39 (.float .f64 x) (.float .f64 y)).run Tryd.prog W = .ok (.float .f64 r) W :=
  run_float_arith W .add _ .f64 x y r h
/-- The sum from the left; none: a NaN. -/
def sumF (l : List Nat) : Option Nat := l.foldl (fun a y => a.bind fun x => Ieee.double.add x y) (some 0)
def SumSt (l : List Nat) (r : Nat) : Prop := r < Wm.W ∧ match sumF l with | some b => r = b | none => Wm.nan r = true
theorem sumF_snoc (l : List Nat) (y : Nat) : sumF (l ++ [y]) = (sumF l).bind fun x => Ieee.double.add x y := by
  unfold sumF; rw [List.foldl_append]; rfl
theorem add_of_nan {x y : Nat} (h : Wm.nan x = true) : Ieee.double.add x y = none := by
  obtain ⟨s, t, e⟩ := Wm.read_nan x h
  unfold Ieee.Format.add; rw [e]
  cases Ieee.double.read y <;> rfl
theorem sumSt_some {l : List Nat} {r y s : Nat} (h : SumSt l r) (ha : Ieee.double.add r y = some s) : SumSt (l ++ [y]) s := by
  refine ⟨Ieee.Format.add_lt Ieee.double ha, ?_⟩
  obtain ⟨_, h⟩ := h
  rw [sumF_snoc]
  cases hs : sumF l with
  | some b => rw [hs] at h; simp only at h; subst h; simp [ha]
  | none => rw [hs] at h; simp only at h; rw [add_of_nan h] at ha; cases ha
theorem sumSt_none {l : List Nat} {r y q : Nat} (h : SumSt l r) (ha : Ieee.double.add r y = none) (hq : q < Wm.W) (hn : Wm.nan q = true) : SumSt (l ++ [y]) q := by
  refine ⟨hq, ?_⟩
  obtain ⟨_, h⟩ := h
  rw [sumF_snoc]
  cases hs : sumF l with
  | some b => rw [hs] at h; simp only at h; subst h; simp [ha, hn]
  | none => simp [hn]
theorem take_snoc {l : List Nat} {k b : Nat} (hk : k < l.length) (h : l[k] = b) : l.take (k + 1) = l.take k ++ [b] := by
  rw [List.take_succ_eq_append_getElem hk, h]
set_option maxHeartbeats 800000 in
theorem sum_w (A : Option Addr) (c : Nat) (bs : List Nat) (w : World) (h : FRow w A bs) (hl : bs.length ≤ 1000) :
    Calls Tryd.prog 39 #[.slice A bs.length c] w fun e w' => (∃ r, e = .returned (.float .f64 r) ∧ SumSt bs r) ∧ ∃ m, w' = w.drewN m := by
  have HR := Lib.hid h
  clear h
  go_enter Tryd.func39, Tryd.ntmps39
  go_wp2_with fail
  go_loopw [3, 8] (fun t i wr => ∃ (k r : Nat), k ≤ bs.length ∧ i = .int .i64 k ∧ t = .float .f64 r ∧ Hid (SumSt (bs.take k) r) ∧ ∃ m, wr = w.drewN m) (fun _ i _ => bs.length - (intOf i).toNat)
  case atStart => exact ⟨0, 0, by omega, rfl, rfl, ⟨by decide, rfl⟩, 0, rfl⟩
  case round =>
    obtain ⟨k, r, hk, rfl, rfl, HS, m, rfl⟩ := hrel
    by_cases hlt : k < bs.length
    · obtain ⟨ad, b, rfl, hb, hc⟩ := fRow_at HR.out k hlt
      have HT := Lib.hid (take_snoc hlt hb)
      clear hb
      cases ha : Ieee.double.add r b with
      | some s =>
        have hrun := add_some r b s ha
        have HS1 := Lib.hid (sumSt_some HS.out ha)
        clear ha
        go_wp2_with fail
        go_roundw
        case rel => exact ⟨k + 1, s, by omega, by go_num, rfl, by show SumSt _ _; rw [HT.out]; exact HS1.out, m, rfl⟩
        case measure => simp [intOf]; omega
      | none =>
        obtain ⟨q, hq, hn, hrun⟩ := add_nan r b ha (w.drewN m)
        have HS1 := Lib.hid (sumSt_none HS.out ha hq hn)
        clear ha hq hn
        go_wp2_with fail
        go_roundw
        case rel => exact ⟨k + 1, q, by omega, by go_num, rfl, by show SumSt _ _; rw [HT.out]; exact HS1.out, m + 1, rfl⟩
        case measure => simp [intOf]; omega
    · obtain rfl : k = bs.length := by omega
      have HS1 : Hid (SumSt bs r) := by show SumSt bs r; have := HS.out; rwa [List.take_length] at this
      clear HS
      go_wp2_with fail
      go_ret
      exact ⟨⟨r, rfl, HS1.out⟩, m, rfl⟩
set_option maxHeartbeats 800000 in
theorem refSum_any (A : Option Addr) (c : Nat) (bs : List Nat) (w : World) (h : FRow w A bs) (hl : bs.length ≤ 1000) :
    Calls Tryd.prog 40 #[.slice A bs.length c] w fun e w' => (∃ r, e = .returned (.float .f64 r) ∧ SumSt bs r) ∧ ∃ m, w' = w.drewN m := by
  have HR := Lib.hid h
  clear h
  go_enter Tryd.func40, Tryd.ntmps40
  go_wp2_with fail
  go_loopw [3, 4] (fun t i wr => ∃ (k r : Nat), k ≤ bs.length ∧ i = .int .i64 k ∧ t = .float .f64 r ∧ Hid (SumSt (bs.take k) r) ∧ ∃ m, wr = w.drewN m) (fun _ i _ => bs.length - (intOf i).toNat)
  case atStart => exact ⟨0, 0, by omega, rfl, rfl, ⟨by decide, rfl⟩, 0, rfl⟩
  case round =>
    obtain ⟨k, r, hk, rfl, rfl, HS, m, rfl⟩ := hrel
    by_cases hlt : k < bs.length
    · obtain ⟨ad, b, rfl, hb, hc⟩ := fRow_at HR.out k hlt
      have HT := Lib.hid (take_snoc hlt hb)
      clear hb
      cases ha : Ieee.double.add r b with
      | some s =>
        have hrun := add_some r b s ha
        have HS1 := Lib.hid (sumSt_some HS.out ha)
        clear ha
        go_wp2_with fail
        go_roundw
        case rel => exact ⟨k + 1, s, by omega, by go_num, rfl, by show SumSt _ _; rw [HT.out]; exact HS1.out, m, rfl⟩
        case measure => simp [intOf]; omega
      | none =>
        obtain ⟨q, hq, hn, hrun⟩ := add_nan r b ha (w.drewN m)
        have HS1 := Lib.hid (sumSt_none HS.out ha hq hn)
        clear ha hq hn
        go_wp2_with fail
        go_roundw
        case rel => exact ⟨k + 1, q, by omega, by go_num, rfl, by show SumSt _ _; rw [HT.out]; exact HS1.out, m + 1, rfl⟩
        case measure => simp [intOf]; omega
    · obtain rfl : k = bs.length := by omega
      have HS1 : Hid (SumSt bs r) := by show SumSt bs r; have := HS.out; rwa [List.take_length] at this
      clear HS
      go_wp2_with fail
      go_ret
      exact ⟨⟨r, rfl, HS1.out⟩, m, rfl⟩
/-- The first of the greatest, from the k-th on, behind a best one. -/
def greatF (bs : List Nat) : Nat → Nat → Nat → Nat
  | 0, _, best => best
  | n + 1, i, best => greatF bs n (i + 1) (if 0 < cmpW (bs.getD i 0) (bs.getD best 0) then i else best)
def great (bs : List Nat) : Nat := greatF bs bs.length 0 0
theorem greatF_step {bs : List Nat} {k b x y : Nat} (hk : k < bs.length) (hb : b < bs.length) (hx : bs[k] = x) (hy : bs[b] = y) :
    greatF bs (bs.length - k) k b = greatF bs (bs.length - (k + 1)) (k + 1) (if 0 < cmpW x y then k else b) := by
  rw [show bs.length - k = (bs.length - (k + 1)) + 1 from by omega]
  conv => lhs; rw [greatF]
  rw [show bs.getD k 0 = x from by simp [List.getD, hk, hx], show bs.getD b 0 = y from by simp [List.getD, hb, hy]]
theorem great_one (bs : List Nat) (h : 0 < bs.length) : greatF bs (bs.length - 1) 1 0 = great bs := by
  unfold great
  conv => rhs; rw [show bs.length = (bs.length - 1) + 1 from by omega, greatF]
  simp
set_option maxHeartbeats 800000 in
theorem greatest_w (A : Option Addr) (c : Nat) (bs : List Nat) (w : World) (h : FRow w A bs) (hl : bs.length ≤ 1000) (hw : ∀ b ∈ bs, b < Wm.W) :
    Calls Tryd.prog 36 #[.slice A bs.length c] w fun e w' => e = .returned (.tuple #[.int .i64 (great bs), .bool (decide (0 < bs.length))]) ∧ w = w' := by
  have HR := Lib.hid h
  have HW := Lib.hid hw
  clear h hw
  go_enter Tryd.func36, Tryd.ntmps36
  go_wp2_with fail
  go_loop [4, 9] (fun t i => ∃ (k b : Nat), k ≤ bs.length ∧ i = .int .i64 k ∧ t = .int .i64 b ∧ (b = 0 ∨ b < bs.length) ∧ Hid (greatF bs (bs.length - k) k b = great bs)) (fun _ i => bs.length - (intOf i).toNat)
  case atStart => exact ⟨0, 0, by omega, rfl, rfl, Or.inl rfl, rfl⟩
  case round =>
    obtain ⟨k, b, hk, rfl, rfl, hb, HS⟩ := hrel
    by_cases hlt : k < bs.length
    · have hbl : b < bs.length := by omega
      obtain ⟨ad, x, hA, hx, hcx⟩ := fRow_at HR.out k hlt
      obtain ⟨ad2, y, hA2, hy, hcy⟩ := fRow_at HR.out b hbl
      obtain rfl : ad = ad2 := by rw [hA] at hA2; exact Option.some.inj hA2
      subst hA
      have HG := Lib.hid (greatF_step hlt hbl hx hy)
      have hxw : x < Wm.W := by rw [← hx]; exact HW.out _ (List.getElem_mem hlt)
      have hyw : y < Wm.W := by rw [← hy]; exact HW.out _ (List.getElem_mem hbl)
      have HX := Lib.hid hxw
      have HY := Lib.hid hyw
      clear hx hy hxw hyw hb hA2
      go_wp2_with fail
      refine (compare_w x y HX.out HY.out _).mono ?_
      rintro e w' ⟨g1, g2⟩; subst g2; subst g1
      rw [show Vm.sgn (Wm.placeN x) (Wm.placeN y) = cmpW x y from rfl]
      generalize cmpW x y = v at *
      by_cases hv : 0 < v
      · have HG1 : Hid (greatF bs (bs.length - (k + 1)) (k + 1) k = great bs) := by show _ = _; rw [← HS.out, HG.out, if_pos hv]
        clear HG HS
        go_wp2_with fail
        go_round
        case rel => exact ⟨k + 1, k, by omega, by go_num, rfl, Or.inr hlt, HG1⟩
        case measure => simp [intOf]; omega
      · have HG1 : Hid (greatF bs (bs.length - (k + 1)) (k + 1) b = great bs) := by show _ = _; rw [← HS.out, HG.out, if_neg hv]
        clear HG HS
        go_wp2_with fail
        go_round
        case rel => exact ⟨k + 1, b, by omega, by go_num, rfl, Or.inr hbl, HG1⟩
        case measure => simp [intOf]; omega
    · obtain rfl : k = bs.length := by omega
      have HV : Hid (b = great bs) := by show _ = _; have := HS.out; rw [Nat.sub_self] at this; exact this
      clear HS
      go_wp2_with fail
      go_ret2
      exact ⟨by rw [← HV.out]; rfl, rfl⟩
/-- Some draws behind a world. -/
def Dr (w w' : World) : Prop := ∃ m, w' = w.drewN m
set_option maxHeartbeats 800000 in
theorem refGreatest_any (A : Option Addr) (c : Nat) (bs : List Nat) (w : World) (h : FRow w A bs) (hl : bs.length ≤ 1000) (hw : ∀ b ∈ bs, b < Wm.W) :
    Calls Tryd.prog 37 #[.slice A bs.length c] w fun e w' => e = .returned (.tuple #[.int .i64 (great bs), .bool (decide (0 < bs.length))]) ∧ ∃ m, w' = w.drewN m := by
  by_cases h0 : bs = []
  · subst h0
    go_enter Tryd.func37, Tryd.ntmps37
    go_wp2_with fail
    go_ret2
    exact ⟨rfl, 0, rfl⟩
  have h1 : 0 < bs.length := List.length_pos_iff.2 h0
  have hz : ((bs.length : Int) == 0) = false := by rw [beq_eq_false_iff_ne]; omega
  have HR := Lib.hid h
  have HW := Lib.hid hw
  have HV0 : Hid (decide (0 < bs.length) = true) := decide_eq_true h1
  have HG0 := Lib.hid (great_one bs h1)
  clear h hw h0
  go_enter Tryd.func37, Tryd.ntmps37
  go_wp2_with fail
  go_loopw [4, 5] (fun t i wr => ∃ (k b : Nat), k ≤ bs.length ∧ i = .int .i64 k ∧ t = .int .i64 b ∧ b < bs.length ∧ Hid (greatF bs (bs.length - k) k b = great bs) ∧ ∃ m, wr = w.drewN m) (fun _ i _ => bs.length - (intOf i).toNat)
  case atStart => exact ⟨1, 0, by omega, rfl, rfl, by omega, HG0, 0, rfl⟩
  case round =>
    obtain ⟨k, b, hk, rfl, rfl, hbl, HS, m, rfl⟩ := hrel
    by_cases hlt : k < bs.length
    · obtain ⟨ad, x, hA, hx, hcx⟩ := fRow_at HR.out k hlt
      obtain ⟨ad2, y, hA2, hy, hcy⟩ := fRow_at HR.out b hbl
      obtain rfl : ad = ad2 := by rw [hA] at hA2; exact Option.some.inj hA2
      subst hA
      have HG := Lib.hid (greatF_step hlt hbl hx hy)
      have hxw : x < Wm.W := by rw [← hx]; exact HW.out _ (List.getElem_mem hlt)
      have hyw : y < Wm.W := by rw [← hy]; exact HW.out _ (List.getElem_mem hbl)
      have HX := Lib.hid hxw
      have HY := Lib.hid hyw
      clear hx hy hxw hyw hA2
      have hw1 : IntKind.i64.wrap (k : Int) = k := IntWalk.i64_in _ (by omega)
      have hw2 : IntKind.i64.wrap (b : Int) = b := IntWalk.i64_in _ (by omega)
      go_wp2_with fail
      go_region_held3 (fun w' => w'.cell? (ad.add k) = some (.float .f64 x) ∧ w'.cell? (ad.add b) = some (.float .f64 y) ∧ Dr w w')
        (first
          | exact ⟨hcx, hcy, m + 1, rfl⟩
          | assumption)
        (first
          | (go_at_call 27; refine (refCompareW_any x y HX.out HY.out _).mono ?_; rintro _ w1 ⟨rfl, rfl⟩))
      rename_i HS2
      clear HS2
      generalize cmpW x y = v at *
      by_cases hv : 0 < v
      · have HG1 : Hid (greatF bs (bs.length - (k + 1)) (k + 1) k = great bs) := by show _ = _; rw [← HS.out, HG.out, if_pos hv]
        clear HG HS
        go_wp2_with fail
        go_roundw
        case rel => exact ⟨k + 1, k, by omega, by go_num, rfl, hlt, HG1, _, rfl⟩
        case measure => simp [intOf]; omega
      · have HG1 : Hid (greatF bs (bs.length - (k + 1)) (k + 1) b = great bs) := by show _ = _; rw [← HS.out, HG.out, if_neg hv]
        clear HG HS
        go_wp2_with fail
        go_roundw
        case rel => exact ⟨k + 1, b, by omega, by go_num, rfl, hbl, HG1, _, rfl⟩
        case measure => simp [intOf]; omega
    · obtain rfl : k = bs.length := by omega
      have HV : Hid (b = great bs) := by show _ = _; have := HS.out; rw [Nat.sub_self] at this; exact this
      clear HS
      go_wp2_with fail
      go_ret2
      exact ⟨by rw [← HV.out, HV0.out]; rfl, m, rfl⟩
end Go.Proofs.YtaghhdgiegcimaaDoor
