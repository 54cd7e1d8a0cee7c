/- As many variables, literals as may be: the law walked over what the program must answer. -/
import Derived.Test.YtoioeekfnnoaoaaGreatDoorEm
namespace Go.Proofs.YtoioeekfnnoaoaaGreatDoor.Cl
open Go.RowKit Up
def rowZ (x : Int) (k j : Nat) : List Int := (List.range k).map fun i => if i < j then x else 0
theorem rowZ_len (x : Int) (k j : Nat) : (rowZ x k j).length = k := by unfold rowZ; simp
theorem rowZ_get {x : Int} {k j i : Nat} (h : i < (rowZ x k j).length) : (rowZ x k j)[i] = if i < j then x else 0 := by simp only [rowZ, List.getElem_map, List.getElem_range]
theorem rowZ_set (x : Int) (k j : Nat) : (rowZ x k j).set j x = rowZ x k (j + 1) := by
  refine List.ext_getElem (by rw [List.length_set, rowZ_len, rowZ_len]) fun i h1 h2 => ?_
  rw [List.getElem_set, rowZ_get, rowZ_get]
  by_cases h : j = i
  · rw [if_pos h, if_pos (by omega)]
  · rw [if_neg h]
    by_cases h3 : i < j
    · rw [if_pos h3, if_pos (by omega)]
    · rw [if_neg h3, if_neg (by omega)]
theorem rowZ_zero (x : Int) (k : Nat) : rowZ x k 0 = List.replicate k 0 := by
  refine List.ext_getElem (by rw [rowZ_len, List.length_replicate]) fun i h1 h2 => ?_
  rw [rowZ_get, List.getElem_replicate, if_neg (by omega)]
theorem rowZ_all (x : Int) (k : Nat) : rowZ x k k = List.replicate k x := by
  refine List.ext_getElem (by rw [rowZ_len, List.length_replicate]) fun i h1 h2 => ?_
  have h3 : i < k := by rw [rowZ_len] at h1; exact h1
  rw [rowZ_get, List.getElem_replicate, if_pos h3]
theorem check_rep (n x : Int) (k : Nat) : checkC n (List.replicate k x) = if nBad n then 1 else if 256 < k then 4 else if decide (0 < k) && litBad n x then 11 else 0 := by
  unfold checkC
  rw [List.length_replicate]
  have : (List.replicate k x).any (litBad n) = (decide (0 < k) && litBad n x) := by
    induction k with
    | zero => simp
    | succ k ih =>
      rw [List.replicate_succ, List.any_cons, ih]
      cases litBad n x <;> simp
  rw [this]
theorem mkC_row (k : Nat) (w : World) (B : Nat) (hB : B ≤ w.heap.size) (hk : k ≤ 1000000) : ∃ w', (Instr.makeSlice 49 (.int .i64 (k : Int)) (.int .i64 (k : Int))).run Tryz.prog w = .ok (.slice (some ⟨w.heap.size, 0, none⟩) k k) w' ∧ Rg.Own encI 1 w' B 3 (.slice (some ⟨w.heap.size, 0, none⟩) k k) (List.replicate k 0) ∧ w.grownBy w' none := by
  obtain ⟨i, hi, hz0, hz1, hz2⟩ := info_parts (P := Tryz.prog) (e := 3) (z := .int .i64 0) (size := 1) (bytes := 8) (by kernel_rfl)
  obtain ⟨w', h1, h2, h3⟩ := run_makeSlice_full (w := w) B 49 3 i (.int .i64 0) 1 Tryz.underlying49 hi hz0 hz1 .i64 .i64 k (by omega) (by rw [hz2]; omega) (by unfold maxLen; omega) hB
  refine ⟨w', h1, ?_, h3⟩
  unfold Rg.Own
  have e : (madeCells (Value.int .i64 0).cells (k * 1)).toList = Rg.flat encI (List.replicate k 0) := by
    rw [Nat.mul_one]
    have h1 : (madeCells (Value.int .i64 0).cells k).toList = List.replicate k (.int .i64 0) := by
      refine List.eq_replicate_iff.2 ⟨by simp [madeCells], fun b hb => ?_⟩
      unfold madeCells at hb
      rw [Array.toList_map] at hb
      obtain ⟨i, _, rfl⟩ := List.mem_map.1 hb
      have : (Value.int .i64 0).cells = #[.int .i64 0] := rfl
      rw [this]
      have e : i % (#[Value.int .i64 0] : Array Value).size = 0 := Nat.mod_one i
      rw [e]; rfl
    have h2 : ∀ k : Nat, Rg.flat encI (List.replicate k 0) = List.replicate k (.int .i64 0) := fun k => by
      induction k with
      | zero => rfl
      | succ k ih => rw [List.replicate_succ, List.replicate_succ, ← ih]; rfl
    rw [h1, h2]
  rw [← e, List.length_replicate]
  exact h2
theorem own_stC {w : World} {B N c : Nat} {b : Nat} {m : List Int} (h : Rg.Own encI 1 w B 3 (.slice (some ⟨b, 0, none⟩) N c) m) (hn : m.length = N) (p : Nat) (v : Int) (hp : p < N) :
    Rg.Own encI 1 (w.setCell ⟨b, p, none⟩ (.int .i64 v)) B 3 (.slice (some ⟨b, 0, none⟩) N c) (m.set p v) ∧ w.grownBy (w.setCell ⟨b, p, none⟩ (.int .i64 v)) (some b) ∧ w.frozen? ⟨b, p, none⟩ = false ∧ ∃ u, w.cell? ⟨b, p, none⟩ = some u := by
  obtain ⟨g, e0, hgB, hgs, hfr⟩ := Rg.own_form h (by omega)
  obtain rfl : b = g := by cases e0; rfl
  obtain ⟨A', c', e, hrow, _⟩ := Rg.row_own fitsI h
  obtain ⟨ad, v0, had, _, _, hc⟩ := irow_at hrow p (by omega)
  have e2 : A' = some ⟨b, 0, none⟩ := by cases e; rfl
  obtain rfl := Option.some.inj (e2.symm.trans had)
  have hst := Rg.own_store fitsI h hn p 0 (by omega) (by decide) v (.int .i64 v) rfl
  rw [Nat.mul_one, Nat.add_zero] at hst
  rw [addr_b] at hc
  exact ⟨hst.1, hst.2, hfr _, _, hc⟩
end Go.Proofs.YtoioeekfnnoaoaaGreatDoor.Cl
namespace Go.Proofs.YtoioeekfnnoaoaaGreatDoor
open Go.RowKit Cl Up
attribute [local go_sem ↓] Go.wp_at_zero Go.wp_at_succ
set_option maxRecDepth 100000 in
set_option maxHeartbeats 6400000 in
theorem cnfBounds_any {Q : World → Prop} (HQ : Stays Q) (HKN : KnownC13 Q) (HCK : CheckC Q) (n lit : Int) (t : Nat) (w : World) (hn : -32768 ≤ n ∧ n ≤ 32767) (hl : -32768 ≤ lit ∧ lit ≤ 32767) (ht : t ≤ 65535) (hq : Q w) :
    Calls Tryz.prog 6 #[.int .i16 n, .int .u16 t, .int .i16 lit] w fun e w' => e = .returned (.bool true) ∧ Below w.heap.size w w' := by
  have HK0 := Lib.hid (HKN w hq)
  have HQQ := Lib.hid fun (u : World) (hb : Below w.heap.size w u) => HQ w u hq hb
  have HCKC := Lib.hid HCK
  obtain ⟨k, hk⟩ : ∃ k, t % 300 = k := ⟨_, rfl⟩
  have hk3 : k < 300 := by omega
  have er : (t : Int) % 300 = (k : Int) := by rw [← hk]; norm_cast
  have er2 : Int.tmod (t : Int) 300 = (k : Int) := by rw [Int.tmod_eq_emod_of_nonneg (by omega)]; exact er
  have wk16 : IntKind.u16.wrap (k : Int) = (k : Int) := IntWalk.u16_in _ (by omega)
  have wk : IntKind.i64.wrap (k : Int) = (k : Int) := IntWalk.i64_in _ (by omega)
  have wn : IntKind.i64.wrap n = n := IntWalk.i64_in _ (by omega)
  have wl : IntKind.i64.wrap lit = lit := IntWalk.i64_in _ (by omega)
  clear hq HKN HCK hk
  go_enter Tryz.func6, Tryz.ntmps6
  go_wp2_with (go_at_call 9; refine HK0.out.mono ?_)
  rintro _ u0 ⟨rfl, hb⟩
  have HB0 := Lib.hid hb
  obtain ⟨w1, hmk, hown, hgr⟩ := mkC_row k u0 u0.heap.size (Nat.le_refl _) (by omega)
  rw [← rowZ_zero lit] at hown
  have HO1 := Lib.hid hown
  have HB1 : Hid (Below u0.heap.size u0 w1 ∧ u0.heap.size ≤ w1.heap.size) := ⟨(Below.refl _ _).trans (Rg.grown_below (Rg.own_nil (enc := encI) (K := 1) u0 u0.heap.size 3) (Nat.le_refl _) hgr), hgr.size⟩
  obtain ⟨b, hbq⟩ : ∃ b, u0.heap.size = b := ⟨_, rfl⟩
  rw [hbq] at hmk HO1
  have HBB := Lib.hid hbq
  clear hb HK0 hown hgr hbq
  go_wp2_with fail
  clear hmk er er2 wk16 wk
  go_loopw [9] (fun i wr => ∃ j : Nat, j ≤ k ∧ i = .int .i64 j ∧ Hid (Rg.Own encI 1 wr b 3 (.slice (some ⟨b, 0, none⟩) k k) (rowZ lit k j)) ∧ Hid (Below u0.heap.size u0 wr ∧ u0.heap.size ≤ wr.heap.size)) (fun i _ => k - (intOf i).toNat)
  case atStart => exact ⟨0, Nat.zero_le _, rfl, HO1.out, HB1.out⟩
  case round =>
    obtain ⟨j, hj, rfl, HO, HB⟩ := hrel
    by_cases hlt : j < k
    · have j0 : (0 : Int) ≤ (j : Int) := by omega
      have j1 : (j : Int) < (k : Int) := by omega
      obtain ⟨s1, s2, s3, u, s4⟩ := own_stC HO.out (rowZ_len _ _ _) j lit hlt
      rw [rowZ_set] at s1
      have HO2 := Lib.hid s1
      have HG2 : Hid (Below u0.heap.size u0 (wr.setCell ⟨b, j, none⟩ (.int .i64 lit)) ∧ u0.heap.size ≤ (wr.setCell ⟨b, j, none⟩ (.int .i64 lit)).heap.size) := by
        have h1 := Rg.grown_below HO.out (by rw [← HBB.out]; exact HB.out.2) (w' := wr.setCell ⟨b, j, none⟩ (.int .i64 lit)) s2
        exact ⟨HB.out.1.trans (h1.mono (by rw [HBB.out]; exact Nat.le_refl _)), Nat.le_trans HB.out.2 s2.size⟩
      clear s1 s2 HO HB
      go_wp2_with fail
      go_roundw
      case rel => exact ⟨j + 1, by omega, by go_num, HO2.out, HG2.out⟩
      case measure => simp [intOf]; omega
    · have j1 : ¬ ((j : Int) < (k : Int)) := by omega
      have ho := HO.out
      rw [show j = k by omega, rowZ_all] at ho
      obtain ⟨A', c', e', hr, _⟩ := Rg.row_own fitsI ho
      obtain rfl : A' = some ⟨b, 0, none⟩ := (Value.slice.inj e').1.symm
      have HW := Lib.hid (HB0.out.trans (HB.out.1.mono HB0.out.size))
      have HC := Lib.hid (HCKC.out n (some ⟨b, 0, none⟩) k k (List.replicate k lit) wr List.length_replicate hr (by omega) (HQQ.out wr HW.out))
      rw [check_rep] at HC
      obtain ⟨ev, hev⟩ : ∃ e : Int, (if nBad n then 1 else if 256 < k then 4 else if decide (0 < k) && litBad n lit then 11 else 0) = e := ⟨_, rfl⟩
      rw [hev] at HC
      have HEV := Lib.hid hev
      clear ho hr e' hev HO
      go_wp2_with (go_at_call 16; refine HC.out.mono ?_)
      first | rintro _ u2 rfl hb2 | rintro _ u2 ⟨rfl, hb2⟩
      have HB2 := Lib.hid (HW.out.trans (hb2.mono HW.out.size))
      clear hb2 HC
      have hev := HEV.out
      unfold nBad litBad at hev
      clear HEV
      cases d1 : decide (n < 0)
      case true =>
        rw [d1] at hev
        simp at hev
        subst hev
        go_wp2_with fail
        go_ret
        exact ⟨by simp, HB2.out⟩
      cases d2 : decide ((256 : Int) < n)
      case true =>
        rw [d1, d2] at hev
        simp at hev
        subst hev
        go_wp2_with fail
        go_ret
        exact ⟨by simp, HB2.out⟩
      rw [d1, d2] at hev
      have h1 := of_decide_eq_false d1
      have h2 := of_decide_eq_false d2
      by_cases hk2 : 256 < k
      · have hk4 : (256 : Int) < (k : Int) := by omega
        rw [if_neg (by simp), if_pos hk2] at hev
        subst hev
        go_wp2_with fail
        go_ret
        exact ⟨by simp, HB2.out⟩
      have hk4 : ¬ ((256 : Int) < (k : Int)) := by omega
      rw [if_neg (by simp), if_neg hk2] at hev
      have wneg : IntKind.i16.wrap (-n) = -n := IntWalk.i16_in _ (by omega)
      have wneg2 : IntKind.i16.wrap (0 - n) = -n := by rw [Int.zero_sub]; exact wneg
      rw [Int.zero_sub] at hev
      by_cases hk0 : 0 < k
      · have hk5 : (0 : Int) < (k : Int) := by omega
        rw [decide_eq_true hk0, Bool.true_and] at hev
        cases d3 : (lit == 0) <;> cases d4 : decide (n < lit) <;> cases d5 : decide (lit < -n) <;> rw [d3, d4, d5] at hev <;> simp at hev <;> subst hev <;> (go_wp2_with fail; go_ret; exact ⟨by simp, HB2.out⟩)
      · have hk5 : ¬ ((0 : Int) < (k : Int)) := by omega
        rw [decide_eq_false hk0, Bool.false_and] at hev
        simp at hev
        subst hev
        go_wp2_with fail
        go_ret
        exact ⟨by simp, HB2.out⟩
end Go.Proofs.YtoioeekfnnoaoaaGreatDoor
