/- The reference's truths of variables: asked, laid; a clause's one literal; contraries; clauses of one literal: walked. -/
import Derived.Test.YtjkmdghlhodhiaaOb
import Derived.Test.YtjkmdghlhodhiaaEe
namespace Go.Proofs.Ytjkmdghlhodhiaa.Up
open Go.RowKit Cl
theorem getD_at {m : List Int} {p : Nat} (h : p < m.length) : m.getD p 0 = m[p] := by rw [List.getD_eq_getElem?_getD, List.getElem?_eq_getElem h]; rfl
theorem mk_row (k : Nat) (w : World) (B : Nat) (hB : B ≤ w.heap.size) (hk : k ≤ 1000000) : ∃ w', (Instr.makeSlice 23 (.int .i64 (k : Int)) (.int .i64 (k : Int))).run Try.prog w = .ok (.slice (some ⟨w.heap.size, 0, none⟩) k k) w' ∧ Rg.Own encI 1 w' B 3 (.slice (some ⟨w.heap.size, 0, none⟩) k k) (List.replicate k 0) ∧ w.grownBy w' none := by
  obtain ⟨i, hi, hz0, hz1, hz2⟩ := info_parts (P := Try.prog) (e := 3) (z := .int .i64 0) (size := 1) (bytes := 8) (by kernel_rfl)
  obtain ⟨w', h1, h2, h3⟩ := run_makeSlice_full (w := w) B 23 3 i (.int .i64 0) 1 Try.underlying23 hi hz0 hz1 .i64 .i64 k (by omega) (by rw [hz2]; omega) (by unfold maxLen; omega) hB
  refine ⟨w', h1, ?_, h3⟩
  unfold Rg.Own
  have e : (madeCells (Value.int .i64 0).cells (k * 1)).toList = Rg.flat encI (List.replicate k 0) := by
    rw [Nat.mul_one]
    have h1 : (madeCells (Value.int .i64 0).cells k).toList = List.replicate k (.int .i64 0) := by
      refine List.eq_replicate_iff.2 ⟨by simp [madeCells], fun b hb => ?_⟩
      unfold madeCells at hb
      rw [Array.toList_map] at hb
      obtain ⟨i, _, rfl⟩ := List.mem_map.1 hb
      have : (Value.int .i64 0).cells = #[.int .i64 0] := rfl
      rw [this]
      have e : i % (#[Value.int .i64 0] : Array Value).size = 0 := Nat.mod_one i
      rw [e]; rfl
    have h2 : ∀ k : Nat, Rg.flat encI (List.replicate k 0) = List.replicate k (.int .i64 0) := fun k => by
      induction k with
      | zero => rfl
      | succ k ih => rw [List.replicate_succ, List.replicate_succ, ← ih]; rfl
    rw [h1, h2]
  rw [← e, List.length_replicate]
  exact h2
theorem own_st1 {w : World} {B N c : Nat} {A : Option Addr} {m : List Int} (h : Rg.Own encI 1 w B 3 (.slice A N c) m) (hn : m.length = N) (h0 : 0 < N) : ∃ cd, A = some cd ∧ ∀ (p : Nat) (v : Int), p < N →
    Rg.Own encI 1 (w.setCell (cd.add p) (.int .i64 v)) B 3 (.slice (some cd) N c) (m.set p v) ∧ w.grownBy (w.setCell (cd.add p) (.int .i64 v)) (Value.slice (some cd) N c).ownBlock ∧ w.frozen? (cd.add p) = false ∧ ∃ u, w.cell? (cd.add p) = some u := by
  obtain ⟨g, rfl, hgB, hgs, hfr⟩ := Rg.own_form h (by omega)
  refine ⟨_, rfl, fun p v hp => ?_⟩
  have ea : (⟨g, 0, none⟩ : Addr).add p = ⟨g, p * 1 + 0, none⟩ := by
    unfold Addr.add
    split
    · rename_i h0; rw [h0]
    · show (⟨g, 0 + p, none⟩ : Addr) = _; rw [Nat.zero_add, Nat.mul_one]; rfl
  obtain ⟨A', c', e, hrow, _⟩ := Rg.row_own fitsI h
  obtain ⟨ad, v0, had, _, _, hc⟩ := irow_at hrow p (by omega)
  have e2 : A' = some ⟨g, 0, none⟩ := by cases e; rfl
  obtain rfl := Option.some.inj (e2.symm.trans had)
  have hst := Rg.own_store fitsI h hn p 0 (by omega) (by decide) v (.int .i64 v) rfl
  rw [ea]
  rw [ea] at hc
  exact ⟨hst.1, hst.2, hfr _, _, hc⟩
end Go.Proofs.Ytjkmdghlhodhiaa.Up
namespace Go.Proofs.Ytjkmdghlhodhiaa
open Go.RowKit Cl Up
attribute [local go_sem ↓] Go.wp_at_zero Go.wp_at_succ
set_option maxRecDepth 100000 in
set_option maxHeartbeats 1600000 in
theorem refVal_any (A : Option Addr) (n N c : Nat) (m : List Int) (x : Int) (w : World) (hN : m.length = N) (hr : IRow w A m) (hm : MOk n m) (hx : LitOf n x) (hn : n ≤ 1000000) :
    Calls Try.prog 50 #[.slice A N c, .int .i64 x] w fun e w' => e = .returned (.int .i64 (valL m x)) ∧ w = w' := by
  have hl := hm.len
  obtain ⟨h0, h1, h2⟩ := hx
  by_cases hx : x < 0
  · obtain ⟨p, hp⟩ : ∃ p : Nat, -x = (p : Int) := ⟨(-x).toNat, by omega⟩
    have hpl : p < m.length := by omega
    obtain ⟨ad, v, rfl, hv, hvb, hc⟩ := irow_at hr p hpl
    have hvt := hm.tri p
    rw [getD_at hpl, hv] at hvt
    have HX : Hid (valL m x = -v) := by
      show _ = _
      unfold valL
      rw [if_pos hx, show (-x).toNat = p by omega, getD_at hpl, hv]
    have d0 : decide (x < 0) = true := decide_eq_true hx
    have w1 : IntKind.i64.wrap (0 - x) = (p : Int) := (IntWalk.i64_in _ (by omega)).trans (by omega)
    have w2 : IntKind.i64.wrap (-x) = (p : Int) := (IntWalk.i64_in _ (by omega)).trans (by omega)
    have w3 : IntKind.i64.wrap (0 - v) = -v := (IntWalk.i64_in _ (by omega)).trans (by omega)
    have w4 : IntKind.i64.wrap (-v) = -v := IntWalk.i64_in _ (by omega)
    have p0 : (0 : Int) ≤ (p : Int) := by omega
    have p1 : (p : Int) < (N : Int) := by omega
    clear hv hvb hvt hx hp hpl hl hm hr h0 h1 h2
    go_enter Try.func50, Try.ntmps50
    go_wp2_with fail
    go_ret
    exact ⟨by rw [HX.out]; rfl, rfl⟩
  · obtain ⟨p, rfl⟩ : ∃ p : Nat, x = (p : Int) := ⟨x.toNat, by omega⟩
    have hpl : p < m.length := by omega
    obtain ⟨ad, v, rfl, hv, hvb, hc⟩ := irow_at hr p hpl
    have HX : Hid (valL m (p : Int) = v) := by
      show _ = _
      rw [val_pos, getD_at hpl, hv]
    have d0 : decide ((p : Int) < 0) = false := decide_eq_false hx
    have p0 : (0 : Int) ≤ (p : Int) := by omega
    have p1 : (p : Int) < (N : Int) := by omega
    clear hv hvb hx hpl hl hm hr h0 h1 h2
    go_enter Try.func50, Try.ntmps50
    go_wp2_with fail
    go_ret
    exact ⟨by rw [HX.out]; rfl, rfl⟩
set_option maxRecDepth 100000 in
set_option maxHeartbeats 1600000 in
theorem refSet_any (B n N c : Nat) (A : Option Addr) (m : List Int) (x : Int) (w : World) (hN : m.length = N) (hr : Rg.Own encI 1 w B 3 (.slice A N c) m) (hm : MOk n m) (hx : LitOf n x) (hn : n ≤ 1000000) :
    Calls Try.prog 51 #[.slice A N c, .int .i64 x] w fun e w' => e = .returned (.tuple #[]) ∧ Rg.Own encI 1 w' B 3 (.slice A N c) (setL m x) ∧ w.grownBy w' (Value.slice A N c).ownBlock := by
  have hl := hm.len
  obtain ⟨h0, h1, h2⟩ := hx
  obtain ⟨cd, rfl, key⟩ := own_st1 hr hN (by omega)
  by_cases hx : x < 0
  · obtain ⟨p, hp⟩ : ∃ p : Nat, -x = (p : Int) := ⟨(-x).toNat, by omega⟩
    obtain ⟨k1, k2, k3, u, k4⟩ := key p (-1) (by omega)
    have HK := Lib.hid k1
    have HK2 := Lib.hid k2
    have HX : Hid (setL m x = m.set p (-1)) := by
      show _ = _
      unfold setL
      rw [if_pos hx, show (-x).toNat = p by omega]
    have d0 : decide (x < 0) = true := decide_eq_true hx
    have w1 : IntKind.i64.wrap (0 - x) = (p : Int) := (IntWalk.i64_in _ (by omega)).trans (by omega)
    have w2 : IntKind.i64.wrap (-x) = (p : Int) := (IntWalk.i64_in _ (by omega)).trans (by omega)
    have p0 : (0 : Int) ≤ (p : Int) := by omega
    have p1 : (p : Int) < (N : Int) := by omega
    clear hx hp hl hm h0 h1 h2 key hr k1 k2
    go_enter Try.func51, Try.ntmps51
    go_wp2_with fail
    go_end0
    exact ⟨rfl, by rw [HX.out]; exact HK.out, HK2.out⟩
  · obtain ⟨p, rfl⟩ : ∃ p : Nat, x = (p : Int) := ⟨x.toNat, by omega⟩
    obtain ⟨k1, k2, k3, u, k4⟩ := key p 1 (by omega)
    have HK := Lib.hid k1
    have HK2 := Lib.hid k2
    have HX : Hid (setL m (p : Int) = m.set p 1) := by
      show _ = _
      unfold setL
      rw [if_neg hx]; rfl
    have d0 : decide ((p : Int) < 0) = false := decide_eq_false hx
    have p0 : (0 : Int) ≤ (p : Int) := by omega
    have p1 : (p : Int) < (N : Int) := by omega
    clear hx hl hm h0 h1 h2 key hr k1 k2
    go_enter Try.func51, Try.ntmps51
    go_wp2_with fail
    go_end0
    exact ⟨rfl, by rw [HX.out]; exact HK.out, HK2.out⟩
end Go.Proofs.Ytjkmdghlhodhiaa
