/- The reference's first clause that does not hold; a set by its bits, its truths: walked. -/
import Derived.Test.YtjkmdghlhodhiaaOf
import Derived.Test.YtjkmdghlhodhiaaEf
import Derived.Test.YtjkmdghlhodhiaaEn
import Derived.Lib.RabinKarpLaws
namespace Go.Proofs.Ytjkmdghlhodhiaa.Up
open Go.RowKit Cl
/-- A set by the bits of a number. -/
def bitL (n b : Nat) : List Int := ((List.range n).filter fun i => b.testBit i).map fun i : Nat => (i : Int)
theorem bitL_more (k b : Nat) : bitL (k + 1) b = bitL k b ++ (if b.testBit k then [(k : Int)] else []) := by
  unfold bitL
  rw [List.range_succ, List.filter_append, List.map_append, List.filter_cons]
  cases b.testBit k <;> rfl
theorem bitL_le (k b : Nat) : (bitL k b).length ≤ k := by
  unfold bitL
  rw [List.length_map]
  exact Nat.le_trans (List.length_filter_le _ _) (by rw [List.length_range]; exact Nat.le_refl _)
/-- A set's truths. -/
def modelL (s : List Int) (n : Nat) : List Bool := (List.range n).map fun i : Nat => s.contains (i : Int)
theorem modelL_len (s : List Int) (n : Nat) : (modelL s n).length = n := by unfold modelL; simp
theorem modelL_get {s : List Int} {n i : Nat} (h : i < (modelL s n).length) : (modelL s n)[i] = s.contains (i : Int) := by unfold modelL; simp
theorem modelL_nil (n : Nat) : modelL [] n = List.replicate n false := by
  refine List.eq_replicate_iff.2 ⟨modelL_len _ _, fun b hb => ?_⟩
  unfold modelL at hb
  obtain ⟨i, _, rfl⟩ := List.mem_map.1 hb
  rfl
theorem modelL_in {s : List Int} {j n p : Nat} (hj : j < s.length) (hx : s[j] = (p : Int)) (_hp : p < n) : modelL (s.take (j + 1)) n = (modelL (s.take j) n).set p true := by
  refine List.ext_getElem (by rw [List.length_set, modelL_len, modelL_len]) fun i h1 h2 => ?_
  rw [List.getElem_set, modelL_get, modelL_get, List.take_succ_eq_append_getElem hj, hx]
  by_cases e : p = i
  · subst e; simp
  · rw [if_neg e]
    have : ¬ (i : Int) = (p : Int) := by omega
    simp [this]
theorem modelL_out {s : List Int} {j n : Nat} {x : Int} (hj : j < s.length) (hx : s[j] = x) (hn : x < 0 ∨ (n : Int) ≤ x) : modelL (s.take (j + 1)) n = modelL (s.take j) n := by
  unfold modelL
  refine List.map_congr_left fun i hi => ?_
  have hi' := List.mem_range.1 hi
  rw [List.take_succ_eq_append_getElem hj, hx]
  have : ¬ (i : Int) = x := by omega
  simp [this]
theorem mkB_row (k : Nat) (w : World) (B : Nat) (hB : B ≤ w.heap.size) (hk : k ≤ 1000000) : ∃ w', (Instr.makeSlice 40 (.int .i64 (k : Int)) (.int .i64 (k : Int))).run Try.prog w = .ok (.slice (some ⟨w.heap.size, 0, none⟩) k k) w' ∧ Rg.Own encB 1 w' B 4 (.slice (some ⟨w.heap.size, 0, none⟩) k k) (List.replicate k false) ∧ w.grownBy w' none := by
  obtain ⟨i, hi, hz0, hz1, hz2⟩ := info_parts (P := Try.prog) (e := 4) (z := .bool false) (size := 1) (bytes := 1) (by kernel_rfl)
  obtain ⟨w', h1, h2, h3⟩ := run_makeSlice_full (w := w) B 40 4 i (.bool false) 1 Try.underlying40 hi hz0 hz1 .i64 .i64 k (by omega) (by rw [hz2]; omega) (by unfold maxLen; omega) hB
  refine ⟨w', h1, ?_, h3⟩
  unfold Rg.Own
  have e : (madeCells (Value.bool false).cells (k * 1)).toList = Rg.flat encB (List.replicate k false) := by
    rw [Nat.mul_one]
    have h1 : (madeCells (Value.bool false).cells k).toList = List.replicate k (.bool false) := by
      refine List.eq_replicate_iff.2 ⟨by simp [madeCells], fun b hb => ?_⟩
      unfold madeCells at hb
      rw [Array.toList_map] at hb
      obtain ⟨i, _, rfl⟩ := List.mem_map.1 hb
      have : (Value.bool false).cells = #[.bool false] := rfl
      rw [this]
      have e : i % (#[Value.bool false] : Array Value).size = 0 := Nat.mod_one i
      rw [e]; rfl
    have h2 : ∀ k : Nat, Rg.flat encB (List.replicate k false) = List.replicate k (.bool false) := fun k => by
      induction k with
      | zero => rfl
      | succ k ih => rw [List.replicate_succ, List.replicate_succ, ← ih]; rfl
    rw [h1, h2]
  rw [← e, List.length_replicate]
  exact h2
theorem own_stB {w : World} {B N c : Nat} {b : Nat} {m : List Bool} (h : Rg.Own encB 1 w B 4 (.slice (some ⟨b, 0, none⟩) N c) m) (hn : m.length = N) (p : Nat) (v : Bool) (hp : p < N) :
    Rg.Own encB 1 (w.setCell ⟨b, p, none⟩ (.bool v)) B 4 (.slice (some ⟨b, 0, none⟩) N c) (m.set p v) ∧ w.grownBy (w.setCell ⟨b, p, none⟩ (.bool v)) (some b) ∧ w.frozen? ⟨b, p, none⟩ = false ∧ ∃ u, w.cell? ⟨b, p, none⟩ = some u := by
  obtain ⟨g, e0, hgB, hgs, hfr⟩ := Rg.own_form h (by omega)
  obtain rfl : b = g := by cases e0; rfl
  obtain ⟨A', c', e, hrow, _⟩ := Rg.row_own fitsB h
  obtain ⟨ad, v0, had, _, _, hc⟩ := brow_at hrow p (by omega)
  have e2 : A' = some ⟨b, 0, none⟩ := by cases e; rfl
  obtain rfl := Option.some.inj (e2.symm.trans had)
  have hst := Rg.own_store fitsB h hn p 0 (by omega) (by decide) v (.bool v) rfl
  rw [Nat.mul_one, Nat.add_zero] at hst
  rw [add_b] at hc
  exact ⟨hst.1, hst.2, hfr _, _, hc⟩
end Go.Proofs.Ytjkmdghlhodhiaa.Up
namespace Go.Proofs.Ytjkmdghlhodhiaa
open Go.RowKit Cl Up
attribute [local go_sem ↓] Go.wp_at_zero Go.wp_at_succ
set_option maxRecDepth 100000 in
set_option maxHeartbeats 1600000 in
theorem refSetOf_any (n b : Nat) (w : World) (hn : n ≤ 60) (hb : b < 4611686018427387904) :
    Calls Try.prog 20 #[.int .i64 n, .int .i64 b] w (IRet w (bitL n b)) := by
  go_enter Try.func20, Try.ntmps20
  go_wp2_with fail
  go_loopw [5, 6] (fun v i wr => ∃ (k : Nat) (S : List Int), k ≤ n ∧ i = .int .i64 k ∧ Hid (S = bitL k b) ∧ Hid (Rg.Own encI 1 wr w.heap.size 3 v S) ∧ Hid (Below w.heap.size w wr ∧ w.heap.size ≤ wr.heap.size)) (fun _ i _ => n - (intOf i).toNat)
  case atStart => exact ⟨0, [], Nat.zero_le _, rfl, rfl, Rg.own_nil _ _ _, Below.refl _ _, Nat.le_refl _⟩
  case round =>
    obtain ⟨k, S, hk, rfl, HS, HO, HB⟩ := hrel
    by_cases hlt : k < n
    · obtain ⟨q, hq⟩ : ∃ q, b / 2 ^ k = q := ⟨_, rfl⟩
      have hqb : q ≤ b := by rw [← hq]; exact Nat.div_le_self ..
      have k0 : (0 : Int) ≤ (k : Int) := by omega
      have k1 : (k : Int) < (n : Int) := by omega
      have k2 : (k : Int) ≤ 64 := by omega
      have wk : IntKind.u64.wrap (k : Int) = (k : Int) := IntWalk.u64_in _ (by omega)
      have e1 : (b : Int) / 2 ^ k = (q : Int) := by rw [← hq]; norm_cast
      have e2 := and_one q (by omega)
      have hmore := bitL_more k b
      have htb : b.testBit k = decide (q % 2 = 1) := by rw [Nat.testBit_eq_decide_div_mod_eq, hq]
      obtain ⟨r, hr⟩ : ∃ r, q % 2 = r := ⟨_, rfl⟩
      rw [hr] at e2 htb
      have HSL : Hid (S.length + 1 ≤ 1000000) := by have := bitL_le k b; show _ ≤ _; rw [HS.out]; omega
      cases hr1 : (r : Int) == 1
      · have hrn : r ≠ 1 := fun e => by rw [e] at hr1; exact absurd hr1 (by decide)
        have HS2 : Hid (S = bitL (k + 1) b) := by
          show _ = _
          rw [hmore, htb, decide_eq_false hrn, HS.out]; simp
        clear hq hqb hmore htb hr hrn
        go_wp2_with fail
        go_roundw
        case rel => exact ⟨k + 1, S, by omega, by go_num, HS2.out, HO.out, HB.out⟩
        case measure => simp [intOf]; omega
      · have hrn : r = 1 := by have : (r : Int) = 1 := by simpa using hr1
                               omega
        have HS2 : Hid (S ++ [(k : Int)] = bitL (k + 1) b) := by
          show _ = _
          rw [hmore, htb, decide_eq_true hrn, HS.out]; simp
        clear hq hqb hmore htb hr hrn
        go_wp2_with (at_builtin; refine Rg.wpList_app sliceI rfl (.tmp 18) (.tmp 20) rfl w.heap.size _ S [(k : Int)] rfl (Rg.own_below HO.out ((Below.refl _ _).alloc (Nat.le_refl _) _)) _ _ rfl (Rg.news_new wr _ _ _ (by rfl)) (Nat.zero_lt_succ _) HSL.out ?b1 ?_)
        case b1 => have := HB.out.2; simp; omega
        intro v5 W5 ho5 hg5 hz5
        have HB5 := app_doneI HB HO hg5
        have HO5 := Lib.hid ho5
        clear ho5 hg5 hz5 HO HB HSL
        go_wp2_with fail
        go_roundw
        case rel => exact ⟨k + 1, S ++ [(k : Int)], by omega, by go_num, HS2.out, HO5.out, HB5.out⟩
        case measure => simp [intOf]; omega
    · have HE : Hid (S = bitL n b) := by
        show _ = _
        rw [HS.out, show k = n by omega]
      go_wp2_with fail
      go_ret
      exact ⟨_, rfl, by rw [← HE.out]; exact HO.out, HB.out.1, HB.out.2⟩
def Up.BRet (w : World) (t : List Bool) (e : Ending) (w' : World) : Prop := ∃ v, e = .returned v ∧ Rg.Own encB 1 w' w.heap.size 4 v t ∧ Below w.heap.size w w' ∧ w.heap.size ≤ w'.heap.size
set_option maxRecDepth 100000 in
set_option maxHeartbeats 1600000 in
theorem refModel_any (A : Option Addr) (k d n : Nat) (s : List Int) (w : World) (hk : s.length = k) (hs : IRow w A s) (hn : n ≤ 1000000) (hk1 : k ≤ 1000000) :
    Calls Try.prog 19 #[.slice A k d, .int .i64 n] w (BRet w (modelL s n)) := by
  have HK := Lib.hid hk
  have HS := Lib.hid hs
  obtain ⟨w1, hmk, hown, hgr⟩ := mkB_row n w w.heap.size (Nat.le_refl _) hn
  rw [← modelL_nil] at hown
  have HO1 := Lib.hid hown
  have HB1 : Hid (Below w.heap.size w w1 ∧ w.heap.size ≤ w1.heap.size) := ⟨(Below.refl _ _).trans (Rg.grown_below (Rg.own_nil (enc := encI) (K := 1) w w.heap.size 3) (Nat.le_refl _) hgr), hgr.size⟩
  obtain ⟨b, hb⟩ : ∃ b, w.heap.size = b := ⟨_, rfl⟩
  rw [hb] at hmk HO1
  have HBB := Lib.hid hb
  clear hk hs hown hgr hb
  go_enter Try.func19, Try.ntmps19
  go_wp2_with fail
  clear hmk
  go_loopw [6] (fun i wr => ∃ j : Nat, j ≤ k ∧ i = .int .i64 j ∧ Hid (Rg.Own encB 1 wr b 4 (.slice (some ⟨b, 0, none⟩) n n) (modelL (s.take j) n)) ∧ Hid (Below w.heap.size w wr ∧ w.heap.size ≤ wr.heap.size)) (fun i _ => k - (intOf i).toNat)
  case atStart => exact ⟨0, Nat.zero_le _, rfl, HO1, HB1⟩
  case round =>
    obtain ⟨j, hj, rfl, HO, HB⟩ := hrel
    by_cases hlt : j < k
    · have hjl : j < s.length := by rw [HK.out]; exact hlt
      obtain ⟨ad, x, rfl, hx, hxb, hc⟩ := irow_at (irow_below HS.out HB.out.1) j hjl
      have j0 : (0 : Int) ≤ (j : Int) := by omega
      have j1 : (j : Int) < (k : Int) := by omega
      by_cases hr : 0 ≤ x ∧ x < (n : Int)
      · obtain ⟨p, rfl⟩ : ∃ p : Nat, x = (p : Int) := ⟨x.toNat, by omega⟩
        have hin := modelL_in (n := n) hjl hx (by omega)
        obtain ⟨s1, s2, s3, u, s4⟩ := own_stB HO.out (modelL_len _ _) p true (by omega)
        rw [← hin] at s1
        have HO2 := Lib.hid s1
        have HG2 : Hid (Below w.heap.size w (wr.setCell ⟨b, p, none⟩ (.bool true)) ∧ w.heap.size ≤ (wr.setCell ⟨b, p, none⟩ (.bool true)).heap.size) := by
          have h1 := Rg.grown_below HO.out (by rw [← HBB.out]; exact HB.out.2) (w' := wr.setCell ⟨b, p, none⟩ (.bool true)) s2
          exact ⟨HB.out.1.trans (h1.mono (by rw [HBB.out]; exact Nat.le_refl _)), Nat.le_trans HB.out.2 s2.size⟩
        have p0 : (0 : Int) ≤ (p : Int) := by omega
        have p1 : (p : Int) < (n : Int) := hr.2
        have d0 : decide ((0 : Int) ≤ (p : Int)) = true := decide_eq_true p0
        have d1 : decide ((p : Int) < (n : Int)) = true := decide_eq_true p1
        clear hx hxb hin s1 s2 hjl hr HO HB
        go_wp2_with fail
        go_roundw
        case rel => exact ⟨j + 1, by omega, by go_num, HO2.out, HG2.out⟩
        case measure => simp [intOf]; omega
      · have hout := modelL_out (n := n) hjl hx (by omega)
        have ho := HO.out
        rw [← hout] at ho
        have HO2 := Lib.hid ho
        obtain ⟨g, hg⟩ : ∃ g, decide ((0 : Int) ≤ x) = g := ⟨_, rfl⟩
        have hg2 : g = true → decide (x < (n : Int)) = false := fun e => decide_eq_false (by
          rw [e] at hg
          have := of_decide_eq_true hg
          omega)
        clear hx hxb hout ho hjl hr HO
        cases g
        · clear hg2
          go_wp2_with fail
          go_roundw
          case rel => exact ⟨j + 1, by omega, by go_num, HO2.out, HB.out⟩
          case measure => simp [intOf]; omega
        · have hg3 := hg2 rfl
          clear hg2
          go_wp2_with fail
          go_roundw
          case rel => exact ⟨j + 1, by omega, by go_num, HO2.out, HB.out⟩
          case measure => simp [intOf]; omega
    · have ho := HO.out
      rw [List.take_of_length_le (by rw [HK.out]; omega)] at ho
      have HO2 := Lib.hid ho
      clear ho HO
      go_wp2_with fail
      go_ret
      exact ⟨_, rfl, by rw [HBB.out]; exact HO2.out, HB.out.1, HB.out.2⟩
end Go.Proofs.Ytjkmdghlhodhiaa
