/- Clauses: what is asked of them, with the panics that bear it; Check, CheckAll: walked. -/
import Derived.Test.YtjkmdghlhodhiaaEm
import Derived.Defers
namespace Go.Proofs.Ytjkmdghlhodhiaa.Cl
open Go.RowKit Up
/-- How a panic with an error number and a place leaves a function. -/
abbrev cPan (k n : Int) : Ending := .panicked [{ v := .iface 66 (.agg #[.int .i64 k, .int .i64 n]), recovered := false }]
set_option maxHeartbeats 400000 in
theorem cReq_yes {k n : Int} (w : World) : Calls Try.prog 41 #[.bool true, .int .i64 k, .int .i64 n] w fun e w' => e = .returned (.tuple #[]) ∧ w = w' := by
  go_enter Try.func41, Try.ntmps41
  go_wp2_with fail
  go_end0
  exact ⟨rfl, rfl⟩
set_option maxHeartbeats 400000 in
theorem cReq_no {k n : Int} (w : World) : Calls Try.prog 41 #[.bool false, .int .i64 k, .int .i64 n] w fun e w' => e = cPan k n ∧ w = w' := by
  go_enter Try.func41, Try.ntmps41
  go_wp2_with fail
  exact ⟨rfl, rfl, rfl⟩
set_option maxRecDepth 100000 in
set_option maxHeartbeats 400000 in
theorem cRaisedAt (k n : Int) {o : Int} (w : World) :
    Calls Try.prog 24 #[.iface 66 (.agg #[.int .i64 k, .int .i64 n]), .int .i64 o] w fun e w' => e = .returned (.tuple #[.int .i64 k, .int .i64 n]) ∧ Below w.heap.size w w' := by
  have hta : ∀ W : World, (Instr.typeAssert (.iface 66 (.agg #[.int .i64 k, .int .i64 n])) 20 26 true).run Try.prog W = .ok (.tuple #[.int .i64 0, .bool false]) W := fun _ => by kernel_rfl
  have htb : ∀ W : World, (Instr.typeAssert (.iface 66 (.agg #[.int .i64 k, .int .i64 n])) 20 66 true).run Try.prog W = .ok (.tuple #[.agg #[.int .i64 k, .int .i64 n], .bool true]) W := fun _ => by kernel_rfl
  go_enter Try.func24, Try.ntmps24
  go_wp2_with fail
  go_quiet (fail)
  go_wp2_with fail
  go_ret2
  refine ⟨rfl, below_drewN ?_ _⟩
  exact (Below.refl _ _).alloc (Nat.le_refl _) _
theorem cRaised (k n : Int) {o : Int} (w : World) :
    Calls Try.prog 45 #[.iface 66 (.agg #[.int .i64 k, .int .i64 n]), .int .i64 o] w fun e w' => e = .returned (.int .i64 n) ∧ Below w.heap.size w w' := by
  go_enter Try.func45, Try.ntmps45
  go_wp2_with fail
  refine (cRaisedAt k n _).mono ?_
  rintro _ w' ⟨rfl, hb⟩
  have HB := Lib.hid hb
  clear hb
  go_wp2_with fail
  go_ret
  exact ⟨rfl, HB.out⟩
/-- The two result cells. -/
def R2 (b : Nat) (u : World) : Prop := u.heap[b]? = some (.cells #[.int .i64 0] 3 (0, 0)) ∧ u.heap[b + 1]? = some (.cells #[.int .i64 0] 26 (0, 0))
theorem r2_of {w W1 W2 u : World} (h1 : w.alloc (.cells #[.int .i64 0] 3) = W1) (h2 : W1.alloc (.cells #[.int .i64 0] 26) = W2) (hb : Below W2.heap.size W2 u) : R2 w.heap.size u := by
  have hs1 : W1.heap.size = w.heap.size + 1 := by rw [← h1]; simp
  have hs2 : W2.heap.size = w.heap.size + 2 := by rw [← h2]; simp [hs1]
  refine ⟨(hb.block _ (by omega)).trans ?_, (hb.block _ (by omega)).trans ?_⟩
  · rw [((alloc_low h2).block _ (by omega)), ← h1]; exact heap_alloc_new w _
  · rw [← h2, ← hs1]; exact heap_alloc_new W1 _
theorem r2_cells {b : Nat} {u : World} (h : R2 b u) : u.cell? ⟨b, 0, none⟩ = some (.int .i64 0) ∧ u.frozen? ⟨b, 0, none⟩ = false ∧ u.cell? ⟨b + 1, 0, none⟩ = some (.int .i64 0) ∧ u.frozen? ⟨b + 1, 0, none⟩ = false := by
  obtain ⟨h1, h2⟩ := h
  refine ⟨?_, ?_, ?_, ?_⟩ <;> simp [World.cell?, World.frozen?, h1, h2]
theorem r2_after {b : Nat} {u : World} (h : R2 b u) (x : Value) : (u.setCell ⟨b, 0, none⟩ x).cell? ⟨b, 0, none⟩ = some x ∧ (u.setCell ⟨b, 0, none⟩ x).frozen? ⟨b, 0, none⟩ = false ∧ (u.setCell ⟨b, 0, none⟩ x).cell? ⟨b + 1, 0, none⟩ = some (.int .i64 0) ∧ (u.setCell ⟨b, 0, none⟩ x).frozen? ⟨b + 1, 0, none⟩ = false := by
  obtain ⟨h1, h2, h3, h4⟩ := r2_cells h
  refine ⟨by simp [go_sem, h1], by simp [go_sem, h2], ?_, by simp [go_sem, h4]⟩
  rw [World.cell?_setCell_far _ _ _ _ (by show b ≠ b + 1; omega)]; exact h3
theorem r2_both {b : Nat} {u : World} (h : R2 b u) (x y : Value) : ((u.setCell ⟨b, 0, none⟩ x).setCell ⟨b + 1, 0, none⟩ y).cell? ⟨b, 0, none⟩ = some x ∧ ((u.setCell ⟨b, 0, none⟩ x).setCell ⟨b + 1, 0, none⟩ y).cell? ⟨b + 1, 0, none⟩ = some y := by
  obtain ⟨h1, h2, h3, h4⟩ := r2_after h x
  refine ⟨?_, by simp [go_sem, h3]⟩
  rw [World.cell?_setCell_far _ _ _ _ (by show b + 1 ≠ b; omega)]; exact h1
theorem r2_again {b : Nat} {u : World} (h : R2 b u) : R2 b ((u.setCell ⟨b, 0, none⟩ (.int .i64 0)).setCell ⟨b + 1, 0, none⟩ (.int .i64 0)) := by
  obtain ⟨h1, h2⟩ := h
  have g1 : (u.setCell ⟨b, 0, none⟩ (.int .i64 0)).heap[b]? = some (.cells #[.int .i64 0] 3 (0, 0)) := by simp [World.setCell, Array.getElem?_modify, h1]
  have g2 : (u.setCell ⟨b, 0, none⟩ (.int .i64 0)).heap[b + 1]? = some (.cells #[.int .i64 0] 26 (0, 0)) := by simp [World.setCell, Array.getElem?_modify, h2]
  refine ⟨?_, ?_⟩
  · rw [Below.heap_setCell _ _ _ _ (by show b ≠ b + 1; omega)]; exact g1
  · obtain ⟨v, hv⟩ : ∃ v, u.setCell ⟨b, 0, none⟩ (.int .i64 0) = v := ⟨_, rfl⟩
    rw [hv] at g2 ⊢
    simp [World.setCell, Array.getElem?_modify, g2]
/-- What a clause is refused for, the number of variables being right. -/
def clE (n : Int) (c : List Int) : Int := if 256 < c.length then 4 else if c.any (litBad n) then 11 else 0
theorem clE_check {n : Int} (h : nBad n = false) (c : List Int) : checkC n c = clE n c := by unfold checkC; rw [h, if_neg (by decide)]; rfl
def cOk (i k : Int) : Ending := if k = 0 then .returned (.tuple #[]) else cPan i k
theorem cOk_zero (i : Int) : cOk i 0 = .returned (.tuple #[]) := rfl
theorem cOk_ne {i k : Int} (h : k ≠ 0) : cOk i k = cPan i k := if_neg h
theorem n_in {n : Int} (h : nBad n = false) : 0 ≤ n ∧ n ≤ 256 := by unfold nBad at h; simp at h; omega
theorem n_out {n : Int} (h : nBad n = true) : n < 0 ∨ 256 < n := by unfold nBad at h; simpa using h
attribute [local go_sem ↓] Go.wp_at_zero Go.wp_at_succ
set_option maxHeartbeats 400000 in
theorem reqVars_any (n : Int) (w : World) : Calls Try.prog 46 #[.int .i64 n] w fun e w' => e = okOr (!nBad n) 1 ∧ w = w' := by
  obtain ⟨R, hR⟩ : ∃ R, (!nBad n) = R := ⟨_, rfl⟩
  rw [hR]
  by_cases h0 : 0 ≤ n
  · have d0 : decide ((0 : Int) ≤ n) = true := decide_eq_true h0
    by_cases h1 : n ≤ 256
    · have d1 : decide (n ≤ 256) = true := decide_eq_true h1
      have HR : Hid (R = true) := by show _ = _; rw [← hR]; unfold nBad; simp; omega
      clear hR h0 h1
      go_enter Try.func46, Try.ntmps46
      go_wp2_with fail
      refine (require_yes _).mono ?_
      rintro _ z ⟨rfl, rfl⟩
      go_wp2_with fail
      go_end0
      exact ⟨by rw [HR.out]; rfl, rfl⟩
    · have d1 : decide (n ≤ 256) = false := decide_eq_false h1
      have HR : Hid (R = false) := by show _ = _; rw [← hR]; unfold nBad; simp; omega
      clear hR h0 h1
      go_enter Try.func46, Try.ntmps46
      go_wp2_with fail
      refine (require_no _).mono ?_
      rintro _ z ⟨rfl, rfl⟩
      go_wp2_with fail
      exact ⟨rfl, by rw [HR.out]; rfl, rfl⟩
  · have d0 : decide ((0 : Int) ≤ n) = false := decide_eq_false h0
    have HR : Hid (R = false) := by show _ = _; rw [← hR]; unfold nBad; simp; omega
    clear hR h0
    go_enter Try.func46, Try.ntmps46
    go_wp2_with fail
    refine (require_no _).mono ?_
    rintro _ z ⟨rfl, rfl⟩
    go_wp2_with fail
    exact ⟨rfl, by rw [HR.out]; rfl, rfl⟩
/-- The literals so far, and the answer. -/
theorem lit_at {n : Int} {l : List Int} {k : Nat} (hk : k < l.length) (h0 : ∀ x ∈ l.take k, litBad n x = false) {x : Int} (hx : l[k] = x) : (litBad n x = true → l.any (litBad n) = true) ∧ (litBad n x = false → ∀ y ∈ l.take (k + 1), litBad n y = false) := by
  subst hx
  refine ⟨fun h => List.any_eq_true.2 ⟨_, List.getElem_mem _, h⟩, fun h y hy => ?_⟩
  rw [List.take_succ_eq_append_getElem hk] at hy
  rcases List.mem_append.1 hy with h1 | h1
  · exact h0 y h1
  · rw [List.mem_singleton.1 h1]; exact h
set_option maxRecDepth 100000 in
set_option maxHeartbeats 1600000 in
theorem reqClause_any (n : Int) (hn : nBad n = false) (A : Option Addr) (m c : Nat) (l : List Int) (p : Int) (w : World) (hm : l.length = m) (hr : IRow w A l) :
    Calls Try.prog 47 #[.int .i64 n, .slice A m c, .int .i64 p] w fun e w' => e = cOk p (clE n l) ∧ Below w.heap.size w w' := by
  obtain ⟨hn0, hn1⟩ := n_in hn
  obtain ⟨R, hR⟩ : ∃ R, clE n l = R := ⟨_, rfl⟩
  rw [hR]
  unfold clE at hR
  rw [hm] at hR
  have HR0 := Lib.hid hr
  have HM := Lib.hid hm
  by_cases h256 : 256 < m
  · have d : decide ((m : Int) ≤ 256) = false := decide_eq_false (by omega)
    have HR : Hid (R = 4) := by rw [if_pos h256] at hR; exact hR.symm
    clear hr hm hR hn hn0 hn1 h256
    go_enter Try.func47, Try.ntmps47
    go_wp2_with fail
    refine (cReq_no _).mono ?_
    rintro _ z ⟨rfl, rfl⟩
    go_wp2_with fail
    exact ⟨rfl, by rw [HR.out]; rfl, Below.refl _ _⟩
  rw [if_neg h256] at hR
  have d : decide ((m : Int) ≤ 256) = true := decide_eq_true (by omega)
  have HR := Lib.hid hR
  have HN0 : Hid (0 ≤ n ∧ n ≤ 256) := ⟨hn0, hn1⟩
  have hneg : IntKind.i64.wrap (-n) = -n := IntWalk.i64_in _ (by omega)
  have hneg2 : IntKind.i64.wrap (0 - n) = -n := by rw [Int.zero_sub]; exact hneg
  clear hr hm hR hn hn0 hn1
  have hm256 : m ≤ 256 := by omega
  clear h256
  go_enter Try.func47, Try.ntmps47
  go_wp2_with fail
  refine (cReq_yes _).mono ?_
  rintro _ z ⟨rfl, rfl⟩
  clear d
  go_wp2_with fail
  go_loopw [15] (fun i wr => ∃ k : Nat, k ≤ m ∧ i = .int .i64 k ∧ Hid (∀ x ∈ l.take k, litBad n x = false) ∧ Hid (Below w.heap.size w wr)) (fun i _ => m - (intOf i).toNat)
  case atStart => exact ⟨0, Nat.zero_le _, rfl, (fun x h => absurd h (by simp)), Below.refl _ _⟩
  case round =>
    obtain ⟨k, hk, rfl, HT, HB⟩ := hrel
    by_cases hlt : k < m
    · have HKL := Lib.hid hlt
      have hkl : k < l.length := by rw [HM.out]; exact hlt
      obtain ⟨ad, x, rfl, hx, hs, hc⟩ := irow_at (irow_below HR0.out HB.out) k hkl
      obtain ⟨t1, t2⟩ := lit_at (n := n) hkl HT.out hx
      have HT1 := Lib.hid t1
      have HT2 := Lib.hid t2
      clear hkl hx t1 t2
      by_cases a0 : -n ≤ x
      · have d0 : decide (-n ≤ x) = true := decide_eq_true a0
        by_cases a1 : x ≤ n
        · have d1 : decide (x ≤ n) = true := decide_eq_true a1
          by_cases a2 : x = 0
          · have d2 : (x != 0) = false := by simpa using a2
            have HX : Hid (litBad n x = true) := by show _ = _; unfold litBad; rw [a2]; rfl
            clear a0 a1 a2
            go_wp2_with fail
            refine (cReq_no _).mono ?_
            rintro _ z ⟨rfl, rfl⟩
            go_wp2_with fail
            have HF : Hid (R = 11) := by show _ = _; rw [← HR.out, HT1.out HX.out]; rfl
            exact ⟨rfl, by rw [HF.out]; rfl, HB.out⟩
          · have d2 : (x != 0) = true := by simpa using a2
            have HX : Hid (litBad n x = false) := by show _ = _; unfold litBad; simp; omega
            clear a0 a1 a2
            go_wp2_with fail
            refine (cReq_yes _).mono ?_
            rintro _ z ⟨rfl, rfl⟩
            go_wp2_with fail
            go_roundw
            case rel => exact ⟨k + 1, (by have := HKL.out; omega), by go_num, HT2.out HX.out, HB.out⟩
            case measure => have := HKL.out; simp [intOf]; omega
        · have d1 : decide (x ≤ n) = false := decide_eq_false a1
          have HX : Hid (litBad n x = true) := by show _ = _; unfold litBad; simp; omega
          clear a0 a1
          go_wp2_with fail
          refine (cReq_no _).mono ?_
          rintro _ z ⟨rfl, rfl⟩
          go_wp2_with fail
          have HF : Hid (R = 11) := by show _ = _; rw [← HR.out, HT1.out HX.out]; rfl
          exact ⟨rfl, by rw [HF.out]; rfl, HB.out⟩
      · have d0 : decide (-n ≤ x) = false := decide_eq_false a0
        have HX : Hid (litBad n x = true) := by show _ = _; unfold litBad; simp; omega
        clear a0
        go_wp2_with fail
        refine (cReq_no _).mono ?_
        rintro _ z ⟨rfl, rfl⟩
        go_wp2_with fail
        have HF : Hid (R = 11) := by show _ = _; rw [← HR.out, HT1.out HX.out]; rfl
        exact ⟨rfl, by rw [HF.out]; rfl, HB.out⟩
    · obtain rfl : k = m := by omega
      have HF : Hid (R = 0) := by
        show _ = _
        rw [← HR.out, if_neg]
        rw [List.any_eq_true]
        rintro ⟨x, h1, h2⟩
        have := HT.out x (by rw [List.take_of_length_le (by rw [HM.out]; exact Nat.le_refl _)]; exact h1)
        rw [this] at h2; exact absurd h2 (by decide)
      go_wp2_with fail
      go_end0
      exact ⟨by rw [HF.out]; rfl, HB.out⟩
/-! Check. -/
theorem chk_panic (p : Addr) (x n : Int) (w : World) (hc : w.cell? p = some (.int .i64 x)) (hz : w.frozen? p = false) :
    CallsD Try.prog 44 #[.pointer (some p)] (.panicking [{ v := .iface 26 (.int .i64 n), recovered := false }]) w fun e u' w' =>
      e = .returned (.tuple #[]) ∧ u' = .panicking [{ v := .iface 26 (.int .i64 n), recovered := true }] ∧ w' = w.setCell p (.int .i64 n) := by
  refine callsD_of_wpS Try.func44 rfl fun c₀ cs hu => ?_
  apply wpS_region
  simp [wpOpsS, go_sem, recoverD, hu, Try.ntmps44]
  refine (raised_err n _).mono ?_
  rintro e w' ⟨rfl, rfl⟩
  simp [go_sem, hc, hz, bodyPostS, results, Try.results44]
theorem chk_placed (p : Addr) (x k n : Int) (w : World) (hc : ∀ u, Below w.heap.size w u → u.cell? p = some (.int .i64 x)) (hz : ∀ u, Below w.heap.size w u → u.frozen? p = false) :
    CallsD Try.prog 44 #[.pointer (some p)] (.panicking [{ v := .iface 66 (.agg #[.int .i64 k, .int .i64 n]), recovered := false }]) w fun e u' w' =>
      e = .returned (.tuple #[]) ∧ u' = .panicking [{ v := .iface 66 (.agg #[.int .i64 k, .int .i64 n]), recovered := true }] ∧ ∃ u, Below w.heap.size w u ∧ w' = u.setCell p (.int .i64 n) := by
  refine callsD_of_wpS Try.func44 rfl fun c₀ cs hu => ?_
  apply wpS_region
  simp [wpOpsS, go_sem, recoverD, hu, Try.ntmps44]
  refine (cRaised k n _).mono ?_
  rintro e w' ⟨rfl, hb⟩
  simp [go_sem, hc _ hb, hz _ hb, bodyPostS, results, Try.results44]
  exact ⟨w', hb, rfl⟩
theorem chk_idle (p : Addr) (x : Int) (w : World) (hc : w.cell? p = some (.int .i64 x)) (hz : w.frozen? p = false) :
    CallsD Try.prog 44 #[.pointer (some p)] .returning w fun e u' w' => e = .returned (.tuple #[]) ∧ u' = .returning ∧ w' = w.setCell p (.int .i64 0) := by
  refine callsD_of_wpS Try.func44 rfl fun c₀ cs hu => ?_
  apply wpS_region
  simp [wpOpsS, go_sem, recoverD, hu, Try.ntmps44]
  refine (raised_nil _).mono ?_
  rintro e w' ⟨rfl, rfl⟩
  cases c₀
  simp_all [go_sem, bodyPostS, results, Try.results44]
/-- One result cell. -/
def R1 (b : Nat) (u : World) : Prop := u.heap[b]? = some (.cells #[.int .i64 0] 26 (0, 0))
theorem r1_cell {b : Nat} {u : World} (h : R1 b u) : u.cell? ⟨b, 0, none⟩ = some (.int .i64 0) ∧ u.frozen? ⟨b, 0, none⟩ = false := by
  unfold R1 at h
  constructor <;> simp [World.cell?, World.frozen?, h]
theorem r1_again {b : Nat} {u : World} (h : R1 b u) : R1 b (u.setCell ⟨b, 0, none⟩ (.int .i64 0)) := by
  unfold R1 at h ⊢
  simp [World.setCell, Array.getElem?_modify, h]
set_option maxRecDepth 100000 in
set_option maxHeartbeats 1600000 in
theorem pCheck_any (n : Int) (A : Option Addr) (m c : Nat) (l : List Int) (w : World) (hm : l.length = m) (hr : IRow w A l) :
    Calls Try.prog 32 #[.int .i64 n, .slice A m c] w fun e w' => e = .returned (.int .i64 (checkC n l)) ∧ Below w.heap.size w w' := by
  have hmf : ∀ (fn : Fn) (first cap : Array Value) (w : World), (Instr.makeFunc fn first cap).run Try.prog w = .ok (.func fn first cap) w := fun _ _ _ _ => rfl
  obtain ⟨W1, hW1⟩ : ∃ W, w.alloc (.cells #[.int .i64 0] 26) = W := ⟨_, rfl⟩
  have HBW : Hid (Below w.heap.size w W1) := alloc_low hW1
  have HP : Hid (∀ u, Below W1.heap.size W1 u → R1 w.heap.size u) := fun u hb => by
    refine (hb.block _ (by rw [← hW1]; simp)).trans ?_
    rw [← hW1]; exact heap_alloc_new w _
  obtain ⟨X, hX⟩ : ∃ X, checkC n l = X := ⟨_, rfl⟩
  rw [hX]
  by_cases hn : nBad n = true
  · have HX : Hid (X = 1) := by show _ = _; rw [← hX]; unfold checkC; rw [hn]; rfl
    have HV : Hid (Calls Try.prog 46 #[.int .i64 n] W1 fun e w' => e = pan 1 ∧ W1 = w') := (reqVars_any n W1).mono fun _ _ h => ⟨by rw [h.1, hn]; rfl, h.2⟩
    clear hX hn hm hr
    obtain ⟨c0, f0⟩ := r1_cell (HP.out _ (Below.refl _ _))
    go_enter_defers Try.func32, Try.ntmps32
    go_wp2_with fail
    clear hW1
    refine HV.out.mono ?_
    rintro _ z1 ⟨rfl, rfl⟩
    go_wp2_with fail
    refine leaves_cons (f := 44) (args := #[.pointer (some ⟨w.heap.size, 0, none⟩)]) (by simp) (by simp [go_sem]) ?_
    refine (chk_panic ⟨w.heap.size, 0, none⟩ 0 1 _ c0 f0).mono ?_
    rintro e u' w3 ⟨rfl, rfl, rfl⟩
    simp [Leaves, settle, results, Try.results32, go_sem, c0]
    exact ⟨HX.out.symm, HBW.out.setCell (Nat.le_refl _) _⟩
  · have hn' : nBad n = false := by simpa using hn
    have HV : Hid (Calls Try.prog 46 #[.int .i64 n] W1 fun e w' => e = .returned (.tuple #[]) ∧ W1 = w') := (reqVars_any n W1).mono fun _ _ h => ⟨by rw [h.1, hn']; rfl, h.2⟩
    have HQ := Lib.hid (reqClause_any n hn' A m c l 0 W1 hm (irow_below hr HBW.out))
    have HX : Hid (clE n l = X) := by show _ = _; rw [← hX]; exact (clE_check hn' l).symm
    clear hX hn hn' hm hr
    go_enter_defers Try.func32, Try.ntmps32
    go_wp2_with fail
    clear hW1
    refine HV.out.mono ?_
    rintro _ z1 ⟨rfl, rfl⟩
    go_wp2_with fail
    refine HQ.out.mono ?_
    rintro _ z2 ⟨rfl, hb⟩
    have HB := Lib.hid hb
    clear hb
    rw [HX.out]
    obtain ⟨c0, f0⟩ := r1_cell (HP.out _ HB.out)
    by_cases hx : X = 0
    · subst hx
      rw [cOk_zero]
      have HR1 : Hid (R1 w.heap.size (z2.setCell ⟨w.heap.size, 0, none⟩ (.int .i64 0))) := r1_again (HP.out _ HB.out)
      have HBV : Hid (Below w.heap.size w (z2.setCell ⟨w.heap.size, 0, none⟩ (.int .i64 0))) := (HBW.out.trans (HB.out.mono HBW.out.size)).setCell (Nat.le_refl _) _
      go_wp2_with fail
      generalize z2.setCell ⟨w.heap.size, 0, none⟩ (.int .i64 0) = V at *
      obtain ⟨k0, m0⟩ := r1_cell HR1.out
      refine leaves_cons (f := 44) (args := #[.pointer (some ⟨w.heap.size, 0, none⟩)]) (by simp) (by simp [go_sem]) ?_
      refine (chk_idle ⟨w.heap.size, 0, none⟩ 0 _ k0 m0).mono ?_
      rintro e u' w3 ⟨rfl, rfl, rfl⟩
      simp [Leaves, settle, results, Try.results32, go_sem, k0]
      exact HBV.out.setCell (Nat.le_refl _) _
    · rw [cOk_ne hx]
      clear hx
      go_wp2_with fail
      refine leaves_cons (f := 44) (args := #[.pointer (some ⟨w.heap.size, 0, none⟩)]) (by simp) (by simp [go_sem]) ?_
      refine (chk_placed ⟨w.heap.size, 0, none⟩ 0 0 X _ (fun u hb => (r1_cell (HP.out _ (HB.out.trans (hb.mono HB.out.size)))).1) (fun u hb => (r1_cell (HP.out _ (HB.out.trans (hb.mono HB.out.size)))).2)).mono ?_
      rintro e u' w3 ⟨rfl, rfl, u, hb, rfl⟩
      have HBU := Lib.hid (HB.out.trans (hb.mono HB.out.size))
      obtain ⟨q0, q1⟩ := r1_cell (HP.out _ HBU.out)
      simp [Leaves, settle, results, Try.results32, go_sem, q0]
      exact (HBW.out.trans (HBU.out.mono HBW.out.size)).setCell (Nat.le_refl _) _
theorem checkC_any (Q : World → Prop) : CheckC Q := fun n A m c l w hm hr _ _ => pCheck_any n A m c l w hm hr
end Go.Proofs.Ytjkmdghlhodhiaa.Cl
