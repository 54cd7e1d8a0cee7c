/- Parse: walked. -/
import Derived.Test.YtoioeekfnnoaoaaGreatDoorEyg
import Derived.Sort.Row
namespace Go.Proofs.YtoioeekfnnoaoaaGreatDoor.Cl
open Go.RowKit Up Sz
theorem r2_same {b : Nat} {u : World} (h : R2 b u) : (u.setCell ⟨b, 0, none⟩ (.int .i64 0)).setCell ⟨b + 1, 0, none⟩ (.int .i64 0) = u := by
  obtain ⟨h1, h2⟩ := h
  have e1 : u.setCell ⟨b, 0, none⟩ (.int .i64 0) = u := by
    rw [Sort.setCell_eq]
    exact Sort.mapBlock_id _ _ _ fun c e fr hc => by
      rw [h1] at hc; cases hc; rfl
  rw [e1, Sort.setCell_eq]
  exact Sort.mapBlock_id _ _ _ fun c e fr hc => by
    rw [h2] at hc; cases hc; rfl
theorem prs_panic (p q : Addr) (x y n : Int) (w : World) (hc : w.cell? p = some (.int .i64 x)) (hz : w.frozen? p = false) (hc2 : (w.setCell p (.int .i64 0)).cell? q = some (.int .i64 y)) (hz2 : (w.setCell p (.int .i64 0)).frozen? q = false) :
    CallsD Tryz.prog 43 #[.pointer (some p), .pointer (some q)] (.panicking [{ v := .iface 25 (.int .i64 n), recovered := false }]) w fun e u' w' =>
      e = .returned (.tuple #[]) ∧ u' = .panicking [{ v := .iface 25 (.int .i64 n), recovered := true }] ∧ w' = (w.setCell p (.int .i64 0)).setCell q (.int .i64 n) := by
  refine callsD_of_wpS Tryz.func43 rfl fun c₀ cs hu => ?_
  apply wpS_region
  simp [wpOpsS, go_sem, recoverD, hu, Tryz.ntmps43]
  refine (raisedAt_err n _).mono ?_
  rintro e w' ⟨rfl, rfl⟩
  simp [go_sem, hc, hz, hc2, hz2, bodyPostS, results, Tryz.results43]
theorem prs_placed (p q : Addr) (x y k n : Int) (w : World) (hc : ∀ u, Below w.heap.size w u → u.cell? p = some (.int .i64 x)) (hz : ∀ u, Below w.heap.size w u → u.frozen? p = false) (hc2 : ∀ u, Below w.heap.size w u → (u.setCell p (.int .i64 k)).cell? q = some (.int .i64 y)) (hz2 : ∀ u, Below w.heap.size w u → (u.setCell p (.int .i64 k)).frozen? q = false) :
    CallsD Tryz.prog 43 #[.pointer (some p), .pointer (some q)] (.panicking [{ v := .iface 93 (.agg #[.int .i64 k, .int .i64 n]), recovered := false }]) w fun e u' w' =>
      e = .returned (.tuple #[]) ∧ u' = .panicking [{ v := .iface 93 (.agg #[.int .i64 k, .int .i64 n]), recovered := true }] ∧ ∃ u, Below w.heap.size w u ∧ w' = (u.setCell p (.int .i64 k)).setCell q (.int .i64 n) := by
  refine callsD_of_wpS Tryz.func43 rfl fun c₀ cs hu => ?_
  apply wpS_region
  simp [wpOpsS, go_sem, recoverD, hu, Tryz.ntmps43]
  refine (cRaisedAt k n _).mono ?_
  rintro e w' ⟨rfl, hb⟩
  simp [go_sem, hc _ hb, hz _ hb, hc2 _ hb, hz2 _ hb, bodyPostS, results, Tryz.results43]
  exact ⟨w', hb, rfl⟩
theorem prs_idle (p q : Addr) (x y : Int) (w : World) (hc : w.cell? p = some (.int .i64 x)) (hz : w.frozen? p = false) (hc2 : (w.setCell p (.int .i64 0)).cell? q = some (.int .i64 y)) (hz2 : (w.setCell p (.int .i64 0)).frozen? q = false) :
    CallsD Tryz.prog 43 #[.pointer (some p), .pointer (some q)] .returning w fun e u' w' => e = .returned (.tuple #[]) ∧ u' = .returning ∧ w' = (w.setCell p (.int .i64 0)).setCell q (.int .i64 0) := by
  refine callsD_of_wpS Tryz.func43 rfl fun c₀ cs hu => ?_
  apply wpS_region
  simp [wpOpsS, go_sem, recoverD, hu, Tryz.ntmps43]
  refine (raisedAt_nil _).mono ?_
  rintro e w' ⟨rfl, rfl⟩
  cases c₀
  simp_all [go_sem, bodyPostS, results, Tryz.results43]
attribute [local go_sem ↓] Go.wp_at_zero Go.wp_at_succ
set_option maxRecDepth 100000 in
set_option maxHeartbeats 1600000 in
theorem parse_any (s : List UInt8) (w : World) (hs : s.length ≤ 262144) (hq : QC w) :
    Calls Tryz.prog 19 #[.string ⟨s.toArray⟩] w (ParseP w s) := by
  have hmf : ∀ (fn : Fn) (first cap : Array Value) (w : World), (Instr.makeFunc fn first cap).run Tryz.prog w = .ok (.func fn first cap) w := fun _ _ _ _ => rfl
  obtain ⟨W1, hW1⟩ : ∃ W, w.alloc (.cells #[.int .i64 0] 3) = W := ⟨_, rfl⟩
  obtain ⟨W2, hW2⟩ : ∃ W, W1.alloc (.cells #[.int .i64 0] 25) = W := ⟨_, rfl⟩
  have HPC : Hid (∀ u, Below W2.heap.size W2 u → R2 w.heap.size u) := fun u hb => r2_of hW1 hW2 hb
  have hs1 : W1.heap.size = w.heap.size + 1 := by rw [← hW1]; simp
  have HBW : Hid (Below w.heap.size w W2) := (alloc_low hW1).trans ((alloc_low hW2).mono (alloc_low hW1).size)
  have HQ := Lib.hid (read_any s hs W2 (qc_stays _ _ hq HBW.out))
  have HOK : Hid (∀ (n : Nat) (l : List (List Int)) (C : Option Addr) (c : Nat) (u : World), parseC s = (0, 0, n, l) → GRow u C l → Below w.heap.size w u → ParseP w s (.returned (.tuple #[.int .i64 n, .slice C l.length c, .int .i64 0, .int .i64 0])) u) := fun n l C c u h1 h2 h3 => by
    refine ⟨C, c, ?_, ?_, h3⟩ <;> rw [h1]
    · rfl
    · exact h2
  have HNO : Hid (∀ (i : Nat) (k : Int) (u : World), parseC s = (i, k, 0, []) → Below w.heap.size w u → ParseP w s (.returned (.tuple #[.int .i64 0, .slice none 0 0, .int .i64 i, .int .i64 k])) u) := fun i k u h1 h3 => by
    refine ⟨none, 0, ?_, ?_, h3⟩ <;> rw [h1]
    · rfl
    · exact Gr.row_nil _ _
  clear hq
  go_enter_defers Tryz.func19, Tryz.ntmps19
  go_wp2_with fail
  clear hW1 hW2
  refine HQ.out.mono ?_
  rintro e z1 ⟨he, hb⟩
  have HB := Lib.hid hb
  clear hb HQ
  rcases he with ⟨n, l, C, c, hP, rfl, hg⟩ | ⟨i, k, hP, hk0, he⟩
  · have HF := Lib.hid (HOK.out n l C c z1 hP hg (HBW.out.trans (HB.out.mono HBW.out.size)))
    clear hP hg
    obtain ⟨c0, f0, c1, f1⟩ := r2_cells (HPC.out _ HB.out)
    obtain ⟨d0, g0, d1, g1⟩ := r2_after (HPC.out _ HB.out) (.int .i64 0)
    have HE1 := Lib.hid (r2_same (HPC.out _ HB.out))
    obtain ⟨q0, q1⟩ := r2_both (HPC.out _ HB.out) (.int .i64 0) (.int .i64 0)
    obtain ⟨m, hm⟩ : ∃ m, l.length = m := ⟨_, rfl⟩
    rw [hm] at HF ⊢
    clear hm
    go_wp2_with fail
    rw [HE1.out]
    refine leaves_cons (f := 43) (args := #[.pointer (some ⟨w.heap.size, 0, none⟩), .pointer (some ⟨w.heap.size + 1, 0, none⟩)]) (by simp) (by simp [go_sem]) ?_
    refine (prs_idle ⟨w.heap.size, 0, none⟩ ⟨w.heap.size + 1, 0, none⟩ 0 0 _ c0 f0 d1 g1).mono ?_
    rintro e u' w3 ⟨rfl, rfl, rfl⟩
    rw [HE1.out]
    simp [Leaves, settle, results, Tryz.results19, go_sem, c0, c1]
    exact HF.out
  · rcases he with rfl | ⟨rfl, rfl⟩
    · have HF := Lib.hid (fun u hb => HNO.out i k u hP hb)
      clear hP hk0
      go_wp2_with fail
      refine leaves_cons (f := 43) (args := #[.pointer (some ⟨w.heap.size, 0, none⟩), .pointer (some ⟨w.heap.size + 1, 0, none⟩)]) (by simp) (by simp [go_sem]) ?_
      refine (prs_placed ⟨w.heap.size, 0, none⟩ ⟨w.heap.size + 1, 0, none⟩ 0 0 i k _ (fun u hb => (r2_cells (HPC.out _ (HB.out.trans (hb.mono HB.out.size)))).1) (fun u hb => (r2_cells (HPC.out _ (HB.out.trans (hb.mono HB.out.size)))).2.1) (fun u hb => (r2_after (HPC.out _ (HB.out.trans (hb.mono HB.out.size))) _).2.2.1) (fun u hb => (r2_after (HPC.out _ (HB.out.trans (hb.mono HB.out.size))) _).2.2.2)).mono ?_
      rintro e u' w3 ⟨rfl, rfl, u, hb, rfl⟩
      have HBU := Lib.hid (HB.out.trans (hb.mono HB.out.size))
      obtain ⟨q0, q1⟩ := r2_both (HPC.out _ HBU.out) (.int .i64 i) (.int .i64 k)
      simp [Leaves, settle, results, Tryz.results19, go_sem, q0, q1]
      exact HF.out _ (((HBW.out.trans (HBU.out.mono HBW.out.size)).setCell (Nat.le_refl _) _).setCell (Nat.le_succ _) _)
    · have HF := Lib.hid (fun u hb => HNO.out 0 k u hP hb)
      clear hP hk0
      obtain ⟨c0, f0, c1, f1⟩ := r2_cells (HPC.out _ HB.out)
      obtain ⟨d0, g0, d1, g1⟩ := r2_after (HPC.out _ HB.out) (.int .i64 0)
      obtain ⟨q0, q1⟩ := r2_both (HPC.out _ HB.out) (.int .i64 0) (.int .i64 k)
      go_wp2_with fail
      refine leaves_cons (f := 43) (args := #[.pointer (some ⟨w.heap.size, 0, none⟩), .pointer (some ⟨w.heap.size + 1, 0, none⟩)]) (by simp) (by simp [go_sem]) ?_
      refine (prs_panic ⟨w.heap.size, 0, none⟩ ⟨w.heap.size + 1, 0, none⟩ 0 0 k _ c0 f0 d1 g1).mono ?_
      rintro e u' w3 ⟨rfl, rfl, rfl⟩
      simp [Leaves, settle, results, Tryz.results19, go_sem, q0, q1]
      exact HF.out _ (((HBW.out.trans (HB.out.mono HBW.out.size)).setCell (Nat.le_refl _) _).setCell (Nat.le_succ _) _)
theorem parseC_any : ParseC QC := fun s w hs hq => parse_any s w hs hq
end Go.Proofs.YtoioeekfnnoaoaaGreatDoor.Cl
