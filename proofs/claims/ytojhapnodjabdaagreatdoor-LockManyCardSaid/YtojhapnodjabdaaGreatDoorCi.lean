/- Check, Get, Same of a lock: walked. -/
import Derived.Test.YtojhapnodjabdaaGreatDoorCh
import Derived.Defers
namespace Go.Proofs.YtojhapnodjabdaaGreatDoor
open Go.RowKit At Lk
theorem lCheck_panic (p q : Addr) (x y n : Int) (w : World) (hc : w.cell? p = some (.int .i64 x)) (hz : w.frozen? p = false) (hc2 : (w.setCell p (.int .i64 0)).cell? q = some (.int .i64 y)) (hz2 : (w.setCell p (.int .i64 0)).frozen? q = false) :
    CallsD Tryz.prog 26 #[.pointer (some p), .pointer (some q)] (.panicking [{ v := .iface 28 (.int .i64 n), recovered := false }]) w fun e u' w' =>
      e = .returned (.tuple #[]) ∧ u' = .panicking [{ v := .iface 28 (.int .i64 n), recovered := true }] ∧ w' = (w.setCell p (.int .i64 0)).setCell q (.int .i64 n) := by
  refine callsD_of_wpS Tryz.func26 rfl fun c₀ cs hu => ?_
  apply wpS_region
  simp [wpOpsS, go_sem, recoverD, hu, Tryz.ntmps26]
  refine (raisedAt_err n _).mono ?_
  rintro e w' ⟨rfl, rfl⟩
  simp [go_sem, hc, hz, hc2, hz2, bodyPostS, results, Tryz.results26]
theorem lCheck_placed (p q : Addr) (x y k n : Int) (w : World) (hc : ∀ u, Below w.heap.size w u → u.cell? p = some (.int .i64 x)) (hz : ∀ u, Below w.heap.size w u → u.frozen? p = false) (hc2 : ∀ u, Below w.heap.size w u → (u.setCell p (.int .i64 k)).cell? q = some (.int .i64 y)) (hz2 : ∀ u, Below w.heap.size w u → (u.setCell p (.int .i64 k)).frozen? q = false) :
    CallsD Tryz.prog 26 #[.pointer (some p), .pointer (some q)] (.panicking [{ v := .iface 75 (.agg #[.int .i64 k, .int .i64 n]), recovered := false }]) w fun e u' w' =>
      e = .returned (.tuple #[]) ∧ u' = .panicking [{ v := .iface 75 (.agg #[.int .i64 k, .int .i64 n]), recovered := true }] ∧ ∃ u, Below w.heap.size w u ∧ w' = (u.setCell p (.int .i64 k)).setCell q (.int .i64 n) := by
  refine callsD_of_wpS Tryz.func26 rfl fun c₀ cs hu => ?_
  apply wpS_region
  simp [wpOpsS, go_sem, recoverD, hu, Tryz.ntmps26]
  refine (raisedAt_placed k n _).mono ?_
  rintro e w' ⟨rfl, hb⟩
  simp [go_sem, hc _ hb, hz _ hb, hc2 _ hb, hz2 _ hb, bodyPostS, results, Tryz.results26]
  exact ⟨w', hb, rfl⟩
theorem lCheck_idle (p q : Addr) (x y : Int) (w : World) (hc : w.cell? p = some (.int .i64 x)) (hz : w.frozen? p = false) (hc2 : (w.setCell p (.int .i64 0)).cell? q = some (.int .i64 y)) (hz2 : (w.setCell p (.int .i64 0)).frozen? q = false) :
    CallsD Tryz.prog 26 #[.pointer (some p), .pointer (some q)] .returning w fun e u' w' => e = .returned (.tuple #[]) ∧ u' = .returning ∧ w' = (w.setCell p (.int .i64 0)).setCell q (.int .i64 0) := by
  refine callsD_of_wpS Tryz.func26 rfl fun c₀ cs hu => ?_
  apply wpS_region
  simp [wpOpsS, go_sem, recoverD, hu, Tryz.ntmps26]
  refine (raisedAt_nil _).mono ?_
  rintro e w' ⟨rfl, rfl⟩
  cases c₀
  simp_all [go_sem, bodyPostS, results, Tryz.results26]
/-- The two result cells. -/
def Lk.P2 (b : Nat) (u : World) : Prop := u.heap[b]? = some (.cells #[.int .i64 0] 3 (0, 0)) ∧ u.heap[b + 1]? = some (.cells #[.int .i64 0] 28 (0, 0))
theorem Lk.p2_of {w W1 W2 u : World} (h1 : w.alloc (.cells #[.int .i64 0] 3) = W1) (h2 : W1.alloc (.cells #[.int .i64 0] 28) = W2) (hb : Below W2.heap.size W2 u) : P2 w.heap.size u := by
  have hs1 : W1.heap.size = w.heap.size + 1 := by rw [← h1]; simp
  have hs2 : W2.heap.size = w.heap.size + 2 := by rw [← h2]; simp [hs1]
  refine ⟨(hb.block _ (by omega)).trans ?_, (hb.block _ (by omega)).trans ?_⟩
  · rw [((alloc_low h2).block _ (by omega)), ← h1]; exact heap_alloc_new w _
  · rw [← h2, ← hs1]; exact heap_alloc_new W1 _
theorem Lk.p2_cells {b : Nat} {u : World} (h : P2 b u) : u.cell? ⟨b, 0, none⟩ = some (.int .i64 0) ∧ u.frozen? ⟨b, 0, none⟩ = false ∧ u.cell? ⟨b + 1, 0, none⟩ = some (.int .i64 0) ∧ u.frozen? ⟨b + 1, 0, none⟩ = false := by
  obtain ⟨h1, h2⟩ := h
  refine ⟨?_, ?_, ?_, ?_⟩ <;> simp [World.cell?, World.frozen?, h1, h2]
theorem Lk.p2_after {b : Nat} {u : World} (h : P2 b u) (x : Value) : (u.setCell ⟨b, 0, none⟩ x).cell? ⟨b, 0, none⟩ = some x ∧ (u.setCell ⟨b, 0, none⟩ x).frozen? ⟨b, 0, none⟩ = false ∧ (u.setCell ⟨b, 0, none⟩ x).cell? ⟨b + 1, 0, none⟩ = some (.int .i64 0) ∧ (u.setCell ⟨b, 0, none⟩ x).frozen? ⟨b + 1, 0, none⟩ = false := by
  obtain ⟨h1, h2, h3, h4⟩ := p2_cells h
  refine ⟨by simp [go_sem, h1], by simp [go_sem, h2], ?_, by simp [go_sem, h4]⟩
  rw [World.cell?_setCell_far _ _ _ _ (by show b ≠ b + 1; omega)]; exact h3
theorem Lk.p2_both {b : Nat} {u : World} (h : P2 b u) (x y : Value) : ((u.setCell ⟨b, 0, none⟩ x).setCell ⟨b + 1, 0, none⟩ y).cell? ⟨b, 0, none⟩ = some x ∧ ((u.setCell ⟨b, 0, none⟩ x).setCell ⟨b + 1, 0, none⟩ y).cell? ⟨b + 1, 0, none⟩ = some y := by
  obtain ⟨h1, h2, h3, h4⟩ := p2_after h x
  refine ⟨?_, by simp [go_sem, h3]⟩
  rw [World.cell?_setCell_far _ _ _ _ (by show b + 1 ≠ b; omega)]; exact h1
theorem Lk.p2_again {b : Nat} {u : World} (h : P2 b u) : P2 b ((u.setCell ⟨b, 0, none⟩ (.int .i64 0)).setCell ⟨b + 1, 0, none⟩ (.int .i64 0)) := by
  obtain ⟨h1, h2⟩ := h
  have g1 : (u.setCell ⟨b, 0, none⟩ (.int .i64 0)).heap[b]? = some (.cells #[.int .i64 0] 3 (0, 0)) := by simp [World.setCell, Array.getElem?_modify, h1]
  have g2 : (u.setCell ⟨b, 0, none⟩ (.int .i64 0)).heap[b + 1]? = some (.cells #[.int .i64 0] 28 (0, 0)) := by simp [World.setCell, Array.getElem?_modify, h2]
  refine ⟨?_, ?_⟩
  · rw [Below.heap_setCell _ _ _ _ (by show b ≠ b + 1; omega)]; exact g1
  · obtain ⟨v, hv⟩ : ∃ v, u.setCell ⟨b, 0, none⟩ (.int .i64 0) = v := ⟨_, rfl⟩
    rw [hv] at g2 ⊢
    simp [World.setCell, Array.getElem?_modify, g2]
attribute [local go_sem ↓] Go.wp_at_zero Go.wp_at_succ
theorem Lk.check_of {l : List Ent} {n : Nat} (hn : l.length = n) : (64 < n → checkL l = (0, 4)) ∧ (¬ 64 < n → checkL l = firstE (errAt l) n 0) := by
  subst hn
  exact ⟨fun h => if_pos h, fun h => if_neg h⟩
theorem Lk.first_zero (f : Nat → Int) (n i : Nat) (h : (firstE f n i).2 = 0) : (firstE f n i).1 = 0 := (first_all f n i h).1
set_option maxRecDepth 100000 in
set_option maxHeartbeats 3200000 in
theorem lockCheck_any (A : Option Addr) (n c : Nat) (l : List Ent) (w : World) (hw : MaxOk w) (hn : l.length = n) (hr : ERow w A l) (hf : EFew l) :
    Calls Tryz.prog 11 #[.slice A n c] w fun e w' => e = .returned (.tuple #[.int .i64 (checkL l).1, .int .i64 (checkL l).2]) ∧ Below w.heap.size w w' := by
  have hmf : ∀ (fn : Fn) (first cap : Array Value) (w : World), (Instr.makeFunc fn first cap).run Tryz.prog w = .ok (.func fn first cap) w := fun _ _ _ _ => rfl
  obtain ⟨X, hX⟩ : ∃ X, checkL l = X := ⟨_, rfl⟩
  rw [hX]
  obtain ⟨x1, x2⟩ := check_of hn
  obtain ⟨W1, hW1⟩ : ∃ W, w.alloc (.cells #[.int .i64 0] 3) = W := ⟨_, rfl⟩
  obtain ⟨W2, hW2⟩ : ∃ W, W1.alloc (.cells #[.int .i64 0] 28) = W := ⟨_, rfl⟩
  have HPC : Hid (∀ u, Below W2.heap.size W2 u → P2 w.heap.size u) := fun u hb => p2_of hW1 hW2 hb
  have hs1 : W1.heap.size = w.heap.size + 1 := by rw [← hW1]; simp
  have HBW : Hid (Below w.heap.size w W2) := (alloc_low hW1).trans ((alloc_low hW2).mono (alloc_low hW1).size)
  have HQ := Lib.hid (requireLock_any A n c l W2 (maxOk_below hw HBW.out) hn (Rg.row_below hr HBW.out) hf)
  clear hw hn hr hf
  by_cases h64 : 64 < n
  · have HX : Hid (X = (0, 4)) := by show _ = _; rw [← hX]; exact x1 h64
    have HPA2 : Hid (Calls Tryz.prog 28 #[.slice A n c] W2 fun e w' => e = pan 4 ∧ Below W2.heap.size W2 w') := HQ.out.mono fun _ _ h => by unfold okL at h; rw [if_pos h64] at h; exact h
    clear hX x1 x2 HQ h64
    go_enter_defers Tryz.func11, Tryz.ntmps11
    go_wp2_with fail
    clear hW1 hW2
    refine HPA2.out.mono ?_
    rintro _ z1 ⟨rfl, hb⟩
    have HB := Lib.hid hb
    clear hb
    obtain ⟨c0, f0, c1, f1⟩ := p2_cells (HPC.out _ HB.out)
    obtain ⟨d0, g0, d1, g1⟩ := p2_after (HPC.out _ HB.out) (.int .i64 0)
    obtain ⟨q0, q1⟩ := p2_both (HPC.out _ HB.out) (.int .i64 0) (.int .i64 4)
    go_wp2_with fail
    refine leaves_cons (f := 26) (args := #[.pointer (some ⟨w.heap.size, 0, none⟩), .pointer (some ⟨w.heap.size + 1, 0, none⟩)]) (by simp) (by simp [go_sem]) ?_
    refine (lCheck_panic ⟨w.heap.size, 0, none⟩ ⟨w.heap.size + 1, 0, none⟩ 0 0 4 _ c0 f0 d1 g1).mono ?_
    rintro e u' w3 ⟨rfl, rfl, rfl⟩
    simp [Leaves, settle, results, Tryz.results11, go_sem, q0, q1]
    exact ⟨by rw [HX.out]; exact ⟨rfl, rfl⟩, ((HBW.out.trans (HB.out.mono HBW.out.size)).setCell (Nat.le_refl _) _).setCell (Nat.le_succ _) _⟩
  obtain ⟨k, m⟩ := X
  rw [hX] at x2
  have h2 := x2 h64
  have HPA2 : Hid (Calls Tryz.prog 28 #[.slice A n c] W2 fun e w' => e = okAt k m ∧ Below W2.heap.size W2 w') := HQ.out.mono fun _ _ h => by unfold okL at h; rw [if_neg h64, ← h2] at h; exact h
  have HN0 : Hid (m = 0 → k = 0) := fun h => by have := first_zero (errAt l) n 0 (by rw [← h2]; exact h); rw [← h2] at this; exact this
  clear hX x1 x2 h2 HQ h64
  go_enter_defers Tryz.func11, Tryz.ntmps11
  go_wp2_with fail
  clear hW1 hW2
  refine HPA2.out.mono ?_
  rintro _ z1 ⟨rfl, hb⟩
  have HB := Lib.hid hb
  clear hb
  by_cases hm : m = 0
  · subst hm
    obtain rfl := HN0.out rfl
    rw [okAt_zero]
    obtain ⟨c0, f0, c1, f1⟩ := p2_cells (HPC.out _ HB.out)
    obtain ⟨d0, g0, d1, g1⟩ := p2_after (HPC.out _ HB.out) (.int .i64 0)
    have HP2 := Lib.hid (p2_again (HPC.out _ HB.out))
    have HBV : Hid (Below w.heap.size w ((z1.setCell ⟨w.heap.size, 0, none⟩ (.int .i64 0)).setCell ⟨w.heap.size + 1, 0, none⟩ (.int .i64 0))) := ((HBW.out.trans (HB.out.mono HBW.out.size)).setCell (Nat.le_refl _) _).setCell (Nat.le_succ _) _
    go_wp2_with fail
    generalize (z1.setCell ⟨w.heap.size, 0, none⟩ (.int .i64 0)).setCell ⟨w.heap.size + 1, 0, none⟩ (.int .i64 0) = V at *
    obtain ⟨k0, m0, k1, m1⟩ := p2_cells HP2.out
    obtain ⟨l0, o0, l1, o1⟩ := p2_after HP2.out (.int .i64 0)
    obtain ⟨q0, q1⟩ := p2_both HP2.out (.int .i64 0) (.int .i64 0)
    refine leaves_cons (f := 26) (args := #[.pointer (some ⟨w.heap.size, 0, none⟩), .pointer (some ⟨w.heap.size + 1, 0, none⟩)]) (by simp) (by simp [go_sem]) ?_
    refine (lCheck_idle ⟨w.heap.size, 0, none⟩ ⟨w.heap.size + 1, 0, none⟩ 0 0 _ k0 m0 l1 o1).mono ?_
    rintro e u' w3 ⟨rfl, rfl, rfl⟩
    simp [Leaves, settle, results, Tryz.results11, go_sem, q0, q1]
    exact (HBV.out.setCell (Nat.le_refl _) _).setCell (Nat.le_succ _) _
  · rw [okAt_ne hm]
    clear hm
    go_wp2_with fail
    refine leaves_cons (f := 26) (args := #[.pointer (some ⟨w.heap.size, 0, none⟩), .pointer (some ⟨w.heap.size + 1, 0, none⟩)]) (by simp) (by simp [go_sem]) ?_
    refine (lCheck_placed ⟨w.heap.size, 0, none⟩ ⟨w.heap.size + 1, 0, none⟩ 0 0 k m _ (fun u hb => (p2_cells (HPC.out _ (HB.out.trans (hb.mono HB.out.size)))).1) (fun u hb => (p2_cells (HPC.out _ (HB.out.trans (hb.mono HB.out.size)))).2.1) (fun u hb => (p2_after (HPC.out _ (HB.out.trans (hb.mono HB.out.size))) _).2.2.1) (fun u hb => (p2_after (HPC.out _ (HB.out.trans (hb.mono HB.out.size))) _).2.2.2)).mono ?_
    rintro e u' w3 ⟨rfl, rfl, u, hb, rfl⟩
    have HBU := Lib.hid (HB.out.trans (hb.mono HB.out.size))
    obtain ⟨q0, q1⟩ := p2_both (HPC.out _ HBU.out) (.int .i64 k) (.int .i64 m)
    simp [Leaves, settle, results, Tryz.results11, go_sem, q0, q1]
    exact ((HBW.out.trans (HBU.out.mono HBW.out.size)).setCell (Nat.le_refl _) _).setCell (Nat.le_succ _) _
end Go.Proofs.YtojhapnodjabdaaGreatDoor
