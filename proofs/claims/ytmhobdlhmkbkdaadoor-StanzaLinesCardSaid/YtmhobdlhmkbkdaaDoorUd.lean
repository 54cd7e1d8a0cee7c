/- Order of stanzas, walked: any fields, any keys. -/
import Derived.Test.YtmhobdlhmkbkdaaDoorUc
namespace Go.Proofs.YtmhobdlhmkbkdaaDoor
open Go.RowKit Go.Maps Sz
attribute [local go_sem ↓] Go.wp_at_zero Go.wp_at_succ
theorem sOrder_placed (p q : Addr) (x y k n : Int) (w : World) (hc : ∀ u, Below w.heap.size w u → u.cell? p = some (.int .i64 x)) (hz : ∀ u, Below w.heap.size w u → u.frozen? p = false) (hc2 : ∀ u, Below w.heap.size w u → (u.setCell p (.int .i64 k)).cell? q = some (.int .i64 y)) (hz2 : ∀ u, Below w.heap.size w u → (u.setCell p (.int .i64 k)).frozen? q = false) :
    CallsD Tryd.prog 27 #[.pointer (some p), .pointer (some q)] (.panicking [{ v := .iface 73 (.agg #[.int .i64 k, .int .i64 n]), recovered := false }]) w fun e u' w' =>
      e = .returned (.tuple #[]) ∧ u' = .panicking [{ v := .iface 73 (.agg #[.int .i64 k, .int .i64 n]), recovered := true }] ∧ ∃ u, Below w.heap.size w u ∧ w' = (u.setCell p (.int .i64 k)).setCell q (.int .i64 n) := by
  refine callsD_of_wpS Tryd.func27 rfl fun c₀ cs hu => ?_
  apply wpS_region
  simp [wpOpsS, go_sem, recoverD, hu, Tryd.ntmps27]
  refine (raisedAt_placed k n _).mono ?_
  rintro e w' ⟨rfl, hb⟩
  simp [go_sem, hc _ hb, hz _ hb, hc2 _ hb, hz2 _ hb, bodyPostS, results, Tryd.results27]
  exact ⟨w', hb, rfl⟩
theorem sOrder_idle (p q : Addr) (x y : Int) (w : World) (hc : w.cell? p = some (.int .i64 x)) (hz : w.frozen? p = false) (hc2 : (w.setCell p (.int .i64 0)).cell? q = some (.int .i64 y)) (hz2 : (w.setCell p (.int .i64 0)).frozen? q = false) :
    CallsD Tryd.prog 27 #[.pointer (some p), .pointer (some q)] .returning w fun e u' w' => e = .returned (.tuple #[]) ∧ u' = .returning ∧ w' = (w.setCell p (.int .i64 0)).setCell q (.int .i64 0) := by
  refine callsD_of_wpS Tryd.func27 rfl fun c₀ cs hu => ?_
  apply wpS_region
  simp [wpOpsS, go_sem, recoverD, hu, Tryd.ntmps27]
  refine (raisedAt_nil _).mono ?_
  rintro e w' ⟨rfl, rfl⟩
  cases c₀
  simp_all [go_sem, bodyPostS, results, Tryd.results27]
theorem Sz.ordP_zero (ks : List (List UInt8)) : ∀ (l : List Fld) (i : Nat) (x : Int), (ordP ks i x l).2 = 0 → (ordP ks i x l).1 = 0
  | [], i, x, _ => rfl
  | f :: l, i, x, h => by
    rw [ordP_cons] at h ⊢
    cases hp : placeOf ks f.key with
    | none => rw [hp] at h; cases h
    | some p =>
      rw [hp] at h
      dsimp only at h ⊢
      by_cases hx : x < p
      · rw [if_pos hx] at h ⊢; exact ordP_zero ks l _ _ h
      · rw [if_neg hx] at h; cases h
def Sz.OrderRet (w : World) (X : Int × Int) (e : Ending) (w' : World) : Prop := e = .returned (.tuple #[.int .i64 X.1, .int .i64 X.2]) ∧ Below w.heap.size w w'
set_option maxRecDepth 100000 in
set_option maxHeartbeats 3200000 in
theorem stanzaOrder_any (A : Option Addr) (n c : Nat) (l : List Fld) (B : Option Addr) (m d : Nat) (ks : List (List UInt8)) (w : World) (hn : l.length = n) (hr : Rg.Row encF 3 w A l) (hl : n ≤ 100000) (hs : Short l) (hm : ks.length = m) (hk : Rg.Row encT 1 w B ks) (hml : m ≤ 100000) (hks : ShortT ks) :
    Calls Tryd.prog 12 #[.slice A n c, .slice B m d] w (Sz.OrderRet w (ordP ks 0 (-1) l)) := by
  have hmf : ∀ (fn : Fn) (first cap : Array Value) (w : World), (Instr.makeFunc fn first cap).run Tryd.prog w = .ok (.func fn first cap) w := fun _ _ _ _ => rfl
  obtain ⟨W1, hW1⟩ : ∃ W, w.alloc (.cells #[.int .i64 0] 3) = W := ⟨_, rfl⟩
  obtain ⟨W2, hW2⟩ : ∃ W, W1.alloc (.cells #[.int .i64 0] 24) = W := ⟨_, rfl⟩
  have HPC : Hid (∀ u, Below W2.heap.size W2 u → P2 w.heap.size u) := fun u hb => p2_of hW1 hW2 hb
  have hs1 : W1.heap.size = w.heap.size + 1 := by rw [← hW1]; simp
  have HBW : Hid (Below w.heap.size w W2) := (alloc_low hW1).trans ((alloc_low hW2).mono (alloc_low hW1).size)
  have HRO := Lib.hid (requireOrder_any A n c l B m d ks W2 hn (Rg.row_below hr HBW.out) hl hs hm (Rg.row_below hk HBW.out) hml hks)
  obtain ⟨X, hX⟩ : ∃ X, ordP ks 0 (-1) l = X := ⟨_, rfl⟩
  rw [hX]
  have HX0 : Hid (X.2 = 0 → X.1 = 0) := by rw [← hX]; exact ordP_zero ks l 0 (-1)
  rw [hX] at HRO
  clear hX hn hr hl hs hm hk hml hks
  go_enter_defers Tryd.func12, Tryd.ntmps12
  go_wp2_with fail
  clear hW1 hW2
  refine HRO.out.mono ?_
  rintro e z1 ⟨hb, hr⟩
  have HB := Lib.hid hb
  clear hb HRO
  obtain ⟨n, k⟩ := X
  dsimp only at hr HX0
  by_cases hk : k = 0
  · subst hk
    obtain rfl := HX0.out rfl
    obtain rfl : e = .returned (.tuple #[]) := by rw [if_pos rfl] at hr; exact hr
    obtain ⟨c0, f0, c1, f1⟩ := p2_cells (HPC.out _ HB.out)
    obtain ⟨d0, g0, d1, g1⟩ := p2_after (HPC.out _ HB.out) (.int .i64 0)
    have HP2 := Lib.hid (p2_again (HPC.out _ HB.out))
    have HBV : Hid (Below w.heap.size w ((z1.setCell ⟨w.heap.size, 0, none⟩ (.int .i64 0)).setCell ⟨w.heap.size + 1, 0, none⟩ (.int .i64 0))) := ((HBW.out.trans (HB.out.mono HBW.out.size)).setCell (Nat.le_refl _) _).setCell (Nat.le_succ _) _
    clear hr
    go_wp2_with fail
    generalize (z1.setCell ⟨w.heap.size, 0, none⟩ (.int .i64 0)).setCell ⟨w.heap.size + 1, 0, none⟩ (.int .i64 0) = V at *
    obtain ⟨k0, m0, k1, m1⟩ := p2_cells HP2.out
    obtain ⟨l0, o0, l1, o1⟩ := p2_after HP2.out (.int .i64 0)
    obtain ⟨q0, q1⟩ := p2_both HP2.out (.int .i64 0) (.int .i64 0)
    refine leaves_cons (f := 27) (args := #[.pointer (some ⟨w.heap.size, 0, none⟩), .pointer (some ⟨w.heap.size + 1, 0, none⟩)]) (by simp) (by simp [go_sem]) ?_
    refine (sOrder_idle ⟨w.heap.size, 0, none⟩ ⟨w.heap.size + 1, 0, none⟩ 0 0 _ k0 m0 l1 o1).mono ?_
    rintro e u' w3 ⟨rfl, rfl, rfl⟩
    simp [Leaves, settle, results, Tryd.results12, go_sem, q0, q1]
    exact ⟨rfl, (HBV.out.setCell (Nat.le_refl _) _).setCell (Nat.le_succ _) _⟩
  · obtain rfl : e = panAt n k := by rw [if_neg hk] at hr; exact hr
    clear hr hk
    go_wp2_with fail
    refine leaves_cons (f := 27) (args := #[.pointer (some ⟨w.heap.size, 0, none⟩), .pointer (some ⟨w.heap.size + 1, 0, none⟩)]) (by simp) (by simp [go_sem]) ?_
    refine (sOrder_placed ⟨w.heap.size, 0, none⟩ ⟨w.heap.size + 1, 0, none⟩ 0 0 n k _ (fun u hb => (p2_cells (HPC.out _ (HB.out.trans (hb.mono HB.out.size)))).1) (fun u hb => (p2_cells (HPC.out _ (HB.out.trans (hb.mono HB.out.size)))).2.1) (fun u hb => (p2_after (HPC.out _ (HB.out.trans (hb.mono HB.out.size))) _).2.2.1) (fun u hb => (p2_after (HPC.out _ (HB.out.trans (hb.mono HB.out.size))) _).2.2.2)).mono ?_
    rintro e u' w3 ⟨rfl, rfl, u, hb, rfl⟩
    have HBU := Lib.hid (HB.out.trans (hb.mono HB.out.size))
    obtain ⟨q0, q1⟩ := p2_both (HPC.out _ HBU.out) (.int .i64 n) (.int .i64 k)
    simp [Leaves, settle, results, Tryd.results12, go_sem, q0, q1]
    exact ⟨rfl, ((HBW.out.trans (HBU.out.mono HBW.out.size)).setCell (Nat.le_refl _) _).setCell (Nat.le_succ _) _⟩
end Go.Proofs.YtmhobdlhmkbkdaaDoor
