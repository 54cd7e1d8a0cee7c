/- Parse of stanzas, walked: any text. -/
import Derived.Test.YtmhobdlhmkbkdaaDoorSl
import Derived.Test.YtmhobdlhmkbkdaaDoorSm
namespace Go.Proofs.YtmhobdlhmkbkdaaDoor
open Go.RowKit Go.Maps Sz
attribute [local go_sem ↓] Go.wp_at_zero Go.wp_at_succ
/-- No row of a grid lies in block b. -/
def Sz.NotAt (b : Nat) (A : Option Addr) (ds : List Desc) (t : List (List Fld)) : Prop := (0 < ds.length → ∀ a, A = some a → a.block ≠ b) ∧ Gr.Free (.slice (some ⟨b, 0, none⟩) 0 0) ds t
theorem Sz.cell_of_ints {w : World} {b : Nat} {x : Int} {T : TypeId} {q : Addr} {v : Value} (hb : w.heap[b]? = some (.cells #[.int .i64 x] T (0, 0))) (hq : q.block = b) (hc : w.cell? q = some v) : v = .int .i64 x := by
  unfold World.cell? at hc
  rw [hq, hb] at hc
  dsimp only at hc
  split at hc
  · cases hc
  · match h3 : q.off with
    | 0 => rw [h3] at hc; exact (Option.some.inj hc).symm
    | k + 1 => rw [h3] at hc; simp at hc
theorem Sz.notAt_int {w : World} {A : Option Addr} {ds : List Desc} {t : List (List Fld)} {b : Nat} {x : Int} {T : TypeId} (h1 : Rg.Row encO 1 w A ds) (h2 : Gr.In encF 3 w ds t) (hb : w.heap[b]? = some (.cells #[.int .i64 x] T (0, 0))) : NotAt b A ds t := by
  refine ⟨fun h0 a ha e => ?_, fun i d l e1 e2 h0 a ha e => ?_⟩
  · obtain ⟨a2, e2, _, hc⟩ := h1 h0
    rw [ha] at e2; cases e2
    have := hc 0 h0 0 _ rfl
    rw [if_pos rfl] at this
    have := cell_of_ints hb (by rw [Rs.add_block]; exact e) this
    cases this
  · obtain ⟨a2, e3, _, hc⟩ := (h2.2 i d l e1 e2).2 h0
    rw [ha] at e3; cases e3
    have := hc 0 h0 0 _ rfl
    rw [if_pos rfl] at this
    have := cell_of_ints hb (by rw [Rs.add_block]; exact (Option.some.inj e).symm) this
    cases this
theorem Sz.notAt_set {w : World} {A : Option Addr} {ds : List Desc} {t : List (List Fld)} {b : Nat} (h : Rg.Row encO 1 w A ds ∧ Gr.In encF 3 w ds t) (hn : NotAt b A ds t) (x : Value) : Rg.Row encO 1 (w.setCell ⟨b, 0, none⟩ x) A ds ∧ Gr.In encF 3 (w.setCell ⟨b, 0, none⟩ x) ds t :=
  ⟨row_grown h.1 (set_grown w ⟨b, 0, none⟩ x) (fun h0 a ha e => hn.1 h0 a ha (Option.some.inj e).symm), in_grown h.2 (set_grown w ⟨b, 0, none⟩ x) hn.2⟩
/-- What Parse hands back. -/
def Sz.PRet (w : World) (X : Int × Int × List (List Fld)) (e : Ending) (w' : World) : Prop :=
  ∃ A c, e = .returned (.tuple #[.slice A X.2.2.length c, .int .i64 X.2.1, .int .i64 X.1]) ∧ Gr.Row encF 3 w' A X.2.2 ∧ Below w.heap.size w w'
theorem Sz.pret_bad {w u : World} {X : Int × Int × List (List Fld)} {k n : Int} (hX : X = (k, n, [])) (hb : Below w.heap.size w u) (x y : Value) : PRet w X (.returned (.tuple #[.slice none 0 0, .int .i64 n, .int .i64 k])) ((u.setCell ⟨w.heap.size, 0, none⟩ x).setCell ⟨w.heap.size + 1, 0, none⟩ y) := by
  subst hX
  exact ⟨none, 0, rfl, Gr.row_nil _ _, (hb.setCell (Nat.le_refl _) _).setCell (Nat.le_succ _) _⟩
theorem Sz.readL_bad : ∀ (ls : List (List UInt8)) (n : Nat) (acc : List (List Fld)) (last : List Fld) (k m : Int) (r : List (List Fld)), readL n ls acc last = (k, m, r) → k ≠ 0 → r = []
  | [], n, acc, last, k, m, r, h, hk => by rw [readL_nil] at h; cases h; exact absurd rfl hk
  | s :: ls, n, acc, last, k, m, r, h, hk => by
    rw [readL_cons] at h
    split at h
    · split at h
      · cases h; rfl
      · exact readL_bad ls _ _ _ k m r h hk
    · cases hf : fieldP s n with
      | none => rw [hf] at h; cases h; rfl
      | some f =>
        rw [hf] at h; dsimp only at h
        split at h
        · cases h; rfl
        · exact readL_bad ls _ _ _ k m r h hk
/-- The two result cells. -/
def Sz.P2 (b : Nat) (u : World) : Prop := u.heap[b]? = some (.cells #[.int .i64 0] 3 (0, 0)) ∧ u.heap[b + 1]? = some (.cells #[.int .i64 0] 24 (0, 0))
theorem Sz.p2_of {w W1 W2 u : World} (h1 : w.alloc (.cells #[.int .i64 0] 3) = W1) (h2 : W1.alloc (.cells #[.int .i64 0] 24) = W2) (hb : Below W2.heap.size W2 u) : P2 w.heap.size u := by
  have hs1 : W1.heap.size = w.heap.size + 1 := by rw [← h1]; simp
  have hs2 : W2.heap.size = w.heap.size + 2 := by rw [← h2]; simp [hs1]
  refine ⟨(hb.block _ (by omega)).trans ?_, (hb.block _ (by omega)).trans ?_⟩
  · rw [((alloc_low h2).block _ (by omega)), ← h1]; exact heap_alloc_new w _
  · rw [← h2, ← hs1]; exact heap_alloc_new W1 _
theorem Sz.p2_cells {b : Nat} {u : World} (h : P2 b u) : u.cell? ⟨b, 0, none⟩ = some (.int .i64 0) ∧ u.frozen? ⟨b, 0, none⟩ = false ∧ u.cell? ⟨b + 1, 0, none⟩ = some (.int .i64 0) ∧ u.frozen? ⟨b + 1, 0, none⟩ = false := by
  obtain ⟨h1, h2⟩ := h
  refine ⟨?_, ?_, ?_, ?_⟩ <;> simp [World.cell?, World.frozen?, h1, h2]
theorem Sz.p2_after {b : Nat} {u : World} (h : P2 b u) (x : Value) : (u.setCell ⟨b, 0, none⟩ x).cell? ⟨b, 0, none⟩ = some x ∧ (u.setCell ⟨b, 0, none⟩ x).frozen? ⟨b, 0, none⟩ = false ∧ (u.setCell ⟨b, 0, none⟩ x).cell? ⟨b + 1, 0, none⟩ = some (.int .i64 0) ∧ (u.setCell ⟨b, 0, none⟩ x).frozen? ⟨b + 1, 0, none⟩ = false := by
  obtain ⟨h1, h2, h3, h4⟩ := p2_cells h
  refine ⟨by simp [go_sem, h1], by simp [go_sem, h2], ?_, by simp [go_sem, h4]⟩
  rw [World.cell?_setCell_far _ _ _ _ (by show b ≠ b + 1; omega)]; exact h3
theorem Sz.p2_both {b : Nat} {u : World} (h : P2 b u) (x y : Value) : ((u.setCell ⟨b, 0, none⟩ x).setCell ⟨b + 1, 0, none⟩ y).cell? ⟨b, 0, none⟩ = some x ∧ ((u.setCell ⟨b, 0, none⟩ x).setCell ⟨b + 1, 0, none⟩ y).cell? ⟨b + 1, 0, none⟩ = some y := by
  obtain ⟨h1, h2, h3, h4⟩ := p2_after h x
  refine ⟨?_, by simp [go_sem, h3]⟩
  rw [World.cell?_setCell_far _ _ _ _ (by show b + 1 ≠ b; omega)]; exact h1
theorem Sz.p2_again {b : Nat} {u : World} (h : P2 b u) : P2 b ((u.setCell ⟨b, 0, none⟩ (.int .i64 0)).setCell ⟨b + 1, 0, none⟩ (.int .i64 0)) := by
  obtain ⟨h1, h2⟩ := h
  have g1 : (u.setCell ⟨b, 0, none⟩ (.int .i64 0)).heap[b]? = some (.cells #[.int .i64 0] 3 (0, 0)) := by simp [World.setCell, Array.getElem?_modify, h1]
  have g2 : (u.setCell ⟨b, 0, none⟩ (.int .i64 0)).heap[b + 1]? = some (.cells #[.int .i64 0] 24 (0, 0)) := by simp [World.setCell, Array.getElem?_modify, h2]
  refine ⟨?_, ?_⟩
  · rw [Below.heap_setCell _ _ _ _ (by show b ≠ b + 1; omega)]; exact g1
  · obtain ⟨v, hv⟩ : ∃ v, u.setCell ⟨b, 0, none⟩ (.int .i64 0) = v := ⟨_, rfl⟩
    rw [hv] at g2 ⊢
    simp [World.setCell, Array.getElem?_modify, g2]
set_option maxRecDepth 100000 in
set_option maxHeartbeats 3200000 in
theorem stanzaParse_any (s : List UInt8) (w : World) (hw : MaxOk w) :
    Calls Tryd.prog 8 #[.string ⟨s.toArray⟩] w (Sz.PRet w (parseS s)) := by
  have hmf : ∀ (fn : Fn) (first cap : Array Value) (w : World), (Instr.makeFunc fn first cap).run Tryd.prog w = .ok (.func fn first cap) w := fun _ _ _ _ => rfl
  obtain ⟨X, hX⟩ : ∃ X, parseS s = X := ⟨_, rfl⟩
  rw [hX]
  unfold parseS at hX
  obtain ⟨W1, hW1⟩ : ∃ W, w.alloc (.cells #[.int .i64 0] 3) = W := ⟨_, rfl⟩
  obtain ⟨W2, hW2⟩ : ∃ W, W1.alloc (.cells #[.int .i64 0] 24) = W := ⟨_, rfl⟩
  have HPC : Hid (∀ u, Below W2.heap.size W2 u → P2 w.heap.size u) := fun u hb => p2_of hW1 hW2 hb
  have hs1 : W1.heap.size = w.heap.size + 1 := by rw [← hW1]; simp
  have hs2 : W2.heap.size = w.heap.size + 2 := by rw [← hW2]; simp [hs1]
  have HBW : Hid (Below w.heap.size w W2) := (alloc_low hW1).trans ((alloc_low hW2).mono (alloc_low hW1).size)
  have HSZ2 := Lib.hid hs2
  have HPA := Lib.hid (parseIn_any s W2 (maxOk_below hw HBW.out))
  clear hw hs2
  by_cases hl : 65536 < s.length
  · rw [if_pos hl] at hX
    have HX : Hid (X = (4, 0, [])) := hX.symm
    have HPA2 : Hid (Calls Tryd.prog 20 #[.string ⟨s.toArray⟩] W2 fun e w' => e = pan 4 ∧ W2 = w') := HPA.out.mono fun _ _ h => by rw [if_pos hl] at h; exact h
    clear hX HPA hl
    go_enter_defers Tryd.func8, Tryd.ntmps8
    go_wp2_with fail
    clear hW1 hW2
    refine HPA2.out.mono ?_
    rintro _ z1 ⟨rfl, rfl⟩
    obtain ⟨c0, f0, c1, f1⟩ := p2_cells (HPC.out _ (Below.refl _ _))
    obtain ⟨d0, g0, d1, g1⟩ := p2_after (HPC.out _ (Below.refl _ _)) (.int .i64 0)
    obtain ⟨q0, q1⟩ := p2_both (HPC.out _ (Below.refl _ _)) (.int .i64 0) (.int .i64 4)
    go_wp2_with fail
    refine leaves_cons (f := 18) (args := #[.pointer (some ⟨w.heap.size, 0, none⟩), .pointer (some ⟨w.heap.size + 1, 0, none⟩)]) (by simp) (by simp [go_sem]) ?_
    refine (sParse_panic ⟨w.heap.size, 0, none⟩ ⟨w.heap.size + 1, 0, none⟩ 0 0 4 _ c0 f0 d1 g1).mono ?_
    rintro e u' w3 ⟨rfl, rfl, rfl⟩
    simp [Leaves, settle, results, Tryd.results8, go_sem, q0, q1]
    exact pret_bad HX.out (HBW.out.trans ((Below.refl _ _).mono HBW.out.size)) _ _
  rw [if_neg hl] at hX
  cases he : endB s
  · rw [if_neg (by rw [he]; decide)] at hX
    have HX : Hid (X = (2, 0, [])) := hX.symm
    have HPA2 : Hid (Calls Tryd.prog 20 #[.string ⟨s.toArray⟩] W2 fun e w' => e = pan 2 ∧ W2 = w') := HPA.out.mono fun _ _ h => by rw [if_neg hl, if_neg (by rw [he]; decide)] at h; exact h
    clear hX HPA hl he
    go_enter_defers Tryd.func8, Tryd.ntmps8
    go_wp2_with fail
    clear hW1 hW2
    refine HPA2.out.mono ?_
    rintro _ z1 ⟨rfl, rfl⟩
    obtain ⟨c0, f0, c1, f1⟩ := p2_cells (HPC.out _ (Below.refl _ _))
    obtain ⟨d0, g0, d1, g1⟩ := p2_after (HPC.out _ (Below.refl _ _)) (.int .i64 0)
    obtain ⟨q0, q1⟩ := p2_both (HPC.out _ (Below.refl _ _)) (.int .i64 0) (.int .i64 2)
    go_wp2_with fail
    refine leaves_cons (f := 18) (args := #[.pointer (some ⟨w.heap.size, 0, none⟩), .pointer (some ⟨w.heap.size + 1, 0, none⟩)]) (by simp) (by simp [go_sem]) ?_
    refine (sParse_panic ⟨w.heap.size, 0, none⟩ ⟨w.heap.size + 1, 0, none⟩ 0 0 2 _ c0 f0 d1 g1).mono ?_
    rintro e u' w3 ⟨rfl, rfl, rfl⟩
    simp [Leaves, settle, results, Tryd.results8, go_sem, q0, q1]
    exact pret_bad HX.out (HBW.out.trans ((Below.refl _ _).mono HBW.out.size)) _ _
  rw [if_pos he] at hX
  have HPA2 : Hid (Calls Tryd.prog 20 #[.string ⟨s.toArray⟩] W2 (ReadRet W2 X)) := HPA.out.mono fun _ _ h => by rw [if_neg hl, if_pos he, hX] at h; exact h
  obtain ⟨k, n, r⟩ := X
  have HBAD : Hid (k ≠ 0 → r = []) := readL_bad _ _ _ _ k n r hX
  have HN0 : Hid (k = 0 → n = 0) := fun h => by
    have h2 : parseS s = (0, n, r) := by unfold parseS; rw [if_neg hl, if_pos he, hX, h]
    exact (parse_text h2).1
  clear hX HPA hl he
  go_enter_defers Tryd.func8, Tryd.ntmps8
  go_wp2_with fail
  clear hW1 hW2
  refine HPA2.out.mono ?_
  rintro e z1 ⟨hb, hr⟩
  have HB := Lib.hid hb
  clear hb
  by_cases hk : k = 0
  · subst hk
    obtain ⟨A, c, ds, rfl, h1, h2⟩ : ∃ A c ds, e = .returned (.slice A r.length c) ∧ Rg.Row encO 1 z1 A ds ∧ Gr.In encF 3 z1 ds r := by rw [if_pos rfl] at hr; exact hr
    obtain rfl := HN0.out rfl
    have HNA : Hid (NotAt w.heap.size A ds r ∧ NotAt (w.heap.size + 1) A ds r) := ⟨notAt_int h1 h2 (HPC.out _ HB.out).1, notAt_int h1 h2 (HPC.out _ HB.out).2⟩
    have HR := Lib.hid (notAt_set (notAt_set ⟨h1, h2⟩ HNA.out.1 (.int .i64 0)) HNA.out.2 (.int .i64 0))
    obtain ⟨c0, f0, c1, f1⟩ := p2_cells (HPC.out _ HB.out)
    obtain ⟨d0, g0, d1, g1⟩ := p2_after (HPC.out _ HB.out) (.int .i64 0)
    have HP2 := Lib.hid (p2_again (HPC.out _ HB.out))
    have HBV : Hid (Below w.heap.size w ((z1.setCell ⟨w.heap.size, 0, none⟩ (.int .i64 0)).setCell ⟨w.heap.size + 1, 0, none⟩ (.int .i64 0))) := ((HBW.out.trans (HB.out.mono HBW.out.size)).setCell (Nat.le_refl _) _).setCell (Nat.le_succ _) _
    clear hr h1 h2
    go_wp2_with fail
    generalize (z1.setCell ⟨w.heap.size, 0, none⟩ (.int .i64 0)).setCell ⟨w.heap.size + 1, 0, none⟩ (.int .i64 0) = V at *
    obtain ⟨k0, m0, k1, m1⟩ := p2_cells HP2.out
    obtain ⟨l0, o0, l1, o1⟩ := p2_after HP2.out (.int .i64 0)
    obtain ⟨q0, q1⟩ := p2_both HP2.out (.int .i64 0) (.int .i64 0)
    have HRF := Lib.hid (notAt_set (notAt_set HR.out HNA.out.1 (.int .i64 0)) HNA.out.2 (.int .i64 0))
    refine leaves_cons (f := 18) (args := #[.pointer (some ⟨w.heap.size, 0, none⟩), .pointer (some ⟨w.heap.size + 1, 0, none⟩)]) (by simp) (by simp [go_sem]) ?_
    refine (sParse_idle ⟨w.heap.size, 0, none⟩ ⟨w.heap.size + 1, 0, none⟩ 0 0 _ k0 m0 l1 o1).mono ?_
    rintro e u' w3 ⟨rfl, rfl, rfl⟩
    simp [Leaves, settle, results, Tryd.results8, go_sem, q0, q1]
    exact ⟨A, c, rfl, ⟨ds, HRF.out.1, HRF.out.2⟩, (HBV.out.setCell (Nat.le_refl _) _).setCell (Nat.le_succ _) _⟩
  · obtain rfl : e = panAt n k := by rw [if_neg hk] at hr; exact hr
    obtain rfl := HBAD.out hk
    clear hr hk
    go_wp2_with fail
    refine leaves_cons (f := 18) (args := #[.pointer (some ⟨w.heap.size, 0, none⟩), .pointer (some ⟨w.heap.size + 1, 0, none⟩)]) (by simp) (by simp [go_sem]) ?_
    refine (sParse_placed ⟨w.heap.size, 0, none⟩ ⟨w.heap.size + 1, 0, none⟩ 0 0 n k _ (fun u hb => (p2_cells (HPC.out _ (HB.out.trans (hb.mono HB.out.size)))).1) (fun u hb => (p2_cells (HPC.out _ (HB.out.trans (hb.mono HB.out.size)))).2.1) (fun u hb => (p2_after (HPC.out _ (HB.out.trans (hb.mono HB.out.size))) _).2.2.1) (fun u hb => (p2_after (HPC.out _ (HB.out.trans (hb.mono HB.out.size))) _).2.2.2)).mono ?_
    rintro e u' w3 ⟨rfl, rfl, u, hb, rfl⟩
    have HBU := Lib.hid (HB.out.trans (hb.mono HB.out.size))
    obtain ⟨q0, q1⟩ := p2_both (HPC.out _ HBU.out) (.int .i64 n) (.int .i64 k)
    simp [Leaves, settle, results, Tryd.results8, go_sem, q0, q1]
    exact pret_bad rfl (HBW.out.trans (HBU.out.mono HBW.out.size)) _ _
end Go.Proofs.YtmhobdlhmkbkdaaDoor
