/- Part 19 of what the laws lean on. -/
import Derived.Test.YtkplahkkmmoppaaGreatDoorK18
set_option maxRecDepth 100000
set_option maxHeartbeats 3200000
namespace Go.Proofs.YtkplahkkmmoppaaGreatDoor
open Go.RowKit Go.Maps Sz
attribute [local go_sem ↓] Go.wp_at_zero Go.wp_at_succ
def Sz.NotAt (b : Nat) (A : Option Addr) (ds : List Desc) (t : List (List Fld)) : Prop := (0 < ds.length → ∀ a, A = some a → a.block ≠ b) ∧ Gr.Free (.slice (some ⟨b, 0, none⟩) 0 0) ds t
theorem Sz.cell_of_ints {w : World} {b : Nat} {x : Int} {T : TypeId} {q : Addr} {v : Value} (hb : w.heap[b]? = some (.cells #[.int .i64 x] T (0, 0))) (hq : q.block = b) (hc : w.cell? q = some v) : v = .int .i64 x := by
 unfold World.cell? at hc
 rw [hq, hb] at hc
 dsimp only at hc
 split at hc
 ·cases hc
 ·match h3 : q.off with
  | 0 => rw [h3] at hc; exact (Option.some.inj hc).symm
  | k + 1 => rw [h3] at hc; simp at hc
theorem Sz.notAt_int {w : World} {A : Option Addr} {ds : List Desc} {t : List (List Fld)} {b : Nat} {x : Int} {T : TypeId} (h1 : Rg.Row encO 1 w A ds) (h2 : Gr.In encF 3 w ds t) (hb : w.heap[b]? = some (.cells #[.int .i64 x] T (0, 0))) : NotAt b A ds t := by
 refine ⟨fun h0 a ha e => ?_, fun i d l e1 e2 h0 a ha e => ?_⟩
 ·obtain ⟨a2, e2, _, hc⟩ := h1 h0
  rw [ha] at e2; cases e2
  have := hc 0 h0 0 _ rfl
  rw [if_pos rfl] at this
  have := cell_of_ints hb (by rw [Rs.add_block]; exact e) this
  cases this
 ·obtain ⟨a2, e3, _, hc⟩ := (h2.2 i d l e1 e2).2 h0
  rw [ha] at e3; cases e3
  have := hc 0 h0 0 _ rfl
  rw [if_pos rfl] at this
  have := cell_of_ints hb (by rw [Rs.add_block]; exact (Option.some.inj e).symm) this
  cases this
theorem Sz.notAt_set {w : World} {A : Option Addr} {ds : List Desc} {t : List (List Fld)} {b : Nat} (h : Rg.Row encO 1 w A ds ∧ Gr.In encF 3 w ds t) (hn : NotAt b A ds t) (x : Value) : Rg.Row encO 1 (w.setCell ⟨b, 0, none⟩ x) A ds ∧ Gr.In encF 3 (w.setCell ⟨b, 0, none⟩ x) ds t :=
 ⟨row_grown h.1 (set_grown w ⟨b, 0, none⟩ x) (fun h0 a ha e => hn.1 h0 a ha (Option.some.inj e).symm), in_grown h.2 (set_grown w ⟨b, 0, none⟩ x) hn.2⟩
def Sz.PRetC (w : World) (X : Int × Int × List (List Fld)) (e : Ending) (w' : World) : Prop :=
 ∃ A c, e = .returned (.tuple #[.slice A X.2.2.length c, .int .i64 X.2.1, .int .i64 X.1]) ∧ (∃ ds, Rg.Row encO 1 w' A ds ∧ Gr.In encF 3 w' ds X.2.2 ∧ ∀ x ∈ ds, x.2.1 ≤ x.2.2) ∧ Below w.heap.size w w'
theorem Sz.pret_bad {w u : World} {X : Int × Int × List (List Fld)} {k n : Int} (hX : X = (k, n, [])) (hb : Below w.heap.size w u) (x y : Value) : PRetC w X (.returned (.tuple #[.slice none 0 0, .int .i64 n, .int .i64 k])) ((u.setCell ⟨w.heap.size, 0, none⟩ x).setCell ⟨w.heap.size + 1, 0, none⟩ y) := by
 subst hX
 exact ⟨none, 0, rfl, ⟨[], fun h => absurd h (by decide), ⟨rfl, fun i d l h => by simp at h⟩, fun x hx => by cases hx⟩, (hb.setCell (Nat.le_refl _) _).setCell (Nat.le_succ _) _⟩
theorem Sz.readL_bad : ∀ (ls : List (List UInt8)) (n : Nat) (acc : List (List Fld)) (last : List Fld) (k m : Int) (r : List (List Fld)), readL n ls acc last = (k, m, r) → k ≠ 0 → r = []
 | [], n, acc, last, k, m, r, h, hk => by rw [readL_nil] at h; cases h; exact absurd rfl hk
 | s :: ls, n, acc, last, k, m, r, h, hk => by
  rw [readL_cons] at h
  split at h
  ·split at h
   ·cases h; rfl
   ·exact readL_bad ls _ _ _ k m r h hk
  ·cases hf : fieldP s n with
   | none => rw [hf] at h; cases h; rfl
   | some f =>
    rw [hf] at h; dsimp only at h
    split at h
    ·cases h; rfl
    ·exact readL_bad ls _ _ _ k m r h hk
def Sz.P2 (b : Nat) (u : World) : Prop := u.heap[b]? = some (.cells #[.int .i64 0] 3 (0, 0)) ∧ u.heap[b + 1]? = some (.cells #[.int .i64 0] 36 (0, 0))
theorem Sz.p2_of {w W1 W2 u : World} (h1 : w.alloc (.cells #[.int .i64 0] 3) = W1) (h2 : W1.alloc (.cells #[.int .i64 0] 36) = W2) (hb : Below W2.heap.size W2 u) : P2 w.heap.size u := by
 have hs1 : W1.heap.size = w.heap.size + 1 := by rw [← h1]; simp
 have hs2 : W2.heap.size = w.heap.size + 2 := by rw [← h2]; simp [hs1]
 refine ⟨(hb.block _ (by omega)).trans ?_, (hb.block _ (by omega)).trans ?_⟩
 ·rw [((alloc_low h2).block _ (by omega)), ← h1]; exact heap_alloc_new w _
 ·rw [← h2, ← hs1]; exact heap_alloc_new W1 _
theorem Sz.p2_cells {b : Nat} {u : World} (h : P2 b u) : u.cell? ⟨b, 0, none⟩ = some (.int .i64 0) ∧ u.frozen? ⟨b, 0, none⟩ = false ∧ u.cell? ⟨b + 1, 0, none⟩ = some (.int .i64 0) ∧ u.frozen? ⟨b + 1, 0, none⟩ = false := by
 obtain ⟨h1, h2⟩ := h
 refine ⟨?_, ?_, ?_, ?_⟩ <;> simp [World.cell?, World.frozen?, h1, h2]
theorem Sz.p2_after {b : Nat} {u : World} (h : P2 b u) (x : Value) : (u.setCell ⟨b, 0, none⟩ x).cell? ⟨b, 0, none⟩ = some x ∧ (u.setCell ⟨b, 0, none⟩ x).frozen? ⟨b, 0, none⟩ = false ∧ (u.setCell ⟨b, 0, none⟩ x).cell? ⟨b + 1, 0, none⟩ = some (.int .i64 0) ∧ (u.setCell ⟨b, 0, none⟩ x).frozen? ⟨b + 1, 0, none⟩ = false := by
 obtain ⟨h1, h2, h3, h4⟩ := p2_cells h
 refine ⟨by simp [go_sem, h1], by simp [go_sem, h2], ?_, by simp [go_sem, h4]⟩
 rw [World.cell?_setCell_far _ _ _ _ (by show b ≠ b + 1; omega)]; exact h3
theorem Sz.p2_both {b : Nat} {u : World} (h : P2 b u) (x y : Value) : ((u.setCell ⟨b, 0, none⟩ x).setCell ⟨b + 1, 0, none⟩ y).cell? ⟨b, 0, none⟩ = some x ∧ ((u.setCell ⟨b, 0, none⟩ x).setCell ⟨b + 1, 0, none⟩ y).cell? ⟨b + 1, 0, none⟩ = some y := by
 obtain ⟨h1, h2, h3, h4⟩ := p2_after h x
 refine ⟨?_, by simp [go_sem, h3]⟩
 rw [World.cell?_setCell_far _ _ _ _ (by show b + 1 ≠ b; omega)]; exact h1
theorem Sz.p2_again {b : Nat} {u : World} (h : P2 b u) : P2 b ((u.setCell ⟨b, 0, none⟩ (.int .i64 0)).setCell ⟨b + 1, 0, none⟩ (.int .i64 0)) := by
 obtain ⟨h1, h2⟩ := h
 have g1 : (u.setCell ⟨b, 0, none⟩ (.int .i64 0)).heap[b]? = some (.cells #[.int .i64 0] 3 (0, 0)) := by simp [World.setCell, Array.getElem?_modify, h1]
 have g2 : (u.setCell ⟨b, 0, none⟩ (.int .i64 0)).heap[b + 1]? = some (.cells #[.int .i64 0] 36 (0, 0)) := by simp [World.setCell, Array.getElem?_modify, h2]
 refine ⟨?_, ?_⟩
 ·rw [Below.heap_setCell _ _ _ _ (by show b ≠ b + 1; omega)]; exact g1
 ·obtain ⟨v, hv⟩ : ∃ v, u.setCell ⟨b, 0, none⟩ (.int .i64 0) = v := ⟨_, rfl⟩
  rw [hv] at g2 ⊢
  simp [World.setCell, Array.getElem?_modify, g2]
theorem stanzaParse_cap (s : List UInt8) (w : World) (hw : MaxOk w) :
  Calls Tryz.prog 34 #[.string ⟨s.toArray⟩] w (Sz.PRetC w (parseS s)) := by
 have hmf : ∀ (fn : Fn) (first cap : Array Value) (w : World), (Instr.makeFunc fn first cap).run Tryz.prog w = .ok (.func fn first cap) w := fun _ _ _ _ => rfl
 obtain ⟨X, hX⟩ : ∃ X, parseS s = X := ⟨_, rfl⟩
 rw [hX]
 unfold parseS at hX
 obtain ⟨W1, hW1⟩ : ∃ W, w.alloc (.cells #[.int .i64 0] 3) = W := ⟨_, rfl⟩
 obtain ⟨W2, hW2⟩ : ∃ W, W1.alloc (.cells #[.int .i64 0] 36) = W := ⟨_, rfl⟩
 have HPC : Hid (∀ u, Below W2.heap.size W2 u → P2 w.heap.size u) := fun u hb => p2_of hW1 hW2 hb
 have hs1 : W1.heap.size = w.heap.size + 1 := by rw [← hW1]; simp
 have hs2 : W2.heap.size = w.heap.size + 2 := by rw [← hW2]; simp [hs1]
 have HBW : Hid (Below w.heap.size w W2) := (alloc_low hW1).trans ((alloc_low hW2).mono (alloc_low hW1).size)
 have HSZ2 := Lib.hid hs2
 have HPA := Lib.hid (parseIn_any s W2 (maxOk_below hw HBW.out))
 clear hw hs2
 by_cases hl : 65536 < s.length
 ·rw [if_pos hl] at hX
  have HX : Hid (X = (4, 0, [])) := hX.symm
  have HPA2 : Hid (Calls Tryz.prog 86 #[.string ⟨s.toArray⟩] W2 fun e w' => e = pan 4 ∧ W2 = w') := HPA.out.mono fun _ _ h => by rw [if_pos hl] at h; exact h
  clear hX HPA hl
  go_enter_defers Tryz.func34, Tryz.ntmps34
  go_wp2_with fail
  clear hW1 hW2
  refine HPA2.out.mono ?_
  rintro _ z1 ⟨rfl, rfl⟩
  obtain ⟨c0, f0, c1, f1⟩ := p2_cells (HPC.out _ (Below.refl _ _))
  obtain ⟨d0, g0, d1, g1⟩ := p2_after (HPC.out _ (Below.refl _ _)) (.int .i64 0)
  obtain ⟨q0, q1⟩ := p2_both (HPC.out _ (Below.refl _ _)) (.int .i64 0) (.int .i64 4)
  go_wp2_with fail
  refine leaves_cons (f := 85) (args := #[.pointer (some ⟨w.heap.size, 0, none⟩), .pointer (some ⟨w.heap.size + 1, 0, none⟩)]) (by simp) (by simp [go_sem]) ?_
  refine (sParse_panic ⟨w.heap.size, 0, none⟩ ⟨w.heap.size + 1, 0, none⟩ 0 0 4 _ c0 f0 d1 g1).mono ?_
  rintro e u' w3 ⟨rfl, rfl, rfl⟩
  simp [Leaves, settle, results, Tryz.results34, go_sem, q0, q1]
  exact Sz.pret_bad HX.out (HBW.out.trans ((Below.refl _ _).mono HBW.out.size)) _ _
 rw [if_neg hl] at hX
 cases he : endB s
 ·rw [if_neg (by rw [he]; decide)] at hX
  have HX : Hid (X = (2, 0, [])) := hX.symm
  have HPA2 : Hid (Calls Tryz.prog 86 #[.string ⟨s.toArray⟩] W2 fun e w' => e = pan 2 ∧ W2 = w') := HPA.out.mono fun _ _ h => by rw [if_neg hl, if_neg (by rw [he]; decide)] at h; exact h
  clear hX HPA hl he
  go_enter_defers Tryz.func34, Tryz.ntmps34
  go_wp2_with fail
  clear hW1 hW2
  refine HPA2.out.mono ?_
  rintro _ z1 ⟨rfl, rfl⟩
  obtain ⟨c0, f0, c1, f1⟩ := p2_cells (HPC.out _ (Below.refl _ _))
  obtain ⟨d0, g0, d1, g1⟩ := p2_after (HPC.out _ (Below.refl _ _)) (.int .i64 0)
  obtain ⟨q0, q1⟩ := p2_both (HPC.out _ (Below.refl _ _)) (.int .i64 0) (.int .i64 2)
  go_wp2_with fail
  refine leaves_cons (f := 85) (args := #[.pointer (some ⟨w.heap.size, 0, none⟩), .pointer (some ⟨w.heap.size + 1, 0, none⟩)]) (by simp) (by simp [go_sem]) ?_
  refine (sParse_panic ⟨w.heap.size, 0, none⟩ ⟨w.heap.size + 1, 0, none⟩ 0 0 2 _ c0 f0 d1 g1).mono ?_
  rintro e u' w3 ⟨rfl, rfl, rfl⟩
  simp [Leaves, settle, results, Tryz.results34, go_sem, q0, q1]
  exact Sz.pret_bad HX.out (HBW.out.trans ((Below.refl _ _).mono HBW.out.size)) _ _
 rw [if_pos he] at hX
 have HPA2 : Hid (Calls Tryz.prog 86 #[.string ⟨s.toArray⟩] W2 (ReadRet W2 X)) := HPA.out.mono fun _ _ h => by rw [if_neg hl, if_pos he, hX] at h; exact h
 obtain ⟨k, n, r⟩ := X
 have HBAD : Hid (k ≠ 0 → r = []) := readL_bad _ _ _ _ k n r hX
 have HN0 : Hid (k = 0 → n = 0) := fun h => by
  have h2 : parseS s = (0, n, r) := by unfold parseS; rw [if_neg hl, if_pos he, hX, h]
  exact (Sz.parse_text h2).1
 clear hX HPA hl he
 go_enter_defers Tryz.func34, Tryz.ntmps34
 go_wp2_with fail
 clear hW1 hW2
 refine HPA2.out.mono ?_
 rintro e z1 ⟨hb, hr⟩
 have HB := Lib.hid hb
 clear hb
 by_cases hk : k = 0
 ·subst hk
  obtain ⟨A, c, ds, rfl, h1, h2, hcp⟩ : ∃ A c ds, e = .returned (.slice A r.length c) ∧ Rg.Row encO 1 z1 A ds ∧ Gr.In encF 3 z1 ds r ∧ ∀ x ∈ ds, x.2.1 ≤ x.2.2 := by rw [if_pos rfl] at hr; exact hr
  have HCP := Lib.hid hcp
  obtain rfl := HN0.out rfl
  have HNA : Hid (NotAt w.heap.size A ds r ∧ NotAt (w.heap.size + 1) A ds r) := ⟨notAt_int h1 h2 (HPC.out _ HB.out).1, notAt_int h1 h2 (HPC.out _ HB.out).2⟩
  have HR := Lib.hid (notAt_set (notAt_set ⟨h1, h2⟩ HNA.out.1 (.int .i64 0)) HNA.out.2 (.int .i64 0))
  obtain ⟨c0, f0, c1, f1⟩ := p2_cells (HPC.out _ HB.out)
  obtain ⟨d0, g0, d1, g1⟩ := p2_after (HPC.out _ HB.out) (.int .i64 0)
  have HP2 := Lib.hid (p2_again (HPC.out _ HB.out))
  have HBV : Hid (Below w.heap.size w ((z1.setCell ⟨w.heap.size, 0, none⟩ (.int .i64 0)).setCell ⟨w.heap.size + 1, 0, none⟩ (.int .i64 0))) := ((HBW.out.trans (HB.out.mono HBW.out.size)).setCell (Nat.le_refl _) _).setCell (Nat.le_succ _) _
  clear hr h1 h2 hcp
  go_wp2_with fail
  generalize (z1.setCell ⟨w.heap.size, 0, none⟩ (.int .i64 0)).setCell ⟨w.heap.size + 1, 0, none⟩ (.int .i64 0) = V at *
  obtain ⟨k0, m0, k1, m1⟩ := p2_cells HP2.out
  obtain ⟨l0, o0, l1, o1⟩ := p2_after HP2.out (.int .i64 0)
  obtain ⟨q0, q1⟩ := p2_both HP2.out (.int .i64 0) (.int .i64 0)
  have HRF := Lib.hid (notAt_set (notAt_set HR.out HNA.out.1 (.int .i64 0)) HNA.out.2 (.int .i64 0))
  refine leaves_cons (f := 85) (args := #[.pointer (some ⟨w.heap.size, 0, none⟩), .pointer (some ⟨w.heap.size + 1, 0, none⟩)]) (by simp) (by simp [go_sem]) ?_
  refine (sParse_idle ⟨w.heap.size, 0, none⟩ ⟨w.heap.size + 1, 0, none⟩ 0 0 _ k0 m0 l1 o1).mono ?_
  rintro e u' w3 ⟨rfl, rfl, rfl⟩
  simp [Leaves, settle, results, Tryz.results34, go_sem, q0, q1]
  exact ⟨A, c, rfl, ⟨ds, HRF.out.1, HRF.out.2, HCP.out⟩, (HBV.out.setCell (Nat.le_refl _) _).setCell (Nat.le_succ _) _⟩
 ·obtain rfl : e = panAt n k := by rw [if_neg hk] at hr; exact hr
  obtain rfl := HBAD.out hk
  clear hr hk
  go_wp2_with fail
  refine leaves_cons (f := 85) (args := #[.pointer (some ⟨w.heap.size, 0, none⟩), .pointer (some ⟨w.heap.size + 1, 0, none⟩)]) (by simp) (by simp [go_sem]) ?_
  refine (sParse_placed ⟨w.heap.size, 0, none⟩ ⟨w.heap.size + 1, 0, none⟩ 0 0 n k _ (fun u hb => (p2_cells (HPC.out _ (HB.out.trans (hb.mono HB.out.size)))).1) (fun u hb => (p2_cells (HPC.out _ (HB.out.trans (hb.mono HB.out.size)))).2.1) (fun u hb => (p2_after (HPC.out _ (HB.out.trans (hb.mono HB.out.size))) _).2.2.1) (fun u hb => (p2_after (HPC.out _ (HB.out.trans (hb.mono HB.out.size))) _).2.2.2)).mono ?_
  rintro e u' w3 ⟨rfl, rfl, u, hb, rfl⟩
  have HBU := Lib.hid (HB.out.trans (hb.mono HB.out.size))
  obtain ⟨q0, q1⟩ := p2_both (HPC.out _ HBU.out) (.int .i64 n) (.int .i64 k)
  simp [Leaves, settle, results, Tryz.results34, go_sem, q0, q1]
  exact Sz.pret_bad rfl (HBW.out.trans (HBU.out.mono HBW.out.size)) _ _
theorem Sz.field_at {w : World} {A : Option Addr} {l : List Fld} (h : Rg.Row encF 3 w A l) (k : Nat) (hk : k < l.length) :
  ∃ ad, A = some ad ∧ ad.block < w.heap.size ∧ w.cell? (ad.add (k * 3)) = some (.string ⟨l[k].key.toArray⟩) ∧ w.cell? ⟨(ad.add (k * 3)).block, (ad.add (k * 3)).off + 1, none⟩ = some (.string ⟨l[k].val.toArray⟩) ∧ w.cell? ⟨(ad.add (k * 3)).block, (ad.add (k * 3)).off + 2, none⟩ = some (.int .i64 l[k].line) := by
 obtain ⟨ad, x, e, hx, hlt, hc⟩ := Rg.row_at h k hk
 subst hx
 exact ⟨ad, e, hlt, hc 0 _ rfl, hc 1 _ rfl, hc 2 _ rfl⟩
def Sz.Short (l : List Fld) : Prop := ∀ f ∈ l, f.key.length ≤ 140737488355328 ∧ f.val.length ≤ 140737488355328
theorem Sz.short_at {l : List Fld} (h : Short l) (k : Nat) (hk : k < l.length) : l[k].key.length ≤ 140737488355328 ∧ l[k].val.length ≤ 140737488355328 := h _ (List.getElem_mem hk)
theorem Sz.getF_cons (f : Fld) (l : List Fld) (k : List UInt8) : getF (f :: l) k = if (f.key == k) = true then some f else getF l k := by
 unfold getF; rw [List.find?_cons]; cases f.key == k <;> rfl
def Sz.GotRet (w : World) (R : Option Fld) (e : Ending) (w' : World) : Prop := e = .returned (.tuple #[.agg #[.string ⟨(R.getD ⟨[], [], 0⟩).key.toArray⟩, .string ⟨(R.getD ⟨[], [], 0⟩).val.toArray⟩, .int .i64 (R.getD ⟨[], [], 0⟩).line], .bool R.isSome]) ∧ Below w.heap.size w w'
theorem stanzaGet_any (A : Option Addr) (n c : Nat) (l : List Fld) (key : List UInt8) (w : World) (hn : l.length = n) (hr : Rg.Row encF 3 w A l) (hl : n ≤ 100000) (hs : Sz.Short l) :
  Calls Tryz.prog 154 #[.slice A n c, .string ⟨key.toArray⟩] w (Sz.GotRet w (getF l key)) := by
 obtain ⟨R, hR⟩ : ∃ R, getF l key = R := ⟨_, rfl⟩
 rw [hR]
 obtain ⟨W1, hW1⟩ : ∃ W, w.alloc (.cells #[.string ⟨#[]⟩, .string ⟨#[]⟩, .int .i64 0] 82) = W := ⟨_, rfl⟩
 have HBW : Hid (Below w.heap.size w W1) := alloc_low hW1
 have HC3 : Hid (∀ u, Below W1.heap.size W1 u → u.cell? ⟨w.heap.size, 0, none⟩ = some (.string ⟨#[]⟩) ∧ u.cell? ⟨w.heap.size, 1, none⟩ = some (.string ⟨#[]⟩) ∧ u.cell? ⟨w.heap.size, 2, none⟩ = some (.int .i64 0) ∧ u.frozen? ⟨w.heap.size, 0, none⟩ = false ∧ u.frozen? ⟨w.heap.size, 1, none⟩ = false ∧ u.frozen? ⟨w.heap.size, 2, none⟩ = false) := fun u hb => cell_three hW1 hb
 have HR := Lib.hid (Rg.row_below hr HBW.out)
 have HG := Lib.hid hR
 have HN := Lib.hid hn
 have HS := Lib.hid hs
 clear hr hR hn hs
 go_enter Tryz.func154, Tryz.ntmps154
 go_wp2_with fail
 clear hW1
 go_loopw [10] (fun i wr => ∃ k : Nat, k ≤ n ∧ i = .int .i64 k ∧ Hid (Below W1.heap.size W1 wr) ∧ Hid (getF (l.drop k) key = R)) (fun i _ => n - (intOf i).toNat)
 case atStart => exact ⟨0, Nat.zero_le _, rfl, Below.refl _ _, HG.out⟩
 case round =>
  obtain ⟨k, hk, rfl, HW, HH⟩ := hrel
  by_cases hlt : k < n
  ·have hlr : k < l.length := by rw [HN.out]; exact hlt
   obtain ⟨ad, rfl, _, c0, c1, c2⟩ := field_at (Rg.row_below HR.out HW.out) k hlr
   have hd : l.drop k = l[k] :: l.drop (k + 1) := List.drop_eq_getElem_cons hlr
   obtain ⟨s1, s2⟩ := short_at HS.out k hlr
   have hh := HH.out
   rw [hd, getF_cons] at hh
   obtain ⟨f, hf⟩ : ∃ f, l[k] = f := ⟨_, rfl⟩
   rw [hf] at c0 c1 c2 hh s1 s2
   obtain ⟨fk, fv, fl⟩ := f
   dsimp only at c0 c1 c2 hh s1 s2
   obtain ⟨V, hV⟩ : ∃ V, wr.alloc (.cells #[.string ⟨fk.toArray⟩, .string ⟨fv.toArray⟩, .int .i64 fl] 82) = V := ⟨_, rfl⟩
   have HV1 : Hid (Below W1.heap.size W1 V) := HW.out.trans ((alloc_low hV).mono HW.out.size)
   obtain ⟨v0, v1, v2, _⟩ := cell_three hV (Below.refl _ _)
   have S1 := Lib.hid s1
   have S2 := Lib.hid s2
   clear hd hf s1 s2
   cases hq : fk == key
   ·have HE : Hid (getF (l.drop (k + 1)) key = R) := by show _ = _; rw [← hh, if_neg (by rw [hq]; decide)]
    clear hh
    go_wp2_with fail
    clear hV
    go_roundw
    case rel => exact ⟨k + 1, by omega, by go_num, HV1, HE⟩
    case measure => simp [intOf]; omega
   ·have HE : Hid (R = some ⟨fk, fv, fl⟩) := by show _ = _; rw [← hh, if_pos hq]
    clear hh
    go_wp2_with fail
    clear hV
    refine (fClone_any fk fv fl _ S1.out S2.out).mono ?_
    rintro _ u3 ⟨rfl, hb3⟩
    have HBU : Hid (Below W1.heap.size W1 u3) := HV1.out.trans (hb3.mono HV1.out.size)
    clear hb3
    obtain ⟨b0, b1, b2, f0, f1, f2⟩ := HC3.out _ HBU.out
    have HBV : Hid (Below w.heap.size w (((u3.setCell ⟨w.heap.size, 0, none⟩ (.string ⟨fk.toArray⟩)).setCell ⟨w.heap.size, 1, none⟩ (.string ⟨fv.toArray⟩)).setCell ⟨w.heap.size, 2, none⟩ (.int .i64 fl))) := (((HBW.out.trans (HBU.out.mono HBW.out.size)).setCell (Nat.le_refl _) _).setCell (Nat.le_refl _) _).setCell (Nat.le_refl _) _
    have g0 : (((u3.setCell ⟨w.heap.size, 0, none⟩ (.string ⟨fk.toArray⟩)).setCell ⟨w.heap.size, 1, none⟩ (.string ⟨fv.toArray⟩)).setCell ⟨w.heap.size, 2, none⟩ (.int .i64 fl)).cell? ⟨w.heap.size, 0, none⟩ = some (.string ⟨fk.toArray⟩) := by simp [go_sem, b0]
    have g1 : (((u3.setCell ⟨w.heap.size, 0, none⟩ (.string ⟨fk.toArray⟩)).setCell ⟨w.heap.size, 1, none⟩ (.string ⟨fv.toArray⟩)).setCell ⟨w.heap.size, 2, none⟩ (.int .i64 fl)).cell? ⟨w.heap.size, 1, none⟩ = some (.string ⟨fv.toArray⟩) := by simp [go_sem, b1]
    have g2 : (((u3.setCell ⟨w.heap.size, 0, none⟩ (.string ⟨fk.toArray⟩)).setCell ⟨w.heap.size, 1, none⟩ (.string ⟨fv.toArray⟩)).setCell ⟨w.heap.size, 2, none⟩ (.int .i64 fl)).cell? ⟨w.heap.size, 2, none⟩ = some (.int .i64 fl) := by simp [go_sem, b2]
    go_wp2_with fail
    generalize (((u3.setCell ⟨w.heap.size, 0, none⟩ (.string ⟨fk.toArray⟩)).setCell ⟨w.heap.size, 1, none⟩ (.string ⟨fv.toArray⟩)).setCell ⟨w.heap.size, 2, none⟩ (.int .i64 fl)) = V at *
    refine bodyPost_ret (v := .tuple #[.agg #[.string ⟨fk.toArray⟩, .string ⟨fv.toArray⟩, .int .i64 fl], .bool true]) ?_ rfl ?_
    ·simp [results, Tryz.results154, go_sem, g0, g1, g2]
    ·show GotRet w R _ _
     rw [HE.out]; exact ⟨rfl, HBV.out⟩
  ·obtain rfl : k = n := by omega
   have HE : Hid (R = none) := by show _ = _; rw [← HH.out, List.drop_eq_nil_of_le (by rw [HN.out]; exact Nat.le_refl _)]; rfl
   have HBU := HW
   obtain ⟨b0, b1, b2, f0, f1, f2⟩ := HC3.out _ HBU.out
   have HBV : Hid (Below w.heap.size w (((wr.setCell ⟨w.heap.size, 0, none⟩ (.string ⟨#[]⟩)).setCell ⟨w.heap.size, 1, none⟩ (.string ⟨#[]⟩)).setCell ⟨w.heap.size, 2, none⟩ (.int .i64 0))) := (((HBW.out.trans (HBU.out.mono HBW.out.size)).setCell (Nat.le_refl _) _).setCell (Nat.le_refl _) _).setCell (Nat.le_refl _) _
   have g0 : (((wr.setCell ⟨w.heap.size, 0, none⟩ (.string ⟨#[]⟩)).setCell ⟨w.heap.size, 1, none⟩ (.string ⟨#[]⟩)).setCell ⟨w.heap.size, 2, none⟩ (.int .i64 0)).cell? ⟨w.heap.size, 0, none⟩ = some (.string ⟨#[]⟩) := by simp [go_sem, b0]
   have g1 : (((wr.setCell ⟨w.heap.size, 0, none⟩ (.string ⟨#[]⟩)).setCell ⟨w.heap.size, 1, none⟩ (.string ⟨#[]⟩)).setCell ⟨w.heap.size, 2, none⟩ (.int .i64 0)).cell? ⟨w.heap.size, 1, none⟩ = some (.string ⟨#[]⟩) := by simp [go_sem, b1]
   have g2 : (((wr.setCell ⟨w.heap.size, 0, none⟩ (.string ⟨#[]⟩)).setCell ⟨w.heap.size, 1, none⟩ (.string ⟨#[]⟩)).setCell ⟨w.heap.size, 2, none⟩ (.int .i64 0)).cell? ⟨w.heap.size, 2, none⟩ = some (.int .i64 0) := by simp [go_sem, b2]
   go_wp2_with fail
   generalize (((wr.setCell ⟨w.heap.size, 0, none⟩ (.string ⟨#[]⟩)).setCell ⟨w.heap.size, 1, none⟩ (.string ⟨#[]⟩)).setCell ⟨w.heap.size, 2, none⟩ (.int .i64 0)) = V at *
   refine bodyPost_ret (v := .tuple #[.agg #[.string ⟨#[]⟩, .string ⟨#[]⟩, .int .i64 0], .bool false]) ?_ rfl ?_
   ·simp [results, Tryz.results154, go_sem, g0, g1, g2]
   ·show GotRet w R _ _
    rw [HE.out]; exact ⟨rfl, HBV.out⟩
end Go.Proofs.YtkplahkkmmoppaaGreatDoor
namespace Go.Proofs.YtkplahkkmmoppaaGreatDoor
open Go.RowKit Rs At Pg
attribute [local go_sem ↓] Go.wp_at_zero Go.wp_at_succ
theorem valueWeight_any (t : List UInt8) (i : Int) (w : World) (ht : t.length ≤ 1000) (hw : KOk w) (hlt : outW t < Wm.W) :
  Calls Tryz.prog 163 #[.agg #[.string ⟨t.toArray⟩, .int .i64 i]] w fun r w' => r = (if errW t = 0 then (if chkW (outW t) = 0 then .returned (.float .f64 (outW t)) else panAt i (chkW (outW t))) else panAt i (errW t)) ∧ Below w.heap.size w w' := by
 obtain ⟨b, hb⟩ : ∃ b, w.heap.size = b := ⟨_, rfl⟩
 obtain ⟨V, hV⟩ : ∃ V, w.alloc (.cells #[.string ⟨t.toArray⟩, .int .i64 i] 170) = V := ⟨_, rfl⟩
 have HB : Hid (Below w.heap.size w V) := alloc_low hV
 have HP := Lib.hid (fun W (h : Below V.heap.size V W) => cell_pair hV h)
 rw [hb] at HP
 obtain ⟨c0, c1⟩ := HP.out _ (Below.refl _ _)
 have HC := Lib.hid (parse_w t ht V (kOk_below hw HB.out))
 have HK := Lib.hid (fun W => check_w (outW t) hlt W)
 obtain ⟨x, hx⟩ : ∃ x, outW t = x := ⟨_, rfl⟩
 obtain ⟨k, hk⟩ : ∃ k, errW t = k := ⟨_, rfl⟩
 rw [hx, hk] at HC
 rw [hx] at HK
 rw [hx, hk]
 obtain ⟨m, hm⟩ : ∃ m, chkW x = m := ⟨_, rfl⟩
 rw [hm] at HK
 rw [hm]
 clear hx hk hm hw ht hlt
 go_enter Tryz.func163, Tryz.ntmps163
 go_wp2_with fail
 clear hV hb
 refine HC.out.mono ?_
 rintro _ u ⟨rfl, hb⟩
 have HU := Lib.hid hb
 clear c0 c1 hb HC
 obtain ⟨c0, c1⟩ := HP.out _ HU.out
 go_wp2_with fail
 refine (valueOK_any t i k _).mono ?_
 rintro _ u2 ⟨rfl, hb⟩
 have HU2 : Hid (Below V.heap.size V u2) := HU.out.trans (hb.mono HU.out.size)
 clear hb c0 c1 HU
 by_cases h0 : k = 0
 case neg =>
  rw [okAt_ne h0]
  have H0 := Lib.hid h0
  clear h0
  go_wp2_with fail
  exact ⟨rfl, by first | exact (if_neg H0.out).symm | rfl | rw [if_neg H0.out], HB.out.trans (HU2.out.mono HB.out.size)⟩
 subst h0
 rw [okAt_zero]
 go_wp2_with fail
 have HS1 : Hid (Below V.heap.size V u2.drew) := HU2.out.drew
 obtain ⟨c0, c1⟩ := HP.out _ HS1.out
 by_cases h1 : m = 0
 ·subst h1
  go_region_held3 (fun w' => w'.cell? ⟨b, 0, none⟩ = some (.string ⟨t.toArray⟩) ∧ w'.cell? ⟨b, 1, none⟩ = some (.int .i64 i))
   (first
    | exact HP.out _ HS1.out
    | exact HP.out _ (HS1.out.trans (HS3.out.mono HS1.out.size)))
   (first
    | (go_at_call 95; refine (HK.out _).mono ?_; rintro _ u4 ⟨rfl, rfl⟩)
    | (go_at_call 203; refine (valueOK_any t i 0 _).mono ?_; rintro _ u3 ⟨rfl, hs⟩; have HS3 := Lib.hid hs; clear hs; rw [okAt_zero]))
  have HS4 : Hid (Below V.heap.size V u3) := HS1.out.trans (HS3.out.mono HS1.out.size)
  clear c0 c1 HS3
  go_wp2_with fail
  go_ret
  exact ⟨rfl, HB.out.trans (HS4.out.mono HB.out.size)⟩
 ·have HK1 : Hid (okAt i m = panAt i m) := okAt_ne h1
  have H1 := Lib.hid h1
  clear h1
  go_region_with (first
    | (go_at_call 95; refine (HK.out _).mono ?_; rintro _ u4 ⟨rfl, rfl⟩)
    | (go_at_call 203; refine (valueOK_any t i m _).mono ?_; rintro _ u3 ⟨rfl, hs⟩; have HS3 := Lib.hid hs; clear hs; rw [HK1.out]; refine ends_at (P := Tryz.prog) (a := { tmps := #[], defers := [] }) (w := w) ?_))
  all_goals exact ⟨rfl, by first | rfl | (rw [if_pos rfl, if_neg H1.out]), HB.out.trans ((HS1.out.trans (HS3.out.mono HS1.out.size)).mono HB.out.size)⟩
theorem pkgHas_any (A : Option Addr) (n c : Nat) (l : List Sz.Fld) (key : List UInt8) (w : World) (hn : l.length = n) (hr : Rg.Row Sz.encF 3 w A l) (hl : n ≤ 100000) (hs : Sz.Short l) :
  Calls Tryz.prog 110 #[.slice A n c, .string ⟨key.toArray⟩] w fun e w' => e = .returned (.bool (Sz.getF l key).isSome) ∧ Below w.heap.size w w' := by
 have HG := Lib.hid (stanzaGet_any A n c l key w hn hr hl hs)
 obtain ⟨R, hR⟩ : ∃ R, Sz.getF l key = R := ⟨_, rfl⟩
 rw [hR] at HG
 rw [hR]
 unfold Sz.GotRet at HG
 obtain ⟨x, hx⟩ : ∃ x, R.isSome = x := ⟨_, rfl⟩
 obtain ⟨fl, hfl⟩ : ∃ f, R.getD ⟨[], [], 0⟩ = f := ⟨_, rfl⟩
 rw [hx, hfl] at HG
 rw [hx]
 clear hn hr hl hs hR hx hfl
 go_enter Tryz.func110, Tryz.ntmps110
 go_wp2_with fail
 refine HG.out.mono ?_
 rintro _ u ⟨rfl, hb⟩
 have HU := Lib.hid hb
 clear hb HG
 go_wp2_with fail
 go_ret
 exact ⟨rfl, HU.out.alloc HU.out.size _⟩
end Go.Proofs.YtkplahkkmmoppaaGreatDoor
namespace Go.Proofs.YtkplahkkmmoppaaGreatDoor
open Go.RowKit Rs At Pg
theorem cutEq_any (s : List UInt8) (w : World) (hm : MaxOk w) (hl : s.length ≤ 1000000) :
  Calls Tryz.prog 181 #[.string ⟨s.toArray⟩, .string ⟨#[32, 61, 32]⟩] w fun e w' => e = .returned (.tuple #[.string ⟨(Lib.cut s [32, 61, 32]).1.toArray⟩, .string ⟨(Lib.cut s [32, 61, 32]).2.1.toArray⟩, .bool (Lib.cut s [32, 61, 32]).2.2]) ∧ Below w.heap.size w w' := by
 obtain ⟨m, hm⟩ := hm
 exact (Tryz.strings_Cut ⟨s.toArray⟩ ⟨#[32, 61, 32]⟩ m w (by show s.length < _; omega) hm).mono fun e w' ⟨h1, n, h2⟩ => ⟨h1, h2 ▸ below_drewN (Below.refl _ _) n⟩
def Pg.giveR (t : List UInt8) (i : Int) : Ending :=
 if nameB (Lib.cut t [32, 61, 32]).1 = true then
  if (Lib.cut t [32, 61, 32]).2.2 = true then
   if Vm.check (Lib.cut t [32, 61, 32]).2.1 = 0 then .returned (.agg #[.string ⟨(Lib.cut t [32, 61, 32]).1.toArray⟩, .string ⟨(canonOf (Lib.cut t [32, 61, 32]).2.1).toArray⟩])
   else panAt i (Vm.check (Lib.cut t [32, 61, 32]).2.1)
  else .returned (.agg #[.string ⟨(Lib.cut t [32, 61, 32]).1.toArray⟩, .string ⟨#[]⟩])
 else panAt i 3
abbrev Pg.stG (u : World) (b : Nat) (n v : List UInt8) : World := (u.setCell ⟨b, 0, none⟩ (.string ⟨n.toArray⟩)).setCell ⟨b, 1, none⟩ (.string ⟨v.toArray⟩)
theorem Pg.res_give {u : World} {b : Nat} {n v : List UInt8} {x y : Value} {tmps : Array Value} (k0 : u.cell? ⟨b, 0, none⟩ = some x) (k1 : u.cell? ⟨b, 1, none⟩ = some y) (h : tmps.getD 2 undef = .pointer (some ⟨b, 0, none⟩)) :
  (results Tryz.f162 tmps).run Tryz.prog (stG u b n v) = .ok (.agg #[.string ⟨n.toArray⟩, .string ⟨v.toArray⟩]) (stG u b n v) := by
 have g0 : (stG u b n v).cell? ⟨b, 0, none⟩ = some (.string ⟨n.toArray⟩) := by simp [stG, go_sem, k0]
 have g1 : (stG u b n v).cell? ⟨b, 1, none⟩ = some (.string ⟨v.toArray⟩) := by simp [stG, go_sem, k1]
 have hr : Tryz.f162.results = #[.cell 2 72] := Tryz.results162
 simp only [results, hr]
 generalize stG u b n v = V at *
 simp only [Array.getD_eq_getD_getElem?] at h ⊢
 simp [go_sem, h, g0, g1]
attribute [local go_sem ↓] Go.wp_at_zero Go.wp_at_succ
theorem valueGive_any (t : List UInt8) (i : Int) (w : World) (hw : MaxOk w) (ht : t.length ≤ 1000000) (h1 : (Lib.cut t [32, 61, 32]).1.length ≤ 281474976710656) :
  Calls Tryz.prog 162 #[.agg #[.string ⟨t.toArray⟩, .int .i64 i]] w fun r w' => r = giveR t i ∧ Below w.heap.size w w' := by
 obtain ⟨E, hE⟩ : ∃ E, giveR t i = E := ⟨_, rfl⟩
 rw [hE]
 unfold giveR at hE
 obtain ⟨V, hV⟩ : ∃ V, w.alloc (.cells #[.string ⟨t.toArray⟩, .int .i64 i] 170) = V := ⟨_, rfl⟩
 obtain ⟨U, hU⟩ : ∃ U, V.alloc (.cells #[.string ⟨#[]⟩, .string ⟨#[]⟩] 72) = U := ⟨_, rfl⟩
 have HBV : Hid (Below w.heap.size w V) := alloc_low hV
 have HVU : Hid (Below V.heap.size V U) := alloc_low hU
 have HB : Hid (Below w.heap.size w U) := HBV.out.trans (HVU.out.mono HBV.out.size)
 have HP := Lib.hid (fun W (h : Below U.heap.size U W) => cell_pair hV (HVU.out.trans (h.mono HVU.out.size)))
 have HG := Lib.hid (fun W (h : Below U.heap.size U W) => cell_two hU h)
 have HC := Lib.hid (cutEq_any t U (maxOk_below hw HB.out) ht)
 have HM := Lib.hid (fun W (h : Below U.heap.size U W) => maxOk_below (maxOk_below hw HB.out) h)
 have hlo : w.heap.size ≤ V.heap.size := HBV.out.size
 have HLO := Lib.hid hlo
 obtain ⟨c0, c1⟩ := HP.out _ (Below.refl _ _)
 generalize (Lib.cut t [32, 61, 32]) = x at hE h1 HC
 obtain ⟨n, v, f⟩ := x
 dsimp only at hE h1 HC
 have HN := Lib.hid (fun W => valueName_any n i W h1)
 obtain ⟨y, hy⟩ : ∃ y, nameB n = y := ⟨_, rfl⟩
 rw [hy] at hE HN
 have HE := Lib.hid hE
 clear hE hw ht h1 hy hlo
 go_enter Tryz.func162, Tryz.ntmps162
 go_wp2_with fail
 clear hV hU
 refine HC.out.mono ?_
 rintro _ u ⟨rfl, hb⟩
 have HUu := Lib.hid hb
 clear hb HC c0 c1
 obtain ⟨c0, c1⟩ := HP.out _ HUu.out
 go_wp2_with fail
 refine (HN.out _).mono ?_
 rintro _ u2 ⟨rfl, hb⟩
 have HU2 : Hid (Below U.heap.size U u2) := HUu.out.trans (hb.mono HUu.out.size)
 have HW2 : Hid (Below w.heap.size w u2) := HB.out.trans (HU2.out.mono HB.out.size)
 clear hb HN c0 c1
 cases y
 ·have HF : Hid (panAt i 3 = E) := HE.out
  go_wp2_with fail
  exact ⟨rfl, by rw [← HF.out], HW2.out⟩
 have hE : (if f = true then (if Vm.check v = 0 then Ending.returned (.agg #[.string ⟨n.toArray⟩, .string ⟨(canonOf v).toArray⟩]) else panAt i (Vm.check v)) else .returned (.agg #[.string ⟨n.toArray⟩, .string ⟨#[]⟩])) = E := HE.out
 clear HE
 have HE := Lib.hid hE
 clear hE
 obtain ⟨G, hG⟩ : ∃ G, u2.alloc (.cells #[.string ⟨n.toArray⟩, .string ⟨#[]⟩] 72) = G := ⟨_, rfl⟩
 have HUG : Hid (Below U.heap.size U (G.setCell ⟨u2.heap.size, 1, none⟩ (.string ⟨#[]⟩))) := (HU2.out.trans ((alloc_low hG).mono HU2.out.size)).setCell HU2.out.size _
 have HWG : Hid (Below w.heap.size w (G.setCell ⟨u2.heap.size, 1, none⟩ (.string ⟨#[]⟩))) := HB.out.trans (HUG.out.mono HB.out.size)
 obtain ⟨g0, g1, y0, y1⟩ := cell_two hG (Below.refl _ _)
 obtain ⟨k0, k1, z0, z1⟩ := HG.out _ HUG.out
 cases f
 ·have HF : Hid (Ending.returned (.agg #[.string ⟨n.toArray⟩, .string ⟨#[]⟩]) = E) := HE.out
  clear HE HP HG HM
  go_wp2_with fail
  (try simp only [Exit.inBlock, Exit.then])
  refine bodyPost_ret (res_give k0 k1 rfl) rfl ?_
  exact ⟨HF.out, (HWG.out.setCell HLO.out _).setCell HLO.out _⟩
 ·have hE : (if Vm.check v = 0 then Ending.returned (.agg #[.string ⟨n.toArray⟩, .string ⟨(canonOf v).toArray⟩]) else panAt i (Vm.check v)) = E := HE.out
  obtain ⟨X, hX⟩ : ∃ X, G.setCell ⟨u2.heap.size, 1, none⟩ (.string ⟨#[]⟩) = X := ⟨_, rfl⟩
  have q0 : X.cell? ⟨u2.heap.size, 0, none⟩ = some (.string ⟨n.toArray⟩) := by rw [← hX]; simp [go_sem, g0]
  have q1 : X.cell? ⟨u2.heap.size, 1, none⟩ = some (.string ⟨#[]⟩) := by rw [← hX]; simp [go_sem, g1]
  have r0 : X.frozen? ⟨u2.heap.size, 0, none⟩ = false := by rw [← hX]; simp [go_sem, y0]
  have r1 : X.frozen? ⟨u2.heap.size, 1, none⟩ = false := by rw [← hX]; simp [go_sem, y1]
  have hlt : u2.heap.size < X.heap.size := by rw [← hX, ← hG]; simp [go_sem]
  rw [hX] at HUG HWG
  have HV := Lib.hid (valueVersion_any v i X (HM.out _ HUG.out))
  obtain ⟨cv, hcv⟩ : ∃ c, canonOf v = c := ⟨_, rfl⟩
  obtain ⟨k, hk⟩ : ∃ k, Vm.check v = k := ⟨_, rfl⟩
  rw [hcv, hk] at HV hE
  have HQ := Lib.hid (fun (W : World) (h : Below X.heap.size X W) => (⟨(h.cell hlt).trans q0, (h.cell hlt).trans q1, (h.frozen hlt).trans r0, (h.frozen hlt).trans r1⟩ : W.cell? ⟨u2.heap.size, 0, none⟩ = some (.string ⟨n.toArray⟩) ∧ W.cell? ⟨u2.heap.size, 1, none⟩ = some (.string ⟨#[]⟩) ∧ W.frozen? ⟨u2.heap.size, 0, none⟩ = false ∧ W.frozen? ⟨u2.heap.size, 1, none⟩ = false))
  obtain ⟨c0, c1⟩ := HP.out _ HUG.out
  clear HE HP HM q0 q1 r0 r1 hlt hcv hk k0 k1 z0 z1
  go_wp2_with fail
  clear hX hG g0 g1 y0 y1 c0 c1
  refine HV.out.mono ?_
  rintro _ u3 ⟨rfl, hb⟩
  obtain ⟨p0, p1, s0, s1⟩ := HQ.out _ hb
  have HU3 : Hid (Below U.heap.size U u3) := HUG.out.trans (hb.mono HUG.out.size)
  have HW3 : Hid (Below w.heap.size w u3) := HWG.out.trans (hb.mono HWG.out.size)
  clear hb HQ HV
  by_cases h0 : k = 0
  ·subst h0
   rw [if_pos rfl]
   rw [if_pos rfl] at hE
   have HF := Lib.hid hE
   have HX3 : Hid (Below U.heap.size U (u3.setCell ⟨u2.heap.size, 1, none⟩ (.string ⟨cv.toArray⟩))) := HU3.out.setCell HU2.out.size _
   obtain ⟨k0, k1, z0, z1⟩ := HG.out _ HX3.out
   clear hE HG
   go_wp2_with fail
   (try simp only [Exit.inBlock, Exit.then])
   refine bodyPost_ret (res_give k0 k1 rfl) rfl ?_
   exact ⟨HF.out, ((HW3.out.setCell HW2.out.size _).setCell HLO.out _).setCell HLO.out _⟩
  ·rw [if_neg h0]
   rw [if_neg h0] at hE
   have HF := Lib.hid hE
   clear hE h0 HG
   go_wp2_with fail
   exact ⟨rfl, HF.out, HW3.out⟩
end Go.Proofs.YtkplahkkmmoppaaGreatDoor
namespace Go.Proofs.YtkplahkkmmoppaaGreatDoor
open Go.RowKit Rs At Pg
namespace Pg
def Pure (κ : Value → Prop) (w : World) (v : Value) : Prop := ∀ g, v.ownBlock = some g → ∀ j u, w.cell? ⟨g, j, none⟩ = some u → κ u
def NoB (u : Value) : Prop := ∀ b, u ≠ .bool b
def IsSl (u : Value) : Prop := ∃ A n c, u = .slice A n c
theorem pure_nil (κ : Value → Prop) (w : World) : Pure κ w (.slice none 0 0) := fun g h => by cases h
theorem pure_below {α : Type} {enc : α → List Value} {K B : Nat} {T : TypeId} {κ : Value → Prop} {w w' : World} {v : Value} {l : List α} (h : Pure κ w v) (ho : Rg.Own enc K w B T v l) (hb : Below w.heap.size w w') : Pure κ w' v := fun g hg j u hu => by
 have hlt := (Rg.own_lt ho g hg).2
 rw [World.cell?_of_block (hb.block _ hlt)] at hu
 exact h g hg j u hu
theorem zero_kind {κ : Value → Prop} {z : Array Value} (hz : ∀ u ∈ z, κ u) (n : Nat) : ∀ u ∈ Builtin.zeroCells z n, κ u := fun u hu => by
 unfold Builtin.zeroCells at hu
 rw [Array.mem_map] at hu
 obtain ⟨i, hi, rfl⟩ := hu
 have h0 : 0 < z.size := by
  rcases Nat.eq_zero_or_pos z.size with h | h
  ·rw [h] at hi; simp at hi
  ·exact h
 have hm : i % z.size < z.size := Nat.mod_lt _ h0
 rw [getElem!_pos z (i % z.size) hm]
 exact hz _ (Array.getElem_mem hm)
theorem new_kind {κ : Value → Prop} {w : World} {cs : Array Value} {e : TypeId} {n c : Nat} (hc : ∀ u ∈ cs, κ u) : Pure κ (w.drew.alloc (.cells cs e)) (.slice (some ⟨w.heap.size, 0, none⟩) n c) := fun g hg j u hu => by
 cases hg
 rw [cell_of_row (w.drew.alloc (.cells cs e)) w.heap.size j cs e (0, 0) (heap_alloc_new w.drew _)] at hu
 exact hc u (Array.mem_of_getElem? hu)
theorem pure_run {P : Program} {κ : Value → Prop} {w w' : World} {v v' : Value} (t ty : TypeId) (base : Nat) (e : TypeId) (i : TypeInfo) (z : Value) (size bytes : Nat) (ht : P.underlying t = some (.slice e)) (hi : P.info? e = some i) (hz : i.zero = some z)
  (hsize : i.size = size) (hby : i.bytes = bytes) (n : Nat) (xs : List Value) (hown : w.ownsRow base e size v n xs)
  (ad : Addr) (m c : Nat) (news : List Value) (hl : news.length = m * size) (hnews : ∀ j u, news[j]? = some u → w.cell? (ad.add j) = some u) (h1 : ∀ u ∈ news, u.oneCell' = true)
  (hm : 0 < m) (h63 : n + m ≤ maxLen) (hbytes : (n + m) * bytes ≤ 140737488355328)
  (hr : (Builtin.append_ #[t, t] ty #[v, .slice (some ad) m c]).run P w = .ok v' w') (hp : Pure κ w v) (hn : ∀ u ∈ news, κ u) (hzc : ∀ u ∈ z.cells, κ u) : Pure κ w' v' := by
 subst hsize
 subst hby
 have hsmall : n + m ≤ 9223372036854775807 := by simp only [maxLen] at h63; omega
 rcases hown.2 with ⟨rfl, rfl⟩ | ⟨g, cap, cur, rfl, hbg, hg, hnc, hcm, hcs, htake⟩
 ·rw [run_append_nil (P := P) w t ty e i z ht hi hz ad m c news hl hnews hm (by omega) (by have hb := hbytes; simp only [Nat.zero_add] at hb; omega)] at hr
  cases hr
  exact new_kind fun u hu => by
   rcases Array.mem_append.1 hu with hu | hu
   ·exact hn u (by simpa using hu)
   ·exact zero_kind hzc _ u hu
 ·have hcur : ∀ u ∈ cur.toList, κ u := fun u hu => by
   obtain ⟨j, hj⟩ := List.mem_iff_getElem?.1 hu
   refine hp g rfl j u ?_
   rw [cell_of_row w g j cur e (0, 0) hg]
   simpa using hj
  have hxs : ∀ u ∈ xs, κ u := fun u hu => hcur u (List.mem_of_mem_take (by rw [htake]; exact hu))
  by_cases hroom : n + m ≤ cap
  ·have hfit : n * i.size + news.length ≤ cur.size := by rw [hl, hcs, ← Nat.add_mul]; exact Nat.mul_le_mul_right _ hroom
   rw [run_append_room (P := P) w t ty e i ht hi g n cap cur hg ad m c news hl hnews h1 hroom hfit] at hr
   cases hr
   intro g' hg' j u hu
   cases hg'
   rw [cell_of_row _ g j _ e (0, 0) (setRow_heap w g cur _ e _ hg)] at hu
   have hm2 := Array.mem_of_getElem? hu
   rw [List.mem_toArray, List.mem_append, List.mem_append] at hm2
   rcases hm2 with (h2 | h2) | h2
   ·exact hcur u (List.mem_of_mem_take h2)
   ·exact hn u h2
   ·exact hcur u (List.mem_of_mem_drop h2)
  ·have holds : ∀ j u, xs[j]? = some u → w.cell? ((⟨g, 0, none⟩ : Addr).add j) = some u := hown.cells (g := g) rfl
   rw [run_append_grow (P := P) w t ty e i z ht hi hz ⟨g, 0, none⟩ n cap xs hown.1 holds ad m c news hl hnews (by omega) (by omega) (growslice_fits (by omega) hbytes)] at hr
   cases hr
   exact new_kind fun u hu => by
    rcases Array.mem_append.1 hu with hu | hu
    ·rcases Array.mem_append.1 hu with hu | hu
     ·exact hxs u (by simpa using hu)
     ·exact hn u (by simpa using hu)
    ·exact zero_kind hzc _ u hu
def But (r : Option Nat) (w u : World) : Prop := w.heap.size ≤ u.heap.size ∧ ∀ k, k < w.heap.size → r ≠ some k → u.heap[k]? = w.heap[k]?
theorem but_below {r : Option Nat} {w u : World} (h : Below w.heap.size w u) : But r w u := ⟨h.size, fun k hk _ => h.block k hk⟩
theorem but_grown {r : Option Nat} {w u : World} (h : w.grownBy u r) : But r w u := ⟨h.size, fun k hk hr => h.block k hk (fun e => hr e.symm)⟩
theorem but_set (w : World) (p : Addr) (x : Value) : But (some p.block) w (w.setCell p x) := ⟨by simp [World.setCell], fun k _ hr => Below.heap_setCell _ _ _ _ (fun e => hr (by rw [e]))⟩
theorem but_trans {r : Option Nat} {w u x : World} (h : But r w u) (k : But r u x) : But r w x := ⟨Nat.le_trans h.1 k.1, fun i hi hr => (k.2 i (Nat.lt_of_lt_of_le hi h.1) hr).trans (h.2 i hi hr)⟩
theorem row_but {α : Type} {enc : α → List Value} {K : Nat} {r : Option Nat} {w u : World} {A : Option Addr} {l : List α} (h : Rg.Row enc K w A l) (hb : But r w u) (hne : 0 < l.length → ∀ a, A = some a → r ≠ some a.block) : Rg.Row enc K u A l := fun h0 => by
 obtain ⟨a, e, hl, hc⟩ := h h0
 refine ⟨a, e, Nat.lt_of_lt_of_le hl hb.1, fun i hi j v hv => ?_⟩
 have h1 := hc i hi j v hv
 rw [World.cell?_of_block]
 ·exact h1
 ·have : (if j = 0 then a.add (i * K) else (⟨(a.add (i * K)).block, (a.add (i * K)).off + j, none⟩ : Addr)).block = a.block := by split <;> simp [add_block]
  rw [this]
  exact hb.2 _ hl (hne h0 a e)
theorem srow_but {r : Option Nat} {w u : World} {A : Option Addr} {l : List Sp} (h : SRow w A l) (hb : But r w u) (hne : 0 < l.length → ∀ a, A = some a → r ≠ some a.block) : SRow u A l := fun h0 => by
 obtain ⟨a, e, hl, hc⟩ := h h0
 have hk := hb.2 _ hl (hne h0 a e)
 refine ⟨a, e, Nat.lt_of_lt_of_le hl hb.1, fun i hi => ?_⟩
 obtain ⟨c0, c1, c2, c3⟩ := hc i hi
 refine ⟨?_, ?_, ?_, ?_⟩
 ·rw [World.cell?_of_block (by simpa [add_block] using hk)]; exact c0
 ·rw [World.cell?_of_block (by simpa [add_block] using hk)]; exact c1
 ·rw [World.cell?_of_block (by simpa [add_block] using hk)]; exact c2
 ·rw [World.cell?_of_block (by simpa [add_block] using hk)]; exact c3
theorem srow_nob {w : World} {g : Nat} {A : Option Addr} {l : List Sp} (h : SRow w A l) (hg : ∀ j u, w.cell? ⟨g, j, none⟩ = some u → NoB u) : 0 < l.length → ∀ a, A = some a → some g ≠ some a.block := fun h0 a ha hb => by
 obtain ⟨a', e, _, hc⟩ := h h0
 rw [ha] at e; cases e
 obtain ⟨_, _, _, c3⟩ := hc 0 h0
 have e3 : (a.add (0 * 4)).add 3 = ⟨g, a.off + 3, none⟩ := by rw [Option.some.inj hb]; simp [Addr.add]
 rw [e3] at c3
 exact hg _ _ c3 _ rfl
theorem spot_none {w : World} {a : Addr} {v : Value} (h : w.cell? a = some v) : a = ⟨a.block, a.off, none⟩ := by
 obtain ⟨b, o, s⟩ := a
 unfold World.cell? at h
 split at h
 ·split at h
  ·cases h
  ·rename_i h2
   cases s with
   | none => rfl
   | some x => exact absurd rfl h2
 ·cases h
theorem row_sl {α : Type} {enc : α → List Value} {K : Nat} {w : World} {g : Nat} {A : Option Addr} {l : List α} (h : Rg.Row enc K w A l) (he : ∀ x, ∃ t, (enc x)[0]? = some (.string t)) (hg : ∀ j u, w.cell? ⟨g, j, none⟩ = some u → IsSl u) : 0 < l.length → ∀ a, A = some a → some g ≠ some a.block := fun h0 a ha hb => by
 obtain ⟨a', e, _, hc⟩ := h h0
 rw [ha] at e; cases e
 obtain ⟨t, ht⟩ := he l[0]
 have h1 := hc 0 h0 0 _ ht
 rw [if_pos rfl, Nat.zero_mul, Rg.add_zero] at h1
 rw [spot_none h1, ← Option.some.inj hb] at h1
 obtain ⟨_, _, _, q⟩ := hg _ _ h1
 cases q
def AFar (r : Option Nat) (A : Option Addr) (l : List Atm) : Prop := 0 < l.length → ∀ a, A = some a → r ≠ some a.block
theorem ain_but {r : Option Nat} {w u : World} {ds : List AtD} {l : List Atm} (h : AIn w ds l) (hb : But r w u) (hg : ∀ g, r = some g → ∀ j x, w.cell? ⟨g, j, none⟩ = some x → NoB x) : AIn u ds l :=
 ⟨h.1, fun i d a h1 h2 => ⟨(h.2 i d a h1 h2).1, (h.2 i d a h1 h2).2.1, srow_but (h.2 i d a h1 h2).2.2 hb (fun h0 q hq e => by
  cases r with
  | none => cases e
  | some g => exact srow_nob (h.2 i d a h1 h2).2.2 (hg g rfl) h0 q hq e)⟩⟩
theorem arow_but {r : Option Nat} {w u : World} {A : Option Addr} {l : List Atm} (h : ARow w A l) (hb : But r w u) (hf : AFar r A l) (hg : ∀ g, r = some g → ∀ j x, w.cell? ⟨g, j, none⟩ = some x → NoB x) : ARow u A l := by
 obtain ⟨ds, h1, h2⟩ := h
 exact ⟨ds, row_but h1 hb (by rw [h2.1]; exact hf), ain_but h2 hb hg⟩
theorem sl_nob {u : Value} (h : IsSl u) : NoB u := fun b e => by obtain ⟨_, _, _, q⟩ := h; rw [e] at q; cases q
theorem arow_sl {w : World} {g : Nat} {A : Option Addr} {l : List Atm} (h : ARow w A l) (hg : ∀ j u, w.cell? ⟨g, j, none⟩ = some u → IsSl u) : AFar (some g) A l := by
 obtain ⟨ds, h1, h2⟩ := h
 have := row_sl h1 (fun x => ⟨_, rfl⟩) hg
 rw [h2.1] at this
 exact this
end Pg
theorem Pg.wpList_app_pure {α : Type} {P : Program} {enc : α → List Value} {K : Nat} {ST T : TypeId} {w : World} {κ : Value → Prop} (hT : Rg.SliceT P enc K ST T) (hk : ∀ i, P.info? T = some i → ∀ z, i.zero = some z → ∀ u ∈ z.cells, κ u) (hke : ∀ x, ∀ u ∈ enc x, κ u)
  {ops : Array Oper} {rest : List Oper} {o : Oper} {a : Act} {Q : Exit → Act → World → Prop} (hgd : o.guard = none) (sl x : Operand)
  (ho : o.op = .call { callee := .builtin .append, args := #[sl, x], argTypes := #[ST, ST] })
  (B : Nat) (v : Value) (l m : List α) (hs : a.eval sl = v) (hown : Rg.Own enc K w B T v l) (hp : Pure κ w v) (ad : Addr) (c : Nat) (hx : a.eval x = .slice (some ad) m.length c)
  (hnews : ∀ j u, (Rg.flat enc m)[j]? = some u → w.cell? (ad.add j) = some u) (hm : 0 < m.length) (hsz : l.length + m.length ≤ 1000000) (hB : B ≤ w.heap.size)
  (h : ∀ v' w', Rg.Own enc K w' B T v' (l ++ m) → Pure κ w' v' → w.grownBy w' v.ownBlock → w.heap.size ≤ w'.heap.size → wpList P ops Q rest (a.put o.dst v') w') : wpList P ops Q (o :: rest) a w := by
 obtain ⟨i, z, hi, hz0, hz1, hz2, hb⟩ := hT.info
 have hbytes : (l.length + m.length) * i.bytes ≤ 140737488355328 := by
  have : (l.length + m.length) * i.bytes ≤ 1000000 * 1000 := Nat.mul_le_mul hsz hb
  omega
 have h63 : l.length + m.length ≤ maxLen := by unfold maxLen; omega
 refine wpList_plain hgd fun _ hK => ?_
 obtain ⟨g, cap, w', hr, h2, h3, _, _⟩ := run_append_lies (P := P) w ST o.type B T i z K i.bytes hT.under hi hz0 hz2 rfl hz1 hT.pos v l.length (Rg.flat enc l) hown ad m.length c (Rg.flat enc m) (Rg.flat_len hT.fits m) hnews (Rg.flat_ones hT.fits m) hm h63 hbytes hB _ rfl
 have h6 := pure_run ST o.type B T i z K i.bytes hT.under hi hz0 hz2 rfl l.length (Rg.flat enc l) hown ad m.length c (Rg.flat enc m) (Rg.flat_len hT.fits m) hnews (Rg.flat_ones hT.fits m) hm h63 hbytes hr hp (fun u hu => by
  obtain ⟨y, _, hy⟩ := List.mem_flatMap.1 hu
  exact hke y u hy) (hk i hi z hz0)
 unfold Oper.wp execOp
 simp only [ho, resolve, invoke, builtin, Sem.run_bind, Sem.run_pure, Result.andThen_ok, List.map_toArray, List.map_cons, List.map_nil, hs, hx, hr]
 refine hK _ _ (h _ w' ?_ h6 h3 h3.size)
 unfold Rg.Own
 rw [Rg.flat_app, List.length_append]
 exact h2
end Go.Proofs.YtkplahkkmmoppaaGreatDoor
namespace Go.Proofs.YtkplahkkmmoppaaGreatDoor
open Go.RowKit Rs At Pg
namespace Pg
theorem splitK_all {sep : List UInt8} (hs : sep ≠ []) : ∀ (c k : Nat) (s : List UInt8), Lib.count s sep = c → (c ≤ k → Lib.splitK sep 0 k s = Lib.splitK sep 0 c s) ∧ (Lib.splitK sep 0 k s).length = min k c + 1
 | c, 0, s, _ => ⟨fun h => by rw [Nat.le_zero.1 h], by rw [Nat.zero_min]; rfl⟩
 | c, k + 1, s, hc => by
  rcases Lib.index_spec s sep with ⟨h, _⟩ | ⟨i, h, _⟩
  ·have h0 : c = 0 := by rw [← hc]; exact Lib.count_miss h
   have e : Lib.splitK sep 0 (k + 1) s = [s] := by unfold Lib.splitK; rw [if_pos (beq_iff_eq.2 h)]
   subst h0
   exact ⟨fun _ => by rw [e]; rfl, by rw [e, Nat.min_zero]; rfl⟩
  ·have h1 := Lib.count_hit hs h
   obtain ⟨c', rfl⟩ : ∃ c', c = c' + 1 := ⟨c - 1, by omega⟩
   have hm : ¬ (Lib.index s sep == -1) = true := fun e => by have := beq_iff_eq.1 e; omega
   have et : (Lib.index s sep).toNat = i := by omega
   have e : ∀ m, Lib.splitK sep 0 (m + 1) s = s.take i :: Lib.splitK sep 0 m (s.drop (i + sep.length)) := fun m => by
    rw [Lib.splitK, if_neg hm, et]; rfl
   obtain ⟨a, b⟩ := splitK_all hs c' k (s.drop (i + sep.length)) (by omega)
   refine ⟨fun hk => ?_, ?_⟩
   ·rw [e, e, a (by omega)]
   ·rw [e, List.length_cons, b]; omega
theorem count_len {sep : List UInt8} (hs : sep ≠ []) : ∀ (f : Nat) (s : List UInt8), s.length ≤ f → Lib.count s sep ≤ s.length
 | 0, s, hf => by
  rcases Lib.index_spec s sep with ⟨h, _⟩ | ⟨i, h, hi, ho, _⟩
  ·rw [Lib.count_miss h]; exact Nat.zero_le _
  ·have := Lib.index_room s sep (by omega)
   have : 0 < sep.length := List.length_pos_iff.2 hs
   omega
 | f + 1, s, hf => by
  rcases Lib.index_spec s sep with ⟨h, _⟩ | ⟨i, h, hi, ho, _⟩
  ·rw [Lib.count_miss h]; exact Nat.zero_le _
  ·have h2 := Lib.index_room s sep (by omega)
   have h3 : 0 < sep.length := List.length_pos_iff.2 hs
   rw [Lib.count_hit hs h]
   have := count_len hs f (s.drop (i + sep.length)) (by rw [List.length_drop]; omega)
   rw [List.length_drop] at this
   omega
theorem splitN_few {s sep : List UInt8} (hs : sep ≠ []) (most : Nat) : ((Lib.split s sep).length ≤ most → Lib.splitN s sep (most + 1) = Lib.split s sep) ∧ (most < (Lib.split s sep).length → most < (Lib.splitN s sep (most + 1)).length) := by
 have hc := count_len hs s.length s (Nat.le_refl _)
 have e : (Lib.split s sep).length = Lib.count s sep + 1 := by
  unfold Lib.split
  rw [(splitK_all hs _ _ s rfl).2, Nat.min_self]
 unfold Lib.splitN
 refine ⟨fun h => ?_, fun h => ?_⟩
 ·rw [(splitK_all hs _ _ s rfl).1 (by omega)]; rfl
 ·rw [(splitK_all hs _ _ s rfl).2]; omega
def rdL {β : Type} (rd : List UInt8 → Except Int β) : List β → List (List UInt8) → Except Int (List β)
 | acc, [] => .ok acc
 | acc, t :: l => match rd t with
  | .ok x => rdL rd (acc ++ [x]) l
  | .error e => .error e
def partsR {β : Type} (rd : List UInt8 → Except Int β) (sep : List UInt8) (most : Nat) (t : List UInt8) : Except Int (List β) :=
 if (Lib.split t sep).length ≤ most then rdL rd [] (Lib.split t sep) else .error 4
theorem rdL_ok {β : Type} {rd : List UInt8 → Except Int β} {acc : List β} {t : List UInt8} {l : List (List UInt8)} {x : β} (h : rd t = .ok x) : rdL rd acc (t :: l) = rdL rd (acc ++ [x]) l := by
 rw [rdL, h]
theorem rdL_error {β : Type} {rd : List UInt8 → Except Int β} {acc : List β} {t : List UInt8} {l : List (List UInt8)} {e : Int} (h : rd t = .error e) : rdL rd acc (t :: l) = .error e := by
 rw [rdL, h]
def atomR (t : List UInt8) : Except Int Atm := if (parseA t).1 = 0 then .ok (parseA t).2 else .error (parseA t).1
def semi : List UInt8 := [59, 32]
def orT : List UInt8 := [32, 111, 114, 32]
def isT : List UInt8 := [32, 61, 32]
def depR (t : List UInt8) : Except Int (List Atm) := partsR atomR orT 8 t
def gvR (t : List UInt8) : Except Int Gv :=
 if nameB (Lib.cut t isT).1 = true then
  if (Lib.cut t isT).2.2 = true then
   if Vm.check (Lib.cut t isT).2.1 = 0 then .ok ⟨(Lib.cut t isT).1, canonOf (Lib.cut t isT).2.1⟩ else .error (Vm.check (Lib.cut t isT).2.1)
  else .ok ⟨(Lib.cut t isT).1, []⟩
 else .error 3
def kPkg : List UInt8 := [80, 97, 99, 107, 97, 103, 101]
def kVer : List UInt8 := [86, 101, 114, 115, 105, 111, 110]
def kDep : List UInt8 := [68, 101, 112, 101, 110, 100, 115]
def kCon : List UInt8 := [67, 111, 110, 102, 108, 105, 99, 116, 115]
def kPro : List UInt8 := [80, 114, 111, 118, 105, 100, 101, 115]
def kWei : List UInt8 := [87, 101, 105, 103, 104, 116]
def keys6 : List (List UInt8) := [kPkg, kVer, kDep, kCon, kPro, kWei]
def wtR (t : List UInt8) : Except Int Nat := if errW t = 0 then (if chkW (outW t) = 0 then .ok (outW t) else .error (chkW (outW t))) else .error (errW t)
def takeR (p : Pk) (key val : List UInt8) : Except Int Pk :=
 if key = kPkg then (if nameB val = true then .ok { p with name := val } else .error 3)
 else if key = kVer then (if Vm.check val = 0 then .ok { p with ver := canonOf val } else .error (Vm.check val))
 else if key = kDep then (match partsR depR semi 16 val with | .ok l => .ok { p with deps := l } | .error e => .error e)
 else if key = kCon then (match partsR atomR semi 16 val with | .ok l => .ok { p with confl := l } | .error e => .error e)
 else if key = kPro then (match partsR gvR semi 16 val with | .ok l => .ok { p with prov := l } | .error e => .error e)
 else if key = kWei then (match wtR val with | .ok b => .ok { p with wt := b } | .error e => .error e)
 else .ok p
def readR : Nat → Pk → List Sz.Fld → Except (Int × Int) Pk
 | _, p, [] => .ok p
 | i, p, f :: l => match takeR p f.key f.val with
  | .ok q => readR (i + 1) q l
  | .error e => .error (i, e)
theorem readR_ok {i : Nat} {p q : Pk} {f : Sz.Fld} {l : List Sz.Fld} (h : takeR p f.key f.val = .ok q) : readR i p (f :: l) = readR (i + 1) q l := by rw [readR, h]
theorem readR_error {i : Nat} {p : Pk} {f : Sz.Fld} {l : List Sz.Fld} {e : Int} (h : takeR p f.key f.val = .error e) : readR i p (f :: l) = .error (i, e) := by rw [readR, h]
def zeroP : Pk := ⟨[], [], [], [], [], 0⟩
def readP (s : List Sz.Fld) : Except (Int × Int) Pk :=
 if (Sz.ordP keys6 0 (-1) s).2 = 0 then
  if (Sz.getF s kPkg).isSome && (Sz.getF s kVer).isSome then readR 0 zeroP s else .error (0, 10)
 else .error (Sz.ordP keys6 0 (-1) s)
def fromP (s : List Sz.Fld) : Int × Int × Pk := match readP s with
 | .ok p => (0, 0, p)
 | .error (i, e) => (e, i, zeroP)
theorem gvR_giveR (t : List UInt8) (i : Int) : giveR t i = match gvR t with | .ok g => .returned (.agg #[.string ⟨g.name.toArray⟩, .string ⟨g.ver.toArray⟩]) | .error e => panAt i e := by
 unfold giveR gvR isT
 by_cases h1 : nameB (Lib.cut t [32, 61, 32]).1 = true
 ·rw [if_pos h1, if_pos h1]
  by_cases h2 : (Lib.cut t [32, 61, 32]).2.2 = true
  ·rw [if_pos h2, if_pos h2]
   by_cases h3 : Vm.check (Lib.cut t [32, 61, 32]).2.1 = 0
   ·rw [if_pos h3, if_pos h3]
   ·rw [if_neg h3, if_neg h3]
  ·rw [if_neg h2, if_neg h2]
 ·rw [if_neg h1, if_neg h1]
end Pg
end Go.Proofs.YtkplahkkmmoppaaGreatDoor
