/- Asks in words: the program's write, Text, walked. Text of asks: the program's, walked. Asks in words, as the reference tells them: walked. Text of asks, as the reference tells it: walked. -/
import Derived.Test.YtkdildgdodnbbaaGreatDoorFb
import Derived.Test.YtkdildgdodnbbaaGreatDoorUs
namespace Go.Proofs.YtkdildgdodnbbaaGreatDoor.Ak
open Go.RowKit Rs At Pg Sz
/-- What the program's table of words must hold. -/
def Wrd (w : World) : Prop := w.cell? ⟨0, 0, none⟩ = some (.string ⟨#[]⟩) ∧ w.cell? ⟨0, 1, none⟩ = some (.string ⟨#[105, 110, 115, 116, 97, 108, 108]⟩) ∧ w.cell? ⟨0, 2, none⟩ = some (.string ⟨#[114, 101, 109, 111, 118, 101]⟩) ∧ w.cell? ⟨0, 3, none⟩ = some (.string ⟨#[117, 112, 103, 114, 97, 100, 101]⟩) ∧ w.cell? ⟨0, 4, none⟩ = some (.string ⟨#[112, 105, 110]⟩)
/-- What the walks ask of a world. -/
def QOk (w : World) : Prop := MaxOk w ∧ Wrd w
theorem qok_below {w w' : World} (h : QOk w) (hb : Below w.heap.size w w') : QOk w' := by
  obtain ⟨h0, h1, h2, h3, h4, h5⟩ := h
  have hlt := World.block_lt_of_cell? w _ h1
  exact ⟨maxOk_below h0 hb, (hb.cell (by exact hlt)).trans h1, (hb.cell (by exact hlt)).trans h2, (hb.cell (by exact hlt)).trans h3, (hb.cell (by exact hlt)).trans h4, (hb.cell (by exact hlt)).trans h5⟩
theorem wrd_at {w : World} (h : Wrd w) (k : Nat) (h1 : 1 ≤ k) (h4 : k ≤ 4) : w.cell? ⟨0, k, none⟩ = some (.string ⟨(wordQ (k : Int)).toArray⟩) := by
  obtain ⟨_, a1, a2, a3, a4⟩ := h
  have : k = 1 ∨ k = 2 ∨ k = 3 ∨ k = 4 := by omega
  rcases this with rfl | rfl | rfl | rfl
  · exact a1
  · exact a2
  · exact a3
  · exact a4
/-- The two result cells. -/
def P2 (b : Nat) (u : World) : Prop := u.heap[b]? = some (.cells #[.int .i64 0] 3 (0, 0)) ∧ u.heap[b + 1]? = some (.cells #[.int .i64 0] 27 (0, 0))
theorem p2_of {w W1 W2 u : World} (h1 : w.alloc (.cells #[.int .i64 0] 3) = W1) (h2 : W1.alloc (.cells #[.int .i64 0] 27) = W2) (hb : Below W2.heap.size W2 u) : P2 w.heap.size u := by
  have hs1 : W1.heap.size = w.heap.size + 1 := by rw [← h1]; simp
  have hs2 : W2.heap.size = w.heap.size + 2 := by rw [← h2]; simp [hs1]
  refine ⟨(hb.block _ (by omega)).trans ?_, (hb.block _ (by omega)).trans ?_⟩
  · rw [((alloc_low h2).block _ (by omega)), ← h1]; exact heap_alloc_new w _
  · rw [← h2, ← hs1]; exact heap_alloc_new W1 _
theorem p2_cells {b : Nat} {u : World} (h : P2 b u) : u.cell? ⟨b, 0, none⟩ = some (.int .i64 0) ∧ u.frozen? ⟨b, 0, none⟩ = false ∧ u.cell? ⟨b + 1, 0, none⟩ = some (.int .i64 0) ∧ u.frozen? ⟨b + 1, 0, none⟩ = false := by
  obtain ⟨h1, h2⟩ := h
  refine ⟨?_, ?_, ?_, ?_⟩ <;> simp [World.cell?, World.frozen?, h1, h2]
theorem p2_after {b : Nat} {u : World} (h : P2 b u) (x : Value) : (u.setCell ⟨b, 0, none⟩ x).cell? ⟨b, 0, none⟩ = some x ∧ (u.setCell ⟨b, 0, none⟩ x).frozen? ⟨b, 0, none⟩ = false ∧ (u.setCell ⟨b, 0, none⟩ x).cell? ⟨b + 1, 0, none⟩ = some (.int .i64 0) ∧ (u.setCell ⟨b, 0, none⟩ x).frozen? ⟨b + 1, 0, none⟩ = false := by
  obtain ⟨h1, h2, h3, h4⟩ := p2_cells h
  refine ⟨by simp [go_sem, h1], by simp [go_sem, h2], ?_, by simp [go_sem, h4]⟩
  rw [World.cell?_setCell_far _ _ _ _ (by show b ≠ b + 1; omega)]; exact h3
theorem p2_both {b : Nat} {u : World} (h : P2 b u) (x y : Value) : ((u.setCell ⟨b, 0, none⟩ x).setCell ⟨b + 1, 0, none⟩ y).cell? ⟨b, 0, none⟩ = some x ∧ ((u.setCell ⟨b, 0, none⟩ x).setCell ⟨b + 1, 0, none⟩ y).cell? ⟨b + 1, 0, none⟩ = some y := by
  obtain ⟨h1, h2, h3, h4⟩ := p2_after h x
  refine ⟨?_, by simp [go_sem, h3]⟩
  rw [World.cell?_setCell_far _ _ _ _ (by show b + 1 ≠ b; omega)]; exact h1
theorem p2_again {b : Nat} {u : World} (h : P2 b u) : P2 b ((u.setCell ⟨b, 0, none⟩ (.int .i64 0)).setCell ⟨b + 1, 0, none⟩ (.int .i64 0)) := by
  obtain ⟨h1, h2⟩ := h
  have g1 : (u.setCell ⟨b, 0, none⟩ (.int .i64 0)).heap[b]? = some (.cells #[.int .i64 0] 3 (0, 0)) := by simp [World.setCell, Array.getElem?_modify, h1]
  have g2 : (u.setCell ⟨b, 0, none⟩ (.int .i64 0)).heap[b + 1]? = some (.cells #[.int .i64 0] 27 (0, 0)) := by simp [World.setCell, Array.getElem?_modify, h2]
  refine ⟨?_, ?_⟩
  · rw [Below.heap_setCell _ _ _ _ (by show b ≠ b + 1; omega)]; exact g1
  · obtain ⟨v, hv⟩ : ∃ v, u.setCell ⟨b, 0, none⟩ (.int .i64 0) = v := ⟨_, rfl⟩
    rw [hv] at g2 ⊢
    simp [World.setCell, Array.getElem?_modify, g2]
/-- A row of asks keeps off the result cells. -/
theorem qrow_p2 {b : Nat} {u : World} {A : Option Addr} {l : List Rq} (h : QRow u A l) (hp : P2 b u) (y : Value) : QRow ((u.setCell ⟨b, 0, none⟩ (.int .i64 0)).setCell ⟨b + 1, 0, none⟩ y) A l := by
  have g2 : (u.setCell ⟨b, 0, none⟩ (.int .i64 0)).heap[b + 1]? = some (.cells #[.int .i64 0] 27 (0, 0)) := by simp [World.setCell, Array.getElem?_modify, hp.2]
  exact qrow_set (qrow_set h hp.1) g2
/-- What asks tell, so far. -/
theorem lines_take {l : List Rq} {k : Nat} (hk : k < l.length) : textQ (l.take (k + 1)) = textQ (l.take k) ++ (lineQ l[k] ++ [10]) := by
  unfold textQ
  rw [List.take_succ_eq_append_getElem hk, List.map_append]
  unfold joinL
  rw [List.flatMap_append]
  simp
theorem errQ_at {l : List Rq} {k : Nat} (hk : k < l.length) : errQ l k = checkQ l[k] := by
  unfold errQ; rw [List.getElem?_eq_getElem hk]
/-- How far the asks may be. -/
def MaySt (l : List Rq) (k : Nat) : Prop := ∀ a ∈ l.take k, checkQ a = 0
theorem may_start (l : List Rq) : MaySt l 0 := fun a h => absurd h (by simp)
theorem may_step {l : List Rq} {k : Nat} (h : MaySt l k) (hk : k < l.length) (h0 : checkQ l[k] = 0) : MaySt l (k + 1) := fun a ha => by
  rw [List.take_succ_eq_append_getElem hk] at ha
  rcases List.mem_append.1 ha with ha | ha
  · exact h a ha
  · rw [List.mem_singleton.1 ha]; exact h0
theorem may_le {l : List Rq} {k : Nat} (h : MaySt l k) (hk : k ≤ 32) : (textQ (l.take k)).length ≤ 40000 := by
  have h1 := textQ_le h
  have h2 : (l.take k).length ≤ 32 := by rw [List.length_take]; omega
  have h3 : (l.take k).length * 1009 ≤ 32 * 1009 := Nat.mul_le_mul_right _ h2
  omega
theorem may_bad {l : List Rq} {k : Nat} (h : MaySt l k) (hk : k < l.length) (h32 : l.length ≤ 32) (h0 : checkQ l[k] ≠ 0) : checkQs l = (k, checkQ l[k]) := by
  unfold checkQs
  rw [if_neg (by omega)]
  have := firstQ_bad (errQ l) l.length 0 k hk (fun j hj => by
    rw [Nat.zero_add, errQ_at (by omega)]
    exact h _ (List.mem_iff_getElem.2 ⟨j, by rw [List.length_take]; omega, by rw [List.getElem_take]⟩)) (by rw [Nat.zero_add, errQ_at hk]; exact h0)
  rw [Nat.zero_add, errQ_at hk] at this
  exact this
theorem may_all {l : List Rq} (h : MaySt l l.length) (h32 : l.length ≤ 32) : checkQs l = (0, 0) := by
  unfold checkQs
  rw [if_neg (by omega)]
  exact firstQ_ok _ _ _ fun j hj => by
    rw [Nat.zero_add, errQ_at hj]
    exact h _ (by rw [List.take_length]; exact List.getElem_mem hj)
/-- How write leaves. -/
def WrE (l : List Rq) (e : Ending) : Prop := (checkQs l = (0, 0) ∧ e = .returned (.string ⟨(textQ l).toArray⟩)) ∨ (∃ k, checkQs l = (0, k) ∧ k ≠ 0 ∧ e = pan k) ∨ (∃ (i : Nat) (k : Int), checkQs l = (i, k) ∧ k ≠ 0 ∧ e = panAt i k)
end Go.Proofs.YtkdildgdodnbbaaGreatDoor.Ak
namespace Go.Proofs.YtkdildgdodnbbaaGreatDoor
open Go.RowKit Rs At Pg Ak Sz
theorem qText_panic (p q : Addr) (x y n : Int) (w : World) (hc : w.cell? p = some (.int .i64 x)) (hz : w.frozen? p = false) (hc2 : (w.setCell p (.int .i64 0)).cell? q = some (.int .i64 y)) (hz2 : (w.setCell p (.int .i64 0)).frozen? q = false) :
    CallsD Tryz.prog 29 #[.pointer (some p), .pointer (some q)] (.panicking [{ v := .iface 27 (.int .i64 n), recovered := false }]) w fun e u' w' =>
      e = .returned (.tuple #[]) ∧ u' = .panicking [{ v := .iface 27 (.int .i64 n), recovered := true }] ∧ w' = (w.setCell p (.int .i64 0)).setCell q (.int .i64 n) := by
  refine callsD_of_wpS Tryz.func29 rfl fun c₀ cs hu => ?_
  apply wpS_region
  simp [wpOpsS, go_sem, recoverD, hu, Tryz.ntmps29]
  refine (raisedAt_err n _).mono ?_
  rintro e w' ⟨rfl, rfl⟩
  simp [go_sem, hc, hz, hc2, hz2, bodyPostS, results, Tryz.results29]
theorem qText_placed (p q : Addr) (x y k n : Int) (w : World) (hc : ∀ u, Below w.heap.size w u → u.cell? p = some (.int .i64 x)) (hz : ∀ u, Below w.heap.size w u → u.frozen? p = false) (hc2 : ∀ u, Below w.heap.size w u → (u.setCell p (.int .i64 k)).cell? q = some (.int .i64 y)) (hz2 : ∀ u, Below w.heap.size w u → (u.setCell p (.int .i64 k)).frozen? q = false) :
    CallsD Tryz.prog 29 #[.pointer (some p), .pointer (some q)] (.panicking [{ v := .iface 95 (.agg #[.int .i64 k, .int .i64 n]), recovered := false }]) w fun e u' w' =>
      e = .returned (.tuple #[]) ∧ u' = .panicking [{ v := .iface 95 (.agg #[.int .i64 k, .int .i64 n]), recovered := true }] ∧ ∃ u, Below w.heap.size w u ∧ w' = (u.setCell p (.int .i64 k)).setCell q (.int .i64 n) := by
  refine callsD_of_wpS Tryz.func29 rfl fun c₀ cs hu => ?_
  apply wpS_region
  simp [wpOpsS, go_sem, recoverD, hu, Tryz.ntmps29]
  refine (raisedAt_placed k n _).mono ?_
  rintro e w' ⟨rfl, hb⟩
  simp [go_sem, hc _ hb, hz _ hb, hc2 _ hb, hz2 _ hb, bodyPostS, results, Tryz.results29]
  exact ⟨w', hb, rfl⟩
theorem qText_idle (p q : Addr) (x y : Int) (w : World) (hc : w.cell? p = some (.int .i64 x)) (hz : w.frozen? p = false) (hc2 : (w.setCell p (.int .i64 0)).cell? q = some (.int .i64 y)) (hz2 : (w.setCell p (.int .i64 0)).frozen? q = false) :
    CallsD Tryz.prog 29 #[.pointer (some p), .pointer (some q)] .returning w fun e u' w' => e = .returned (.tuple #[]) ∧ u' = .returning ∧ w' = (w.setCell p (.int .i64 0)).setCell q (.int .i64 0) := by
  refine callsD_of_wpS Tryz.func29 rfl fun c₀ cs hu => ?_
  apply wpS_region
  simp [wpOpsS, go_sem, recoverD, hu, Tryz.ntmps29]
  refine (raisedAt_nil _).mono ?_
  rintro e w' ⟨rfl, rfl⟩
  cases c₀
  simp_all [go_sem, bodyPostS, results, Tryz.results29]
theorem qParse_panic (p q : Addr) (x y n : Int) (w : World) (hc : w.cell? p = some (.int .i64 x)) (hz : w.frozen? p = false) (hc2 : (w.setCell p (.int .i64 0)).cell? q = some (.int .i64 y)) (hz2 : (w.setCell p (.int .i64 0)).frozen? q = false) :
    CallsD Tryz.prog 36 #[.pointer (some p), .pointer (some q)] (.panicking [{ v := .iface 27 (.int .i64 n), recovered := false }]) w fun e u' w' =>
      e = .returned (.tuple #[]) ∧ u' = .panicking [{ v := .iface 27 (.int .i64 n), recovered := true }] ∧ w' = (w.setCell p (.int .i64 0)).setCell q (.int .i64 n) := by
  refine callsD_of_wpS Tryz.func36 rfl fun c₀ cs hu => ?_
  apply wpS_region
  simp [wpOpsS, go_sem, recoverD, hu, Tryz.ntmps36]
  refine (raisedAt_err n _).mono ?_
  rintro e w' ⟨rfl, rfl⟩
  simp [go_sem, hc, hz, hc2, hz2, bodyPostS, results, Tryz.results36]
theorem qParse_placed (p q : Addr) (x y k n : Int) (w : World) (hc : ∀ u, Below w.heap.size w u → u.cell? p = some (.int .i64 x)) (hz : ∀ u, Below w.heap.size w u → u.frozen? p = false) (hc2 : ∀ u, Below w.heap.size w u → (u.setCell p (.int .i64 k)).cell? q = some (.int .i64 y)) (hz2 : ∀ u, Below w.heap.size w u → (u.setCell p (.int .i64 k)).frozen? q = false) :
    CallsD Tryz.prog 36 #[.pointer (some p), .pointer (some q)] (.panicking [{ v := .iface 95 (.agg #[.int .i64 k, .int .i64 n]), recovered := false }]) w fun e u' w' =>
      e = .returned (.tuple #[]) ∧ u' = .panicking [{ v := .iface 95 (.agg #[.int .i64 k, .int .i64 n]), recovered := true }] ∧ ∃ u, Below w.heap.size w u ∧ w' = (u.setCell p (.int .i64 k)).setCell q (.int .i64 n) := by
  refine callsD_of_wpS Tryz.func36 rfl fun c₀ cs hu => ?_
  apply wpS_region
  simp [wpOpsS, go_sem, recoverD, hu, Tryz.ntmps36]
  refine (raisedAt_placed k n _).mono ?_
  rintro e w' ⟨rfl, hb⟩
  simp [go_sem, hc _ hb, hz _ hb, hc2 _ hb, hz2 _ hb, bodyPostS, results, Tryz.results36]
  exact ⟨w', hb, rfl⟩
theorem qParse_idle (p q : Addr) (x y : Int) (w : World) (hc : w.cell? p = some (.int .i64 x)) (hz : w.frozen? p = false) (hc2 : (w.setCell p (.int .i64 0)).cell? q = some (.int .i64 y)) (hz2 : (w.setCell p (.int .i64 0)).frozen? q = false) :
    CallsD Tryz.prog 36 #[.pointer (some p), .pointer (some q)] .returning w fun e u' w' => e = .returned (.tuple #[]) ∧ u' = .returning ∧ w' = (w.setCell p (.int .i64 0)).setCell q (.int .i64 0) := by
  refine callsD_of_wpS Tryz.func36 rfl fun c₀ cs hu => ?_
  apply wpS_region
  simp [wpOpsS, go_sem, recoverD, hu, Tryz.ntmps36]
  refine (raisedAt_nil _).mono ?_
  rintro e w' ⟨rfl, rfl⟩
  cases c₀
  simp_all [go_sem, bodyPostS, results, Tryz.results36]
attribute [local go_sem ↓] Go.wp_at_zero Go.wp_at_succ
theorem Ak.qbk_kept {b c : Nat} {k : Int} {nm : List UInt8} {A : Option Addr} {n d : Nat} {u u' : World} (h : u.heap[b]? = some (.cells #[.int .i64 k, .string ⟨nm.toArray⟩, .slice A n d] 34 (0, 0))) (hk : Lib.OthersKept 5 (some c) u u') (hne : c ≠ b) : QBk b k nm A n d u' := by
  have e1 := hk b _ h (by simp; omega) (fun cs fz e => by
    have := (Obj.cells.inj e).2.1
    exact absurd this (by decide))
  refine ⟨?_, ?_, ?_⟩ <;> simp [World.cell?, e1]
theorem Ak.cat_to {a b c : List UInt8} (h : a ++ b = c) (hl : c.length ≤ 100000) : ∀ W : World, (Op.stringOp .add ⟨a.toArray⟩ ⟨b.toArray⟩).run Tryz.prog W = .ok (.string ⟨c.toArray⟩) W := fun W => by
  subst h
  rw [List.length_append] at hl
  rw [cat_run _ _ (by show a.toArray.size + b.toArray.size ≤ _; rw [List.size_toArray, List.size_toArray]; omega) W, ByteArray.mk_append_mk]
set_option maxRecDepth 100000 in
set_option maxHeartbeats 3200000 in
theorem askwrite_any (A : Option Addr) (n c : Nat) (l : List Rq) (w : World) (hw : QOk w) (hn : l.length = n) (hr : QRow w A l) (hf : QFew l) :
    Calls Tryz.prog 31 #[.slice A n c] w fun e w' => WrE l e ∧ Below w.heap.size w w' := by
  by_cases h32 : 32 < n
  · have d0 : decide ((n : Int) ≤ 32) = false := decide_eq_false (by omega)
    have HX : Hid (checkQs l = (0, 4)) := by show _ = _; unfold checkQs; rw [if_pos (by omega)]
    clear h32 hw hn hr hf
    go_enter Tryz.func31, Tryz.ntmps31
    go_wp2_with fail
    refine (require_no _).mono ?_
    rintro _ z ⟨rfl, rfl⟩
    go_wp2_with fail
    exact ⟨rfl, Or.inr (Or.inl ⟨4, HX.out, by decide, rfl⟩), Below.refl _ _⟩
  have d0 : decide ((n : Int) ≤ 32) = true := decide_eq_true (by omega)
  have h32' : n ≤ 32 := by omega
  obtain ⟨W1, hW1⟩ : ∃ W, w.alloc (.cells #[.pointer none, .slice none 0 0] 99) = W := ⟨_, rfl⟩
  have HB0 : Hid (Bld w [] W1) := bld_new hW1
  have HN := Lib.hid hn
  have HR := Lib.hid hr
  have HF := Lib.hid hf
  have HW := Lib.hid hw
  clear hn hr hf hw h32
  go_enter Tryz.func31, Tryz.ntmps31
  go_wp2_with fail
  refine (require_yes _).mono ?_
  rintro _ z ⟨rfl, rfl⟩
  go_wp2_with fail
  clear hW1 d0
  go_loopw [12] (fun i wr => ∃ k : Nat, k ≤ n ∧ i = .int .i64 k ∧ Hid (MaySt l k) ∧ Hid (Bld w (textQ (l.take k)) wr)) (fun i _ => n - (intOf i).toNat)
  case atStart => exact ⟨0, Nat.zero_le _, rfl, may_start l, HB0.out⟩
  case round =>
    obtain ⟨k, hk, rfl, HST, HBL⟩ := hrel
    by_cases hlt : k < n
    · have hkl : k < l.length := by rw [HN.out]; exact hlt
      obtain ⟨ad, C, x, cx, rfl, hx, hs, hc⟩ := qrow_at HR.out k hkl
      obtain ⟨c0, c1, c2⟩ := hc _ HBL.out.2
      obtain ⟨f1, f2⟩ := qfew_at HF.out k hkl
      have HTK := Lib.hid (lines_take hkl)
      have HLE := Lib.hid (may_le HST.out (by omega))
      have HOK : Hid (checkQ l[k] = 0 → MaySt l (k + 1)) := fun h => may_step HST.out hkl h
      have HNO : Hid (checkQ l[k] ≠ 0 → checkQs l = (k, checkQ l[k])) := fun h => may_bad HST.out hkl (by rw [HN.out]; exact h32') h
      obtain ⟨a, ha⟩ : ∃ a, l[k] = a := ⟨_, rfl⟩
      rw [ha] at c0 c1 hx hs f1 f2 HTK HOK HNO
      obtain ⟨kd, nm, r⟩ := a
      dsimp only at c0 c1 hx hs f1 f2
      obtain ⟨V, hV⟩ : ∃ V, wr.alloc (.cells #[.int .i64 kd, .string ⟨nm.toArray⟩, .slice C x cx] 34) = V := ⟨_, rfl⟩
      have HVL : Hid (Below wr.heap.size wr V) := alloc_low hV
      have HBV : Hid (Bld w (textQ (l.take k)) V) := bld_below HBL.out HVL.out
      have HQ : Hid (∀ u, Below V.heap.size V u → QBk wr.heap.size kd nm C x cx u) := fun u hb => qbk_of hV hb
      have HSV : Hid (SRow V C r) := srow_below hs HBV.out.2
      have HQB : Hid (∀ u, Below V.heap.size V u → u.heap[wr.heap.size]? = some (.cells #[.int .i64 kd, .string ⟨nm.toArray⟩, .slice C x cx] 34 (0, 0))) := fun u hb => (hb.block _ (by rw [← hV]; simp)).trans (by rw [← hV]; exact heap_alloc_new wr _)
      have HX := Lib.hid hx
      have HRQ := Lib.hid (requireAsk_any kd nm C x cx r k V (qok_below HW.out HBV.out.2).1 f1 hx HSV.out (by omega))
      obtain ⟨q0, q1, q2⟩ := HQ.out _ (Below.refl _ _)
      obtain ⟨K, hK⟩ : ∃ K, checkQ ⟨kd, nm, r⟩ = K := ⟨_, rfl⟩
      rw [hK] at HRQ HOK HNO
      obtain ⟨S, hS⟩ : ∃ S, textQ (l.take k) = S := ⟨_, rfl⟩
      rw [hS] at HTK HLE HBV HBL
      have HK := Lib.hid hK
      clear hc ha hK hS hx hs
      go_wp2_with fail
      clear hV c0 c1 c2
      refine HRQ.out.mono ?_
      rintro _ u ⟨rfl, hb⟩
      have HVU := Lib.hid hb
      have HBU : Hid (Bld w S u) := bld_below HBV.out hb
      clear hb HRQ q0 q1 q2
      by_cases hk0 : K = 0
      case neg =>
        rw [okAt_ne hk0]
        have HC := Lib.hid (HNO.out hk0)
        have HK0 := Lib.hid hk0
        clear hk0
        go_wp2_with fail
        exact ⟨rfl, Or.inr (Or.inr ⟨k, K, HC.out, HK0.out, rfl⟩), HBU.out.2⟩
      subst hk0
      rw [okAt_zero]
      have HST2 := Lib.hid (HOK.out rfl)
      have hkd := kind_cases HK.out
      dsimp only at hkd
      have hca := check_atm HK.out
      obtain ⟨p, hp, hp1, hp4⟩ : ∃ p : Nat, kd = (p : Int) ∧ 1 ≤ p ∧ p ≤ 4 := ⟨kd.toNat, by omega, by omega, by omega⟩
      subst hp
      have HWC : Hid (∀ u', Below u.heap.size u u' → u'.cell? ⟨0, p, none⟩ = some (.string ⟨(wordQ (p : Int)).toArray⟩)) := fun u' hb => wrd_at (qok_below HW.out (HBU.out.2.trans (hb.mono HBU.out.2.size))).2 p hp1 hp4
      have HWW : Hid (∀ u', Below w.heap.size w u' → u'.cell? ⟨0, p, none⟩ = some (.string ⟨(wordQ (p : Int)).toArray⟩)) := fun u' hb => wrd_at (qok_below HW.out hb).2 p hp1 hp4
      have HQU : Hid (∀ u', Below u.heap.size u u' → QBk wr.heap.size p nm C x cx u') := fun u' hb => HQ.out _ (HVU.out.trans (hb.mono HVU.out.size))
      have hwl := (word_kind (p : Int) (by omega)).2.2.2
      have htl := text_le hca
      have hpc := check_parts hca
      have hnl := name_len hpc.1
      dsimp only at hnl
      have HLL : Hid (lineQ ⟨(p : Int), nm, r⟩ ++ [10] = wordQ (p : Int) ++ [32] ++ textA ⟨nm, r⟩ ++ [10]) := by show _ = _; unfold lineQ; simp
      have HTX : Hid (∀ u', Below u.heap.size u u' → Calls Tryz.prog 23 #[.agg #[.string ⟨nm.toArray⟩, .slice C x cx]] u' fun e w' => e = .returned (.string ⟨(textA ⟨nm, r⟩).toArray⟩) ∧ Below u'.heap.size u' w') := fun u' hb =>
        atomText_any nm C x cx r u' (qok_below HW.out (HBU.out.2.trans (hb.mono HBU.out.2.size))).1 (by omega) HX.out (srow_below HSV.out (HVU.out.trans (hb.mono HVU.out.size))) (by rw [← HX.out]; exact good_n hpc.2.1) hpc.2.1
      obtain ⟨wd, hwd⟩ : ∃ wd, wordQ (p : Int) = wd := ⟨_, rfl⟩
      obtain ⟨tx, htx⟩ : ∃ tx, textA ⟨nm, r⟩ = tx := ⟨_, rfl⟩
      obtain ⟨ln, hln⟩ : ∃ ln, lineQ ⟨(p : Int), nm, r⟩ ++ [10] = ln := ⟨_, rfl⟩
      rw [hwd] at HWC HWW hwl HLL
      rw [htx] at htl HLL HTX
      rw [hln] at HLL HTK
      obtain ⟨o1, ho1⟩ : ∃ o, wd ++ [32] = o := ⟨_, rfl⟩
      rw [ho1] at HLL
      obtain ⟨o2, ho2⟩ : ∃ o, o1 ++ tx = o := ⟨_, rfl⟩
      rw [ho2] at HLL
      have l1 : o1.length ≤ 8 := by rw [← ho1, List.length_append, List.length_singleton]; omega
      have l2 : o2.length ≤ 1008 := by rw [← ho2, List.length_append]; omega
      have l3 : ln.length ≤ 1009 := by rw [HLL.out, List.length_append, List.length_singleton]; omega
      have e1 := Ak.cat_to ho1 (by omega)
      have e2 := Ak.cat_to ho2 (by omega)
      have e3 := Ak.cat_to HLL.out.symm (by omega)
      have HQH : Hid (∀ u', Below u.heap.size u u' → u'.heap[wr.heap.size]? = some (.cells #[.int .i64 p, .string ⟨nm.toArray⟩, .slice C x cx] 34 (0, 0))) := fun u' hb => HQB.out _ (HVU.out.trans (hb.mono HVU.out.size))
      have hbw : w.heap.size < wr.heap.size := bld_lt HBL.out
      have HWR : Hid (∀ u', Below u.heap.size u u' → Calls Tryz.prog 56 #[.pointer (some ⟨w.heap.size, 0, none⟩), .string ⟨ln.toArray⟩] u' fun e v => e = .returned (.tuple #[.int .i64 ln.length, .nilIface]) ∧ Bld w (S ++ ln) v ∧ QBk wr.heap.size p nm C x cx v) := fun u' hb =>
        (bld_write (bld_below HBU.out hb) ln (by have := HLE.out; omega)).mono fun _ _ h => ⟨h.1, h.2.1, qbk_kept (HQH.out u' hb) h.2.2 (by omega)⟩
      have i0 : (0 : Int) ≤ (p : Int) := by omega
      have i1 : (p : Int) < 5 := by omega
      have HD : Hid (Below u.heap.size u u.drew) := (Below.refl _ _).drew
      obtain ⟨q0, q1, q2⟩ := HQU.out _ (Below.refl _ _)
      have q3 := HWC.out _ (Below.refl _ _)
      clear hkd hca hwl htl hpc hnl hwd htx hln ho1 ho2 l1 l2 l3
      go_wp2_with fail
      go_region_held3 (fun w' => w'.cell? ⟨wr.heap.size, 0, none⟩ = some (.int .i64 p) ∧ w'.cell? ⟨wr.heap.size, 1, none⟩ = some (.string ⟨nm.toArray⟩) ∧ w'.cell? ⟨wr.heap.size, 2, none⟩ = some (.slice C x cx) ∧ w'.cell? ⟨0, p, none⟩ = some (.string ⟨wd.toArray⟩))
        (first
          | exact ⟨(HQU.out _ HD.out).1, (HQU.out _ HD.out).2.1, (HQU.out _ HD.out).2.2, HWC.out _ HD.out⟩
          | exact ⟨(HQU.out _ HY.out).1, (HQU.out _ HY.out).2.1, (HQU.out _ HY.out).2.2, HWC.out _ HY.out⟩
          | exact ⟨HZQ.out.1, HZQ.out.2.1, HZQ.out.2.2, HZW.out⟩)
        (first
          | (go_at_call 56; refine (HWR.out _ HY.out).mono ?_; rintro _ z ⟨rfl, hb, hq⟩; have HZB := Lib.hid hb; have HZQ := Lib.hid hq; have HZW : Hid (z.cell? ⟨0, p, none⟩ = some (.string ⟨wd.toArray⟩)) := HWW.out _ hb.2; clear hb hq)
          | (go_at_call 23; refine (HTX.out _ HD.out).mono ?_; rintro _ y ⟨rfl, hb⟩; have HY : Hid (Below u.heap.size u y) := HD.out.trans hb; clear hb))
      have HTK2 : Hid (textQ (l.take (k + 1)) = S ++ ln) := HTK.out
      clear q0 q1 q2 q3 e1 e2 e3 HTX HWR HWC
      go_wp2_with fail
      go_roundw
      case rel => exact ⟨k + 1, by omega, by go_num, HST2, by show Bld w _ _; rw [HTK2.out]; exact HZB.out⟩
      case measure => simp [intOf]; omega
    · obtain rfl : k = n := by omega
      have HX : Hid (checkQs l = (0, 0)) := may_all (by rw [HN.out]; exact HST.out) (by rw [HN.out]; exact h32')
      have HTK : Hid (textQ (l.take k) = textQ l) := by show _ = _; rw [List.take_of_length_le (by rw [HN.out]; exact Nat.le_refl _)]
      have HLE := Lib.hid (may_le HST.out h32')
      obtain ⟨T, hT⟩ : ∃ T, textQ l = T := ⟨_, rfl⟩
      have HT := Lib.hid hT
      rw [HTK.out, hT] at HLE HBL
      have HBN : Hid (Calls Tryz.prog 57 #[.pointer (some ⟨w.heap.size, 0, none⟩)] wr fun e w' => e = .returned (.int .i64 T.length) ∧ w' = wr) := by
        have := Tryz.Builder_Len_f w.heap.size w.heap.size (Lib.byteCells T) wr HBL.out.1
        have e : (Lib.byteCells T).length = T.length := by unfold Lib.byteCells; simp
        rw [e] at this
        exact this
      have d9 : decide ((T.length : Int) ≤ 65536) = true := decide_eq_true (by have := HLE.out; omega)
      clear hT HST HTK
      go_wp2_with fail
      refine HBN.out.mono ?_
      rintro _ z ⟨rfl, hz⟩
      obtain rfl := hz.symm
      clear hz
      go_wp2_with fail
      refine (require_yes _).mono ?_
      rintro _ z ⟨rfl, rfl⟩
      go_wp2_with fail
      refine (bld_string HBL.out).mono ?_
      rintro _ y ⟨rfl, hb⟩
      have HY := Lib.hid hb
      clear hb
      go_wp2_with fail
      go_ret
      exact ⟨Or.inl ⟨HX.out, by rw [HT.out]; rfl⟩, HY.out.2⟩
end Go.Proofs.YtkdildgdodnbbaaGreatDoor
namespace Go.Proofs.YtkdildgdodnbbaaGreatDoor
open Go.RowKit Rs At Pg Ak Sz
attribute [local go_sem ↓] Go.wp_at_zero Go.wp_at_succ
/-- What Text tells. -/
def Ak.txtR (l : List Rq) : List UInt8 := if (checkQs l).2 = 0 then textQ l else []
set_option maxRecDepth 100000 in
set_option maxHeartbeats 3200000 in
theorem askText_any (A : Option Addr) (n c : Nat) (l : List Rq) (w : World) (hw : QOk w) (hn : l.length = n) (hr : QRow w A l) (hf : QFew l) :
    Calls Tryz.prog 12 #[.slice A n c] w fun e w' => e = .returned (.tuple #[.string ⟨(txtR l).toArray⟩, .int .i64 (checkQs l).1, .int .i64 (checkQs l).2]) ∧ Below w.heap.size w w' := by
  have hmf : ∀ (fn : Fn) (first cap : Array Value) (w : World), (Instr.makeFunc fn first cap).run Tryz.prog w = .ok (.func fn first cap) w := fun _ _ _ _ => rfl
  obtain ⟨W1, hW1⟩ : ∃ W, w.alloc (.cells #[.int .i64 0] 3) = W := ⟨_, rfl⟩
  obtain ⟨W2, hW2⟩ : ∃ W, W1.alloc (.cells #[.int .i64 0] 27) = W := ⟨_, rfl⟩
  have HPC : Hid (∀ u, Below W2.heap.size W2 u → P2 w.heap.size u) := fun u hb => p2_of hW1 hW2 hb
  have hs1 : W1.heap.size = w.heap.size + 1 := by rw [← hW1]; simp
  have HBW : Hid (Below w.heap.size w W2) := (alloc_low hW1).trans ((alloc_low hW2).mono (alloc_low hW1).size)
  have HQ := Lib.hid (askwrite_any A n c l W2 (qok_below hw HBW.out) hn (qrow_below hr HBW.out) hf)
  have HT0 : Hid ((checkQs l).2 = 0 → txtR l = textQ l) := fun h => if_pos h
  have HT1 : Hid ((checkQs l).2 ≠ 0 → txtR l = []) := fun h => if_neg h
  obtain ⟨X, hX⟩ : ∃ X, checkQs l = X := ⟨_, rfl⟩
  obtain ⟨T, hT⟩ : ∃ T, txtR l = T := ⟨_, rfl⟩
  have HX := Lib.hid hX
  rw [hX, hT] at HT0 HT1
  rw [hX, hT]
  obtain ⟨i, k⟩ := X
  dsimp only at HT0 HT1 ⊢
  clear hw hr hf hn hX hT
  go_enter_defers Tryz.func12, Tryz.ntmps12
  go_wp2_with fail
  clear hW1 hW2
  refine HQ.out.mono ?_
  rintro e z1 ⟨hcs, hb⟩
  have HB := Lib.hid hb
  clear hb HQ
  unfold WrE at hcs
  rw [HX.out] at hcs
  rcases hcs with ⟨he, rfl⟩ | ⟨k', he, hk, rfl⟩ | ⟨i', k', he, hk, rfl⟩
  · obtain ⟨rfl, rfl⟩ := Prod.mk.inj he
    have hT := HT0.out rfl
    subst hT
    obtain ⟨c0, f0, c1, f1⟩ := p2_cells (HPC.out _ HB.out)
    obtain ⟨d0, g0, d1, g1⟩ := p2_after (HPC.out _ HB.out) (.int .i64 0)
    have HP2 := Lib.hid (p2_again (HPC.out _ HB.out))
    have HBV : Hid (Below w.heap.size w ((z1.setCell ⟨w.heap.size, 0, none⟩ (.int .i64 0)).setCell ⟨w.heap.size + 1, 0, none⟩ (.int .i64 0))) := ((HBW.out.trans (HB.out.mono HBW.out.size)).setCell (Nat.le_refl _) _).setCell (Nat.le_succ _) _
    clear he HT0 HT1 HX
    go_wp2_with fail
    generalize (z1.setCell ⟨w.heap.size, 0, none⟩ (.int .i64 0)).setCell ⟨w.heap.size + 1, 0, none⟩ (.int .i64 0) = V at *
    obtain ⟨k0, m0, k1, m1⟩ := p2_cells HP2.out
    obtain ⟨l0, o0, l1, o1⟩ := p2_after HP2.out (.int .i64 0)
    obtain ⟨q0, q1⟩ := p2_both HP2.out (.int .i64 0) (.int .i64 0)
    refine leaves_cons (f := 29) (args := #[.pointer (some ⟨w.heap.size, 0, none⟩), .pointer (some ⟨w.heap.size + 1, 0, none⟩)]) (by simp) (by simp [go_sem]) ?_
    refine (qText_idle ⟨w.heap.size, 0, none⟩ ⟨w.heap.size + 1, 0, none⟩ 0 0 _ k0 m0 l1 o1).mono ?_
    rintro e u' w3 ⟨rfl, rfl, rfl⟩
    simp [Leaves, settle, results, Tryz.results12, go_sem, q0, q1]
    exact (HBV.out.setCell (Nat.le_refl _) _).setCell (Nat.le_succ _) _
  · obtain ⟨rfl, rfl⟩ := Prod.mk.inj he
    have hT := HT1.out hk
    subst hT
    clear hk he HT0 HT1 HX
    obtain ⟨c0, f0, c1, f1⟩ := p2_cells (HPC.out _ HB.out)
    obtain ⟨d0, g0, d1, g1⟩ := p2_after (HPC.out _ HB.out) (.int .i64 0)
    obtain ⟨q0, q1⟩ := p2_both (HPC.out _ HB.out) (.int .i64 0) (.int .i64 k)
    go_wp2_with fail
    refine leaves_cons (f := 29) (args := #[.pointer (some ⟨w.heap.size, 0, none⟩), .pointer (some ⟨w.heap.size + 1, 0, none⟩)]) (by simp) (by simp [go_sem]) ?_
    refine (qText_panic ⟨w.heap.size, 0, none⟩ ⟨w.heap.size + 1, 0, none⟩ 0 0 k _ c0 f0 d1 g1).mono ?_
    rintro e u' w3 ⟨rfl, rfl, rfl⟩
    simp [Leaves, settle, results, Tryz.results12, go_sem, q0, q1]
    exact ((HBW.out.trans (HB.out.mono HBW.out.size)).setCell (Nat.le_refl _) _).setCell (Nat.le_succ _) _
  · obtain ⟨rfl, rfl⟩ := Prod.mk.inj he
    have hT := HT1.out hk
    subst hT
    clear hk he HT0 HT1 HX
    go_wp2_with fail
    refine leaves_cons (f := 29) (args := #[.pointer (some ⟨w.heap.size, 0, none⟩), .pointer (some ⟨w.heap.size + 1, 0, none⟩)]) (by simp) (by simp [go_sem]) ?_
    refine (qText_placed ⟨w.heap.size, 0, none⟩ ⟨w.heap.size + 1, 0, none⟩ 0 0 i k _ (fun u hb => (p2_cells (HPC.out _ (HB.out.trans (hb.mono HB.out.size)))).1) (fun u hb => (p2_cells (HPC.out _ (HB.out.trans (hb.mono HB.out.size)))).2.1) (fun u hb => (p2_after (HPC.out _ (HB.out.trans (hb.mono HB.out.size))) _).2.2.1) (fun u hb => (p2_after (HPC.out _ (HB.out.trans (hb.mono HB.out.size))) _).2.2.2)).mono ?_
    rintro e u' w3 ⟨rfl, rfl, u, hb, rfl⟩
    have HBU := Lib.hid (HB.out.trans (hb.mono HB.out.size))
    obtain ⟨q0, q1⟩ := p2_both (HPC.out _ HBU.out) (.int .i64 i) (.int .i64 k)
    simp [Leaves, settle, results, Tryz.results12, go_sem, q0, q1]
    exact ((HBW.out.trans (HBU.out.mono HBW.out.size)).setCell (Nat.le_refl _) _).setCell (Nat.le_succ _) _
end Go.Proofs.YtkdildgdodnbbaaGreatDoor
namespace Go.Proofs.YtkdildgdodnbbaaGreatDoor
open Go.RowKit Rs At Pg Ak Sz
attribute [local go_sem ↓] Go.wp_at_zero Go.wp_at_succ
theorem Ak.five_at {u z : World} {cs : Array Value} {T : TypeId} (hb : Below (u.alloc (.cells cs T)).heap.size (u.alloc (.cells cs T)) z) (p : Nat) (v : Value) (hv : cs[p]? = some v) : z.cell? ⟨u.heap.size, p, none⟩ = some v := by
  have e1 : z.heap[u.heap.size]? = some (.cells cs T (0, 0)) := (hb.block _ (by simp)).trans (heap_alloc_new u _)
  simp only [World.cell?, e1]
  simpa using hv
theorem Ak.below_undrew {b : Nat} {w z : World} (h : Below b w.drew z) : Below b w z := (Below.refl _ _).drew.trans h
set_option maxRecDepth 100000 in
set_option maxHeartbeats 3200000 in
theorem refAskLine_any (k : Int) (nm : List UInt8) (A : Option Addr) (n c : Nat) (l : List Sp) (w : World) (hw : MaxOk w) (hn : l.length = n) (hr : SRow w A l) (hk : k = 1 ∨ k = 2 ∨ k = 3 ∨ k = 4) (hc : checkA ⟨nm, l⟩ = 0) :
    Calls Tryz.prog 32 #[.agg #[.int .i64 k, .string ⟨nm.toArray⟩, .slice A n c]] w fun e w' => e = .returned (.string ⟨(lineQ ⟨k, nm, l⟩).toArray⟩) ∧ Below w.heap.size w w' := by
  obtain ⟨W1, hW1⟩ : ∃ W, w.alloc (.cells #[.int .i64 k, .string ⟨nm.toArray⟩, .slice A n c] 40) = W := ⟨_, rfl⟩
  have HB1 : Hid (Below w.heap.size w W1) := alloc_low hW1
  have HQ : Hid (∀ u, Below W1.heap.size W1 u → QBk w.heap.size k nm A n c u) := fun u hb => qbk_of hW1 hb
  have HD0 : Hid (Below W1.heap.size W1 W1.drew) := (Below.refl _ _).drew
  have HA0 : Hid (Below W1.heap.size W1 (W1.alloc (.cells #[.string ⟨#[]⟩, .string ⟨#[105, 110, 115, 116, 97, 108, 108]⟩, .string ⟨#[114, 101, 109, 111, 118, 101]⟩, .string ⟨#[117, 112, 103, 114, 97, 100, 101]⟩, .string ⟨#[112, 105, 110]⟩] 9)).drew) := ((Below.refl _ _).alloc (Nat.le_refl _) _).drew
  obtain ⟨q0, q1, q2⟩ := HQ.out _ (Below.refl _ _)
  obtain ⟨r0, r1, r2⟩ := HQ.out _ HA0.out
  obtain ⟨tx, htx⟩ : ∃ tx, textA ⟨nm, l⟩ = tx := ⟨_, rfl⟩
  have htl := text_le hc
  rw [htx] at htl
  have hpc := check_parts hc
  have hnl := name_len hpc.1
  dsimp only at hnl
  have HTX : Hid (∀ u, Below W1.heap.size W1 u → Calls Tryz.prog 59 #[.agg #[.string ⟨nm.toArray⟩, .slice A n c]] u fun e w' => e = .returned (.string ⟨tx.toArray⟩) ∧ Below u.heap.size u w') := fun u hb => by
    rw [← htx]
    exact refAtomText_any nm A n c l u (maxOk_below (maxOk_below hw HB1.out) hb) (by omega) hn (srow_below (srow_below hr HB1.out) hb) (by rw [← hn]; exact good_n hpc.2.1) hpc.2.1
  clear hw hn hr hc hpc hnl
  rcases hk with rfl | rfl | rfl | rfl
  · have HLN : Hid (lineQ ⟨1, nm, l⟩ = [105, 110, 115, 116, 97, 108, 108] ++ [32] ++ tx) := by show _ = _; unfold lineQ; rw [← htx]; simp [wordQ]
    obtain ⟨o1, ho1⟩ : ∃ o, ([105, 110, 115, 116, 97, 108, 108] : List UInt8) ++ [32] = o := ⟨_, rfl⟩
    rw [ho1] at HLN
    obtain ⟨o2, ho2⟩ : ∃ o, o1 ++ tx = o := ⟨_, rfl⟩
    rw [ho2] at HLN
    have l1 : o1.length ≤ 8 := by rw [← ho1]; decide
    have l2 : o2.length ≤ 1008 := by rw [← ho2, List.length_append]; omega
    have e1 := Ak.cat_to ho1 (by omega)
    have e2 := Ak.cat_to ho2 (by omega)
    have HFV : Hid (∀ z, Below (W1.alloc (.cells #[.string ⟨#[]⟩, .string ⟨#[105, 110, 115, 116, 97, 108, 108]⟩, .string ⟨#[114, 101, 109, 111, 118, 101]⟩, .string ⟨#[117, 112, 103, 114, 97, 100, 101]⟩, .string ⟨#[112, 105, 110]⟩] 9)).drew.heap.size (W1.alloc (.cells #[.string ⟨#[]⟩, .string ⟨#[105, 110, 115, 116, 97, 108, 108]⟩, .string ⟨#[114, 101, 109, 111, 118, 101]⟩, .string ⟨#[117, 112, 103, 114, 97, 100, 101]⟩, .string ⟨#[112, 105, 110]⟩] 9)).drew z → z.cell? ⟨W1.heap.size, 1, none⟩ = some (.string ⟨#[105, 110, 115, 116, 97, 108, 108]⟩)) := fun z hb => five_at (u := W1) (below_undrew hb) 1 _ (by rfl)
    clear ho1 ho2 l1 l2 htx
    go_enter Tryz.func32, Tryz.ntmps32
    go_wp2_with fail
    clear hW1
    have gfv := HFV.out _ (Below.refl _ _)
    go_region_with (first
      | (go_at_call 59; refine (HTX.out _ HA0.out).mono ?_; rintro _ z ⟨rfl, hb⟩; have HZ : Hid (Below W1.heap.size W1 z) := HA0.out.trans (hb.mono HA0.out.size); have hfv := HFV.out z hb; obtain ⟨p0, p1, p2⟩ := HQ.out _ HZ.out)
      | (go_at_call 59; refine (HTX.out _ HD0.out).mono ?_; rintro _ z ⟨rfl, hb⟩; have HZ : Hid (Below W1.heap.size W1 z) := HD0.out.trans (hb.mono HD0.out.size); obtain ⟨p0, p1, p2⟩ := HQ.out _ HZ.out; obtain ⟨s0, s1, s2⟩ := HQ.out _ (HZ.out.alloc HZ.out.size (.cells #[.string ⟨#[]⟩, .string ⟨#[105, 110, 115, 116, 97, 108, 108]⟩, .string ⟨#[114, 101, 109, 111, 118, 101]⟩, .string ⟨#[117, 112, 103, 114, 97, 100, 101]⟩, .string ⟨#[112, 105, 110]⟩] 9))))
    all_goals
      go_wp2_with fail
      go_ret
      exact ⟨by rw [HLN.out]; rfl, by first | exact HB1.out.trans (HZ.out.mono HB1.out.size) | exact HB1.out.trans ((HZ.out.alloc HZ.out.size _).mono HB1.out.size)⟩
  · have HLN : Hid (lineQ ⟨2, nm, l⟩ = [114, 101, 109, 111, 118, 101] ++ [32] ++ tx) := by show _ = _; unfold lineQ; rw [← htx]; simp [wordQ]
    obtain ⟨o1, ho1⟩ : ∃ o, ([114, 101, 109, 111, 118, 101] : List UInt8) ++ [32] = o := ⟨_, rfl⟩
    rw [ho1] at HLN
    obtain ⟨o2, ho2⟩ : ∃ o, o1 ++ tx = o := ⟨_, rfl⟩
    rw [ho2] at HLN
    have l1 : o1.length ≤ 8 := by rw [← ho1]; decide
    have l2 : o2.length ≤ 1008 := by rw [← ho2, List.length_append]; omega
    have e1 := Ak.cat_to ho1 (by omega)
    have e2 := Ak.cat_to ho2 (by omega)
    have HFV : Hid (∀ z, Below (W1.alloc (.cells #[.string ⟨#[]⟩, .string ⟨#[105, 110, 115, 116, 97, 108, 108]⟩, .string ⟨#[114, 101, 109, 111, 118, 101]⟩, .string ⟨#[117, 112, 103, 114, 97, 100, 101]⟩, .string ⟨#[112, 105, 110]⟩] 9)).drew.heap.size (W1.alloc (.cells #[.string ⟨#[]⟩, .string ⟨#[105, 110, 115, 116, 97, 108, 108]⟩, .string ⟨#[114, 101, 109, 111, 118, 101]⟩, .string ⟨#[117, 112, 103, 114, 97, 100, 101]⟩, .string ⟨#[112, 105, 110]⟩] 9)).drew z → z.cell? ⟨W1.heap.size, 2, none⟩ = some (.string ⟨#[114, 101, 109, 111, 118, 101]⟩)) := fun z hb => five_at (u := W1) (below_undrew hb) 2 _ (by rfl)
    clear ho1 ho2 l1 l2 htx
    go_enter Tryz.func32, Tryz.ntmps32
    go_wp2_with fail
    clear hW1
    have gfv := HFV.out _ (Below.refl _ _)
    go_region_with (first
      | (go_at_call 59; refine (HTX.out _ HA0.out).mono ?_; rintro _ z ⟨rfl, hb⟩; have HZ : Hid (Below W1.heap.size W1 z) := HA0.out.trans (hb.mono HA0.out.size); have hfv := HFV.out z hb; obtain ⟨p0, p1, p2⟩ := HQ.out _ HZ.out)
      | (go_at_call 59; refine (HTX.out _ HD0.out).mono ?_; rintro _ z ⟨rfl, hb⟩; have HZ : Hid (Below W1.heap.size W1 z) := HD0.out.trans (hb.mono HD0.out.size); obtain ⟨p0, p1, p2⟩ := HQ.out _ HZ.out; obtain ⟨s0, s1, s2⟩ := HQ.out _ (HZ.out.alloc HZ.out.size (.cells #[.string ⟨#[]⟩, .string ⟨#[105, 110, 115, 116, 97, 108, 108]⟩, .string ⟨#[114, 101, 109, 111, 118, 101]⟩, .string ⟨#[117, 112, 103, 114, 97, 100, 101]⟩, .string ⟨#[112, 105, 110]⟩] 9))))
    all_goals
      go_wp2_with fail
      go_ret
      exact ⟨by rw [HLN.out]; rfl, by first | exact HB1.out.trans (HZ.out.mono HB1.out.size) | exact HB1.out.trans ((HZ.out.alloc HZ.out.size _).mono HB1.out.size)⟩
  · have HLN : Hid (lineQ ⟨3, nm, l⟩ = [117, 112, 103, 114, 97, 100, 101] ++ [32] ++ tx) := by show _ = _; unfold lineQ; rw [← htx]; simp [wordQ]
    obtain ⟨o1, ho1⟩ : ∃ o, ([117, 112, 103, 114, 97, 100, 101] : List UInt8) ++ [32] = o := ⟨_, rfl⟩
    rw [ho1] at HLN
    obtain ⟨o2, ho2⟩ : ∃ o, o1 ++ tx = o := ⟨_, rfl⟩
    rw [ho2] at HLN
    have l1 : o1.length ≤ 8 := by rw [← ho1]; decide
    have l2 : o2.length ≤ 1008 := by rw [← ho2, List.length_append]; omega
    have e1 := Ak.cat_to ho1 (by omega)
    have e2 := Ak.cat_to ho2 (by omega)
    have HFV : Hid (∀ z, Below (W1.alloc (.cells #[.string ⟨#[]⟩, .string ⟨#[105, 110, 115, 116, 97, 108, 108]⟩, .string ⟨#[114, 101, 109, 111, 118, 101]⟩, .string ⟨#[117, 112, 103, 114, 97, 100, 101]⟩, .string ⟨#[112, 105, 110]⟩] 9)).drew.heap.size (W1.alloc (.cells #[.string ⟨#[]⟩, .string ⟨#[105, 110, 115, 116, 97, 108, 108]⟩, .string ⟨#[114, 101, 109, 111, 118, 101]⟩, .string ⟨#[117, 112, 103, 114, 97, 100, 101]⟩, .string ⟨#[112, 105, 110]⟩] 9)).drew z → z.cell? ⟨W1.heap.size, 3, none⟩ = some (.string ⟨#[117, 112, 103, 114, 97, 100, 101]⟩)) := fun z hb => five_at (u := W1) (below_undrew hb) 3 _ (by rfl)
    clear ho1 ho2 l1 l2 htx
    go_enter Tryz.func32, Tryz.ntmps32
    go_wp2_with fail
    clear hW1
    have gfv := HFV.out _ (Below.refl _ _)
    go_region_with (first
      | (go_at_call 59; refine (HTX.out _ HA0.out).mono ?_; rintro _ z ⟨rfl, hb⟩; have HZ : Hid (Below W1.heap.size W1 z) := HA0.out.trans (hb.mono HA0.out.size); have hfv := HFV.out z hb; obtain ⟨p0, p1, p2⟩ := HQ.out _ HZ.out)
      | (go_at_call 59; refine (HTX.out _ HD0.out).mono ?_; rintro _ z ⟨rfl, hb⟩; have HZ : Hid (Below W1.heap.size W1 z) := HD0.out.trans (hb.mono HD0.out.size); obtain ⟨p0, p1, p2⟩ := HQ.out _ HZ.out; obtain ⟨s0, s1, s2⟩ := HQ.out _ (HZ.out.alloc HZ.out.size (.cells #[.string ⟨#[]⟩, .string ⟨#[105, 110, 115, 116, 97, 108, 108]⟩, .string ⟨#[114, 101, 109, 111, 118, 101]⟩, .string ⟨#[117, 112, 103, 114, 97, 100, 101]⟩, .string ⟨#[112, 105, 110]⟩] 9))))
    all_goals
      go_wp2_with fail
      go_ret
      exact ⟨by rw [HLN.out]; rfl, by first | exact HB1.out.trans (HZ.out.mono HB1.out.size) | exact HB1.out.trans ((HZ.out.alloc HZ.out.size _).mono HB1.out.size)⟩
  · have HLN : Hid (lineQ ⟨4, nm, l⟩ = [112, 105, 110] ++ [32] ++ tx) := by show _ = _; unfold lineQ; rw [← htx]; simp [wordQ]
    obtain ⟨o1, ho1⟩ : ∃ o, ([112, 105, 110] : List UInt8) ++ [32] = o := ⟨_, rfl⟩
    rw [ho1] at HLN
    obtain ⟨o2, ho2⟩ : ∃ o, o1 ++ tx = o := ⟨_, rfl⟩
    rw [ho2] at HLN
    have l1 : o1.length ≤ 8 := by rw [← ho1]; decide
    have l2 : o2.length ≤ 1008 := by rw [← ho2, List.length_append]; omega
    have e1 := Ak.cat_to ho1 (by omega)
    have e2 := Ak.cat_to ho2 (by omega)
    have HFV : Hid (∀ z, Below (W1.alloc (.cells #[.string ⟨#[]⟩, .string ⟨#[105, 110, 115, 116, 97, 108, 108]⟩, .string ⟨#[114, 101, 109, 111, 118, 101]⟩, .string ⟨#[117, 112, 103, 114, 97, 100, 101]⟩, .string ⟨#[112, 105, 110]⟩] 9)).drew.heap.size (W1.alloc (.cells #[.string ⟨#[]⟩, .string ⟨#[105, 110, 115, 116, 97, 108, 108]⟩, .string ⟨#[114, 101, 109, 111, 118, 101]⟩, .string ⟨#[117, 112, 103, 114, 97, 100, 101]⟩, .string ⟨#[112, 105, 110]⟩] 9)).drew z → z.cell? ⟨W1.heap.size, 4, none⟩ = some (.string ⟨#[112, 105, 110]⟩)) := fun z hb => five_at (u := W1) (below_undrew hb) 4 _ (by rfl)
    clear ho1 ho2 l1 l2 htx
    go_enter Tryz.func32, Tryz.ntmps32
    go_wp2_with fail
    clear hW1
    have gfv := HFV.out _ (Below.refl _ _)
    go_region_with (first
      | (go_at_call 59; refine (HTX.out _ HA0.out).mono ?_; rintro _ z ⟨rfl, hb⟩; have HZ : Hid (Below W1.heap.size W1 z) := HA0.out.trans (hb.mono HA0.out.size); have hfv := HFV.out z hb; obtain ⟨p0, p1, p2⟩ := HQ.out _ HZ.out)
      | (go_at_call 59; refine (HTX.out _ HD0.out).mono ?_; rintro _ z ⟨rfl, hb⟩; have HZ : Hid (Below W1.heap.size W1 z) := HD0.out.trans (hb.mono HD0.out.size); obtain ⟨p0, p1, p2⟩ := HQ.out _ HZ.out; obtain ⟨s0, s1, s2⟩ := HQ.out _ (HZ.out.alloc HZ.out.size (.cells #[.string ⟨#[]⟩, .string ⟨#[105, 110, 115, 116, 97, 108, 108]⟩, .string ⟨#[114, 101, 109, 111, 118, 101]⟩, .string ⟨#[117, 112, 103, 114, 97, 100, 101]⟩, .string ⟨#[112, 105, 110]⟩] 9))))
    all_goals
      go_wp2_with fail
      go_ret
      exact ⟨by rw [HLN.out]; rfl, by first | exact HB1.out.trans (HZ.out.mono HB1.out.size) | exact HB1.out.trans ((HZ.out.alloc HZ.out.size _).mono HB1.out.size)⟩
end Go.Proofs.YtkdildgdodnbbaaGreatDoor
namespace Go.Proofs.YtkdildgdodnbbaaGreatDoor
open Go.RowKit Rs At Pg Ak Sz
attribute [local go_sem ↓] Go.wp_at_zero Go.wp_at_succ
set_option maxRecDepth 100000 in
set_option maxHeartbeats 3200000 in
theorem refAskText_any (A : Option Addr) (n c : Nat) (l : List Rq) (w : World) (hw : MaxOk w) (hn : l.length = n) (hr : QRow w A l) (hf : QFew l) :
    Calls Tryz.prog 13 #[.slice A n c] w fun e w' => e = .returned (.tuple #[.string ⟨(txtR l).toArray⟩, .int .i64 (checkQs l).1, .int .i64 (checkQs l).2]) ∧ Below w.heap.size w w' := by
  have HT0 : Hid ((checkQs l).2 = 0 → txtR l = textQ l) := fun h => if_pos h
  have HT1 : Hid ((checkQs l).2 ≠ 0 → txtR l = []) := fun h => if_neg h
  obtain ⟨RT, hRT⟩ : ∃ T, txtR l = T := ⟨_, rfl⟩
  obtain ⟨RI, hRI⟩ : ∃ T, (checkQs l).1 = T := ⟨_, rfl⟩
  obtain ⟨RK, hRK⟩ : ∃ T, (checkQs l).2 = T := ⟨_, rfl⟩
  rw [hRT] at HT0 HT1
  rw [hRT, hRI, hRK]
  have HFI : Hid (∀ i k, checkQs l = (i, k) → RI = i ∧ RK = k ∧ (k = 0 → RT = textQ l) ∧ (k ≠ 0 → RT = [])) := fun i k h => by
    rw [h] at hRI hRK HT0 HT1
    exact ⟨hRI.symm, hRK.symm, HT0.out, HT1.out⟩
  clear hRT hRI hRK HT0 HT1
  by_cases h32 : 32 < n
  · have d0 : decide ((32 : Int) < (n : Int)) = true := decide_eq_true (by omega)
    have HX : Hid (checkQs l = (0, 4)) := by show _ = _; unfold checkQs; rw [if_pos (by omega)]
    clear h32 hw hn hr hf
    go_enter Tryz.func13, Tryz.ntmps13
    go_wp2_with fail
    go_ret3
    obtain ⟨a1, a2, _, a4⟩ := HFI.out _ _ HX.out
    exact ⟨by rw [a1, a2, a4 (by decide)]; rfl, Below.refl _ _⟩
  have d0 : decide ((32 : Int) < (n : Int)) = false := decide_eq_false (by omega)
  have h32' : n ≤ 32 := by omega
  have HN := Lib.hid hn
  have HR := Lib.hid hr
  have HF := Lib.hid hf
  have HW := Lib.hid hw
  clear hn hr hf hw h32
  go_enter Tryz.func13, Tryz.ntmps13
  go_wp2_with fail
  clear d0
  go_loopw [6, 7] (fun i e wr => ∃ k : Nat, k ≤ n ∧ i = .int .i64 k ∧ Hid (MaySt l k) ∧ Hid (Below w.heap.size w wr)) (fun i _ _ => n - (intOf i).toNat)
  case atStart => exact ⟨0, Nat.zero_le _, rfl, may_start l, Below.refl _ _⟩
  case round =>
    obtain ⟨k, hk, rfl, HST, HB⟩ := hrel
    by_cases hlt : k < n
    · have hkl : k < l.length := by rw [HN.out]; exact hlt
      obtain ⟨ad, C, x, cx, rfl, hx, hs, hc⟩ := qrow_at HR.out k hkl
      obtain ⟨c0, c1, c2⟩ := hc _ HB.out
      obtain ⟨f1, f2⟩ := qfew_at HF.out k hkl
      have HOK : Hid (checkQ l[k] = 0 → MaySt l (k + 1)) := fun h => may_step HST.out hkl h
      have HNO : Hid (checkQ l[k] ≠ 0 → checkQs l = (k, checkQ l[k])) := fun h => may_bad HST.out hkl (by rw [HN.out]; exact h32') h
      obtain ⟨a, ha⟩ : ∃ a, l[k] = a := ⟨_, rfl⟩
      rw [ha] at c0 c1 hx hs f1 f2 HOK HNO
      obtain ⟨kd, nm, r⟩ := a
      dsimp only at c0 c1 hx hs f1 f2
      have HRQ := Lib.hid (refCheckAsk_any kd nm C x cx r wr (maxOk_below HW.out HB.out) f1 hx (srow_below hs HB.out) (by omega))
      obtain ⟨K, hK⟩ : ∃ K, checkQ ⟨kd, nm, r⟩ = K := ⟨_, rfl⟩
      rw [hK] at HRQ HOK HNO
      clear hc ha hK hx hs f1 f2
      go_wp2_with fail
      refine HRQ.out.mono ?_
      rintro _ z ⟨rfl, hb⟩
      have HZ := Lib.hid (HB.out.trans (hb.mono HB.out.size))
      clear hb HRQ c0 c1 c2
      by_cases hk0 : K = 0
      · subst hk0
        have HST2 := Lib.hid (HOK.out rfl)
        go_wp2_with fail
        go_roundw
        case rel => exact ⟨k + 1, by omega, by go_num, HST2, HZ⟩
        case measure => simp [intOf]; omega
      · have HX := Lib.hid (HNO.out hk0)
        have HK0 := Lib.hid hk0
        have d1 : (K != 0) = true := by simpa using hk0
        clear hk0
        go_wp2_with fail
        go_ret3
        obtain ⟨a1, a2, _, a4⟩ := HFI.out _ _ HX.out
        exact ⟨by rw [a1, a2, a4 HK0.out]; rfl, HZ.out⟩
    · obtain rfl : k = n := by omega
      have HX : Hid (checkQs l = (0, 0)) := may_all (by rw [HN.out]; exact HST.out) (by rw [HN.out]; exact h32')
      have HAL : Hid (∀ a ∈ l, checkQ a = 0) := (checks_of (by rw [HX.out])).2.2
      have HTL : Hid ((textQ l).length ≤ 40000) := by
        show _ ≤ _
        have h1 := textQ_le HAL.out
        have h2 : l.length * 1009 ≤ 32 * 1009 := Nat.mul_le_mul_right _ (by rw [HN.out]; exact h32')
        omega
      clear HST
      go_wp2_with fail
      obtain ⟨w5, hw5⟩ : ∃ w5, w5 = wr := ⟨_, rfl⟩
      subst hw5
      go_loopw [5, 8] (fun v i ws => ∃ k2 : Nat, k2 ≤ k ∧ i = .int .i64 k2 ∧ v = .string ⟨(textQ (l.take k2)).toArray⟩ ∧ Hid (Below w.heap.size w ws)) (fun _ i _ => k - (intOf i).toNat)
      case atStart => exact ⟨0, Nat.zero_le _, rfl, rfl, HB.out⟩
      case round =>
        obtain ⟨k2, hk2, rfl, rfl, HB2⟩ := hrel
        by_cases hlt2 : k2 < k
        · have hkl : k2 < l.length := by rw [HN.out]; exact hlt2
          obtain ⟨ad, C, x, cx, rfl, hx, hs, hc⟩ := qrow_at HR.out k2 hkl
          obtain ⟨c0, c1, c2⟩ := hc _ HB2.out
          have hck := HAL.out _ (List.getElem_mem hkl)
          have htk := lines_take hkl
          have hle := HTL.out
          have hpre : (textQ (l.take (k2 + 1))).length ≤ (textQ l).length := by
            unfold textQ joinL
            conv => rhs; rw [← List.take_append_drop (k2 + 1) l, List.map_append, List.flatMap_append]
            rw [List.length_append]; omega
          obtain ⟨a, ha⟩ : ∃ a, l[k2] = a := ⟨_, rfl⟩
          rw [ha] at c0 c1 hx hs hck htk
          obtain ⟨kd, nm, r⟩ := a
          dsimp only at c0 c1 hx hs
          have HLQ := Lib.hid (refAskLine_any kd nm C x cx r wr (maxOk_below HW.out HB2.out) hx (srow_below hs HB2.out) (kind_cases hck) (check_atm hck))
          obtain ⟨S, hS⟩ : ∃ S, textQ (l.take k2) = S := ⟨_, rfl⟩
          obtain ⟨T, hT⟩ : ∃ T, textQ (l.take (k2 + 1)) = T := ⟨_, rfl⟩
          obtain ⟨ln, hln⟩ : ∃ ln, lineQ ⟨kd, nm, r⟩ = ln := ⟨_, rfl⟩
          rw [hln] at HLQ htk
          rw [hS, hT] at htk
          rw [hT] at hpre
          have HT2 := Lib.hid hT
          rw [hS]
          obtain ⟨o1, ho1⟩ : ∃ o, S ++ ln = o := ⟨_, rfl⟩
          have hTo : o1 ++ [10] = T := by rw [htk, ← ho1, List.append_assoc]
          have lT : T.length ≤ 40000 := by omega
          have lo : o1.length ≤ 40000 := by rw [← hTo, List.length_append] at lT; omega
          have e1 := Ak.cat_to ho1 (by omega)
          have e2 := Ak.cat_to hTo (by omega)
          clear hc ha hx hs hck htk hle hpre hS hT hln ho1 hTo lT lo
          go_wp2_with fail
          refine HLQ.out.mono ?_
          rintro _ z ⟨rfl, hb⟩
          have HZ := Lib.hid (HB2.out.trans (hb.mono HB2.out.size))
          clear hb HLQ c0 c1 c2
          go_wp2_with fail
          go_roundw
          case rel => exact ⟨k2 + 1, by omega, by go_num, by rw [HT2.out], HZ⟩
          case measure => simp [intOf]; omega
        · obtain rfl : k2 = k := by omega
          have HTK : Hid (textQ (l.take k2) = textQ l) := by show _ = _; rw [List.take_of_length_le (by rw [HN.out]; exact Nat.le_refl _)]
          obtain ⟨T, hT⟩ : ∃ T, textQ l = T := ⟨_, rfl⟩
          rw [hT] at HTL HTK
          rw [HTK.out]
          have HT := Lib.hid hT
          have d9 : decide ((65536 : Int) < (T.length : Int)) = false := decide_eq_false (by have := HTL.out; omega)
          clear hT
          go_wp2_with fail
          go_ret3
          obtain ⟨a1, a2, a3, _⟩ := HFI.out _ _ HX.out
          exact ⟨by rw [a1, a2, a3 rfl, HT.out]; rfl, HB2.out⟩
end Go.Proofs.YtkdildgdodnbbaaGreatDoor
