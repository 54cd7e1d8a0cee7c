/- The cuts of a sign. Of: the range of a sign. -/
import Derived.Test.YtkdildgdodnbbaaGreatDoorQm
import Derived.Recover
namespace Go.Proofs.YtkdildgdodnbbaaGreatDoor
open Go.RowKit Rs
attribute [local go_sem ↓] Go.wp_at_zero Go.wp_at_succ

theorem alloc5 (w : World) (a b c d e : Obj) : (((((w.alloc a).alloc b).alloc c).alloc d).alloc e).heap[w.heap.size + 1 + 1 + 1 + 1]? = some e := by
  have h := heap_alloc_new ((((w.alloc a).alloc b).alloc c).alloc d) e
  rw [show ((((w.alloc a).alloc b).alloc c).alloc d).heap.size = w.heap.size + 1 + 1 + 1 + 1 from by simp] at h
  exact h
def encX (x : List UInt8 × Int) : List Value := [.string ⟨x.1.toArray⟩, .int .i64 x.2]
/-- A block of cuts. -/
def XRet (w : World) (l : List (List UInt8 × Int)) (e : Ending) (w' : World) : Prop := ∃ M, e = .returned (.slice (some ⟨M, 0, none⟩) l.length l.length) ∧ w'.heap[M]? = some (.cells (l.flatMap encX).toArray 163 (0, 0)) ∧ Below w.heap.size w w'
def sgnT : Nat → List UInt8
  | 0 => [61]
  | 1 => [33, 61]
  | 2 => [60]
  | 3 => [60, 61]
  | 4 => [62]
  | _ => [62, 61]
def sgnL (v : List UInt8) : Nat → List (List UInt8 × Int)
  | 0 => [(v, -1), (v, 1)]
  | 1 => [([], -1), (v, -1), (v, 1), ([], 1)]
  | 2 => [([], -1), (v, -1)]
  | 3 => [([], -1), (v, 1)]
  | 4 => [(v, 1), ([], 1)]
  | _ => [(v, -1), ([], 1)]
set_option maxRecDepth 100000 in
set_option maxHeartbeats 1600000 in
theorem cutsOf_0 (v : List UInt8) (w : World) : Calls Tryz.prog 171 #[.string ⟨#[61]⟩, .string ⟨v.toArray⟩] w (XRet w (sgnL v 0)) := by
  go_enter Tryz.func171, Tryz.ntmps171
  go_wp2_with fail
  go_ret
  refine ⟨_, rfl, ?_, ((((Below.refl _ _).alloc (Nat.le_refl _) _).alloc (by simp) _).alloc (by simp; omega) _).alloc (by simp; omega) _ |>.alloc (by simp; omega) _⟩
  exact alloc5 _ _ _ _ _ _
set_option maxRecDepth 100000 in
set_option maxHeartbeats 1600000 in
theorem cutsOf_1 (v : List UInt8) (w : World) : Calls Tryz.prog 171 #[.string ⟨#[33, 61]⟩, .string ⟨v.toArray⟩] w (XRet w (sgnL v 1)) := by
  go_enter Tryz.func171, Tryz.ntmps171
  go_wp2_with fail
  go_ret
  refine ⟨_, rfl, ?_, ((((Below.refl _ _).alloc (Nat.le_refl _) _).alloc (by simp) _).alloc (by simp; omega) _).alloc (by simp; omega) _ |>.alloc (by simp; omega) _⟩
  exact alloc5 _ _ _ _ _ _
set_option maxRecDepth 100000 in
set_option maxHeartbeats 1600000 in
theorem cutsOf_2 (v : List UInt8) (w : World) : Calls Tryz.prog 171 #[.string ⟨#[60]⟩, .string ⟨v.toArray⟩] w (XRet w (sgnL v 2)) := by
  go_enter Tryz.func171, Tryz.ntmps171
  go_wp2_with fail
  go_ret
  refine ⟨_, rfl, ?_, ((((Below.refl _ _).alloc (Nat.le_refl _) _).alloc (by simp) _).alloc (by simp; omega) _).alloc (by simp; omega) _ |>.alloc (by simp; omega) _⟩
  exact alloc5 _ _ _ _ _ _
set_option maxRecDepth 100000 in
set_option maxHeartbeats 1600000 in
theorem cutsOf_3 (v : List UInt8) (w : World) : Calls Tryz.prog 171 #[.string ⟨#[60, 61]⟩, .string ⟨v.toArray⟩] w (XRet w (sgnL v 3)) := by
  go_enter Tryz.func171, Tryz.ntmps171
  go_wp2_with fail
  go_ret
  refine ⟨_, rfl, ?_, ((((Below.refl _ _).alloc (Nat.le_refl _) _).alloc (by simp) _).alloc (by simp; omega) _).alloc (by simp; omega) _ |>.alloc (by simp; omega) _⟩
  exact alloc5 _ _ _ _ _ _
set_option maxRecDepth 100000 in
set_option maxHeartbeats 1600000 in
theorem cutsOf_4 (v : List UInt8) (w : World) : Calls Tryz.prog 171 #[.string ⟨#[62]⟩, .string ⟨v.toArray⟩] w (XRet w (sgnL v 4)) := by
  go_enter Tryz.func171, Tryz.ntmps171
  go_wp2_with fail
  go_ret
  refine ⟨_, rfl, ?_, ((((Below.refl _ _).alloc (Nat.le_refl _) _).alloc (by simp) _).alloc (by simp; omega) _).alloc (by simp; omega) _ |>.alloc (by simp; omega) _⟩
  exact alloc5 _ _ _ _ _ _
set_option maxRecDepth 100000 in
set_option maxHeartbeats 1600000 in
theorem cutsOf_5 (v : List UInt8) (w : World) : Calls Tryz.prog 171 #[.string ⟨#[62, 61]⟩, .string ⟨v.toArray⟩] w (XRet w (sgnL v 5)) := by
  go_enter Tryz.func171, Tryz.ntmps171
  go_wp2_with fail
  go_ret
  refine ⟨_, rfl, ?_, ((((Below.refl _ _).alloc (Nat.le_refl _) _).alloc (by simp) _).alloc (by simp; omega) _).alloc (by simp; omega) _ |>.alloc (by simp; omega) _⟩
  exact alloc5 _ _ _ _ _ _
/-- None of the six signs. -/
def NoSign (s : List UInt8) : Prop := ∀ i, i < 6 → s ≠ sgnT i
set_option maxRecDepth 100000 in
set_option maxHeartbeats 1600000 in
theorem cutsOf_no (s v : List UInt8) (w : World) (h : NoSign s) : Calls Tryz.prog 171 #[.string ⟨s.toArray⟩, .string ⟨v.toArray⟩] w fun e w' => e = pan 2 ∧ Below w.heap.size w w' := by
  have g0 : (s == [61]) = false := beq_eq_false_iff_ne.2 (h 0 (by decide))
  have g1 : (s == [33, 61]) = false := beq_eq_false_iff_ne.2 (h 1 (by decide))
  have g2 : (s == [60]) = false := beq_eq_false_iff_ne.2 (h 2 (by decide))
  have g3 : (s == [60, 61]) = false := beq_eq_false_iff_ne.2 (h 3 (by decide))
  have g4 : (s == [62]) = false := beq_eq_false_iff_ne.2 (h 4 (by decide))
  have g5 : (s == [62, 61]) = false := beq_eq_false_iff_ne.2 (h 5 (by decide))
  clear h
  go_enter Tryz.func171, Tryz.ntmps171
  go_wp2_with fail
  exact ⟨rfl, rfl, (((Below.refl _ _).alloc (Nat.le_refl _) _).alloc (by simp) _).alloc (by simp; omega) _ |>.alloc (by simp; omega) _⟩
end Go.Proofs.YtkdildgdodnbbaaGreatDoor
namespace Go.Proofs.YtkdildgdodnbbaaGreatDoor
open Go.RowKit Rs
attribute [local go_sem ↓] Go.wp_at_zero Go.wp_at_succ

theorem rCheck_panic (p : Addr) (x : Int) (n : Int) (w : World) (hc : w.cell? p = some (.int .i64 x)) (hz : w.frozen? p = false) :
    CallsD Tryz.prog 119 #[.pointer (some p)] (.panicking [{ v := .iface 27 (.int .i64 n), recovered := false }]) w fun e u' w' =>
      e = .returned (.tuple #[]) ∧ u' = .panicking [{ v := .iface 27 (.int .i64 n), recovered := true }] ∧ w' = w.setCell p (.int .i64 n) := by
  refine callsD_of_wpS Tryz.func119 rfl fun c₀ cs hu => ?_
  apply wpS_region
  simp [wpOpsS, go_sem, recoverD, hu, Tryz.ntmps119]
  refine (raised_err n _).mono ?_
  rintro e w' ⟨rfl, rfl⟩
  simp [go_sem, hc, hz, bodyPostS, results, Tryz.results119]
theorem rCheck_idle (p : Addr) (x : Int) (w : World) (hc : w.cell? p = some (.int .i64 x)) (hz : w.frozen? p = false) :
    CallsD Tryz.prog 119 #[.pointer (some p)] .returning w fun e u' w' => e = .returned (.tuple #[]) ∧ u' = .returning ∧ w' = w.setCell p (.int .i64 0) := by
  refine callsD_of_wpS Tryz.func119 rfl fun c₀ cs hu => ?_
  apply wpS_region
  simp [wpOpsS, go_sem, recoverD, hu, Tryz.ntmps119]
  refine (raised_nil _).mono ?_
  rintro e w' ⟨rfl, rfl⟩
  cases c₀
  simp_all [go_sem, bodyPostS, results, Tryz.results119]
theorem rOf_panic (p : Addr) (x : Int) (n : Int) (w : World) (hc : w.cell? p = some (.int .i64 x)) (hz : w.frozen? p = false) :
    CallsD Tryz.prog 170 #[.pointer (some p)] (.panicking [{ v := .iface 27 (.int .i64 n), recovered := false }]) w fun e u' w' =>
      e = .returned (.tuple #[]) ∧ u' = .panicking [{ v := .iface 27 (.int .i64 n), recovered := true }] ∧ w' = w.setCell p (.int .i64 n) := by
  refine callsD_of_wpS Tryz.func170 rfl fun c₀ cs hu => ?_
  apply wpS_region
  simp [wpOpsS, go_sem, recoverD, hu, Tryz.ntmps170]
  refine (raised_err n _).mono ?_
  rintro e w' ⟨rfl, rfl⟩
  simp [go_sem, hc, hz, bodyPostS, results, Tryz.results170]
theorem rOf_idle (p : Addr) (x : Int) (w : World) (hc : w.cell? p = some (.int .i64 x)) (hz : w.frozen? p = false) :
    CallsD Tryz.prog 170 #[.pointer (some p)] .returning w fun e u' w' => e = .returned (.tuple #[]) ∧ u' = .returning ∧ w' = w.setCell p (.int .i64 0) := by
  refine callsD_of_wpS Tryz.func170 rfl fun c₀ cs hu => ?_
  apply wpS_region
  simp [wpOpsS, go_sem, recoverD, hu, Tryz.ntmps170]
  refine (raised_nil _).mono ?_
  rintro e w' ⟨rfl, rfl⟩
  cases c₀
  simp_all [go_sem, bodyPostS, results, Tryz.results170]
theorem row_block {α : Type} {enc : α → List Value} {K : Nat} (hf : Rg.Fits enc K) {w : World} {M : Nat} {T : TypeId} {l : List α} (h : w.heap[M]? = some (.cells (Rg.flat enc l).toArray T (0, 0))) : Rg.Row enc K w (some ⟨M, 0, none⟩) l := by
  intro _
  refine ⟨_, rfl, (Array.getElem?_eq_some_iff.1 h).1, fun i hi j v hv => ?_⟩
  have hj : j < K := by rw [← hf.len l[i]]; exact (List.getElem?_eq_some_iff.1 hv).1
  rw [← Rg.add_j]
  exact World.news_of_block h _ _ (by simpa using (Rg.flat_get hf l i hi j hj).trans hv)
theorem sgn_cuts (c : List UInt8) (i : Nat) : (sgnL c i).flatMap encX = Rg.flat encC (Rm.cuts (signR c i)) ∧ (sgnL c i).length = (Rm.cuts (signR c i)).length := by
  match i with
  | 0 => exact ⟨rfl, rfl⟩
  | 1 => exact ⟨rfl, rfl⟩
  | 2 => exact ⟨rfl, rfl⟩
  | 3 => exact ⟨rfl, rfl⟩
  | 4 => exact ⟨rfl, rfl⟩
  | _ + 5 => exact ⟨rfl, rfl⟩
theorem sgn_len (c : List UInt8) (i : Nat) : (sgnL c i).length ≤ 4 := by
  match i with
  | 0 => exact Nat.le_of_ble_eq_true rfl
  | 1 => exact Nat.le_of_ble_eq_true rfl
  | 2 => exact Nat.le_of_ble_eq_true rfl
  | 3 => exact Nat.le_of_ble_eq_true rfl
  | 4 => exact Nat.le_of_ble_eq_true rfl
  | _ + 5 => exact Nat.le_of_ble_eq_true rfl
theorem cutsOf_any (i : Nat) (hi : i < 6) (v : List UInt8) (w : World) : Calls Tryz.prog 171 #[.string ⟨(sgnT i).toArray⟩, .string ⟨v.toArray⟩] w (XRet w (sgnL v i)) := by
  match i, hi with
  | 0, _ => exact cutsOf_0 v w
  | 1, _ => exact cutsOf_1 v w
  | 2, _ => exact cutsOf_2 v w
  | 3, _ => exact cutsOf_3 v w
  | 4, _ => exact cutsOf_4 v w
  | 5, _ => exact cutsOf_5 v w
theorem cutsOfG_any (i : Nat) (hi : i < 6) (c : List UInt8) (w : World) : Calls Tryz.prog 171 #[.string ⟨(sgnT i).toArray⟩, .string ⟨c.toArray⟩] w fun e w' => (∃ B d, e = .returned (.slice B (Rm.cuts (signR c i)).length d) ∧ CutsOf w' (signR c i) B d) ∧ Below w.heap.size w w' := by
  refine (cutsOf_any i hi c w).mono ?_
  rintro e w' ⟨M, rfl, h, hb⟩
  have := sgn_len c i
  obtain ⟨e1, e2⟩ := sgn_cuts c i
  rw [e1] at h
  refine ⟨⟨_, _, by rw [← e2], row_block fitsC h, by rw [← e2]; exact Nat.le_refl _, by unfold maxLen; omega⟩, hb⟩
/-- What Of and Norm hand back. -/
def OfRet (w : World) (R : List Sp) (k : Int) (e : Ending) (w' : World) : Prop := (∃ C d, e = .returned (.tuple #[.slice C R.length d, .int .i64 k]) ∧ SRow w' C R ∧ R.length ≤ d) ∧ Below w.heap.size w w'
set_option maxHeartbeats 800000 in
theorem of_nosign (s v : List UInt8) (w : World) (hw : MaxOk w) (h : NoSign s) : Calls Tryz.prog 153 #[.string ⟨s.toArray⟩, .string ⟨v.toArray⟩] w (OfRet w [] 2) := by
  have hmf : ∀ (fn : Fn) (first cap : Array Value) (w : World), (Instr.makeFunc fn first cap).run Tryz.prog w = .ok (.func fn first cap) w := fun _ _ _ _ => rfl
  have hM : MaxOk (w.alloc (.cells #[.int .i64 0] 27)) := maxOk_below hw ((Below.refl _ _).alloc (Nat.le_refl _) _)
  have HM := Lib.hid hM
  have H := Lib.hid h
  clear hw hM h
  go_enter_defers Tryz.func153, Tryz.ntmps153
  go_wp2_with fail
  refine (canon_any v _ HM.out).mono ?_
  rintro _ w1 ⟨rfl, hb⟩
  have hb1 : Below (w.heap.size + 1) (w.alloc (.cells #[.int .i64 0] 27)) w1 := by simpa using hb
  have HB1 := Lib.hid hb1
  clear hb hb1
  go_wp2_with fail
  refine (cutsOf_no s (canonOf v) _ H.out).mono ?_
  rintro _ w2 ⟨rfl, hb⟩
  have hb2 : Below (w.heap.size + 1) (w.alloc (.cells #[.int .i64 0] 27)) w2 := HB1.out.trans (hb.mono (by have := HB1.out.size; simpa using this))
  obtain ⟨hcell, hfro⟩ := cell_int w w2 _ _ hb2
  have HB2 := Lib.hid hb2
  clear hb hb2 HB1
  go_wp2_with fail
  refine leaves_cons (f := 170) (args := #[.pointer (some ⟨w.heap.size, 0, none⟩)]) (by simp) (by simp [go_sem]) ?_
  refine (rOf_panic ⟨w.heap.size, 0, none⟩ 0 _ _ ?_ ?_).mono ?_
  · simp [go_sem, hcell]
  · simp [go_sem, hfro]
  rintro e u' w4 ⟨rfl, rfl, rfl⟩
  simp [Leaves, settle, results, Tryz.results153, go_sem, hcell]
  exact ⟨⟨none, 0, rfl, fun h => absurd h (by simp), Nat.le_refl _⟩, (below_new HB2.out).setCell (Nat.le_refl _) _⟩
set_option maxHeartbeats 800000 in
theorem of_nover (i : Nat) (hi : i < 6) (v : List UInt8) (w : World) (hw : MaxOk w) (h : Vm.check v ≠ 0) : Calls Tryz.prog 153 #[.string ⟨(sgnT i).toArray⟩, .string ⟨v.toArray⟩] w (OfRet w [] (Vm.check v)) := by
  have hmf : ∀ (fn : Fn) (first cap : Array Value) (w : World), (Instr.makeFunc fn first cap).run Tryz.prog w = .ok (.func fn first cap) w := fun _ _ _ _ => rfl
  have hM : MaxOk (w.alloc (.cells #[.int .i64 0] 27)) := maxOk_below hw ((Below.refl _ _).alloc (Nat.le_refl _) _)
  have HM := Lib.hid hM
  have hk0 : (Vm.check v == 0) = false := beq_eq_false_iff_ne.2 h
  obtain ⟨k, hk⟩ : ∃ k, Vm.check v = k := ⟨_, rfl⟩
  rw [hk] at hk0
  have hc : ∀ W : World, MaxOk W → Calls Tryz.prog 155 #[.string ⟨v.toArray⟩] W fun e w' => e = .returned (.tuple #[.string ⟨(canonOf v).toArray⟩, .int .i64 k]) ∧ Below W.heap.size W w' := fun W hW => by rw [← hk]; exact canon_any v W hW
  rw [hk]
  have HC := Lib.hid hc
  have HI := Lib.hid hi
  obtain ⟨S, hS⟩ : ∃ S, sgnT i = S := ⟨_, rfl⟩
  obtain ⟨c, hcc⟩ : ∃ c, canonOf v = c := ⟨_, rfl⟩
  have HCU : Hid (∀ W : World, Calls Tryz.prog 171 #[.string ⟨S.toArray⟩, .string ⟨c.toArray⟩] W fun e w' => (∃ B d, e = .returned (.slice B (Rm.cuts (signR c i)).length d) ∧ CutsOf w' (signR c i) B d) ∧ Below W.heap.size W w') := by
    show ∀ W : World, _
    intro W
    rw [← hS]; exact cutsOfG_any i hi c W
  rw [hcc] at HC
  rw [hS]
  clear hw hM h hk hc hi hS hcc
  go_enter_defers Tryz.func153, Tryz.ntmps153
  go_wp2_with fail
  refine (HC.out _ HM.out).mono ?_
  rintro _ w1 ⟨rfl, hb⟩
  have hb1 : Below (w.heap.size + 1) (w.alloc (.cells #[.int .i64 0] 27)) w1 := by simpa using hb
  have HB1 := Lib.hid hb1
  clear hb hb1
  go_wp2_with fail
  refine (HCU.out _).mono ?_
  rintro _ w2 ⟨⟨B, d, rfl, _⟩, hb⟩
  have hb2 : Below (w.heap.size + 1) (w.alloc (.cells #[.int .i64 0] 27)) w2 := HB1.out.trans (hb.mono (by have := HB1.out.size; simpa using this))
  obtain ⟨hcell, hfro⟩ := cell_int w w2 _ _ hb2
  have HB2 := Lib.hid hb2
  clear hb hb2 HB1
  go_wp2_with fail
  refine (require_no _).mono ?_
  rintro _ w3 ⟨rfl, rfl⟩
  go_wp2_with fail
  refine leaves_cons (f := 170) (args := #[.pointer (some ⟨w.heap.size, 0, none⟩)]) (by simp) (by simp [go_sem]) ?_
  refine (rOf_panic ⟨w.heap.size, 0, none⟩ 0 _ _ ?_ ?_).mono ?_
  · simp [go_sem, hcell]
  · simp [go_sem, hfro]
  rintro e u' w4 ⟨rfl, rfl, rfl⟩
  simp [Leaves, settle, results, Tryz.results153, go_sem, hcell]
  exact ⟨⟨none, 0, rfl, fun h => absurd h (by simp), Nat.le_refl _⟩, (below_new HB2.out).setCell (Nat.le_refl _) _⟩
set_option maxHeartbeats 800000 in
theorem of_sign (i : Nat) (hi : i < 6) (v : List UInt8) (w : World) (hw : MaxOk w) (h : Vm.check v = 0) : Calls Tryz.prog 153 #[.string ⟨(sgnT i).toArray⟩, .string ⟨v.toArray⟩] w (OfRet w ((signR (Vm.canon v) i).map spOf) 0) := by
  have hmf : ∀ (fn : Fn) (first cap : Array Value) (w : World), (Instr.makeFunc fn first cap).run Tryz.prog w = .ok (.func fn first cap) w := fun _ _ _ _ => rfl
  have hM : MaxOk (w.alloc (.cells #[.int .i64 0] 27)) := maxOk_below hw ((Below.refl _ _).alloc (Nat.le_refl _) _)
  have HM := Lib.hid hM
  obtain ⟨R, hR⟩ : ∃ R, (signR (Vm.canon v) i).map spOf = R := ⟨_, rfl⟩
  rw [hR]
  have hg : Rs.Good (signR (Vm.canon v) i) := good_sign (own_canon h) i hi
  have hR2 : ((signR (Vm.canon v) i).take 64).map spOf = R := by rw [take_few hg.2.2]; exact hR
  obtain ⟨S, hS⟩ : ∃ S, sgnT i = S := ⟨_, rfl⟩
  obtain ⟨c, hcc⟩ : ∃ c, Vm.canon v = c := ⟨_, rfl⟩
  have hc : ∀ W : World, MaxOk W → Calls Tryz.prog 155 #[.string ⟨v.toArray⟩] W fun e w' => e = .returned (.tuple #[.string ⟨c.toArray⟩, .int .i64 0]) ∧ Below W.heap.size W w' := fun W hW => by
    have := canon_any v W hW
    rw [canonOf, if_pos h, h, hcc] at this
    exact this
  rw [hcc] at hg hR2
  have HC := Lib.hid hc
  have HG := Lib.hid hg
  have HR := Lib.hid hR2
  have HCU : Hid (∀ W : World, Calls Tryz.prog 171 #[.string ⟨S.toArray⟩, .string ⟨c.toArray⟩] W fun e w' => (∃ B d, e = .returned (.slice B (Rm.cuts (signR c i)).length d) ∧ CutsOf w' (signR c i) B d) ∧ Below W.heap.size W w') := by
    show ∀ W : World, _
    intro W
    rw [← hS]; exact cutsOfG_any i hi c W
  rw [hS]
  clear hw hM h hc hi hS hcc hg hR hR2
  go_enter_defers Tryz.func153, Tryz.ntmps153
  go_wp2_with fail
  refine (HC.out _ HM.out).mono ?_
  rintro _ w1 ⟨rfl, hb⟩
  have hb1 : Below (w.heap.size + 1) (w.alloc (.cells #[.int .i64 0] 27)) w1 := by simpa using hb
  have HB1 := Lib.hid hb1
  clear hb hb1
  go_wp2_with fail
  refine (HCU.out _).mono ?_
  rintro _ w2 ⟨⟨B, d, rfl, hco⟩, hb⟩
  have HCO := Lib.hid hco
  have HB2 : Hid (Below (w.heap.size + 1) (w.alloc (.cells #[.int .i64 0] 27)) w2) := HB1.out.trans (hb.mono (by have := HB1.out.size; simpa using this))
  clear hb hco HB1
  go_wp2_with fail
  refine (require_yes _).mono ?_
  rintro _ w3 ⟨rfl, rfl⟩
  go_wp2_with fail
  refine (rangeG_any B d (signR c i) _ HCO.out HG.out.2.1 (by have := HG.out.2.2; omega) R HR.out).mono ?_
  rintro _ w3 ⟨⟨C, e, rfl, hf⟩, hb⟩
  have HF := Lib.hid hf
  have hb2 : Below (w.heap.size + 1) (w.alloc (.cells #[.int .i64 0] 27)) w3 := HB2.out.trans (hb.mono (by have := HB2.out.size; simpa using this))
  obtain ⟨hcell, hfro⟩ := cell_int w w3 _ _ hb2
  have HB3 := Lib.hid hb2
  have HB2S : w.heap.size < w2.heap.size := by have := HB2.out.size; simp at this; omega
  clear hb hf hb2 HB2
  go_wp2_with fail
  refine leaves_cons (f := 170) (args := #[.pointer (some ⟨w.heap.size, 0, none⟩)]) (by simp) (by simp [go_sem]) ?_
  refine (rOf_idle ⟨w.heap.size, 0, none⟩ 0 _ ?_ ?_).mono ?_
  · simp [go_sem, hcell]
  · simp [go_sem, hfro]
  rintro e u' w4 ⟨rfl, rfl, rfl⟩
  simp [Leaves, settle, results, Tryz.results153, go_sem, hcell]
  have hne : ∀ a, C = some a → a.block ≠ w.heap.size := fun a ha => by have := HF.out.2.2 a ha; have := HB2S; omega
  exact ⟨⟨_, _, rfl, srow_set (srow_set HF.out.1 _ hne) _ hne, HF.out.2.1⟩, ((below_new HB3.out).setCell (Nat.le_refl _) _).setCell (Nat.le_refl _) _⟩
end Go.Proofs.YtkdildgdodnbbaaGreatDoor
