/- raised, and the deferred closures that recover: Check, Canon, Epoch, Compare as they end. -/
import Derived.Test.YtaghhdgiegcimaaDoorVi
import Derived.Defers
import Derived.Recover
namespace Go.Proofs.YtaghhdgiegcimaaDoor
open Go.RowKit

set_option maxHeartbeats 400000 in
theorem raised_nil {o : Int} (w : World) :
    Calls Tryd.prog 44 #[.nilIface, .int .i64 o] w fun e w' => e = .returned (.int .i64 0) ∧ w = w' := by
  go_enter Tryd.func44, Tryd.ntmps44
  go_wp2_with fail
  go_ret
  exact ⟨rfl, rfl⟩
set_option maxRecDepth 100000 in
set_option maxHeartbeats 400000 in
theorem raised_err (n : Int) {o : Int} (w : World) :
    Calls Tryd.prog 44 #[.iface 23 (.int .i64 n), .int .i64 o] w fun e w' => e = .returned (.int .i64 n) ∧ w = w' := by
  have hta : ∀ W : World, (Instr.typeAssert (.iface 23 (.int .i64 n)) 20 23 true).run Tryd.prog W = .ok (.tuple #[.int .i64 n, .bool true]) W := fun _ => by kernel_rfl
  go_enter Tryd.func44, Tryd.ntmps44
  go_wp2_with fail
  go_ret
  exact ⟨rfl, rfl⟩

theorem check1_panic (p : Addr) (x : Int) (n : Int) (w : World) (hc : w.cell? p = some (.int .i64 x)) (hz : w.frozen? p = false) :
    CallsD Tryd.prog 43 #[.pointer (some p)] (.panicking [{ v := .iface 23 (.int .i64 n), recovered := false }]) w fun e u' w' =>
      e = .returned (.tuple #[]) ∧ u' = .panicking [{ v := .iface 23 (.int .i64 n), recovered := true }] ∧ w' = w.setCell p (.int .i64 n) := by
  refine callsD_of_wpS Tryd.func43 rfl fun c₀ cs hu => ?_
  apply wpS_region
  simp [wpOpsS, go_sem, recoverD, hu, Tryd.ntmps43]
  refine (raised_err n _).mono ?_
  rintro e w' ⟨rfl, rfl⟩
  simp [go_sem, hc, hz, bodyPostS, results, Tryd.results43]
theorem check1_idle (p : Addr) (x : Int) (w : World) (hc : w.cell? p = some (.int .i64 x)) (hz : w.frozen? p = false) :
    CallsD Tryd.prog 43 #[.pointer (some p)] .returning w fun e u' w' => e = .returned (.tuple #[]) ∧ u' = .returning ∧ w' = w.setCell p (.int .i64 0) := by
  refine callsD_of_wpS Tryd.func43 rfl fun c₀ cs hu => ?_
  apply wpS_region
  simp [wpOpsS, go_sem, recoverD, hu, Tryd.ntmps43]
  refine (raised_nil _).mono ?_
  rintro e w' ⟨rfl, rfl⟩
  cases c₀
  simp_all [go_sem, bodyPostS, results, Tryd.results43]
theorem canon1_panic (p : Addr) (x : Int) (n : Int) (w : World) (hc : w.cell? p = some (.int .i64 x)) (hz : w.frozen? p = false) :
    CallsD Tryd.prog 46 #[.pointer (some p)] (.panicking [{ v := .iface 23 (.int .i64 n), recovered := false }]) w fun e u' w' =>
      e = .returned (.tuple #[]) ∧ u' = .panicking [{ v := .iface 23 (.int .i64 n), recovered := true }] ∧ w' = w.setCell p (.int .i64 n) := by
  refine callsD_of_wpS Tryd.func46 rfl fun c₀ cs hu => ?_
  apply wpS_region
  simp [wpOpsS, go_sem, recoverD, hu, Tryd.ntmps46]
  refine (raised_err n _).mono ?_
  rintro e w' ⟨rfl, rfl⟩
  simp [go_sem, hc, hz, bodyPostS, results, Tryd.results46]
theorem canon1_idle (p : Addr) (x : Int) (w : World) (hc : w.cell? p = some (.int .i64 x)) (hz : w.frozen? p = false) :
    CallsD Tryd.prog 46 #[.pointer (some p)] .returning w fun e u' w' => e = .returned (.tuple #[]) ∧ u' = .returning ∧ w' = w.setCell p (.int .i64 0) := by
  refine callsD_of_wpS Tryd.func46 rfl fun c₀ cs hu => ?_
  apply wpS_region
  simp [wpOpsS, go_sem, recoverD, hu, Tryd.ntmps46]
  refine (raised_nil _).mono ?_
  rintro e w' ⟨rfl, rfl⟩
  cases c₀
  simp_all [go_sem, bodyPostS, results, Tryd.results46]
theorem epoch1_idle (w : World) :
    CallsD Tryd.prog 51 #[] .returning w fun e u' w' => e = .returned (.tuple #[]) ∧ u' = .returning ∧ w' = w := by
  refine callsD_of_wpS Tryd.func51 rfl fun c₀ cs hu => ?_
  apply wpS_region
  cases c₀
  simp_all [wpOpsS, go_sem, recoverD, Tryd.ntmps51, bodyPostS, results, Tryd.results51]
theorem compare1_idle (w : World) :
    CallsD Tryd.prog 53 #[] .returning w fun e u' w' => e = .returned (.tuple #[]) ∧ u' = .returning ∧ w' = w := by
  refine callsD_of_wpS Tryd.func53 rfl fun c₀ cs hu => ?_
  apply wpS_region
  cases c₀
  simp_all [wpOpsS, go_sem, recoverD, Tryd.ntmps53, bodyPostS, results, Tryd.results53]

/-! The ways of parse, one by one. -/
theorem parse_yes (l : List UInt8) (w : World) (hw : MaxOk w) (h : Vm.check l = 0) :
    Calls Tryd.prog 45 #[.string ⟨l.toArray⟩] w fun e w' => e = .returned (.agg #[.string ⟨(Vm.ep l).toArray⟩, .string ⟨(Vm.pt l).toArray⟩, .string ⟨(Vm.rv l).toArray⟩]) ∧ Below w.heap.size w w' := by
  unfold Vm.check at h
  split at h
  · cases h
  · split at h
    · rename_i h1 h2
      refine (parse_any l w hw (by omega)).mono fun e w' ⟨g1, g2⟩ => ⟨?_, g2⟩
      rw [g1, parsed, ended]
      unfold Vm.verOk at h2
      rw [h2]; rfl
    · cases h
theorem parse_no (l : List UInt8) (w : World) (hw : MaxOk w) (h : Vm.check l ≠ 0) :
    Calls Tryd.prog 45 #[.string ⟨l.toArray⟩] w fun e w' => e = pan (Vm.check l) ∧ Below w.heap.size w w' := by
  unfold Vm.check at *
  split
  · rename_i h1
    exact parse_long l w h1
  · rename_i h1
    rw [if_neg h1] at h
    split
    · rename_i h2; rw [if_pos h2] at h; exact absurd rfl h
    · rename_i h2
      refine (parse_any l w hw (by omega)).mono fun e w' ⟨g1, g2⟩ => ⟨?_, g2⟩
      rw [g1, parsed, ended]
      unfold Vm.verOk at h2
      rw [if_neg h2]

theorem cell_int (w w1 : World) (T : TypeId) (x : Value) (hb : Below (w.heap.size + 1) (w.alloc (.cells #[x] T)) w1) : w1.cell? ⟨w.heap.size, 0, none⟩ = some x ∧ w1.frozen? ⟨w.heap.size, 0, none⟩ = false := by
  have h : w1.heap[w.heap.size]? = some (.cells #[x] T (0, 0)) := (hb.block _ (Nat.lt_succ_self _)).trans (heap_alloc_new w _)
  exact ⟨cell_of_one h, free_of_one h⟩
theorem below_new {w w1 : World} {o : Obj} (h : Below (w.heap.size + 1) (w.alloc o) w1) : Below w.heap.size w w1 := ((Below.refl _ _).alloc (Nat.le_refl _) _).trans (h.mono (Nat.le_succ _))
set_option maxHeartbeats 400000 in
theorem check_any (l : List UInt8) (w : World) (hw : MaxOk w) :
    Calls Tryd.prog 14 #[.string ⟨l.toArray⟩] w fun e w' => e = .returned (.int .i64 (Vm.check l)) ∧ Below w.heap.size w w' := by
  have hmf : ∀ (fn : Fn) (first cap : Array Value) (w : World), (Instr.makeFunc fn first cap).run Tryd.prog w = .ok (.func fn first cap) w := fun _ _ _ _ => rfl
  have hM : MaxOk (w.alloc (.cells #[.int .i64 0] 23)) := maxOk_below hw ((Below.refl _ _).alloc (Nat.le_refl _) _)
  have HM := Lib.hid hM
  clear hw hM
  by_cases h : Vm.check l = 0
  · have H := Lib.hid h
    clear h
    go_enter_defers Tryd.func14, Tryd.ntmps14
    go_wp2_with fail
    refine (parse_yes l _ HM.out H.out).mono ?_
    rintro e w1 ⟨rfl, hb⟩
    have hb1 : Below (w.heap.size + 1) (w.alloc (.cells #[.int .i64 0] 23)) w1 := by simpa using hb
    obtain ⟨hcell, hfro⟩ := cell_int w w1 _ _ hb1
    have HB := Lib.hid hb1
    clear hb hb1
    go_wp2_with fail
    refine leaves_cons (f := 43) (args := #[.pointer (some ⟨w.heap.size, 0, none⟩)]) (by simp) (by simp [go_sem]) ?_
    refine (check1_idle ⟨w.heap.size, 0, none⟩ 0 _ ?_ ?_).mono ?_
    · simp [go_sem, hcell]
    · simp [go_sem, hfro]
    rintro e u' w2 ⟨rfl, rfl, rfl⟩
    simp [Leaves, settle, results, Tryd.results14, go_sem, hcell]
    exact ⟨H.out.symm, ((below_new HB.out).setCell (Nat.le_refl _) _).setCell (Nat.le_refl _) _⟩
  · have H := Lib.hid h
    clear h
    go_enter_defers Tryd.func14, Tryd.ntmps14
    go_wp2_with fail
    refine (parse_no l _ HM.out H.out).mono ?_
    rintro e w1 ⟨rfl, hb⟩
    have hb1 : Below (w.heap.size + 1) (w.alloc (.cells #[.int .i64 0] 23)) w1 := by simpa using hb
    obtain ⟨hcell, hfro⟩ := cell_int w w1 _ _ hb1
    have HB := Lib.hid hb1
    clear hb hb1
    go_wp2_with fail
    refine leaves_cons (f := 43) (args := #[.pointer (some ⟨w.heap.size, 0, none⟩)]) (by simp) (by simp [go_sem]) ?_
    refine (check1_panic ⟨w.heap.size, 0, none⟩ 0 _ _ ?_ ?_).mono ?_
    · simp [go_sem, hcell]
    · simp [go_sem, hfro]
    rintro e u' w2 ⟨rfl, rfl, rfl⟩
    simp [Leaves, settle, results, Tryd.results14, go_sem, hcell]
    exact (below_new HB.out).setCell (Nat.le_refl _) _

theorem ok1_ascii (c : UInt8) (h : Vm.ok1 c = true) : c.toNat < 128 := by
  simp [Vm.ok1, Vm.dig, Vm.oth, Vm.ltr] at h; omega
theorem partOk_ascii {l : List UInt8} (h : Vm.partOk l = true) : ascii l := by
  intro j b hb
  unfold Vm.partOk at h
  simp only [Bool.and_eq_true, List.all_eq_true] at h
  exact ok1_ascii b (h.2.2.2 b (List.mem_of_getElem? hb))
theorem partOk_ne {l : List UInt8} (h : Vm.partOk l = true) : l ≠ [] := by
  intro h0; subst h0; cases h
theorem verOk_of {l : List UInt8} (h : Vm.check l = 0) : l.length ≤ 40 ∧ Vm.epOk (Vm.ep l) = true ∧ Vm.partOk (Vm.pt l) = true ∧ Vm.partOk (Vm.rv l) = true := by
  unfold Vm.check at h
  split at h
  · cases h
  · split at h
    · rename_i h1 h2
      unfold Vm.verOk at h2
      simp only [Bool.and_eq_true] at h2
      exact ⟨by omega, h2.1, h2.2.1, h2.2.2⟩
    · cases h
theorem canon_text (l : List UInt8) : textOf (Vm.ep l) (Vm.pt l) (Vm.rv l) = Vm.canon l := rfl
/-- What Canon hands back beside the error. -/
def canonOf (l : List UInt8) : List UInt8 := if Vm.check l = 0 then Vm.canon l else []
set_option maxHeartbeats 400000 in
theorem canon_any (l : List UInt8) (w : World) (hw : MaxOk w) :
    Calls Tryd.prog 15 #[.string ⟨l.toArray⟩] w fun e w' => e = .returned (.tuple #[.string ⟨(canonOf l).toArray⟩, .int .i64 (Vm.check l)]) ∧ Below w.heap.size w w' := by
  have hmf : ∀ (fn : Fn) (first cap : Array Value) (w : World), (Instr.makeFunc fn first cap).run Tryd.prog w = .ok (.func fn first cap) w := fun _ _ _ _ => rfl
  have hM : MaxOk (w.alloc (.cells #[.int .i64 0] 23)) := maxOk_below hw ((Below.refl _ _).alloc (Nat.le_refl _) _)
  have HM := Lib.hid hM
  clear hw hM
  by_cases h : Vm.check l = 0
  · have H := Lib.hid h
    have HC : Hid (canonOf l = Vm.canon l) := by show _ = _; rw [canonOf, if_pos h]
    clear h
    go_enter_defers Tryd.func15, Tryd.ntmps15
    go_wp2_with fail
    refine (parse_yes l _ HM.out H.out).mono ?_
    rintro e w1 ⟨rfl, hb⟩
    have hb1 : Below (w.heap.size + 1) (w.alloc (.cells #[.int .i64 0] 23)) w1 := by simpa using hb
    have HB := Lib.hid hb1
    have HV := Lib.hid (verOk_of H.out)
    have l1 := HV.out.1
    have l2 := ep_le l
    have l3 := pt_le l
    have l4 := rv_le l
    clear hb hb1
    go_wp2_with fail
    refine (text_any _ _ _ _ (by omega) (by omega) (by omega) (partOk_ne HV.out.2.2.1) (partOk_ne HV.out.2.2.2) (partOk_ascii HV.out.2.2.1) (partOk_ascii HV.out.2.2.2)).mono ?_
    rintro e w2 ⟨rfl, hb⟩
    rw [canon_text]
    have hb2 : Below (w.heap.size + 1) (w.alloc (.cells #[.int .i64 0] 23)) w2 := HB.out.trans (hb.mono (by have := HB.out.size; simpa using this))
    obtain ⟨hcell, hfro⟩ := cell_int w w2 _ _ hb2
    have HB2 := Lib.hid hb2
    clear hb hb2 HB
    go_wp2_with fail
    refine leaves_cons (f := 46) (args := #[.pointer (some ⟨w.heap.size, 0, none⟩)]) (by simp) (by simp [go_sem]) ?_
    refine (canon1_idle ⟨w.heap.size, 0, none⟩ 0 _ ?_ ?_).mono ?_
    · simp [go_sem, hcell]
    · simp [go_sem, hfro]
    rintro e u' w3 ⟨rfl, rfl, rfl⟩
    simp [Leaves, settle, results, Tryd.results15, go_sem, hcell]
    exact ⟨⟨by rw [HC.out], H.out.symm⟩, ((below_new HB2.out).setCell (Nat.le_refl _) _).setCell (Nat.le_refl _) _⟩
  · have H := Lib.hid h
    have HC : Hid (canonOf l = []) := by show _ = _; rw [canonOf, if_neg h]
    clear h
    go_enter_defers Tryd.func15, Tryd.ntmps15
    go_wp2_with fail
    refine (parse_no l _ HM.out H.out).mono ?_
    rintro e w1 ⟨rfl, hb⟩
    have hb1 : Below (w.heap.size + 1) (w.alloc (.cells #[.int .i64 0] 23)) w1 := by simpa using hb
    obtain ⟨hcell, hfro⟩ := cell_int w w1 _ _ hb1
    have HB := Lib.hid hb1
    clear hb hb1
    go_wp2_with fail
    refine leaves_cons (f := 46) (args := #[.pointer (some ⟨w.heap.size, 0, none⟩)]) (by simp) (by simp [go_sem]) ?_
    refine (canon1_panic ⟨w.heap.size, 0, none⟩ 0 _ _ ?_ ?_).mono ?_
    · simp [go_sem, hcell]
    · simp [go_sem, hfro]
    rintro e u' w2 ⟨rfl, rfl, rfl⟩
    simp [Leaves, settle, results, Tryd.results15, go_sem, hcell]
    exact ⟨by rw [HC.out], (below_new HB.out).setCell (Nat.le_refl _) _⟩
end Go.Proofs.YtaghhdgiegcimaaDoor
