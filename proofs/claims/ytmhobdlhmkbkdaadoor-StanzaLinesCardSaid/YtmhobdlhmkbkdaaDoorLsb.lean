/- The law StanzaBytes, walked. -/
import Derived.Test.YtmhobdlhmkbkdaaDoorUk
import Derived.Laws.IdiomStrings
import Derived.Lib.SlBytesConst
namespace Go.Proofs.YtmhobdlhmkbkdaaDoor
open Go.RowKit Go.Maps Sz
attribute [local go_sem ↓] Go.wp_at_zero Go.wp_at_succ
theorem Sz.conv_list (W : World) (a : Addr) (cap : Nat) (L : List UInt8) (hc : ∀ j (hj : j < L.length), W.cell? (a.add j) = some (.int .u8 (L[j].toNat : Int))) : (convert 50 9 (.slice (some a) L.length cap)).run Tryd.prog W = .ok (.string ⟨L.toArray⟩) W :=
  run_convert_bytes_back (P := Tryd.prog) _ _ _ _ _ cap L Tryd.underlying50 Tryd.underlying5 Tryd.underlying9 hc
theorem Sz.cell_heap {w : World} {b : Nat} {cs : Array Value} {T : TypeId} {fr : Nat × Nat} (h : w.heap[b]? = some (.cells cs T fr)) (j : Nat) : w.cell? ⟨b, j, none⟩ = cs[j]? := by
  unfold World.cell?; rw [h]; rfl
theorem Sz.frozen_heap {w : World} {b : Nat} {cs : Array Value} {T : TypeId} {fr : Nat × Nat} (h : w.heap[b]? = some (.cells cs T fr)) (j : Nat) (hj : j < fr.1) : w.frozen? ⟨b, j, none⟩ = false := by
  unfold World.frozen?; rw [h]; simp; omega
/-- The text with one byte turned. -/
def Sz.turned (k : Nat) (c : UInt8) : List UInt8 := [75, 101, 121, 58, 32, 118, 97, 108, 117, 101].set k c ++ [10]
def Sz.mayB (k : Nat) (c : UInt8) : Bool := if k < 3 then Vm.ltr c else if k = 3 then c == 58 else if k = 4 then c == 32 else valC c
theorem Sz.turned_all : ((List.range 10).all fun k => (List.range 256).all fun n => ((parseS (turned k (UInt8.ofNat n))).1 == 0) == mayB k (UInt8.ofNat n)) = true := by decide +kernel
theorem Sz.turned_is (k : Nat) (hk : k < 10) (c : UInt8) : ((parseS (turned k c)).1 == 0) = mayB k c := by
  have h := List.all_eq_true.1 turned_all k (List.mem_range.2 hk)
  have h2 := List.all_eq_true.1 h c.toNat (List.mem_range.2 c.toNat_lt)
  rw [beq_iff_eq] at h2
  simpa using h2
theorem Sz.byte_ne {c d : UInt8} (h : c ≠ d) : ((c.toNat : Int) == d.toNat) = false := by
  refine beq_eq_false_iff_ne.2 fun e => h (UInt8.toNat_inj.1 (by omega))
set_option maxRecDepth 100000 in
set_option maxHeartbeats 3200000 in
theorem Sz.stanzaBytes_0 (c : UInt8) (a : Nat) (ha : a < 256) (hk : a % 10 = 0) (w : World) (hw : MaxOk w) :
    Calls Tryd.prog 6 #[.int .u8 c.toNat, .int .u8 a] w fun e w' => e = .returned (.bool true) ∧ Below w.heap.size w w' := by
  have HM := Lib.hid hw
  have hm : (a : Int) % 10 = 0 := by omega
  obtain ⟨X, hX⟩ : ∃ X, parseS (turned 0 c) = X := ⟨_, rfl⟩
  obtain ⟨e0, n0, r⟩ := X
  have HE : Hid ((e0 == 0) = mayB 0 c) := by
    have := turned_is 0 (by decide) c
    rw [hX] at this
    exact this
  have HX : Hid (parseS [c, 101, 121, 58, 32, 118, 97, 108, 117, 101, 10] = (e0, n0, r)) := hX
  obtain ⟨m, hm2⟩ : ∃ m, r.length = m := ⟨_, rfl⟩
  have HL := Lib.hid hm2
  clear hw hX hm2 hk
  go_enter Tryd.func6, Tryd.ntmps6
  go_wp2_with fail
  refine (known5_any _ HM.out).mono ?_
  rintro _ u1 ⟨rfl, hb⟩
  have HB1 := Lib.hid hb
  clear hb
  have hh0 : (u1.alloc (.cells #[.int .u8 75, .int .u8 101, .int .u8 121, .int .u8 58, .int .u8 32, .int .u8 118, .int .u8 97, .int .u8 108, .int .u8 117, .int .u8 101] 5 (10, 11))).heap[u1.heap.size]? = some (.cells #[.int .u8 75, .int .u8 101, .int .u8 121, .int .u8 58, .int .u8 32, .int .u8 118, .int .u8 97, .int .u8 108, .int .u8 117, .int .u8 101] 5 (10, 11)) := heap_alloc_new u1 _
  have g0 : (u1.alloc (.cells #[.int .u8 75, .int .u8 101, .int .u8 121, .int .u8 58, .int .u8 32, .int .u8 118, .int .u8 97, .int .u8 108, .int .u8 117, .int .u8 101] 5 (10, 11))).cell? ⟨u1.heap.size, 0, none⟩ = some (.int .u8 75) := (cell_heap hh0 0).trans rfl
  have f0 : (u1.alloc (.cells #[.int .u8 75, .int .u8 101, .int .u8 121, .int .u8 58, .int .u8 32, .int .u8 118, .int .u8 97, .int .u8 108, .int .u8 117, .int .u8 101] 5 (10, 11))).frozen? ⟨u1.heap.size, 0, none⟩ = false := frozen_heap hh0 0 (by decide)
  have hh1 : ((u1.alloc (.cells #[.int .u8 75, .int .u8 101, .int .u8 121, .int .u8 58, .int .u8 32, .int .u8 118, .int .u8 97, .int .u8 108, .int .u8 117, .int .u8 101] 5 (10, 11))).setCell ⟨u1.heap.size, 0, none⟩ (.int .u8 (c.toNat : Int))).heap[u1.heap.size]? = some (.cells #[.int .u8 (c.toNat : Int), .int .u8 101, .int .u8 121, .int .u8 58, .int .u8 32, .int .u8 118, .int .u8 97, .int .u8 108, .int .u8 117, .int .u8 101] 5 (10, 11)) := by
    obtain ⟨V, hV⟩ : ∃ V, u1.alloc (.cells #[.int .u8 75, .int .u8 101, .int .u8 121, .int .u8 58, .int .u8 32, .int .u8 118, .int .u8 97, .int .u8 108, .int .u8 117, .int .u8 101] 5 (10, 11)) = V := ⟨_, rfl⟩
    rw [hV] at hh0 ⊢
    simp [World.setCell, Array.getElem?_modify, hh0]
  have hcv : (convert 50 9 (.slice (some ⟨u1.heap.size, 0, none⟩) 10 10)).run Tryd.prog ((u1.alloc (.cells #[.int .u8 75, .int .u8 101, .int .u8 121, .int .u8 58, .int .u8 32, .int .u8 118, .int .u8 97, .int .u8 108, .int .u8 117, .int .u8 101] 5 (10, 11))).setCell ⟨u1.heap.size, 0, none⟩ (.int .u8 (c.toNat : Int))) = .ok (.string ⟨([c, 101, 121, 58, 32, 118, 97, 108, 117, 101] : List UInt8).toArray⟩) ((u1.alloc (.cells #[.int .u8 75, .int .u8 101, .int .u8 121, .int .u8 58, .int .u8 32, .int .u8 118, .int .u8 97, .int .u8 108, .int .u8 117, .int .u8 101] 5 (10, 11))).setCell ⟨u1.heap.size, 0, none⟩ (.int .u8 (c.toNat : Int))) :=
    conv_list _ _ 10 [c, 101, 121, 58, 32, 118, 97, 108, 117, 101] (fun j hj => by
      match j, hj with
      | 0, _ => exact (cell_heap hh1 0).trans rfl
      | 1, _ => exact (cell_heap hh1 1).trans rfl
      | 2, _ => exact (cell_heap hh1 2).trans rfl
      | 3, _ => exact (cell_heap hh1 3).trans rfl
      | 4, _ => exact (cell_heap hh1 4).trans rfl
      | 5, _ => exact (cell_heap hh1 5).trans rfl
      | 6, _ => exact (cell_heap hh1 6).trans rfl
      | 7, _ => exact (cell_heap hh1 7).trans rfl
      | 8, _ => exact (cell_heap hh1 8).trans rfl
      | 9, _ => exact (cell_heap hh1 9).trans rfl)
  have HH1 := Lib.hid hh1
  clear hh0 hh1
  have hcat : ((⟨([c, 101, 121, 58, 32, 118, 97, 108, 117, 101] : List UInt8).toArray⟩ : ByteArray) ++ ⟨#[10]⟩) = ⟨([c, 101, 121, 58, 32, 118, 97, 108, 117, 101, 10] : List UInt8).toArray⟩ := ByteArray.mk_append_mk [c, 101, 121, 58, 32, 118, 97, 108, 117, 101] [10]
  have hid := Lib.run_convert_bytes_const (P := Tryd.prog) u1 50 5 #[.int .u8 75, .int .u8 101, .int .u8 121, .int .u8 58, .int .u8 32, .int .u8 118, .int .u8 97, .int .u8 108, .int .u8 117, .int .u8 101] 10 10 Tryd.underlying50 Tryd.underlying5
  have hmod : IntKind.i64.wrap ((a : Int) % 10) = 0 := by rw [hm]; rfl
  go_wp2_with fail
  have HBE : Hid (Below w.heap.size w ((u1.alloc (.cells #[.int .u8 75, .int .u8 101, .int .u8 121, .int .u8 58, .int .u8 32, .int .u8 118, .int .u8 97, .int .u8 108, .int .u8 117, .int .u8 101] 5 (10, 11))).setCell ⟨u1.heap.size, 0, none⟩ (.int .u8 (c.toNat : Int)))) := (HB1.out.alloc HB1.out.size _).setCell HB1.out.size _
  clear hcv hid g0 f0 hcat hmod
  generalize (u1.alloc (.cells #[.int .u8 75, .int .u8 101, .int .u8 121, .int .u8 58, .int .u8 32, .int .u8 118, .int .u8 97, .int .u8 108, .int .u8 117, .int .u8 101] 5 (10, 11))).setCell ⟨u1.heap.size, 0, none⟩ (.int .u8 (c.toNat : Int)) = v1 at *
  refine (s5_parse (maxOk_below HM.out HBE.out) _ HX.out HL.out).mono ?_
  rintro _ u2 ⟨A, cc, rfl, _, hb⟩
  have hh2 := (hb.block _ (Array.getElem?_eq_some_iff.1 HH1.out).1).trans HH1.out
  have HB2 := Lib.hid (HBE.out.trans (hb.mono HBE.out.size))
  have g1 : u2.cell? ⟨u1.heap.size, 1, none⟩ = some (.int .u8 101) := (cell_heap hh2 1).trans rfl
  clear hb hh2
  by_cases z0 : 97 ≤ c.toNat ∧ c.toNat ≤ 122
  · have he : (e0 == 0) = true := by
      rw [HE.out]; show Vm.ltr c = true; unfold Vm.ltr; simp; omega
    have q0 : decide ((97 : Int) ≤ (c.toNat : Int)) = true := decide_eq_true (by omega)
    have q1 : decide ((c.toNat : Int) ≤ 122) = true := decide_eq_true (by omega)
    clear z0
    go_wp2_with fail
    go_ret
    exact ⟨rfl, HB2.out⟩
  by_cases z1 : 65 ≤ c.toNat ∧ c.toNat ≤ 90
  · have he : (e0 == 0) = true := by
      rw [HE.out]; show Vm.ltr c = true; unfold Vm.ltr; simp; omega
    have q0 : decide ((97 : Int) ≤ (c.toNat : Int)) = false := decide_eq_false (by omega)
    have q1 : decide ((65 : Int) ≤ (c.toNat : Int)) = true := decide_eq_true (by omega)
    have q2 : decide ((c.toNat : Int) ≤ 90) = true := decide_eq_true (by omega)
    clear z0 z1
    go_wp2_with fail
    go_ret
    exact ⟨rfl, HB2.out⟩
  by_cases z2 : c.toNat = 58
  · have he : (e0 == 0) = false := by
      rw [HE.out]; show Vm.ltr c = false; unfold Vm.ltr; simp; omega
    have q0 : decide ((97 : Int) ≤ (c.toNat : Int)) = false := decide_eq_false (by omega)
    have q1 : decide ((65 : Int) ≤ (c.toNat : Int)) = false := decide_eq_false (by omega)
    have q2 : ((c.toNat : Int) == 58) = true := by rw [beq_iff_eq]; omega
    clear z0 z1 z2
    go_wp2_with fail
    go_ret
    exact ⟨rfl, HB2.out⟩
  by_cases z3 : c.toNat < 65 ∧ c.toNat ≠ 58
  · have he : (e0 == 0) = false := by
      rw [HE.out]; show Vm.ltr c = false; unfold Vm.ltr; simp; omega
    have q0 : decide ((97 : Int) ≤ (c.toNat : Int)) = false := decide_eq_false (by omega)
    have q1 : decide ((65 : Int) ≤ (c.toNat : Int)) = false := decide_eq_false (by omega)
    have q2 : ((c.toNat : Int) == 58) = false := beq_eq_false_iff_ne.2 (by omega)
    clear z0 z1 z2 z3
    go_wp2_with fail
    go_ret
    exact ⟨rfl, HB2.out⟩
  by_cases z4 : 90 < c.toNat ∧ c.toNat < 97
  · have he : (e0 == 0) = false := by
      rw [HE.out]; show Vm.ltr c = false; unfold Vm.ltr; simp; omega
    have q0 : decide ((97 : Int) ≤ (c.toNat : Int)) = false := decide_eq_false (by omega)
    have q1 : decide ((65 : Int) ≤ (c.toNat : Int)) = true := decide_eq_true (by omega)
    have q2 : decide ((c.toNat : Int) ≤ 90) = false := decide_eq_false (by omega)
    have q3 : ((c.toNat : Int) == 58) = false := beq_eq_false_iff_ne.2 (by omega)
    clear z0 z1 z2 z3 z4
    go_wp2_with fail
    go_ret
    exact ⟨rfl, HB2.out⟩
  have he : (e0 == 0) = false := by
    rw [HE.out]; show Vm.ltr c = false; unfold Vm.ltr; simp; omega
  have q0 : decide ((97 : Int) ≤ (c.toNat : Int)) = true := decide_eq_true (by omega)
  have q1 : decide ((c.toNat : Int) ≤ 122) = false := decide_eq_false (by omega)
  have q2 : decide ((65 : Int) ≤ (c.toNat : Int)) = true := decide_eq_true (by omega)
  have q3 : decide ((c.toNat : Int) ≤ 90) = false := decide_eq_false (by omega)
  have q4 : ((c.toNat : Int) == 58) = false := beq_eq_false_iff_ne.2 (by omega)
  clear z0 z1 z2 z3 z4
  go_wp2_with fail
  go_ret
  exact ⟨rfl, HB2.out⟩
set_option maxRecDepth 100000 in
set_option maxHeartbeats 3200000 in
theorem Sz.stanzaBytes_1 (c : UInt8) (a : Nat) (ha : a < 256) (hk : a % 10 = 1) (w : World) (hw : MaxOk w) :
    Calls Tryd.prog 6 #[.int .u8 c.toNat, .int .u8 a] w fun e w' => e = .returned (.bool true) ∧ Below w.heap.size w w' := by
  have HM := Lib.hid hw
  have hm : (a : Int) % 10 = 1 := by omega
  obtain ⟨X, hX⟩ : ∃ X, parseS (turned 1 c) = X := ⟨_, rfl⟩
  obtain ⟨e0, n0, r⟩ := X
  have HE : Hid ((e0 == 0) = mayB 1 c) := by
    have := turned_is 1 (by decide) c
    rw [hX] at this
    exact this
  have HX : Hid (parseS [75, c, 121, 58, 32, 118, 97, 108, 117, 101, 10] = (e0, n0, r)) := hX
  obtain ⟨m, hm2⟩ : ∃ m, r.length = m := ⟨_, rfl⟩
  have HL := Lib.hid hm2
  clear hw hX hm2 hk
  go_enter Tryd.func6, Tryd.ntmps6
  go_wp2_with fail
  refine (known5_any _ HM.out).mono ?_
  rintro _ u1 ⟨rfl, hb⟩
  have HB1 := Lib.hid hb
  clear hb
  have hh0 : (u1.alloc (.cells #[.int .u8 75, .int .u8 101, .int .u8 121, .int .u8 58, .int .u8 32, .int .u8 118, .int .u8 97, .int .u8 108, .int .u8 117, .int .u8 101] 5 (10, 11))).heap[u1.heap.size]? = some (.cells #[.int .u8 75, .int .u8 101, .int .u8 121, .int .u8 58, .int .u8 32, .int .u8 118, .int .u8 97, .int .u8 108, .int .u8 117, .int .u8 101] 5 (10, 11)) := heap_alloc_new u1 _
  have g0 : (u1.alloc (.cells #[.int .u8 75, .int .u8 101, .int .u8 121, .int .u8 58, .int .u8 32, .int .u8 118, .int .u8 97, .int .u8 108, .int .u8 117, .int .u8 101] 5 (10, 11))).cell? ⟨u1.heap.size, 1, none⟩ = some (.int .u8 101) := (cell_heap hh0 1).trans rfl
  have f0 : (u1.alloc (.cells #[.int .u8 75, .int .u8 101, .int .u8 121, .int .u8 58, .int .u8 32, .int .u8 118, .int .u8 97, .int .u8 108, .int .u8 117, .int .u8 101] 5 (10, 11))).frozen? ⟨u1.heap.size, 1, none⟩ = false := frozen_heap hh0 1 (by decide)
  have hh1 : ((u1.alloc (.cells #[.int .u8 75, .int .u8 101, .int .u8 121, .int .u8 58, .int .u8 32, .int .u8 118, .int .u8 97, .int .u8 108, .int .u8 117, .int .u8 101] 5 (10, 11))).setCell ⟨u1.heap.size, 1, none⟩ (.int .u8 (c.toNat : Int))).heap[u1.heap.size]? = some (.cells #[.int .u8 75, .int .u8 (c.toNat : Int), .int .u8 121, .int .u8 58, .int .u8 32, .int .u8 118, .int .u8 97, .int .u8 108, .int .u8 117, .int .u8 101] 5 (10, 11)) := by
    obtain ⟨V, hV⟩ : ∃ V, u1.alloc (.cells #[.int .u8 75, .int .u8 101, .int .u8 121, .int .u8 58, .int .u8 32, .int .u8 118, .int .u8 97, .int .u8 108, .int .u8 117, .int .u8 101] 5 (10, 11)) = V := ⟨_, rfl⟩
    rw [hV] at hh0 ⊢
    simp [World.setCell, Array.getElem?_modify, hh0]
  have hcv : (convert 50 9 (.slice (some ⟨u1.heap.size, 0, none⟩) 10 10)).run Tryd.prog ((u1.alloc (.cells #[.int .u8 75, .int .u8 101, .int .u8 121, .int .u8 58, .int .u8 32, .int .u8 118, .int .u8 97, .int .u8 108, .int .u8 117, .int .u8 101] 5 (10, 11))).setCell ⟨u1.heap.size, 1, none⟩ (.int .u8 (c.toNat : Int))) = .ok (.string ⟨([75, c, 121, 58, 32, 118, 97, 108, 117, 101] : List UInt8).toArray⟩) ((u1.alloc (.cells #[.int .u8 75, .int .u8 101, .int .u8 121, .int .u8 58, .int .u8 32, .int .u8 118, .int .u8 97, .int .u8 108, .int .u8 117, .int .u8 101] 5 (10, 11))).setCell ⟨u1.heap.size, 1, none⟩ (.int .u8 (c.toNat : Int))) :=
    conv_list _ _ 10 [75, c, 121, 58, 32, 118, 97, 108, 117, 101] (fun j hj => by
      match j, hj with
      | 0, _ => exact (cell_heap hh1 0).trans rfl
      | 1, _ => exact (cell_heap hh1 1).trans rfl
      | 2, _ => exact (cell_heap hh1 2).trans rfl
      | 3, _ => exact (cell_heap hh1 3).trans rfl
      | 4, _ => exact (cell_heap hh1 4).trans rfl
      | 5, _ => exact (cell_heap hh1 5).trans rfl
      | 6, _ => exact (cell_heap hh1 6).trans rfl
      | 7, _ => exact (cell_heap hh1 7).trans rfl
      | 8, _ => exact (cell_heap hh1 8).trans rfl
      | 9, _ => exact (cell_heap hh1 9).trans rfl)
  have HH1 := Lib.hid hh1
  clear hh0 hh1
  have hcat : ((⟨([75, c, 121, 58, 32, 118, 97, 108, 117, 101] : List UInt8).toArray⟩ : ByteArray) ++ ⟨#[10]⟩) = ⟨([75, c, 121, 58, 32, 118, 97, 108, 117, 101, 10] : List UInt8).toArray⟩ := ByteArray.mk_append_mk [75, c, 121, 58, 32, 118, 97, 108, 117, 101] [10]
  have hid := Lib.run_convert_bytes_const (P := Tryd.prog) u1 50 5 #[.int .u8 75, .int .u8 101, .int .u8 121, .int .u8 58, .int .u8 32, .int .u8 118, .int .u8 97, .int .u8 108, .int .u8 117, .int .u8 101] 10 10 Tryd.underlying50 Tryd.underlying5
  have hmod : IntKind.i64.wrap ((a : Int) % 10) = 1 := by rw [hm]; rfl
  go_wp2_with fail
  have HBE : Hid (Below w.heap.size w ((u1.alloc (.cells #[.int .u8 75, .int .u8 101, .int .u8 121, .int .u8 58, .int .u8 32, .int .u8 118, .int .u8 97, .int .u8 108, .int .u8 117, .int .u8 101] 5 (10, 11))).setCell ⟨u1.heap.size, 1, none⟩ (.int .u8 (c.toNat : Int)))) := (HB1.out.alloc HB1.out.size _).setCell HB1.out.size _
  clear hcv hid g0 f0 hcat hmod
  generalize (u1.alloc (.cells #[.int .u8 75, .int .u8 101, .int .u8 121, .int .u8 58, .int .u8 32, .int .u8 118, .int .u8 97, .int .u8 108, .int .u8 117, .int .u8 101] 5 (10, 11))).setCell ⟨u1.heap.size, 1, none⟩ (.int .u8 (c.toNat : Int)) = v1 at *
  refine (s5_parse (maxOk_below HM.out HBE.out) _ HX.out HL.out).mono ?_
  rintro _ u2 ⟨A, cc, rfl, _, hb⟩
  have hh2 := (hb.block _ (Array.getElem?_eq_some_iff.1 HH1.out).1).trans HH1.out
  have HB2 := Lib.hid (HBE.out.trans (hb.mono HBE.out.size))
  have g1 : u2.cell? ⟨u1.heap.size, 2, none⟩ = some (.int .u8 121) := (cell_heap hh2 2).trans rfl
  clear hb hh2
  by_cases z0 : 97 ≤ c.toNat ∧ c.toNat ≤ 122
  · have he : (e0 == 0) = true := by
      rw [HE.out]; show Vm.ltr c = true; unfold Vm.ltr; simp; omega
    have q0 : decide ((97 : Int) ≤ (c.toNat : Int)) = true := decide_eq_true (by omega)
    have q1 : decide ((c.toNat : Int) ≤ 122) = true := decide_eq_true (by omega)
    clear z0
    go_wp2_with fail
    go_ret
    exact ⟨rfl, HB2.out⟩
  by_cases z1 : 65 ≤ c.toNat ∧ c.toNat ≤ 90
  · have he : (e0 == 0) = true := by
      rw [HE.out]; show Vm.ltr c = true; unfold Vm.ltr; simp; omega
    have q0 : decide ((97 : Int) ≤ (c.toNat : Int)) = false := decide_eq_false (by omega)
    have q1 : decide ((65 : Int) ≤ (c.toNat : Int)) = true := decide_eq_true (by omega)
    have q2 : decide ((c.toNat : Int) ≤ 90) = true := decide_eq_true (by omega)
    clear z0 z1
    go_wp2_with fail
    go_ret
    exact ⟨rfl, HB2.out⟩
  by_cases z2 : c.toNat = 58
  · have he : (e0 == 0) = false := by
      rw [HE.out]; show Vm.ltr c = false; unfold Vm.ltr; simp; omega
    have q0 : decide ((97 : Int) ≤ (c.toNat : Int)) = false := decide_eq_false (by omega)
    have q1 : decide ((65 : Int) ≤ (c.toNat : Int)) = false := decide_eq_false (by omega)
    have q2 : ((c.toNat : Int) == 58) = true := by rw [beq_iff_eq]; omega
    clear z0 z1 z2
    go_wp2_with fail
    go_ret
    exact ⟨rfl, HB2.out⟩
  by_cases z3 : c.toNat < 65 ∧ c.toNat ≠ 58
  · have he : (e0 == 0) = false := by
      rw [HE.out]; show Vm.ltr c = false; unfold Vm.ltr; simp; omega
    have q0 : decide ((97 : Int) ≤ (c.toNat : Int)) = false := decide_eq_false (by omega)
    have q1 : decide ((65 : Int) ≤ (c.toNat : Int)) = false := decide_eq_false (by omega)
    have q2 : ((c.toNat : Int) == 58) = false := beq_eq_false_iff_ne.2 (by omega)
    clear z0 z1 z2 z3
    go_wp2_with fail
    go_ret
    exact ⟨rfl, HB2.out⟩
  by_cases z4 : 90 < c.toNat ∧ c.toNat < 97
  · have he : (e0 == 0) = false := by
      rw [HE.out]; show Vm.ltr c = false; unfold Vm.ltr; simp; omega
    have q0 : decide ((97 : Int) ≤ (c.toNat : Int)) = false := decide_eq_false (by omega)
    have q1 : decide ((65 : Int) ≤ (c.toNat : Int)) = true := decide_eq_true (by omega)
    have q2 : decide ((c.toNat : Int) ≤ 90) = false := decide_eq_false (by omega)
    have q3 : ((c.toNat : Int) == 58) = false := beq_eq_false_iff_ne.2 (by omega)
    clear z0 z1 z2 z3 z4
    go_wp2_with fail
    go_ret
    exact ⟨rfl, HB2.out⟩
  have he : (e0 == 0) = false := by
    rw [HE.out]; show Vm.ltr c = false; unfold Vm.ltr; simp; omega
  have q0 : decide ((97 : Int) ≤ (c.toNat : Int)) = true := decide_eq_true (by omega)
  have q1 : decide ((c.toNat : Int) ≤ 122) = false := decide_eq_false (by omega)
  have q2 : decide ((65 : Int) ≤ (c.toNat : Int)) = true := decide_eq_true (by omega)
  have q3 : decide ((c.toNat : Int) ≤ 90) = false := decide_eq_false (by omega)
  have q4 : ((c.toNat : Int) == 58) = false := beq_eq_false_iff_ne.2 (by omega)
  clear z0 z1 z2 z3 z4
  go_wp2_with fail
  go_ret
  exact ⟨rfl, HB2.out⟩
set_option maxRecDepth 100000 in
set_option maxHeartbeats 3200000 in
theorem Sz.stanzaBytes_2 (c : UInt8) (a : Nat) (ha : a < 256) (hk : a % 10 = 2) (w : World) (hw : MaxOk w) :
    Calls Tryd.prog 6 #[.int .u8 c.toNat, .int .u8 a] w fun e w' => e = .returned (.bool true) ∧ Below w.heap.size w w' := by
  have HM := Lib.hid hw
  have hm : (a : Int) % 10 = 2 := by omega
  obtain ⟨X, hX⟩ : ∃ X, parseS (turned 2 c) = X := ⟨_, rfl⟩
  obtain ⟨e0, n0, r⟩ := X
  have HE : Hid ((e0 == 0) = mayB 2 c) := by
    have := turned_is 2 (by decide) c
    rw [hX] at this
    exact this
  have HX : Hid (parseS [75, 101, c, 58, 32, 118, 97, 108, 117, 101, 10] = (e0, n0, r)) := hX
  obtain ⟨m, hm2⟩ : ∃ m, r.length = m := ⟨_, rfl⟩
  have HL := Lib.hid hm2
  clear hw hX hm2 hk
  go_enter Tryd.func6, Tryd.ntmps6
  go_wp2_with fail
  refine (known5_any _ HM.out).mono ?_
  rintro _ u1 ⟨rfl, hb⟩
  have HB1 := Lib.hid hb
  clear hb
  have hh0 : (u1.alloc (.cells #[.int .u8 75, .int .u8 101, .int .u8 121, .int .u8 58, .int .u8 32, .int .u8 118, .int .u8 97, .int .u8 108, .int .u8 117, .int .u8 101] 5 (10, 11))).heap[u1.heap.size]? = some (.cells #[.int .u8 75, .int .u8 101, .int .u8 121, .int .u8 58, .int .u8 32, .int .u8 118, .int .u8 97, .int .u8 108, .int .u8 117, .int .u8 101] 5 (10, 11)) := heap_alloc_new u1 _
  have g0 : (u1.alloc (.cells #[.int .u8 75, .int .u8 101, .int .u8 121, .int .u8 58, .int .u8 32, .int .u8 118, .int .u8 97, .int .u8 108, .int .u8 117, .int .u8 101] 5 (10, 11))).cell? ⟨u1.heap.size, 2, none⟩ = some (.int .u8 121) := (cell_heap hh0 2).trans rfl
  have f0 : (u1.alloc (.cells #[.int .u8 75, .int .u8 101, .int .u8 121, .int .u8 58, .int .u8 32, .int .u8 118, .int .u8 97, .int .u8 108, .int .u8 117, .int .u8 101] 5 (10, 11))).frozen? ⟨u1.heap.size, 2, none⟩ = false := frozen_heap hh0 2 (by decide)
  have hh1 : ((u1.alloc (.cells #[.int .u8 75, .int .u8 101, .int .u8 121, .int .u8 58, .int .u8 32, .int .u8 118, .int .u8 97, .int .u8 108, .int .u8 117, .int .u8 101] 5 (10, 11))).setCell ⟨u1.heap.size, 2, none⟩ (.int .u8 (c.toNat : Int))).heap[u1.heap.size]? = some (.cells #[.int .u8 75, .int .u8 101, .int .u8 (c.toNat : Int), .int .u8 58, .int .u8 32, .int .u8 118, .int .u8 97, .int .u8 108, .int .u8 117, .int .u8 101] 5 (10, 11)) := by
    obtain ⟨V, hV⟩ : ∃ V, u1.alloc (.cells #[.int .u8 75, .int .u8 101, .int .u8 121, .int .u8 58, .int .u8 32, .int .u8 118, .int .u8 97, .int .u8 108, .int .u8 117, .int .u8 101] 5 (10, 11)) = V := ⟨_, rfl⟩
    rw [hV] at hh0 ⊢
    simp [World.setCell, Array.getElem?_modify, hh0]
  have hcv : (convert 50 9 (.slice (some ⟨u1.heap.size, 0, none⟩) 10 10)).run Tryd.prog ((u1.alloc (.cells #[.int .u8 75, .int .u8 101, .int .u8 121, .int .u8 58, .int .u8 32, .int .u8 118, .int .u8 97, .int .u8 108, .int .u8 117, .int .u8 101] 5 (10, 11))).setCell ⟨u1.heap.size, 2, none⟩ (.int .u8 (c.toNat : Int))) = .ok (.string ⟨([75, 101, c, 58, 32, 118, 97, 108, 117, 101] : List UInt8).toArray⟩) ((u1.alloc (.cells #[.int .u8 75, .int .u8 101, .int .u8 121, .int .u8 58, .int .u8 32, .int .u8 118, .int .u8 97, .int .u8 108, .int .u8 117, .int .u8 101] 5 (10, 11))).setCell ⟨u1.heap.size, 2, none⟩ (.int .u8 (c.toNat : Int))) :=
    conv_list _ _ 10 [75, 101, c, 58, 32, 118, 97, 108, 117, 101] (fun j hj => by
      match j, hj with
      | 0, _ => exact (cell_heap hh1 0).trans rfl
      | 1, _ => exact (cell_heap hh1 1).trans rfl
      | 2, _ => exact (cell_heap hh1 2).trans rfl
      | 3, _ => exact (cell_heap hh1 3).trans rfl
      | 4, _ => exact (cell_heap hh1 4).trans rfl
      | 5, _ => exact (cell_heap hh1 5).trans rfl
      | 6, _ => exact (cell_heap hh1 6).trans rfl
      | 7, _ => exact (cell_heap hh1 7).trans rfl
      | 8, _ => exact (cell_heap hh1 8).trans rfl
      | 9, _ => exact (cell_heap hh1 9).trans rfl)
  have HH1 := Lib.hid hh1
  clear hh0 hh1
  have hcat : ((⟨([75, 101, c, 58, 32, 118, 97, 108, 117, 101] : List UInt8).toArray⟩ : ByteArray) ++ ⟨#[10]⟩) = ⟨([75, 101, c, 58, 32, 118, 97, 108, 117, 101, 10] : List UInt8).toArray⟩ := ByteArray.mk_append_mk [75, 101, c, 58, 32, 118, 97, 108, 117, 101] [10]
  have hid := Lib.run_convert_bytes_const (P := Tryd.prog) u1 50 5 #[.int .u8 75, .int .u8 101, .int .u8 121, .int .u8 58, .int .u8 32, .int .u8 118, .int .u8 97, .int .u8 108, .int .u8 117, .int .u8 101] 10 10 Tryd.underlying50 Tryd.underlying5
  have hmod : IntKind.i64.wrap ((a : Int) % 10) = 2 := by rw [hm]; rfl
  go_wp2_with fail
  have HBE : Hid (Below w.heap.size w ((u1.alloc (.cells #[.int .u8 75, .int .u8 101, .int .u8 121, .int .u8 58, .int .u8 32, .int .u8 118, .int .u8 97, .int .u8 108, .int .u8 117, .int .u8 101] 5 (10, 11))).setCell ⟨u1.heap.size, 2, none⟩ (.int .u8 (c.toNat : Int)))) := (HB1.out.alloc HB1.out.size _).setCell HB1.out.size _
  clear hcv hid g0 f0 hcat hmod
  generalize (u1.alloc (.cells #[.int .u8 75, .int .u8 101, .int .u8 121, .int .u8 58, .int .u8 32, .int .u8 118, .int .u8 97, .int .u8 108, .int .u8 117, .int .u8 101] 5 (10, 11))).setCell ⟨u1.heap.size, 2, none⟩ (.int .u8 (c.toNat : Int)) = v1 at *
  refine (s5_parse (maxOk_below HM.out HBE.out) _ HX.out HL.out).mono ?_
  rintro _ u2 ⟨A, cc, rfl, _, hb⟩
  have hh2 := (hb.block _ (Array.getElem?_eq_some_iff.1 HH1.out).1).trans HH1.out
  have HB2 := Lib.hid (HBE.out.trans (hb.mono HBE.out.size))
  have g1 : u2.cell? ⟨u1.heap.size, 3, none⟩ = some (.int .u8 58) := (cell_heap hh2 3).trans rfl
  clear hb hh2
  by_cases z0 : 97 ≤ c.toNat ∧ c.toNat ≤ 122
  · have he : (e0 == 0) = true := by
      rw [HE.out]; show Vm.ltr c = true; unfold Vm.ltr; simp; omega
    have q0 : decide ((97 : Int) ≤ (c.toNat : Int)) = true := decide_eq_true (by omega)
    have q1 : decide ((c.toNat : Int) ≤ 122) = true := decide_eq_true (by omega)
    clear z0
    go_wp2_with fail
    go_ret
    exact ⟨rfl, HB2.out⟩
  by_cases z1 : 65 ≤ c.toNat ∧ c.toNat ≤ 90
  · have he : (e0 == 0) = true := by
      rw [HE.out]; show Vm.ltr c = true; unfold Vm.ltr; simp; omega
    have q0 : decide ((97 : Int) ≤ (c.toNat : Int)) = false := decide_eq_false (by omega)
    have q1 : decide ((65 : Int) ≤ (c.toNat : Int)) = true := decide_eq_true (by omega)
    have q2 : decide ((c.toNat : Int) ≤ 90) = true := decide_eq_true (by omega)
    clear z0 z1
    go_wp2_with fail
    go_ret
    exact ⟨rfl, HB2.out⟩
  by_cases z2 : c.toNat = 58
  · have he : (e0 == 0) = false := by
      rw [HE.out]; show Vm.ltr c = false; unfold Vm.ltr; simp; omega
    have q0 : decide ((97 : Int) ≤ (c.toNat : Int)) = false := decide_eq_false (by omega)
    have q1 : decide ((65 : Int) ≤ (c.toNat : Int)) = false := decide_eq_false (by omega)
    have q2 : ((c.toNat : Int) == 58) = true := by rw [beq_iff_eq]; omega
    clear z0 z1 z2
    go_wp2_with fail
    go_ret
    exact ⟨rfl, HB2.out⟩
  by_cases z3 : c.toNat < 65 ∧ c.toNat ≠ 58
  · have he : (e0 == 0) = false := by
      rw [HE.out]; show Vm.ltr c = false; unfold Vm.ltr; simp; omega
    have q0 : decide ((97 : Int) ≤ (c.toNat : Int)) = false := decide_eq_false (by omega)
    have q1 : decide ((65 : Int) ≤ (c.toNat : Int)) = false := decide_eq_false (by omega)
    have q2 : ((c.toNat : Int) == 58) = false := beq_eq_false_iff_ne.2 (by omega)
    clear z0 z1 z2 z3
    go_wp2_with fail
    go_ret
    exact ⟨rfl, HB2.out⟩
  by_cases z4 : 90 < c.toNat ∧ c.toNat < 97
  · have he : (e0 == 0) = false := by
      rw [HE.out]; show Vm.ltr c = false; unfold Vm.ltr; simp; omega
    have q0 : decide ((97 : Int) ≤ (c.toNat : Int)) = false := decide_eq_false (by omega)
    have q1 : decide ((65 : Int) ≤ (c.toNat : Int)) = true := decide_eq_true (by omega)
    have q2 : decide ((c.toNat : Int) ≤ 90) = false := decide_eq_false (by omega)
    have q3 : ((c.toNat : Int) == 58) = false := beq_eq_false_iff_ne.2 (by omega)
    clear z0 z1 z2 z3 z4
    go_wp2_with fail
    go_ret
    exact ⟨rfl, HB2.out⟩
  have he : (e0 == 0) = false := by
    rw [HE.out]; show Vm.ltr c = false; unfold Vm.ltr; simp; omega
  have q0 : decide ((97 : Int) ≤ (c.toNat : Int)) = true := decide_eq_true (by omega)
  have q1 : decide ((c.toNat : Int) ≤ 122) = false := decide_eq_false (by omega)
  have q2 : decide ((65 : Int) ≤ (c.toNat : Int)) = true := decide_eq_true (by omega)
  have q3 : decide ((c.toNat : Int) ≤ 90) = false := decide_eq_false (by omega)
  have q4 : ((c.toNat : Int) == 58) = false := beq_eq_false_iff_ne.2 (by omega)
  clear z0 z1 z2 z3 z4
  go_wp2_with fail
  go_ret
  exact ⟨rfl, HB2.out⟩
end Go.Proofs.YtmhobdlhmkbkdaaDoor
