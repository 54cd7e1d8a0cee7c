/- The law StanzaBytes, walked: the later bytes, and all. -/
import Derived.Test.YtmhobdlhmkbkdaaDoorLsb
namespace Go.Proofs.YtmhobdlhmkbkdaaDoor
open Go.RowKit Go.Maps Sz
attribute [local go_sem ↓] Go.wp_at_zero Go.wp_at_succ
set_option maxRecDepth 100000 in
set_option maxHeartbeats 3200000 in
theorem Sz.stanzaBytes_3 (c : UInt8) (a : Nat) (ha : a < 256) (hk : a % 10 = 3) (w : World) (hw : MaxOk w) :
    Calls Tryd.prog 6 #[.int .u8 c.toNat, .int .u8 a] w fun e w' => e = .returned (.bool true) ∧ Below w.heap.size w w' := by
  have HM := Lib.hid hw
  have hm : (a : Int) % 10 = 3 := by omega
  obtain ⟨X, hX⟩ : ∃ X, parseS (turned 3 c) = X := ⟨_, rfl⟩
  obtain ⟨e0, n0, r⟩ := X
  have HE : Hid ((e0 == 0) = mayB 3 c) := by
    have := turned_is 3 (by decide) c
    rw [hX] at this
    exact this
  have HX : Hid (parseS [75, 101, 121, c, 32, 118, 97, 108, 117, 101, 10] = (e0, n0, r)) := hX
  obtain ⟨m, hm2⟩ : ∃ m, r.length = m := ⟨_, rfl⟩
  have HL := Lib.hid hm2
  clear hw hX hm2 hk
  go_enter Tryd.func6, Tryd.ntmps6
  go_wp2_with fail
  refine (known5_any _ HM.out).mono ?_
  rintro _ u1 ⟨rfl, hb⟩
  have HB1 := Lib.hid hb
  clear hb
  have hh0 : (u1.alloc (.cells #[.int .u8 75, .int .u8 101, .int .u8 121, .int .u8 58, .int .u8 32, .int .u8 118, .int .u8 97, .int .u8 108, .int .u8 117, .int .u8 101] 5 (10, 11))).heap[u1.heap.size]? = some (.cells #[.int .u8 75, .int .u8 101, .int .u8 121, .int .u8 58, .int .u8 32, .int .u8 118, .int .u8 97, .int .u8 108, .int .u8 117, .int .u8 101] 5 (10, 11)) := heap_alloc_new u1 _
  have g0 : (u1.alloc (.cells #[.int .u8 75, .int .u8 101, .int .u8 121, .int .u8 58, .int .u8 32, .int .u8 118, .int .u8 97, .int .u8 108, .int .u8 117, .int .u8 101] 5 (10, 11))).cell? ⟨u1.heap.size, 3, none⟩ = some (.int .u8 58) := (cell_heap hh0 3).trans rfl
  have f0 : (u1.alloc (.cells #[.int .u8 75, .int .u8 101, .int .u8 121, .int .u8 58, .int .u8 32, .int .u8 118, .int .u8 97, .int .u8 108, .int .u8 117, .int .u8 101] 5 (10, 11))).frozen? ⟨u1.heap.size, 3, none⟩ = false := frozen_heap hh0 3 (by decide)
  have hh1 : ((u1.alloc (.cells #[.int .u8 75, .int .u8 101, .int .u8 121, .int .u8 58, .int .u8 32, .int .u8 118, .int .u8 97, .int .u8 108, .int .u8 117, .int .u8 101] 5 (10, 11))).setCell ⟨u1.heap.size, 3, none⟩ (.int .u8 (c.toNat : Int))).heap[u1.heap.size]? = some (.cells #[.int .u8 75, .int .u8 101, .int .u8 121, .int .u8 (c.toNat : Int), .int .u8 32, .int .u8 118, .int .u8 97, .int .u8 108, .int .u8 117, .int .u8 101] 5 (10, 11)) := by
    obtain ⟨V, hV⟩ : ∃ V, u1.alloc (.cells #[.int .u8 75, .int .u8 101, .int .u8 121, .int .u8 58, .int .u8 32, .int .u8 118, .int .u8 97, .int .u8 108, .int .u8 117, .int .u8 101] 5 (10, 11)) = V := ⟨_, rfl⟩
    rw [hV] at hh0 ⊢
    simp [World.setCell, Array.getElem?_modify, hh0]
  have hcv : (convert 50 9 (.slice (some ⟨u1.heap.size, 0, none⟩) 10 10)).run Tryd.prog ((u1.alloc (.cells #[.int .u8 75, .int .u8 101, .int .u8 121, .int .u8 58, .int .u8 32, .int .u8 118, .int .u8 97, .int .u8 108, .int .u8 117, .int .u8 101] 5 (10, 11))).setCell ⟨u1.heap.size, 3, none⟩ (.int .u8 (c.toNat : Int))) = .ok (.string ⟨([75, 101, 121, c, 32, 118, 97, 108, 117, 101] : List UInt8).toArray⟩) ((u1.alloc (.cells #[.int .u8 75, .int .u8 101, .int .u8 121, .int .u8 58, .int .u8 32, .int .u8 118, .int .u8 97, .int .u8 108, .int .u8 117, .int .u8 101] 5 (10, 11))).setCell ⟨u1.heap.size, 3, none⟩ (.int .u8 (c.toNat : Int))) :=
    conv_list _ _ 10 [75, 101, 121, c, 32, 118, 97, 108, 117, 101] (fun j hj => by
      match j, hj with
      | 0, _ => exact (cell_heap hh1 0).trans rfl
      | 1, _ => exact (cell_heap hh1 1).trans rfl
      | 2, _ => exact (cell_heap hh1 2).trans rfl
      | 3, _ => exact (cell_heap hh1 3).trans rfl
      | 4, _ => exact (cell_heap hh1 4).trans rfl
      | 5, _ => exact (cell_heap hh1 5).trans rfl
      | 6, _ => exact (cell_heap hh1 6).trans rfl
      | 7, _ => exact (cell_heap hh1 7).trans rfl
      | 8, _ => exact (cell_heap hh1 8).trans rfl
      | 9, _ => exact (cell_heap hh1 9).trans rfl)
  have HH1 := Lib.hid hh1
  clear hh0 hh1
  have hcat : ((⟨([75, 101, 121, c, 32, 118, 97, 108, 117, 101] : List UInt8).toArray⟩ : ByteArray) ++ ⟨#[10]⟩) = ⟨([75, 101, 121, c, 32, 118, 97, 108, 117, 101, 10] : List UInt8).toArray⟩ := ByteArray.mk_append_mk [75, 101, 121, c, 32, 118, 97, 108, 117, 101] [10]
  have hid := Lib.run_convert_bytes_const (P := Tryd.prog) u1 50 5 #[.int .u8 75, .int .u8 101, .int .u8 121, .int .u8 58, .int .u8 32, .int .u8 118, .int .u8 97, .int .u8 108, .int .u8 117, .int .u8 101] 10 10 Tryd.underlying50 Tryd.underlying5
  have hmod : IntKind.i64.wrap ((a : Int) % 10) = 3 := by rw [hm]; rfl
  go_wp2_with fail
  have HBE : Hid (Below w.heap.size w ((u1.alloc (.cells #[.int .u8 75, .int .u8 101, .int .u8 121, .int .u8 58, .int .u8 32, .int .u8 118, .int .u8 97, .int .u8 108, .int .u8 117, .int .u8 101] 5 (10, 11))).setCell ⟨u1.heap.size, 3, none⟩ (.int .u8 (c.toNat : Int)))) := (HB1.out.alloc HB1.out.size _).setCell HB1.out.size _
  clear hcv hid g0 f0 hcat hmod
  generalize (u1.alloc (.cells #[.int .u8 75, .int .u8 101, .int .u8 121, .int .u8 58, .int .u8 32, .int .u8 118, .int .u8 97, .int .u8 108, .int .u8 117, .int .u8 101] 5 (10, 11))).setCell ⟨u1.heap.size, 3, none⟩ (.int .u8 (c.toNat : Int)) = v1 at *
  refine (s5_parse (maxOk_below HM.out HBE.out) _ HX.out HL.out).mono ?_
  rintro _ u2 ⟨A, cc, rfl, _, hb⟩
  have hh2 := (hb.block _ (Array.getElem?_eq_some_iff.1 HH1.out).1).trans HH1.out
  have HB2 := Lib.hid (HBE.out.trans (hb.mono HBE.out.size))
  have g1 : u2.cell? ⟨u1.heap.size, 4, none⟩ = some (.int .u8 32) := (cell_heap hh2 4).trans rfl
  clear hb hh2
  by_cases z0 : c.toNat = 58
  · have he : (e0 == 0) = true := by
      rw [HE.out]; show (c == 58) = true; rw [beq_iff_eq]; exact UInt8.toNat_inj.1 (by show c.toNat = 58; omega)
    have q0 : ((c.toNat : Int) == 58) = true := by rw [beq_iff_eq]; omega
    clear z0
    go_wp2_with fail
    go_ret
    exact ⟨rfl, HB2.out⟩
  have he : (e0 == 0) = false := by
    rw [HE.out]; show (c == 58) = false; refine beq_eq_false_iff_ne.2 fun e => ?_
    have : c.toNat = 58 := by rw [e]; rfl
    omega
  have q0 : ((c.toNat : Int) == 58) = false := beq_eq_false_iff_ne.2 (by omega)
  clear z0
  go_wp2_with fail
  go_ret
  exact ⟨rfl, HB2.out⟩
set_option maxRecDepth 100000 in
set_option maxHeartbeats 3200000 in
theorem Sz.stanzaBytes_4 (c : UInt8) (a : Nat) (ha : a < 256) (hk : a % 10 = 4) (w : World) (hw : MaxOk w) :
    Calls Tryd.prog 6 #[.int .u8 c.toNat, .int .u8 a] w fun e w' => e = .returned (.bool true) ∧ Below w.heap.size w w' := by
  have HM := Lib.hid hw
  have hm : (a : Int) % 10 = 4 := by omega
  obtain ⟨X, hX⟩ : ∃ X, parseS (turned 4 c) = X := ⟨_, rfl⟩
  obtain ⟨e0, n0, r⟩ := X
  have HE : Hid ((e0 == 0) = mayB 4 c) := by
    have := turned_is 4 (by decide) c
    rw [hX] at this
    exact this
  have HX : Hid (parseS [75, 101, 121, 58, c, 118, 97, 108, 117, 101, 10] = (e0, n0, r)) := hX
  obtain ⟨m, hm2⟩ : ∃ m, r.length = m := ⟨_, rfl⟩
  have HL := Lib.hid hm2
  clear hw hX hm2 hk
  go_enter Tryd.func6, Tryd.ntmps6
  go_wp2_with fail
  refine (known5_any _ HM.out).mono ?_
  rintro _ u1 ⟨rfl, hb⟩
  have HB1 := Lib.hid hb
  clear hb
  have hh0 : (u1.alloc (.cells #[.int .u8 75, .int .u8 101, .int .u8 121, .int .u8 58, .int .u8 32, .int .u8 118, .int .u8 97, .int .u8 108, .int .u8 117, .int .u8 101] 5 (10, 11))).heap[u1.heap.size]? = some (.cells #[.int .u8 75, .int .u8 101, .int .u8 121, .int .u8 58, .int .u8 32, .int .u8 118, .int .u8 97, .int .u8 108, .int .u8 117, .int .u8 101] 5 (10, 11)) := heap_alloc_new u1 _
  have g0 : (u1.alloc (.cells #[.int .u8 75, .int .u8 101, .int .u8 121, .int .u8 58, .int .u8 32, .int .u8 118, .int .u8 97, .int .u8 108, .int .u8 117, .int .u8 101] 5 (10, 11))).cell? ⟨u1.heap.size, 4, none⟩ = some (.int .u8 32) := (cell_heap hh0 4).trans rfl
  have f0 : (u1.alloc (.cells #[.int .u8 75, .int .u8 101, .int .u8 121, .int .u8 58, .int .u8 32, .int .u8 118, .int .u8 97, .int .u8 108, .int .u8 117, .int .u8 101] 5 (10, 11))).frozen? ⟨u1.heap.size, 4, none⟩ = false := frozen_heap hh0 4 (by decide)
  have hh1 : ((u1.alloc (.cells #[.int .u8 75, .int .u8 101, .int .u8 121, .int .u8 58, .int .u8 32, .int .u8 118, .int .u8 97, .int .u8 108, .int .u8 117, .int .u8 101] 5 (10, 11))).setCell ⟨u1.heap.size, 4, none⟩ (.int .u8 (c.toNat : Int))).heap[u1.heap.size]? = some (.cells #[.int .u8 75, .int .u8 101, .int .u8 121, .int .u8 58, .int .u8 (c.toNat : Int), .int .u8 118, .int .u8 97, .int .u8 108, .int .u8 117, .int .u8 101] 5 (10, 11)) := by
    obtain ⟨V, hV⟩ : ∃ V, u1.alloc (.cells #[.int .u8 75, .int .u8 101, .int .u8 121, .int .u8 58, .int .u8 32, .int .u8 118, .int .u8 97, .int .u8 108, .int .u8 117, .int .u8 101] 5 (10, 11)) = V := ⟨_, rfl⟩
    rw [hV] at hh0 ⊢
    simp [World.setCell, Array.getElem?_modify, hh0]
  have hcv : (convert 50 9 (.slice (some ⟨u1.heap.size, 0, none⟩) 10 10)).run Tryd.prog ((u1.alloc (.cells #[.int .u8 75, .int .u8 101, .int .u8 121, .int .u8 58, .int .u8 32, .int .u8 118, .int .u8 97, .int .u8 108, .int .u8 117, .int .u8 101] 5 (10, 11))).setCell ⟨u1.heap.size, 4, none⟩ (.int .u8 (c.toNat : Int))) = .ok (.string ⟨([75, 101, 121, 58, c, 118, 97, 108, 117, 101] : List UInt8).toArray⟩) ((u1.alloc (.cells #[.int .u8 75, .int .u8 101, .int .u8 121, .int .u8 58, .int .u8 32, .int .u8 118, .int .u8 97, .int .u8 108, .int .u8 117, .int .u8 101] 5 (10, 11))).setCell ⟨u1.heap.size, 4, none⟩ (.int .u8 (c.toNat : Int))) :=
    conv_list _ _ 10 [75, 101, 121, 58, c, 118, 97, 108, 117, 101] (fun j hj => by
      match j, hj with
      | 0, _ => exact (cell_heap hh1 0).trans rfl
      | 1, _ => exact (cell_heap hh1 1).trans rfl
      | 2, _ => exact (cell_heap hh1 2).trans rfl
      | 3, _ => exact (cell_heap hh1 3).trans rfl
      | 4, _ => exact (cell_heap hh1 4).trans rfl
      | 5, _ => exact (cell_heap hh1 5).trans rfl
      | 6, _ => exact (cell_heap hh1 6).trans rfl
      | 7, _ => exact (cell_heap hh1 7).trans rfl
      | 8, _ => exact (cell_heap hh1 8).trans rfl
      | 9, _ => exact (cell_heap hh1 9).trans rfl)
  have HH1 := Lib.hid hh1
  clear hh0 hh1
  have hcat : ((⟨([75, 101, 121, 58, c, 118, 97, 108, 117, 101] : List UInt8).toArray⟩ : ByteArray) ++ ⟨#[10]⟩) = ⟨([75, 101, 121, 58, c, 118, 97, 108, 117, 101, 10] : List UInt8).toArray⟩ := ByteArray.mk_append_mk [75, 101, 121, 58, c, 118, 97, 108, 117, 101] [10]
  have hid := Lib.run_convert_bytes_const (P := Tryd.prog) u1 50 5 #[.int .u8 75, .int .u8 101, .int .u8 121, .int .u8 58, .int .u8 32, .int .u8 118, .int .u8 97, .int .u8 108, .int .u8 117, .int .u8 101] 10 10 Tryd.underlying50 Tryd.underlying5
  have hmod : IntKind.i64.wrap ((a : Int) % 10) = 4 := by rw [hm]; rfl
  go_wp2_with fail
  have HBE : Hid (Below w.heap.size w ((u1.alloc (.cells #[.int .u8 75, .int .u8 101, .int .u8 121, .int .u8 58, .int .u8 32, .int .u8 118, .int .u8 97, .int .u8 108, .int .u8 117, .int .u8 101] 5 (10, 11))).setCell ⟨u1.heap.size, 4, none⟩ (.int .u8 (c.toNat : Int)))) := (HB1.out.alloc HB1.out.size _).setCell HB1.out.size _
  clear hcv hid g0 f0 hcat hmod
  generalize (u1.alloc (.cells #[.int .u8 75, .int .u8 101, .int .u8 121, .int .u8 58, .int .u8 32, .int .u8 118, .int .u8 97, .int .u8 108, .int .u8 117, .int .u8 101] 5 (10, 11))).setCell ⟨u1.heap.size, 4, none⟩ (.int .u8 (c.toNat : Int)) = v1 at *
  refine (s5_parse (maxOk_below HM.out HBE.out) _ HX.out HL.out).mono ?_
  rintro _ u2 ⟨A, cc, rfl, _, hb⟩
  have hh2 := (hb.block _ (Array.getElem?_eq_some_iff.1 HH1.out).1).trans HH1.out
  have HB2 := Lib.hid (HBE.out.trans (hb.mono HBE.out.size))
  have g1 : u2.cell? ⟨u1.heap.size, 5, none⟩ = some (.int .u8 118) := (cell_heap hh2 5).trans rfl
  clear hb hh2
  by_cases z0 : c.toNat = 32
  · have he : (e0 == 0) = true := by
      rw [HE.out]; show (c == 32) = true; rw [beq_iff_eq]; exact UInt8.toNat_inj.1 (by show c.toNat = 32; omega)
    have q0 : ((c.toNat : Int) == 32) = true := by rw [beq_iff_eq]; omega
    clear z0
    go_wp2_with fail
    go_ret
    exact ⟨rfl, HB2.out⟩
  have he : (e0 == 0) = false := by
    rw [HE.out]; show (c == 32) = false; refine beq_eq_false_iff_ne.2 fun e => ?_
    have : c.toNat = 32 := by rw [e]; rfl
    omega
  have q0 : ((c.toNat : Int) == 32) = false := beq_eq_false_iff_ne.2 (by omega)
  clear z0
  go_wp2_with fail
  go_ret
  exact ⟨rfl, HB2.out⟩
set_option maxRecDepth 100000 in
set_option maxHeartbeats 3200000 in
theorem Sz.stanzaBytes_5 (c : UInt8) (a : Nat) (ha : a < 256) (hk : a % 10 = 5) (w : World) (hw : MaxOk w) :
    Calls Tryd.prog 6 #[.int .u8 c.toNat, .int .u8 a] w fun e w' => e = .returned (.bool true) ∧ Below w.heap.size w w' := by
  have HM := Lib.hid hw
  have hm : (a : Int) % 10 = 5 := by omega
  obtain ⟨X, hX⟩ : ∃ X, parseS (turned 5 c) = X := ⟨_, rfl⟩
  obtain ⟨e0, n0, r⟩ := X
  have HE : Hid ((e0 == 0) = mayB 5 c) := by
    have := turned_is 5 (by decide) c
    rw [hX] at this
    exact this
  have HX : Hid (parseS [75, 101, 121, 58, 32, c, 97, 108, 117, 101, 10] = (e0, n0, r)) := hX
  obtain ⟨m, hm2⟩ : ∃ m, r.length = m := ⟨_, rfl⟩
  have HL := Lib.hid hm2
  clear hw hX hm2 hk
  go_enter Tryd.func6, Tryd.ntmps6
  go_wp2_with fail
  refine (known5_any _ HM.out).mono ?_
  rintro _ u1 ⟨rfl, hb⟩
  have HB1 := Lib.hid hb
  clear hb
  have hh0 : (u1.alloc (.cells #[.int .u8 75, .int .u8 101, .int .u8 121, .int .u8 58, .int .u8 32, .int .u8 118, .int .u8 97, .int .u8 108, .int .u8 117, .int .u8 101] 5 (10, 11))).heap[u1.heap.size]? = some (.cells #[.int .u8 75, .int .u8 101, .int .u8 121, .int .u8 58, .int .u8 32, .int .u8 118, .int .u8 97, .int .u8 108, .int .u8 117, .int .u8 101] 5 (10, 11)) := heap_alloc_new u1 _
  have g0 : (u1.alloc (.cells #[.int .u8 75, .int .u8 101, .int .u8 121, .int .u8 58, .int .u8 32, .int .u8 118, .int .u8 97, .int .u8 108, .int .u8 117, .int .u8 101] 5 (10, 11))).cell? ⟨u1.heap.size, 5, none⟩ = some (.int .u8 118) := (cell_heap hh0 5).trans rfl
  have f0 : (u1.alloc (.cells #[.int .u8 75, .int .u8 101, .int .u8 121, .int .u8 58, .int .u8 32, .int .u8 118, .int .u8 97, .int .u8 108, .int .u8 117, .int .u8 101] 5 (10, 11))).frozen? ⟨u1.heap.size, 5, none⟩ = false := frozen_heap hh0 5 (by decide)
  have hh1 : ((u1.alloc (.cells #[.int .u8 75, .int .u8 101, .int .u8 121, .int .u8 58, .int .u8 32, .int .u8 118, .int .u8 97, .int .u8 108, .int .u8 117, .int .u8 101] 5 (10, 11))).setCell ⟨u1.heap.size, 5, none⟩ (.int .u8 (c.toNat : Int))).heap[u1.heap.size]? = some (.cells #[.int .u8 75, .int .u8 101, .int .u8 121, .int .u8 58, .int .u8 32, .int .u8 (c.toNat : Int), .int .u8 97, .int .u8 108, .int .u8 117, .int .u8 101] 5 (10, 11)) := by
    obtain ⟨V, hV⟩ : ∃ V, u1.alloc (.cells #[.int .u8 75, .int .u8 101, .int .u8 121, .int .u8 58, .int .u8 32, .int .u8 118, .int .u8 97, .int .u8 108, .int .u8 117, .int .u8 101] 5 (10, 11)) = V := ⟨_, rfl⟩
    rw [hV] at hh0 ⊢
    simp [World.setCell, Array.getElem?_modify, hh0]
  have hcv : (convert 50 9 (.slice (some ⟨u1.heap.size, 0, none⟩) 10 10)).run Tryd.prog ((u1.alloc (.cells #[.int .u8 75, .int .u8 101, .int .u8 121, .int .u8 58, .int .u8 32, .int .u8 118, .int .u8 97, .int .u8 108, .int .u8 117, .int .u8 101] 5 (10, 11))).setCell ⟨u1.heap.size, 5, none⟩ (.int .u8 (c.toNat : Int))) = .ok (.string ⟨([75, 101, 121, 58, 32, c, 97, 108, 117, 101] : List UInt8).toArray⟩) ((u1.alloc (.cells #[.int .u8 75, .int .u8 101, .int .u8 121, .int .u8 58, .int .u8 32, .int .u8 118, .int .u8 97, .int .u8 108, .int .u8 117, .int .u8 101] 5 (10, 11))).setCell ⟨u1.heap.size, 5, none⟩ (.int .u8 (c.toNat : Int))) :=
    conv_list _ _ 10 [75, 101, 121, 58, 32, c, 97, 108, 117, 101] (fun j hj => by
      match j, hj with
      | 0, _ => exact (cell_heap hh1 0).trans rfl
      | 1, _ => exact (cell_heap hh1 1).trans rfl
      | 2, _ => exact (cell_heap hh1 2).trans rfl
      | 3, _ => exact (cell_heap hh1 3).trans rfl
      | 4, _ => exact (cell_heap hh1 4).trans rfl
      | 5, _ => exact (cell_heap hh1 5).trans rfl
      | 6, _ => exact (cell_heap hh1 6).trans rfl
      | 7, _ => exact (cell_heap hh1 7).trans rfl
      | 8, _ => exact (cell_heap hh1 8).trans rfl
      | 9, _ => exact (cell_heap hh1 9).trans rfl)
  have HH1 := Lib.hid hh1
  clear hh0 hh1
  have hcat : ((⟨([75, 101, 121, 58, 32, c, 97, 108, 117, 101] : List UInt8).toArray⟩ : ByteArray) ++ ⟨#[10]⟩) = ⟨([75, 101, 121, 58, 32, c, 97, 108, 117, 101, 10] : List UInt8).toArray⟩ := ByteArray.mk_append_mk [75, 101, 121, 58, 32, c, 97, 108, 117, 101] [10]
  have hid := Lib.run_convert_bytes_const (P := Tryd.prog) u1 50 5 #[.int .u8 75, .int .u8 101, .int .u8 121, .int .u8 58, .int .u8 32, .int .u8 118, .int .u8 97, .int .u8 108, .int .u8 117, .int .u8 101] 10 10 Tryd.underlying50 Tryd.underlying5
  have hmod : IntKind.i64.wrap ((a : Int) % 10) = 5 := by rw [hm]; rfl
  go_wp2_with fail
  have HBE : Hid (Below w.heap.size w ((u1.alloc (.cells #[.int .u8 75, .int .u8 101, .int .u8 121, .int .u8 58, .int .u8 32, .int .u8 118, .int .u8 97, .int .u8 108, .int .u8 117, .int .u8 101] 5 (10, 11))).setCell ⟨u1.heap.size, 5, none⟩ (.int .u8 (c.toNat : Int)))) := (HB1.out.alloc HB1.out.size _).setCell HB1.out.size _
  clear hcv hid g0 f0 hcat hmod
  generalize (u1.alloc (.cells #[.int .u8 75, .int .u8 101, .int .u8 121, .int .u8 58, .int .u8 32, .int .u8 118, .int .u8 97, .int .u8 108, .int .u8 117, .int .u8 101] 5 (10, 11))).setCell ⟨u1.heap.size, 5, none⟩ (.int .u8 (c.toNat : Int)) = v1 at *
  refine (s5_parse (maxOk_below HM.out HBE.out) _ HX.out HL.out).mono ?_
  rintro _ u2 ⟨A, cc, rfl, _, hb⟩
  have hh2 := (hb.block _ (Array.getElem?_eq_some_iff.1 HH1.out).1).trans HH1.out
  have HB2 := Lib.hid (HBE.out.trans (hb.mono HBE.out.size))
  have g1 : u2.cell? ⟨u1.heap.size, 6, none⟩ = some (.int .u8 97) := (cell_heap hh2 6).trans rfl
  clear hb hh2
  by_cases z0 : c.toNat < 32
  · have he : (e0 == 0) = false := by
      rw [HE.out]; show valC c = false; unfold valC; simp; omega
    have q0 : decide ((32 : Int) ≤ (c.toNat : Int)) = false := decide_eq_false (by omega)
    clear z0
    go_wp2_with fail
    go_ret
    exact ⟨rfl, HB2.out⟩
  by_cases z1 : 32 ≤ c.toNat ∧ c.toNat ≤ 126
  · have he : (e0 == 0) = true := by
      rw [HE.out]; show valC c = true; unfold valC; simp; omega
    have q0 : decide ((32 : Int) ≤ (c.toNat : Int)) = true := decide_eq_true (by omega)
    have q1 : decide ((c.toNat : Int) ≤ 126) = true := decide_eq_true (by omega)
    clear z0 z1
    go_wp2_with fail
    go_ret
    exact ⟨rfl, HB2.out⟩
  have he : (e0 == 0) = false := by
    rw [HE.out]; show valC c = false; unfold valC; simp; omega
  have q0 : decide ((32 : Int) ≤ (c.toNat : Int)) = true := decide_eq_true (by omega)
  have q1 : decide ((c.toNat : Int) ≤ 126) = false := decide_eq_false (by omega)
  clear z0 z1
  go_wp2_with fail
  go_ret
  exact ⟨rfl, HB2.out⟩
set_option maxRecDepth 100000 in
set_option maxHeartbeats 3200000 in
theorem Sz.stanzaBytes_6 (c : UInt8) (a : Nat) (ha : a < 256) (hk : a % 10 = 6) (w : World) (hw : MaxOk w) :
    Calls Tryd.prog 6 #[.int .u8 c.toNat, .int .u8 a] w fun e w' => e = .returned (.bool true) ∧ Below w.heap.size w w' := by
  have HM := Lib.hid hw
  have hm : (a : Int) % 10 = 6 := by omega
  obtain ⟨X, hX⟩ : ∃ X, parseS (turned 6 c) = X := ⟨_, rfl⟩
  obtain ⟨e0, n0, r⟩ := X
  have HE : Hid ((e0 == 0) = mayB 6 c) := by
    have := turned_is 6 (by decide) c
    rw [hX] at this
    exact this
  have HX : Hid (parseS [75, 101, 121, 58, 32, 118, c, 108, 117, 101, 10] = (e0, n0, r)) := hX
  obtain ⟨m, hm2⟩ : ∃ m, r.length = m := ⟨_, rfl⟩
  have HL := Lib.hid hm2
  clear hw hX hm2 hk
  go_enter Tryd.func6, Tryd.ntmps6
  go_wp2_with fail
  refine (known5_any _ HM.out).mono ?_
  rintro _ u1 ⟨rfl, hb⟩
  have HB1 := Lib.hid hb
  clear hb
  have hh0 : (u1.alloc (.cells #[.int .u8 75, .int .u8 101, .int .u8 121, .int .u8 58, .int .u8 32, .int .u8 118, .int .u8 97, .int .u8 108, .int .u8 117, .int .u8 101] 5 (10, 11))).heap[u1.heap.size]? = some (.cells #[.int .u8 75, .int .u8 101, .int .u8 121, .int .u8 58, .int .u8 32, .int .u8 118, .int .u8 97, .int .u8 108, .int .u8 117, .int .u8 101] 5 (10, 11)) := heap_alloc_new u1 _
  have g0 : (u1.alloc (.cells #[.int .u8 75, .int .u8 101, .int .u8 121, .int .u8 58, .int .u8 32, .int .u8 118, .int .u8 97, .int .u8 108, .int .u8 117, .int .u8 101] 5 (10, 11))).cell? ⟨u1.heap.size, 6, none⟩ = some (.int .u8 97) := (cell_heap hh0 6).trans rfl
  have f0 : (u1.alloc (.cells #[.int .u8 75, .int .u8 101, .int .u8 121, .int .u8 58, .int .u8 32, .int .u8 118, .int .u8 97, .int .u8 108, .int .u8 117, .int .u8 101] 5 (10, 11))).frozen? ⟨u1.heap.size, 6, none⟩ = false := frozen_heap hh0 6 (by decide)
  have hh1 : ((u1.alloc (.cells #[.int .u8 75, .int .u8 101, .int .u8 121, .int .u8 58, .int .u8 32, .int .u8 118, .int .u8 97, .int .u8 108, .int .u8 117, .int .u8 101] 5 (10, 11))).setCell ⟨u1.heap.size, 6, none⟩ (.int .u8 (c.toNat : Int))).heap[u1.heap.size]? = some (.cells #[.int .u8 75, .int .u8 101, .int .u8 121, .int .u8 58, .int .u8 32, .int .u8 118, .int .u8 (c.toNat : Int), .int .u8 108, .int .u8 117, .int .u8 101] 5 (10, 11)) := by
    obtain ⟨V, hV⟩ : ∃ V, u1.alloc (.cells #[.int .u8 75, .int .u8 101, .int .u8 121, .int .u8 58, .int .u8 32, .int .u8 118, .int .u8 97, .int .u8 108, .int .u8 117, .int .u8 101] 5 (10, 11)) = V := ⟨_, rfl⟩
    rw [hV] at hh0 ⊢
    simp [World.setCell, Array.getElem?_modify, hh0]
  have hcv : (convert 50 9 (.slice (some ⟨u1.heap.size, 0, none⟩) 10 10)).run Tryd.prog ((u1.alloc (.cells #[.int .u8 75, .int .u8 101, .int .u8 121, .int .u8 58, .int .u8 32, .int .u8 118, .int .u8 97, .int .u8 108, .int .u8 117, .int .u8 101] 5 (10, 11))).setCell ⟨u1.heap.size, 6, none⟩ (.int .u8 (c.toNat : Int))) = .ok (.string ⟨([75, 101, 121, 58, 32, 118, c, 108, 117, 101] : List UInt8).toArray⟩) ((u1.alloc (.cells #[.int .u8 75, .int .u8 101, .int .u8 121, .int .u8 58, .int .u8 32, .int .u8 118, .int .u8 97, .int .u8 108, .int .u8 117, .int .u8 101] 5 (10, 11))).setCell ⟨u1.heap.size, 6, none⟩ (.int .u8 (c.toNat : Int))) :=
    conv_list _ _ 10 [75, 101, 121, 58, 32, 118, c, 108, 117, 101] (fun j hj => by
      match j, hj with
      | 0, _ => exact (cell_heap hh1 0).trans rfl
      | 1, _ => exact (cell_heap hh1 1).trans rfl
      | 2, _ => exact (cell_heap hh1 2).trans rfl
      | 3, _ => exact (cell_heap hh1 3).trans rfl
      | 4, _ => exact (cell_heap hh1 4).trans rfl
      | 5, _ => exact (cell_heap hh1 5).trans rfl
      | 6, _ => exact (cell_heap hh1 6).trans rfl
      | 7, _ => exact (cell_heap hh1 7).trans rfl
      | 8, _ => exact (cell_heap hh1 8).trans rfl
      | 9, _ => exact (cell_heap hh1 9).trans rfl)
  have HH1 := Lib.hid hh1
  clear hh0 hh1
  have hcat : ((⟨([75, 101, 121, 58, 32, 118, c, 108, 117, 101] : List UInt8).toArray⟩ : ByteArray) ++ ⟨#[10]⟩) = ⟨([75, 101, 121, 58, 32, 118, c, 108, 117, 101, 10] : List UInt8).toArray⟩ := ByteArray.mk_append_mk [75, 101, 121, 58, 32, 118, c, 108, 117, 101] [10]
  have hid := Lib.run_convert_bytes_const (P := Tryd.prog) u1 50 5 #[.int .u8 75, .int .u8 101, .int .u8 121, .int .u8 58, .int .u8 32, .int .u8 118, .int .u8 97, .int .u8 108, .int .u8 117, .int .u8 101] 10 10 Tryd.underlying50 Tryd.underlying5
  have hmod : IntKind.i64.wrap ((a : Int) % 10) = 6 := by rw [hm]; rfl
  go_wp2_with fail
  have HBE : Hid (Below w.heap.size w ((u1.alloc (.cells #[.int .u8 75, .int .u8 101, .int .u8 121, .int .u8 58, .int .u8 32, .int .u8 118, .int .u8 97, .int .u8 108, .int .u8 117, .int .u8 101] 5 (10, 11))).setCell ⟨u1.heap.size, 6, none⟩ (.int .u8 (c.toNat : Int)))) := (HB1.out.alloc HB1.out.size _).setCell HB1.out.size _
  clear hcv hid g0 f0 hcat hmod
  generalize (u1.alloc (.cells #[.int .u8 75, .int .u8 101, .int .u8 121, .int .u8 58, .int .u8 32, .int .u8 118, .int .u8 97, .int .u8 108, .int .u8 117, .int .u8 101] 5 (10, 11))).setCell ⟨u1.heap.size, 6, none⟩ (.int .u8 (c.toNat : Int)) = v1 at *
  refine (s5_parse (maxOk_below HM.out HBE.out) _ HX.out HL.out).mono ?_
  rintro _ u2 ⟨A, cc, rfl, _, hb⟩
  have hh2 := (hb.block _ (Array.getElem?_eq_some_iff.1 HH1.out).1).trans HH1.out
  have HB2 := Lib.hid (HBE.out.trans (hb.mono HBE.out.size))
  have g1 : u2.cell? ⟨u1.heap.size, 7, none⟩ = some (.int .u8 108) := (cell_heap hh2 7).trans rfl
  clear hb hh2
  by_cases z0 : c.toNat < 32
  · have he : (e0 == 0) = false := by
      rw [HE.out]; show valC c = false; unfold valC; simp; omega
    have q0 : decide ((32 : Int) ≤ (c.toNat : Int)) = false := decide_eq_false (by omega)
    clear z0
    go_wp2_with fail
    go_ret
    exact ⟨rfl, HB2.out⟩
  by_cases z1 : 32 ≤ c.toNat ∧ c.toNat ≤ 126
  · have he : (e0 == 0) = true := by
      rw [HE.out]; show valC c = true; unfold valC; simp; omega
    have q0 : decide ((32 : Int) ≤ (c.toNat : Int)) = true := decide_eq_true (by omega)
    have q1 : decide ((c.toNat : Int) ≤ 126) = true := decide_eq_true (by omega)
    clear z0 z1
    go_wp2_with fail
    go_ret
    exact ⟨rfl, HB2.out⟩
  have he : (e0 == 0) = false := by
    rw [HE.out]; show valC c = false; unfold valC; simp; omega
  have q0 : decide ((32 : Int) ≤ (c.toNat : Int)) = true := decide_eq_true (by omega)
  have q1 : decide ((c.toNat : Int) ≤ 126) = false := decide_eq_false (by omega)
  clear z0 z1
  go_wp2_with fail
  go_ret
  exact ⟨rfl, HB2.out⟩
set_option maxRecDepth 100000 in
set_option maxHeartbeats 3200000 in
theorem Sz.stanzaBytes_7 (c : UInt8) (a : Nat) (ha : a < 256) (hk : a % 10 = 7) (w : World) (hw : MaxOk w) :
    Calls Tryd.prog 6 #[.int .u8 c.toNat, .int .u8 a] w fun e w' => e = .returned (.bool true) ∧ Below w.heap.size w w' := by
  have HM := Lib.hid hw
  have hm : (a : Int) % 10 = 7 := by omega
  obtain ⟨X, hX⟩ : ∃ X, parseS (turned 7 c) = X := ⟨_, rfl⟩
  obtain ⟨e0, n0, r⟩ := X
  have HE : Hid ((e0 == 0) = mayB 7 c) := by
    have := turned_is 7 (by decide) c
    rw [hX] at this
    exact this
  have HX : Hid (parseS [75, 101, 121, 58, 32, 118, 97, c, 117, 101, 10] = (e0, n0, r)) := hX
  obtain ⟨m, hm2⟩ : ∃ m, r.length = m := ⟨_, rfl⟩
  have HL := Lib.hid hm2
  clear hw hX hm2 hk
  go_enter Tryd.func6, Tryd.ntmps6
  go_wp2_with fail
  refine (known5_any _ HM.out).mono ?_
  rintro _ u1 ⟨rfl, hb⟩
  have HB1 := Lib.hid hb
  clear hb
  have hh0 : (u1.alloc (.cells #[.int .u8 75, .int .u8 101, .int .u8 121, .int .u8 58, .int .u8 32, .int .u8 118, .int .u8 97, .int .u8 108, .int .u8 117, .int .u8 101] 5 (10, 11))).heap[u1.heap.size]? = some (.cells #[.int .u8 75, .int .u8 101, .int .u8 121, .int .u8 58, .int .u8 32, .int .u8 118, .int .u8 97, .int .u8 108, .int .u8 117, .int .u8 101] 5 (10, 11)) := heap_alloc_new u1 _
  have g0 : (u1.alloc (.cells #[.int .u8 75, .int .u8 101, .int .u8 121, .int .u8 58, .int .u8 32, .int .u8 118, .int .u8 97, .int .u8 108, .int .u8 117, .int .u8 101] 5 (10, 11))).cell? ⟨u1.heap.size, 7, none⟩ = some (.int .u8 108) := (cell_heap hh0 7).trans rfl
  have f0 : (u1.alloc (.cells #[.int .u8 75, .int .u8 101, .int .u8 121, .int .u8 58, .int .u8 32, .int .u8 118, .int .u8 97, .int .u8 108, .int .u8 117, .int .u8 101] 5 (10, 11))).frozen? ⟨u1.heap.size, 7, none⟩ = false := frozen_heap hh0 7 (by decide)
  have hh1 : ((u1.alloc (.cells #[.int .u8 75, .int .u8 101, .int .u8 121, .int .u8 58, .int .u8 32, .int .u8 118, .int .u8 97, .int .u8 108, .int .u8 117, .int .u8 101] 5 (10, 11))).setCell ⟨u1.heap.size, 7, none⟩ (.int .u8 (c.toNat : Int))).heap[u1.heap.size]? = some (.cells #[.int .u8 75, .int .u8 101, .int .u8 121, .int .u8 58, .int .u8 32, .int .u8 118, .int .u8 97, .int .u8 (c.toNat : Int), .int .u8 117, .int .u8 101] 5 (10, 11)) := by
    obtain ⟨V, hV⟩ : ∃ V, u1.alloc (.cells #[.int .u8 75, .int .u8 101, .int .u8 121, .int .u8 58, .int .u8 32, .int .u8 118, .int .u8 97, .int .u8 108, .int .u8 117, .int .u8 101] 5 (10, 11)) = V := ⟨_, rfl⟩
    rw [hV] at hh0 ⊢
    simp [World.setCell, Array.getElem?_modify, hh0]
  have hcv : (convert 50 9 (.slice (some ⟨u1.heap.size, 0, none⟩) 10 10)).run Tryd.prog ((u1.alloc (.cells #[.int .u8 75, .int .u8 101, .int .u8 121, .int .u8 58, .int .u8 32, .int .u8 118, .int .u8 97, .int .u8 108, .int .u8 117, .int .u8 101] 5 (10, 11))).setCell ⟨u1.heap.size, 7, none⟩ (.int .u8 (c.toNat : Int))) = .ok (.string ⟨([75, 101, 121, 58, 32, 118, 97, c, 117, 101] : List UInt8).toArray⟩) ((u1.alloc (.cells #[.int .u8 75, .int .u8 101, .int .u8 121, .int .u8 58, .int .u8 32, .int .u8 118, .int .u8 97, .int .u8 108, .int .u8 117, .int .u8 101] 5 (10, 11))).setCell ⟨u1.heap.size, 7, none⟩ (.int .u8 (c.toNat : Int))) :=
    conv_list _ _ 10 [75, 101, 121, 58, 32, 118, 97, c, 117, 101] (fun j hj => by
      match j, hj with
      | 0, _ => exact (cell_heap hh1 0).trans rfl
      | 1, _ => exact (cell_heap hh1 1).trans rfl
      | 2, _ => exact (cell_heap hh1 2).trans rfl
      | 3, _ => exact (cell_heap hh1 3).trans rfl
      | 4, _ => exact (cell_heap hh1 4).trans rfl
      | 5, _ => exact (cell_heap hh1 5).trans rfl
      | 6, _ => exact (cell_heap hh1 6).trans rfl
      | 7, _ => exact (cell_heap hh1 7).trans rfl
      | 8, _ => exact (cell_heap hh1 8).trans rfl
      | 9, _ => exact (cell_heap hh1 9).trans rfl)
  have HH1 := Lib.hid hh1
  clear hh0 hh1
  have hcat : ((⟨([75, 101, 121, 58, 32, 118, 97, c, 117, 101] : List UInt8).toArray⟩ : ByteArray) ++ ⟨#[10]⟩) = ⟨([75, 101, 121, 58, 32, 118, 97, c, 117, 101, 10] : List UInt8).toArray⟩ := ByteArray.mk_append_mk [75, 101, 121, 58, 32, 118, 97, c, 117, 101] [10]
  have hid := Lib.run_convert_bytes_const (P := Tryd.prog) u1 50 5 #[.int .u8 75, .int .u8 101, .int .u8 121, .int .u8 58, .int .u8 32, .int .u8 118, .int .u8 97, .int .u8 108, .int .u8 117, .int .u8 101] 10 10 Tryd.underlying50 Tryd.underlying5
  have hmod : IntKind.i64.wrap ((a : Int) % 10) = 7 := by rw [hm]; rfl
  go_wp2_with fail
  have HBE : Hid (Below w.heap.size w ((u1.alloc (.cells #[.int .u8 75, .int .u8 101, .int .u8 121, .int .u8 58, .int .u8 32, .int .u8 118, .int .u8 97, .int .u8 108, .int .u8 117, .int .u8 101] 5 (10, 11))).setCell ⟨u1.heap.size, 7, none⟩ (.int .u8 (c.toNat : Int)))) := (HB1.out.alloc HB1.out.size _).setCell HB1.out.size _
  clear hcv hid g0 f0 hcat hmod
  generalize (u1.alloc (.cells #[.int .u8 75, .int .u8 101, .int .u8 121, .int .u8 58, .int .u8 32, .int .u8 118, .int .u8 97, .int .u8 108, .int .u8 117, .int .u8 101] 5 (10, 11))).setCell ⟨u1.heap.size, 7, none⟩ (.int .u8 (c.toNat : Int)) = v1 at *
  refine (s5_parse (maxOk_below HM.out HBE.out) _ HX.out HL.out).mono ?_
  rintro _ u2 ⟨A, cc, rfl, _, hb⟩
  have hh2 := (hb.block _ (Array.getElem?_eq_some_iff.1 HH1.out).1).trans HH1.out
  have HB2 := Lib.hid (HBE.out.trans (hb.mono HBE.out.size))
  have g1 : u2.cell? ⟨u1.heap.size, 8, none⟩ = some (.int .u8 117) := (cell_heap hh2 8).trans rfl
  clear hb hh2
  by_cases z0 : c.toNat < 32
  · have he : (e0 == 0) = false := by
      rw [HE.out]; show valC c = false; unfold valC; simp; omega
    have q0 : decide ((32 : Int) ≤ (c.toNat : Int)) = false := decide_eq_false (by omega)
    clear z0
    go_wp2_with fail
    go_ret
    exact ⟨rfl, HB2.out⟩
  by_cases z1 : 32 ≤ c.toNat ∧ c.toNat ≤ 126
  · have he : (e0 == 0) = true := by
      rw [HE.out]; show valC c = true; unfold valC; simp; omega
    have q0 : decide ((32 : Int) ≤ (c.toNat : Int)) = true := decide_eq_true (by omega)
    have q1 : decide ((c.toNat : Int) ≤ 126) = true := decide_eq_true (by omega)
    clear z0 z1
    go_wp2_with fail
    go_ret
    exact ⟨rfl, HB2.out⟩
  have he : (e0 == 0) = false := by
    rw [HE.out]; show valC c = false; unfold valC; simp; omega
  have q0 : decide ((32 : Int) ≤ (c.toNat : Int)) = true := decide_eq_true (by omega)
  have q1 : decide ((c.toNat : Int) ≤ 126) = false := decide_eq_false (by omega)
  clear z0 z1
  go_wp2_with fail
  go_ret
  exact ⟨rfl, HB2.out⟩
set_option maxRecDepth 100000 in
set_option maxHeartbeats 3200000 in
theorem Sz.stanzaBytes_8 (c : UInt8) (a : Nat) (ha : a < 256) (hk : a % 10 = 8) (w : World) (hw : MaxOk w) :
    Calls Tryd.prog 6 #[.int .u8 c.toNat, .int .u8 a] w fun e w' => e = .returned (.bool true) ∧ Below w.heap.size w w' := by
  have HM := Lib.hid hw
  have hm : (a : Int) % 10 = 8 := by omega
  obtain ⟨X, hX⟩ : ∃ X, parseS (turned 8 c) = X := ⟨_, rfl⟩
  obtain ⟨e0, n0, r⟩ := X
  have HE : Hid ((e0 == 0) = mayB 8 c) := by
    have := turned_is 8 (by decide) c
    rw [hX] at this
    exact this
  have HX : Hid (parseS [75, 101, 121, 58, 32, 118, 97, 108, c, 101, 10] = (e0, n0, r)) := hX
  obtain ⟨m, hm2⟩ : ∃ m, r.length = m := ⟨_, rfl⟩
  have HL := Lib.hid hm2
  clear hw hX hm2 hk
  go_enter Tryd.func6, Tryd.ntmps6
  go_wp2_with fail
  refine (known5_any _ HM.out).mono ?_
  rintro _ u1 ⟨rfl, hb⟩
  have HB1 := Lib.hid hb
  clear hb
  have hh0 : (u1.alloc (.cells #[.int .u8 75, .int .u8 101, .int .u8 121, .int .u8 58, .int .u8 32, .int .u8 118, .int .u8 97, .int .u8 108, .int .u8 117, .int .u8 101] 5 (10, 11))).heap[u1.heap.size]? = some (.cells #[.int .u8 75, .int .u8 101, .int .u8 121, .int .u8 58, .int .u8 32, .int .u8 118, .int .u8 97, .int .u8 108, .int .u8 117, .int .u8 101] 5 (10, 11)) := heap_alloc_new u1 _
  have g0 : (u1.alloc (.cells #[.int .u8 75, .int .u8 101, .int .u8 121, .int .u8 58, .int .u8 32, .int .u8 118, .int .u8 97, .int .u8 108, .int .u8 117, .int .u8 101] 5 (10, 11))).cell? ⟨u1.heap.size, 8, none⟩ = some (.int .u8 117) := (cell_heap hh0 8).trans rfl
  have f0 : (u1.alloc (.cells #[.int .u8 75, .int .u8 101, .int .u8 121, .int .u8 58, .int .u8 32, .int .u8 118, .int .u8 97, .int .u8 108, .int .u8 117, .int .u8 101] 5 (10, 11))).frozen? ⟨u1.heap.size, 8, none⟩ = false := frozen_heap hh0 8 (by decide)
  have hh1 : ((u1.alloc (.cells #[.int .u8 75, .int .u8 101, .int .u8 121, .int .u8 58, .int .u8 32, .int .u8 118, .int .u8 97, .int .u8 108, .int .u8 117, .int .u8 101] 5 (10, 11))).setCell ⟨u1.heap.size, 8, none⟩ (.int .u8 (c.toNat : Int))).heap[u1.heap.size]? = some (.cells #[.int .u8 75, .int .u8 101, .int .u8 121, .int .u8 58, .int .u8 32, .int .u8 118, .int .u8 97, .int .u8 108, .int .u8 (c.toNat : Int), .int .u8 101] 5 (10, 11)) := by
    obtain ⟨V, hV⟩ : ∃ V, u1.alloc (.cells #[.int .u8 75, .int .u8 101, .int .u8 121, .int .u8 58, .int .u8 32, .int .u8 118, .int .u8 97, .int .u8 108, .int .u8 117, .int .u8 101] 5 (10, 11)) = V := ⟨_, rfl⟩
    rw [hV] at hh0 ⊢
    simp [World.setCell, Array.getElem?_modify, hh0]
  have hcv : (convert 50 9 (.slice (some ⟨u1.heap.size, 0, none⟩) 10 10)).run Tryd.prog ((u1.alloc (.cells #[.int .u8 75, .int .u8 101, .int .u8 121, .int .u8 58, .int .u8 32, .int .u8 118, .int .u8 97, .int .u8 108, .int .u8 117, .int .u8 101] 5 (10, 11))).setCell ⟨u1.heap.size, 8, none⟩ (.int .u8 (c.toNat : Int))) = .ok (.string ⟨([75, 101, 121, 58, 32, 118, 97, 108, c, 101] : List UInt8).toArray⟩) ((u1.alloc (.cells #[.int .u8 75, .int .u8 101, .int .u8 121, .int .u8 58, .int .u8 32, .int .u8 118, .int .u8 97, .int .u8 108, .int .u8 117, .int .u8 101] 5 (10, 11))).setCell ⟨u1.heap.size, 8, none⟩ (.int .u8 (c.toNat : Int))) :=
    conv_list _ _ 10 [75, 101, 121, 58, 32, 118, 97, 108, c, 101] (fun j hj => by
      match j, hj with
      | 0, _ => exact (cell_heap hh1 0).trans rfl
      | 1, _ => exact (cell_heap hh1 1).trans rfl
      | 2, _ => exact (cell_heap hh1 2).trans rfl
      | 3, _ => exact (cell_heap hh1 3).trans rfl
      | 4, _ => exact (cell_heap hh1 4).trans rfl
      | 5, _ => exact (cell_heap hh1 5).trans rfl
      | 6, _ => exact (cell_heap hh1 6).trans rfl
      | 7, _ => exact (cell_heap hh1 7).trans rfl
      | 8, _ => exact (cell_heap hh1 8).trans rfl
      | 9, _ => exact (cell_heap hh1 9).trans rfl)
  have HH1 := Lib.hid hh1
  clear hh0 hh1
  have hcat : ((⟨([75, 101, 121, 58, 32, 118, 97, 108, c, 101] : List UInt8).toArray⟩ : ByteArray) ++ ⟨#[10]⟩) = ⟨([75, 101, 121, 58, 32, 118, 97, 108, c, 101, 10] : List UInt8).toArray⟩ := ByteArray.mk_append_mk [75, 101, 121, 58, 32, 118, 97, 108, c, 101] [10]
  have hid := Lib.run_convert_bytes_const (P := Tryd.prog) u1 50 5 #[.int .u8 75, .int .u8 101, .int .u8 121, .int .u8 58, .int .u8 32, .int .u8 118, .int .u8 97, .int .u8 108, .int .u8 117, .int .u8 101] 10 10 Tryd.underlying50 Tryd.underlying5
  have hmod : IntKind.i64.wrap ((a : Int) % 10) = 8 := by rw [hm]; rfl
  go_wp2_with fail
  have HBE : Hid (Below w.heap.size w ((u1.alloc (.cells #[.int .u8 75, .int .u8 101, .int .u8 121, .int .u8 58, .int .u8 32, .int .u8 118, .int .u8 97, .int .u8 108, .int .u8 117, .int .u8 101] 5 (10, 11))).setCell ⟨u1.heap.size, 8, none⟩ (.int .u8 (c.toNat : Int)))) := (HB1.out.alloc HB1.out.size _).setCell HB1.out.size _
  clear hcv hid g0 f0 hcat hmod
  generalize (u1.alloc (.cells #[.int .u8 75, .int .u8 101, .int .u8 121, .int .u8 58, .int .u8 32, .int .u8 118, .int .u8 97, .int .u8 108, .int .u8 117, .int .u8 101] 5 (10, 11))).setCell ⟨u1.heap.size, 8, none⟩ (.int .u8 (c.toNat : Int)) = v1 at *
  refine (s5_parse (maxOk_below HM.out HBE.out) _ HX.out HL.out).mono ?_
  rintro _ u2 ⟨A, cc, rfl, _, hb⟩
  have hh2 := (hb.block _ (Array.getElem?_eq_some_iff.1 HH1.out).1).trans HH1.out
  have HB2 := Lib.hid (HBE.out.trans (hb.mono HBE.out.size))
  have g1 : u2.cell? ⟨u1.heap.size, 9, none⟩ = some (.int .u8 101) := (cell_heap hh2 9).trans rfl
  clear hb hh2
  by_cases z0 : c.toNat < 32
  · have he : (e0 == 0) = false := by
      rw [HE.out]; show valC c = false; unfold valC; simp; omega
    have q0 : decide ((32 : Int) ≤ (c.toNat : Int)) = false := decide_eq_false (by omega)
    clear z0
    go_wp2_with fail
    go_ret
    exact ⟨rfl, HB2.out⟩
  by_cases z1 : 32 ≤ c.toNat ∧ c.toNat ≤ 126
  · have he : (e0 == 0) = true := by
      rw [HE.out]; show valC c = true; unfold valC; simp; omega
    have q0 : decide ((32 : Int) ≤ (c.toNat : Int)) = true := decide_eq_true (by omega)
    have q1 : decide ((c.toNat : Int) ≤ 126) = true := decide_eq_true (by omega)
    clear z0 z1
    go_wp2_with fail
    go_ret
    exact ⟨rfl, HB2.out⟩
  have he : (e0 == 0) = false := by
    rw [HE.out]; show valC c = false; unfold valC; simp; omega
  have q0 : decide ((32 : Int) ≤ (c.toNat : Int)) = true := decide_eq_true (by omega)
  have q1 : decide ((c.toNat : Int) ≤ 126) = false := decide_eq_false (by omega)
  clear z0 z1
  go_wp2_with fail
  go_ret
  exact ⟨rfl, HB2.out⟩
set_option maxRecDepth 100000 in
set_option maxHeartbeats 3200000 in
theorem Sz.stanzaBytes_9 (c : UInt8) (a : Nat) (ha : a < 256) (hk : a % 10 = 9) (w : World) (hw : MaxOk w) :
    Calls Tryd.prog 6 #[.int .u8 c.toNat, .int .u8 a] w fun e w' => e = .returned (.bool true) ∧ Below w.heap.size w w' := by
  have HM := Lib.hid hw
  have hm : (a : Int) % 10 = 9 := by omega
  obtain ⟨X, hX⟩ : ∃ X, parseS (turned 9 c) = X := ⟨_, rfl⟩
  obtain ⟨e0, n0, r⟩ := X
  have HE : Hid ((e0 == 0) = mayB 9 c) := by
    have := turned_is 9 (by decide) c
    rw [hX] at this
    exact this
  have HX : Hid (parseS [75, 101, 121, 58, 32, 118, 97, 108, 117, c, 10] = (e0, n0, r)) := hX
  obtain ⟨m, hm2⟩ : ∃ m, r.length = m := ⟨_, rfl⟩
  have HL := Lib.hid hm2
  clear hw hX hm2 hk
  go_enter Tryd.func6, Tryd.ntmps6
  go_wp2_with fail
  refine (known5_any _ HM.out).mono ?_
  rintro _ u1 ⟨rfl, hb⟩
  have HB1 := Lib.hid hb
  clear hb
  have hh0 : (u1.alloc (.cells #[.int .u8 75, .int .u8 101, .int .u8 121, .int .u8 58, .int .u8 32, .int .u8 118, .int .u8 97, .int .u8 108, .int .u8 117, .int .u8 101] 5 (10, 11))).heap[u1.heap.size]? = some (.cells #[.int .u8 75, .int .u8 101, .int .u8 121, .int .u8 58, .int .u8 32, .int .u8 118, .int .u8 97, .int .u8 108, .int .u8 117, .int .u8 101] 5 (10, 11)) := heap_alloc_new u1 _
  have g0 : (u1.alloc (.cells #[.int .u8 75, .int .u8 101, .int .u8 121, .int .u8 58, .int .u8 32, .int .u8 118, .int .u8 97, .int .u8 108, .int .u8 117, .int .u8 101] 5 (10, 11))).cell? ⟨u1.heap.size, 9, none⟩ = some (.int .u8 101) := (cell_heap hh0 9).trans rfl
  have f0 : (u1.alloc (.cells #[.int .u8 75, .int .u8 101, .int .u8 121, .int .u8 58, .int .u8 32, .int .u8 118, .int .u8 97, .int .u8 108, .int .u8 117, .int .u8 101] 5 (10, 11))).frozen? ⟨u1.heap.size, 9, none⟩ = false := frozen_heap hh0 9 (by decide)
  have hh1 : ((u1.alloc (.cells #[.int .u8 75, .int .u8 101, .int .u8 121, .int .u8 58, .int .u8 32, .int .u8 118, .int .u8 97, .int .u8 108, .int .u8 117, .int .u8 101] 5 (10, 11))).setCell ⟨u1.heap.size, 9, none⟩ (.int .u8 (c.toNat : Int))).heap[u1.heap.size]? = some (.cells #[.int .u8 75, .int .u8 101, .int .u8 121, .int .u8 58, .int .u8 32, .int .u8 118, .int .u8 97, .int .u8 108, .int .u8 117, .int .u8 (c.toNat : Int)] 5 (10, 11)) := by
    obtain ⟨V, hV⟩ : ∃ V, u1.alloc (.cells #[.int .u8 75, .int .u8 101, .int .u8 121, .int .u8 58, .int .u8 32, .int .u8 118, .int .u8 97, .int .u8 108, .int .u8 117, .int .u8 101] 5 (10, 11)) = V := ⟨_, rfl⟩
    rw [hV] at hh0 ⊢
    simp [World.setCell, Array.getElem?_modify, hh0]
  have hcv : (convert 50 9 (.slice (some ⟨u1.heap.size, 0, none⟩) 10 10)).run Tryd.prog ((u1.alloc (.cells #[.int .u8 75, .int .u8 101, .int .u8 121, .int .u8 58, .int .u8 32, .int .u8 118, .int .u8 97, .int .u8 108, .int .u8 117, .int .u8 101] 5 (10, 11))).setCell ⟨u1.heap.size, 9, none⟩ (.int .u8 (c.toNat : Int))) = .ok (.string ⟨([75, 101, 121, 58, 32, 118, 97, 108, 117, c] : List UInt8).toArray⟩) ((u1.alloc (.cells #[.int .u8 75, .int .u8 101, .int .u8 121, .int .u8 58, .int .u8 32, .int .u8 118, .int .u8 97, .int .u8 108, .int .u8 117, .int .u8 101] 5 (10, 11))).setCell ⟨u1.heap.size, 9, none⟩ (.int .u8 (c.toNat : Int))) :=
    conv_list _ _ 10 [75, 101, 121, 58, 32, 118, 97, 108, 117, c] (fun j hj => by
      match j, hj with
      | 0, _ => exact (cell_heap hh1 0).trans rfl
      | 1, _ => exact (cell_heap hh1 1).trans rfl
      | 2, _ => exact (cell_heap hh1 2).trans rfl
      | 3, _ => exact (cell_heap hh1 3).trans rfl
      | 4, _ => exact (cell_heap hh1 4).trans rfl
      | 5, _ => exact (cell_heap hh1 5).trans rfl
      | 6, _ => exact (cell_heap hh1 6).trans rfl
      | 7, _ => exact (cell_heap hh1 7).trans rfl
      | 8, _ => exact (cell_heap hh1 8).trans rfl
      | 9, _ => exact (cell_heap hh1 9).trans rfl)
  have HH1 := Lib.hid hh1
  clear hh0 hh1
  have hcat : ((⟨([75, 101, 121, 58, 32, 118, 97, 108, 117, c] : List UInt8).toArray⟩ : ByteArray) ++ ⟨#[10]⟩) = ⟨([75, 101, 121, 58, 32, 118, 97, 108, 117, c, 10] : List UInt8).toArray⟩ := ByteArray.mk_append_mk [75, 101, 121, 58, 32, 118, 97, 108, 117, c] [10]
  have hid := Lib.run_convert_bytes_const (P := Tryd.prog) u1 50 5 #[.int .u8 75, .int .u8 101, .int .u8 121, .int .u8 58, .int .u8 32, .int .u8 118, .int .u8 97, .int .u8 108, .int .u8 117, .int .u8 101] 10 10 Tryd.underlying50 Tryd.underlying5
  have hmod : IntKind.i64.wrap ((a : Int) % 10) = 9 := by rw [hm]; rfl
  go_wp2_with fail
  have HBE : Hid (Below w.heap.size w ((u1.alloc (.cells #[.int .u8 75, .int .u8 101, .int .u8 121, .int .u8 58, .int .u8 32, .int .u8 118, .int .u8 97, .int .u8 108, .int .u8 117, .int .u8 101] 5 (10, 11))).setCell ⟨u1.heap.size, 9, none⟩ (.int .u8 (c.toNat : Int)))) := (HB1.out.alloc HB1.out.size _).setCell HB1.out.size _
  clear hcv hid g0 f0 hcat hmod
  generalize (u1.alloc (.cells #[.int .u8 75, .int .u8 101, .int .u8 121, .int .u8 58, .int .u8 32, .int .u8 118, .int .u8 97, .int .u8 108, .int .u8 117, .int .u8 101] 5 (10, 11))).setCell ⟨u1.heap.size, 9, none⟩ (.int .u8 (c.toNat : Int)) = v1 at *
  refine (s5_parse (maxOk_below HM.out HBE.out) _ HX.out HL.out).mono ?_
  rintro _ u2 ⟨A, cc, rfl, _, hb⟩
  have hh2 := (hb.block _ (Array.getElem?_eq_some_iff.1 HH1.out).1).trans HH1.out
  have HB2 := Lib.hid (HBE.out.trans (hb.mono HBE.out.size))
  have g1 : u2.cell? ⟨u1.heap.size, 0, none⟩ = some (.int .u8 75) := (cell_heap hh2 0).trans rfl
  clear hb hh2
  by_cases z0 : c.toNat < 32
  · have he : (e0 == 0) = false := by
      rw [HE.out]; show valC c = false; unfold valC; simp; omega
    have q0 : decide ((32 : Int) ≤ (c.toNat : Int)) = false := decide_eq_false (by omega)
    clear z0
    go_wp2_with fail
    go_ret
    exact ⟨rfl, HB2.out⟩
  by_cases z1 : 32 ≤ c.toNat ∧ c.toNat ≤ 126
  · have he : (e0 == 0) = true := by
      rw [HE.out]; show valC c = true; unfold valC; simp; omega
    have q0 : decide ((32 : Int) ≤ (c.toNat : Int)) = true := decide_eq_true (by omega)
    have q1 : decide ((c.toNat : Int) ≤ 126) = true := decide_eq_true (by omega)
    clear z0 z1
    go_wp2_with fail
    go_ret
    exact ⟨rfl, HB2.out⟩
  have he : (e0 == 0) = false := by
    rw [HE.out]; show valC c = false; unfold valC; simp; omega
  have q0 : decide ((32 : Int) ≤ (c.toNat : Int)) = true := decide_eq_true (by omega)
  have q1 : decide ((c.toNat : Int) ≤ 126) = false := decide_eq_false (by omega)
  clear z0 z1
  go_wp2_with fail
  go_ret
  exact ⟨rfl, HB2.out⟩
theorem stanzaBytes_any (k0 k1 : Nat) (h0 : k0 < 256) (h1 : k1 < 256) (w : World) (hw : MaxOk w) :
    Calls Tryd.prog 6 #[.int .u8 k0, .int .u8 k1] w fun e w' => e = .returned (.bool true) ∧ Below w.heap.size w w' := by
  obtain ⟨c, hc⟩ : ∃ c : UInt8, c.toNat = k0 := ⟨UInt8.ofNat k0, by rw [UInt8.toNat_ofNat', Nat.mod_eq_of_lt h0]⟩
  rw [← hc]
  have : k1 % 10 = 0 ∨ k1 % 10 = 1 ∨ k1 % 10 = 2 ∨ k1 % 10 = 3 ∨ k1 % 10 = 4 ∨ k1 % 10 = 5 ∨ k1 % 10 = 6 ∨ k1 % 10 = 7 ∨ k1 % 10 = 8 ∨ k1 % 10 = 9 := by omega
  rcases this with h | h | h | h | h | h | h | h | h | h
  · exact stanzaBytes_0 c k1 h1 h w hw
  · exact stanzaBytes_1 c k1 h1 h w hw
  · exact stanzaBytes_2 c k1 h1 h w hw
  · exact stanzaBytes_3 c k1 h1 h w hw
  · exact stanzaBytes_4 c k1 h1 h w hw
  · exact stanzaBytes_5 c k1 h1 h w hw
  · exact stanzaBytes_6 c k1 h1 h w hw
  · exact stanzaBytes_7 c k1 h1 h w hw
  · exact stanzaBytes_8 c k1 h1 h w hw
  · exact stanzaBytes_9 c k1 h1 h w hw
end Go.Proofs.YtmhobdlhmkbkdaaDoor
