/- known: the orders and canonical forms that each statement looks at first. The laws VerRows and VerAny, walked. -/
import Derived.Test.YtkbahnimnhafiaaDoorQd
import Derived.Test.YtkbahnimnhafiaaDoorQa
namespace Go.Proofs.YtkbahnimnhafiaaDoor
open Go.RowKit

theorem compare_at (a b : List UInt8) (c : Int) (w : World) (hw : MaxOk w) (h1 : Vm.check a = 0) (h2 : Vm.check b = 0) (hc : Vm.cmpV a b = c) :
    Calls Tryd.prog 14 #[.string ⟨a.toArray⟩, .string ⟨b.toArray⟩] w fun e w' => e = .returned (.int .i64 c) ∧ Below w.heap.size w w' := by
  have := compare_any a b w hw h1 h2; rw [hc] at this; exact this
theorem check_at (a : List UInt8) (c : Int) (w : World) (hw : MaxOk w) (hc : Vm.check a = c) :
    Calls Tryd.prog 8 #[.string ⟨a.toArray⟩] w fun e w' => e = .returned (.int .i64 c) ∧ Below w.heap.size w w' := by
  have := check_any a w hw; rw [hc] at this; exact this
theorem epoch_at (a : List UInt8) (c : Nat) (w : World) (hw : MaxOk w) (h1 : Vm.check a = 0) (hc : Vm.num (Vm.ep a) = c) :
    Calls Tryd.prog 12 #[.string ⟨a.toArray⟩] w fun e w' => e = .returned (.int .i64 c) ∧ Below w.heap.size w w' := by
  have := epoch_any a w hw h1; rw [hc] at this; exact this
theorem canon_at (a b : List UInt8) (w : World) (hw : MaxOk w) (h1 : Vm.check a = 0) (hc : Vm.canon a = b) :
    Calls Tryd.prog 9 #[.string ⟨a.toArray⟩] w fun e w' => e = .returned (.tuple #[.string ⟨b.toArray⟩, .int .i64 0]) ∧ Below w.heap.size w w' := by
  have := canon_any a w hw; rw [canonOf, if_pos h1, h1, hc] at this; exact this

/-- The two tables of known, behind w's blocks, as they stand in a later world. -/
def KSt (w W : World) : Prop := MaxOk w ∧ Below w.heap.size w W ∧ w.heap.size + 2 ≤ W.heap.size ∧ W.heap[w.heap.size]? = some (.cells #[.string ⟨#[49, 126, 48]⟩, .string ⟨#[49]⟩, .string ⟨#[49, 46, 48]⟩, .string ⟨#[49, 46, 48, 46, 49]⟩, .string ⟨#[49, 97, 48]⟩, .string ⟨#[49, 46, 50]⟩, .string ⟨#[49, 46, 49, 48]⟩, .string ⟨#[49, 58, 48, 126, 53]⟩] 9 (0, 0)) ∧ W.heap[w.heap.size + 1]? = some (.cells #[.int .i64 0, .int .i64 1, .int .i64 4, .int .i64 2, .int .i64 3, .int .i64 5, .int .i64 6, .int .i64 7] 3 (0, 0))
theorem kst_max {w W : World} (h : KSt w W) : MaxOk W := maxOk_below h.1 h.2.1
theorem kst_below {w W W' : World} (h : KSt w W) (hb : Below W.heap.size W W') : KSt w W' := by
  obtain ⟨h0, h1, h2, h3, h4⟩ := h
  exact ⟨h0, h1.trans (hb.mono (by omega)), Nat.le_trans h2 hb.size, (hb.block _ (by omega)).trans h3, (hb.block _ (by omega)).trans h4⟩
theorem kst_drew {w W : World} (h : KSt w W) : KSt w W.drew := kst_below h (Below.refl _ _).drew
theorem kst_new (w : World) (h : MaxOk w) : KSt w ((w.alloc (.cells #[.string ⟨#[49, 126, 48]⟩, .string ⟨#[49]⟩, .string ⟨#[49, 46, 48]⟩, .string ⟨#[49, 46, 48, 46, 49]⟩, .string ⟨#[49, 97, 48]⟩, .string ⟨#[49, 46, 50]⟩, .string ⟨#[49, 46, 49, 48]⟩, .string ⟨#[49, 58, 48, 126, 53]⟩] 9)).alloc (.cells #[.int .i64 0, .int .i64 1, .int .i64 4, .int .i64 2, .int .i64 3, .int .i64 5, .int .i64 6, .int .i64 7] 3)) := by
  have e : (w.alloc (.cells #[.string ⟨#[49, 126, 48]⟩, .string ⟨#[49]⟩, .string ⟨#[49, 46, 48]⟩, .string ⟨#[49, 46, 48, 46, 49]⟩, .string ⟨#[49, 97, 48]⟩, .string ⟨#[49, 46, 50]⟩, .string ⟨#[49, 46, 49, 48]⟩, .string ⟨#[49, 58, 48, 126, 53]⟩] 9)).heap.size = w.heap.size + 1 := by simp
  refine ⟨h, ((Below.refl _ _).alloc (Nat.le_refl _) _).alloc (by omega) _, ?_, ?_, ?_⟩
  · rw [show ∀ (u : World) (o : Obj), (u.alloc o).heap.size = u.heap.size + 1 from fun _ _ => by simp, e]; omega
  · rw [Below.heap_alloc _ _ _ (by omega)]; exact heap_alloc_new w _
  · have := heap_alloc_new (w.alloc (.cells #[.string ⟨#[49, 126, 48]⟩, .string ⟨#[49]⟩, .string ⟨#[49, 46, 48]⟩, .string ⟨#[49, 46, 48, 46, 49]⟩, .string ⟨#[49, 97, 48]⟩, .string ⟨#[49, 46, 50]⟩, .string ⟨#[49, 46, 49, 48]⟩, .string ⟨#[49, 58, 48, 126, 53]⟩] 9)) (.cells #[.int .i64 0, .int .i64 1, .int .i64 4, .int .i64 2, .int .i64 3, .int .i64 5, .int .i64 6, .int .i64 7] 3)
    rwa [e] at this
theorem kst_str {w W : World} (h : KSt w W) (i : Nat) (v : Value) (hv : (#[.string ⟨#[49, 126, 48]⟩, .string ⟨#[49]⟩, .string ⟨#[49, 46, 48]⟩, .string ⟨#[49, 46, 48, 46, 49]⟩, .string ⟨#[49, 97, 48]⟩, .string ⟨#[49, 46, 50]⟩, .string ⟨#[49, 46, 49, 48]⟩, .string ⟨#[49, 58, 48, 126, 53]⟩] : Array Value)[i]? = some v) : W.cell? ⟨w.heap.size, i, none⟩ = some v := by
  simp only [World.cell?, h.2.2.2.1]; exact hv
theorem kst_ord {w W : World} (h : KSt w W) (i : Nat) (v : Value) (hv : (#[.int .i64 0, .int .i64 1, .int .i64 4, .int .i64 2, .int .i64 3, .int .i64 5, .int .i64 6, .int .i64 7] : Array Value)[i]? = some v) : W.cell? ⟨w.heap.size + 1, i, none⟩ = some v := by
  simp only [World.cell?, h.2.2.2.2]; exact hv
theorem keep4 {w u u' : World} {i j p q : Nat} {vi vj vp vq : Value} (h : u.cell? ⟨w.heap.size + 1, i, none⟩ = some vi ∧ u.cell? ⟨w.heap.size + 1, j, none⟩ = some vj ∧ u.cell? ⟨w.heap.size, p, none⟩ = some vp ∧ u.cell? ⟨w.heap.size, q, none⟩ = some vq ∧ KSt w u) (hb : Below u.heap.size u u') : u'.cell? ⟨w.heap.size + 1, i, none⟩ = some vi ∧ u'.cell? ⟨w.heap.size + 1, j, none⟩ = some vj ∧ u'.cell? ⟨w.heap.size, p, none⟩ = some vp ∧ u'.cell? ⟨w.heap.size, q, none⟩ = some vq ∧ KSt w u' := by
  obtain ⟨h0, h1, h2, h3, h4⟩ := h
  have hs := h4.2.2.1
  refine ⟨?_, ?_, ?_, ?_, kst_below h4 hb⟩
  · rw [hb.cell (by simp; omega)]; exact h0
  · rw [hb.cell (by simp; omega)]; exact h1
  · rw [hb.cell (by simp; omega)]; exact h2
  · rw [hb.cell (by simp; omega)]; exact h3
theorem kfacts (m : Nat) (hm : m < 7) : ∃ (a b : Nat) (A B : List UInt8), a < 8 ∧ b < 8 ∧ (#[.int .i64 0, .int .i64 1, .int .i64 4, .int .i64 2, .int .i64 3, .int .i64 5, .int .i64 6, .int .i64 7] : Array Value)[m]? = some (.int .i64 a) ∧ (#[.int .i64 0, .int .i64 1, .int .i64 4, .int .i64 2, .int .i64 3, .int .i64 5, .int .i64 6, .int .i64 7] : Array Value)[m + 1]? = some (.int .i64 b) ∧ (#[.string ⟨#[49, 126, 48]⟩, .string ⟨#[49]⟩, .string ⟨#[49, 46, 48]⟩, .string ⟨#[49, 46, 48, 46, 49]⟩, .string ⟨#[49, 97, 48]⟩, .string ⟨#[49, 46, 50]⟩, .string ⟨#[49, 46, 49, 48]⟩, .string ⟨#[49, 58, 48, 126, 53]⟩] : Array Value)[a]? = some (.string ⟨A.toArray⟩) ∧ (#[.string ⟨#[49, 126, 48]⟩, .string ⟨#[49]⟩, .string ⟨#[49, 46, 48]⟩, .string ⟨#[49, 46, 48, 46, 49]⟩, .string ⟨#[49, 97, 48]⟩, .string ⟨#[49, 46, 50]⟩, .string ⟨#[49, 46, 49, 48]⟩, .string ⟨#[49, 58, 48, 126, 53]⟩] : Array Value)[b]? = some (.string ⟨B.toArray⟩) ∧
    Vm.check A = 0 ∧ Vm.check B = 0 ∧ Vm.cmpV A B = -1 ∧ Vm.cmpV B A = 1 := by
  match m, hm with
  | 0, _ => exact ⟨0, 1, [49, 126, 48], [49], by decide, by decide, rfl, rfl, rfl, rfl, by decide, by decide, by decide, by decide⟩
  | 1, _ => exact ⟨1, 4, [49], [49, 97, 48], by decide, by decide, rfl, rfl, rfl, rfl, by decide, by decide, by decide, by decide⟩
  | 2, _ => exact ⟨4, 2, [49, 97, 48], [49, 46, 48], by decide, by decide, rfl, rfl, rfl, rfl, by decide, by decide, by decide, by decide⟩
  | 3, _ => exact ⟨2, 3, [49, 46, 48], [49, 46, 48, 46, 49], by decide, by decide, rfl, rfl, rfl, rfl, by decide, by decide, by decide, by decide⟩
  | 4, _ => exact ⟨3, 5, [49, 46, 48, 46, 49], [49, 46, 50], by decide, by decide, rfl, rfl, rfl, rfl, by decide, by decide, by decide, by decide⟩
  | 5, _ => exact ⟨5, 6, [49, 46, 50], [49, 46, 49, 48], by decide, by decide, rfl, rfl, rfl, rfl, by decide, by decide, by decide, by decide⟩
  | 6, _ => exact ⟨6, 7, [49, 46, 49, 48], [49, 58, 48, 126, 53], by decide, by decide, rfl, rfl, rfl, rfl, by decide, by decide, by decide, by decide⟩
set_option maxRecDepth 100000 in
set_option maxHeartbeats 4000000 in
theorem known_any (w : World) (hw : MaxOk w) :
    Calls Tryd.prog 7 #[] w fun e w' => e = .returned (.bool true) ∧ Below w.heap.size w w' := by
  have HK := Lib.hid (kst_new w hw)
  clear hw
  go_enter Tryd.func7, Tryd.ntmps7
  go_wp2_with fail
  go_loopw [3] (fun i wr => ∃ m : Nat, m ≤ 7 ∧ i = .int .i64 ((m : Int) + 1) ∧ Hid (KSt w wr)) (fun i _ => (8 - intOf i).toNat)
  case atStart => exact ⟨0, by decide, rfl, HK⟩
  case round =>
    clear HK
    obtain ⟨m, hm, rfl, HS⟩ := hrel
    by_cases hlt : m < 7
    · obtain ⟨a, b, A, B, ha, hb8, f1, f2, f3, f4, q1, q2, q3, q4⟩ := kfacts m hlt
      have c0 := kst_ord HS.out m _ f1
      have c1 := kst_ord HS.out (m + 1) _ f2
      have c2 := kst_str HS.out a _ f3
      have c3 := kst_str HS.out b _ f4
      have Q1 := Lib.hid q1
      have Q2 := Lib.hid q2
      have Q3 := Lib.hid q3
      have Q4 := Lib.hid q4
      clear f1 f2 f3 f4 q1 q2 q3 q4
      have m0 : (0 : Int) ≤ (m : Int) := by omega
      have m8 : (m : Int) < 8 := by omega
      have m1 : (0 : Int) ≤ (m : Int) + 1 := by omega
      have m9 : (m : Int) + 1 < 8 := by omega
      have a0 : (0 : Int) ≤ (a : Int) := by omega
      have a8 : (a : Int) < 8 := by omega
      have b0 : (0 : Int) ≤ (b : Int) := by omega
      have b8 : (b : Int) < 8 := by omega
      have hn1 : ((m : Int) + 1).toNat = m + 1 := by omega
      go_wp2_with fail
      have hw1 : IntKind.i64.wrap (m : Int) = m := IntWalk.i64_in _ (by omega)
      have hw2 : (m : Int) + 1 - 1 = m := by omega
      have hw3 : IntKind.i64.wrap ((m : Int) + 1 - 1) = m := by rw [hw2, hw1]
      go_region_held3 (fun w' => w'.cell? ⟨w.heap.size + 1, m, none⟩ = some (.int .i64 a) ∧ w'.cell? ⟨w.heap.size + 1, m + 1, none⟩ = some (.int .i64 b) ∧ w'.cell? ⟨w.heap.size, a, none⟩ = some (.string ⟨A.toArray⟩) ∧ w'.cell? ⟨w.heap.size, b, none⟩ = some (.string ⟨B.toArray⟩) ∧ KSt w w')
        (first
          | exact ⟨c0, c1, c2, c3, kst_drew HS.out⟩
          | assumption
          | (refine keep4 ?_ hb; assumption))
        (first
          | (go_at_call 14; refine (compare_at A B (-1) _ ?_ Q1.out Q2.out Q3.out).mono ?_; (go_split_ands; exact kst_max (by assumption)); rintro _ w1 ⟨rfl, hb⟩)
          | (go_at_call 14; refine (compare_at B A 1 _ ?_ Q2.out Q1.out Q4.out).mono ?_; (go_split_ands; exact kst_max (by assumption)); rintro _ w1 ⟨rfl, hb⟩))
      rename_i HS2
      have HS3 := Lib.hid HS2.2.2.2.2
      clear HS2 c0 c1 c2 c3 HS hw1 hw2 hw3
      go_wp2_with fail
      go_roundw
      case rel => exact ⟨m + 1, by omega, by go_num, HS3⟩
      case measure => simp [intOf]; omega
    · obtain rfl : m = 7 := by omega
      go_wp2_with fail
      refine (canon_at [48, 48, 48, 58, 48, 49, 46, 48, 48, 45, 48, 48] [49, 46, 48] _ (kst_max HS.out) (by decide) (by decide)).mono ?_
      rintro _ w1 ⟨rfl, hb⟩
      have HS1 := Lib.hid (kst_below HS.out hb)
      clear hb HS
      go_wp2_with fail
      refine (canon_at [49, 48, 58, 48, 48, 55, 43, 49, 45, 48, 50] [49, 48, 58, 55, 43, 49, 45, 50] _ (kst_max HS1.out) (by decide) (by decide)).mono ?_
      rintro _ w2 ⟨rfl, hb⟩
      have HS2 := Lib.hid (kst_below HS1.out hb)
      clear hb HS1
      go_wp2_with fail
      refine (compare_at [49, 46, 48] [48, 49, 46, 48, 48, 45, 48] 0 _ (kst_max HS2.out) (by decide) (by decide) (by decide)).mono ?_
      rintro _ w3 ⟨rfl, hb⟩
      have HS3 := Lib.hid (kst_below HS2.out hb)
      clear hb HS2
      go_wp2_with fail
      refine (epoch_at [48, 48, 55, 58, 49] 7 _ (kst_max HS3.out) (by decide) (by decide)).mono ?_
      rintro _ w4 ⟨rfl, hb⟩
      have HS4 := Lib.hid (kst_below HS3.out hb)
      clear hb HS3
      go_wp2_with fail
      refine (epoch_at [49] 0 _ (kst_max HS4.out) (by decide) (by decide)).mono ?_
      rintro _ w5 ⟨rfl, hb⟩
      have HS5 := Lib.hid (kst_below HS4.out hb)
      clear hb HS4
      go_wp2_with fail
      refine (check_at [49, 46] 5 _ (kst_max HS5.out) (by decide)).mono ?_
      rintro _ w6 ⟨rfl, hb⟩
      have HS6 := Lib.hid (kst_below HS5.out hb)
      clear hb HS5
      go_wp2_with fail
      refine (check_at [] 5 _ (kst_max HS6.out) (by decide)).mono ?_
      rintro _ w7 ⟨rfl, hb⟩
      have HS7 := Lib.hid (kst_below HS6.out hb)
      clear hb HS6
      go_wp2_with fail
      refine (check_at [49, 58, 50, 58, 51] 5 _ (kst_max HS7.out) (by decide)).mono ?_
      rintro _ w8 ⟨rfl, hb⟩
      have HS8 := Lib.hid (kst_below HS7.out hb)
      clear hb HS7
      go_wp2_with fail
      refine (check_at [49, 50, 51, 52, 53, 54, 55, 58, 49] 5 _ (kst_max HS8.out) (by decide)).mono ?_
      rintro _ w9 ⟨rfl, hb⟩
      have HS9 := Lib.hid (kst_below HS8.out hb)
      clear hb HS8
      go_wp2_with fail
      refine (check_at [49, 45, 50, 45, 51] 5 _ (kst_max HS9.out) (by decide)).mono ?_
      rintro _ w10 ⟨rfl, hb⟩
      have HS10 := Lib.hid (kst_below HS9.out hb)
      clear hb HS9
      go_wp2_with fail
      refine (check_at [49, 49, 49, 49, 49, 49, 49, 49, 49, 49, 49, 49, 49, 49, 49, 49, 49, 49, 49, 49, 49, 49, 49, 49, 49, 49, 49, 49, 49, 49, 49, 49, 49, 49, 49, 49, 49, 49, 49, 49, 49] 4 _ (kst_max HS10.out) (by decide)).mono ?_
      rintro _ w11 ⟨rfl, hb⟩
      have HS11 := Lib.hid (kst_below HS10.out hb)
      clear hb HS10
      go_wp2_with fail
      go_ret
      exact ⟨rfl, HS11.out.2.1⟩
end Go.Proofs.YtkbahnimnhafiaaDoor
namespace Go.Proofs.YtkbahnimnhafiaaDoor
open Go.RowKit

theorem checkVer_at (l : List UInt8) (c : Int) (w : World) (hc : Vm.check l = c) :
    Calls Tryd.prog 11 #[.string ⟨l.toArray⟩] w fun e w' => e = .returned (.int .i64 c) ∧ w = w' := by
  have := checkVer_any l w; rw [hc] at this; exact this
theorem bne_of {c : Int} (h : c ≠ 0) : (c != 0) = true := by simpa using h

set_option maxHeartbeats 1000000 in
theorem verRows_any (l m n : List UInt8) (w : World) (hw : MaxOk w) :
    Calls Tryd.prog 4 #[.string ⟨l.toArray⟩, .string ⟨m.toArray⟩, .string ⟨n.toArray⟩] w fun e w' => e = .returned (.bool true) ∧ Below w.heap.size w w' := by
  have hnot : ∀ (x : Bool) (w : World), (Op.unary .not (.bool x)).run Tryd.prog w = .ok (.bool (!x)) w := fun _ _ => rfl
  have HW := Lib.hid hw
  clear hw
  go_enter Tryd.func4, Tryd.ntmps4
  go_wp2_with fail
  refine (known_any _ HW.out).mono ?_
  rintro _ w1 ⟨rfl, hb⟩
  have HB := Lib.hid hb
  have HM := Lib.hid (maxOk_below HW.out hb)
  clear hb HW
  go_wp2_with fail
  obtain ⟨c1, hc1⟩ : ∃ c, Vm.check l = c := ⟨_, rfl⟩
  obtain ⟨c2, hc2⟩ : ∃ c, Vm.check m = c := ⟨_, rfl⟩
  obtain ⟨c3, hc3⟩ : ∃ c, Vm.check n = c := ⟨_, rfl⟩
  have H1 := Lib.hid hc1
  have H2 := Lib.hid hc2
  have H3 := Lib.hid hc3
  clear hc1 hc2 hc3
  refine (checkVer_at l c1 _ H1.out).mono ?_
  rintro _ w2 ⟨rfl, rfl⟩
  by_cases g1 : c1 = 0
  · subst g1
    go_wp2_with fail
    refine (checkVer_at m c2 _ H2.out).mono ?_
    rintro _ w2 ⟨rfl, rfl⟩
    by_cases g2 : c2 = 0
    · subst g2
      go_wp2_with fail
      refine (checkVer_at n c3 _ H3.out).mono ?_
      rintro _ w2 ⟨rfl, rfl⟩
      by_cases g3 : c3 = 0
      · subst g3
        have HT := Lib.hid (Vm.cmpV_cmp.2 l m n)
        obtain ⟨x, hx⟩ : ∃ c, Vm.cmpV l m = c := ⟨_, rfl⟩
        obtain ⟨y, hy⟩ : ∃ c, Vm.cmpV m n = c := ⟨_, rfl⟩
        obtain ⟨z, hz⟩ : ∃ c, Vm.cmpV l n = c := ⟨_, rfl⟩
        rw [hx, hy, hz] at HT
        have X := Lib.hid hx
        have Y := Lib.hid hy
        have Z := Lib.hid hz
        clear hx hy hz
        go_wp2_with fail
        refine (compare_at l m x _ HM.out H1.out H2.out X.out).mono ?_
        rintro _ w2 ⟨rfl, hb2⟩
        have HB2 := Lib.hid (HB.out.trans (hb2.mono HB.out.size))
        have HM2 := Lib.hid (maxOk_below HM.out hb2)
        clear hb2 HB HM
        by_cases k1 : 0 < x
        · go_wp2_with fail
          go_ret
          exact ⟨by simp, HB2.out⟩
        · go_wp2_with fail
          refine (compare_at m n y _ HM2.out H2.out H3.out Y.out).mono ?_
          rintro _ w3 ⟨rfl, hb3⟩
          have HB3 := Lib.hid (HB2.out.trans (hb3.mono HB2.out.size))
          have HM3 := Lib.hid (maxOk_below HM2.out hb3)
          clear hb3 HB2 HM2
          by_cases k2 : 0 < y
          · go_wp2_with fail
            go_ret
            exact ⟨by simp, HB3.out⟩
          · have k3 : z ≤ 0 := HT.out (by omega) (by omega)
            go_wp2_with fail
            refine (compare_at l n z _ HM3.out H1.out H3.out Z.out).mono ?_
            rintro _ w4 ⟨rfl, hb4⟩
            have HB4 := Lib.hid (HB3.out.trans (hb4.mono HB3.out.size))
            clear hb4 HB3 HM3
            go_wp2_with fail
            go_ret
            exact ⟨by simp, HB4.out⟩
      · have n3 := bne_of g3
        go_wp2_with fail
        go_ret
        exact ⟨rfl, HB.out⟩
    · have n2 := bne_of g2
      go_wp2_with fail
      go_ret
      exact ⟨rfl, HB.out⟩
  · have n1 := bne_of g1
    go_wp2_with fail
    go_ret
    exact ⟨rfl, HB.out⟩

set_option maxHeartbeats 1000000 in
theorem verAny_any (l : List UInt8) (w : World) (hw : MaxOk w) (hlen : l.length ≤ 9223372036854775807) :
    Calls Tryd.prog 3 #[.string ⟨l.toArray⟩] w fun e w' => e = .returned (.bool true) ∧ Below w.heap.size w w' := by
  have hnot : ∀ (x : Bool) (w : World), (Op.unary .not (.bool x)).run Tryd.prog w = .ok (.bool (!x)) w := fun _ _ => rfl
  have HW := Lib.hid hw
  clear hw
  go_enter Tryd.func3, Tryd.ntmps3
  go_wp2_with fail
  refine (known_any _ HW.out).mono ?_
  rintro _ w1 ⟨rfl, hb⟩
  have HB := Lib.hid hb
  have HM := Lib.hid (maxOk_below HW.out hb)
  clear hb HW
  by_cases g0 : 200 < l.length
  · have H4 : Hid (Vm.check l = 4) := by show _ = _; rw [Vm.check, if_pos (by omega)]
    have g1 : (200 : Int) < (l.length : Int) := by omega
    go_wp2_with fail
    refine (check_at l 4 _ HM.out H4.out).mono ?_
    rintro _ w2 ⟨rfl, hb2⟩
    have HB2 := Lib.hid (HB.out.trans (hb2.mono HB.out.size))
    clear hb2 HB HM
    go_wp2_with fail
    go_ret
    exact ⟨rfl, HB2.out⟩
  · have HC1 : Hid (Vm.check l = 0 → Vm.check (Vm.canon l) = 0 ∧ Vm.canon (Vm.canon l) = Vm.canon l ∧ Vm.cmpV l (Vm.canon l) = 0 ∧ canonOf l = Vm.canon l) := fun h => ⟨Vm.canon_check h, Vm.canon_canon h, Vm.cmpV_own h, by rw [canonOf, if_pos h]⟩
    obtain ⟨c, hc⟩ : ∃ c, Vm.check l = c := ⟨_, rfl⟩
    obtain ⟨x, hx⟩ : ∃ x, canonOf l = x := ⟨_, rfl⟩
    have HC := Lib.hid hc
    have HX := Lib.hid hx
    clear hc hx
    have g1 : ¬ (200 : Int) < (l.length : Int) := by omega
    go_wp2_with fail
    refine (canon_any l _ HM.out).mono ?_
    rintro _ w2 ⟨rfl, hb2⟩
    have HB2 := Lib.hid (HB.out.trans (hb2.mono HB.out.size))
    have HM2 := Lib.hid (maxOk_below HM.out hb2)
    clear hb2 HB HM
    rw [HC.out, HX.out]
    go_wp2_with fail
    refine (refCanon_any l _).mono ?_
    rintro _ w3 ⟨rfl, hb3⟩
    have HB3 := Lib.hid (HB2.out.trans (hb3.mono HB2.out.size))
    have HM3 := Lib.hid (maxOk_below HM2.out hb3)
    clear hb3 HB2 HM2
    rw [HC.out, HX.out]
    go_wp2_with fail
    refine (check_at l c _ HM3.out HC.out).mono ?_
    rintro _ w4 ⟨rfl, hb4⟩
    have HB4 := Lib.hid (HB3.out.trans (hb4.mono HB3.out.size))
    have HM4 := Lib.hid (maxOk_below HM3.out hb4)
    clear hb4 HB3 HM3
    go_wp2_with fail
    refine (checkVer_at l c _ HC.out).mono ?_
    rintro _ w5 ⟨rfl, rfl⟩
    have e1 : (c != c) = false := by simp
    by_cases g2 : c = 0
    · subst g2
      obtain ⟨d1, d2, d3, d4⟩ := HC1.out HC.out
      have HX2 : Hid (Vm.canon l = x) := by show _ = _; rw [← d4, HX.out]
      rw [HX2.out] at d1 d2 d3
      have D1 := Lib.hid d1
      have D2 := Lib.hid d2
      have D3 := Lib.hid d3
      clear d1 d2 d3 d4 e1
      go_wp2_with fail
      refine (canon_at x x _ HM4.out D1.out D2.out).mono ?_
      rintro _ w6 ⟨rfl, hb6⟩
      have HB6 := Lib.hid (HB4.out.trans (hb6.mono HB4.out.size))
      have HM6 := Lib.hid (maxOk_below HM4.out hb6)
      clear hb6 HB4 HM4
      go_wp2_with fail
      obtain ⟨v, hv⟩ : ∃ v, Vm.num (Vm.ep l) = v := ⟨_, rfl⟩
      have HV := Lib.hid hv
      clear hv
      refine (epoch_at l v _ HM6.out HC.out HV.out).mono ?_
      rintro _ w7 ⟨rfl, hb7⟩
      have HB7 := Lib.hid (HB6.out.trans (hb7.mono HB6.out.size))
      have HM7 := Lib.hid (maxOk_below HM6.out hb7)
      clear hb7 HB6 HM6
      go_wp2_with fail
      refine (refEpoch_any l _ HC.out).mono ?_
      rintro _ w8 ⟨rfl, rfl⟩
      rw [HV.out]
      go_wp2_with fail
      refine (compare_at l x 0 _ HM7.out HC.out D1.out D3.out).mono ?_
      rintro _ w9 ⟨rfl, hb9⟩
      have HB9 := Lib.hid (HB7.out.trans (hb9.mono HB7.out.size))
      clear hb9 HB7 HM7
      go_wp2_with fail
      go_ret
      exact ⟨by simp, HB9.out⟩
    · have n1 := bne_of g2
      go_wp2_with fail
      go_ret
      exact ⟨rfl, HB4.out⟩
end Go.Proofs.YtkbahnimnhafiaaDoor
