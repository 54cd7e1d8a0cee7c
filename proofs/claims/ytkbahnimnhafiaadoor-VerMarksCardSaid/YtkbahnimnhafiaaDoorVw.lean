/- The law VerMarks, walked. -/
import Derived.Test.YtkbahnimnhafiaaDoorVv
namespace Go.Proofs.YtkbahnimnhafiaaDoor
open Go.RowKit

/-- The marks, as they rise. -/
def mk (x : Nat) : List UInt8 := match x with
  | 0 => [126] | 1 => [] | 2 => [65] | 3 => [90] | 4 => [97] | 5 => [122] | 6 => [43] | _ => [46]
theorem mk_cmp (x y : Nat) (hx : x < 8) (hy : y < 8) : Vm.cmpO (mk x) (mk y) = Vm.sgn x y := by
  have h : ∀ i, i < 8 → ∀ j, j < 8 → Vm.cmpO (mk i) (mk j) = Vm.sgn (i : Int) (j : Int) := by decide
  exact h x hx y hy
theorem mk_ok (x : Nat) (hx : x < 8) : (mk x).all Vm.ok1 = true ∧ (mk x).all (fun c => !Vm.dig c) = true ∧ (mk x).length ≤ 1 ∧ (x ≠ 1 → mk x ≠ []) := by
  have h : ∀ i, i < 8 → (mk i).all Vm.ok1 = true ∧ (mk i).all (fun c => !Vm.dig c) = true ∧ (mk i).length ≤ 1 ∧ (i ≠ 1 → mk i ≠ []) := by decide
  exact h x hx
theorem marks_cell (w : World) (x : Nat) (hx : x < 8) : (w.alloc (.cells #[.string ⟨#[126]⟩, .string ⟨#[]⟩, .string ⟨#[65]⟩, .string ⟨#[90]⟩, .string ⟨#[97]⟩, .string ⟨#[122]⟩, .string ⟨#[43]⟩, .string ⟨#[46]⟩] 9)).cell? ⟨w.heap.size, x, none⟩ = some (.string ⟨(mk x).toArray⟩) := by
  rw [World.cell?_alloc_mark]
  match x, hx with
  | 0, _ => rfl
  | 1, _ => rfl
  | 2, _ => rfl
  | 3, _ => rfl
  | 4, _ => rfl
  | 5, _ => rfl
  | 6, _ => rfl
  | 7, _ => rfl
/-- What is behind the mark: digits of n, or nothing behind no mark. -/
def Tl (x n : Nat) (d : List UInt8) : Prop := d.all Vm.dig = true ∧ d.length ≤ 10 ∧ ((x = 1 ∧ d = []) ∨ (x ≠ 1 ∧ d ≠ [] ∧ Vm.num d = n))
theorem vm_check (x n : Nat) (hx : x < 8) (d : List UInt8) (hd : Tl x n d) : Vm.check (53 :: (mk x ++ d)) = 0 := by
  obtain ⟨h1, h2, h3⟩ := hd
  obtain ⟨m1, _, m3, _⟩ := mk_ok x hx
  have e : 53 :: (mk x ++ d) = Vm.glue [] (53 :: (mk x ++ d)) [] := by simp [Vm.glue]
  rw [e]
  refine digs_pieces [] _ [] rfl ?_ rfl (by simp) (by simp; omega) ?_ (Or.inl rfl)
  · simp only [List.all_cons, List.all_append, m1, Vm.dig_ok h1, Bool.and_true]; decide
  · rcases h3 with ⟨rfl, rfl⟩ | ⟨_, h4, _⟩
    · decide
    · exact part_mark (by decide) m1 h4 h1
theorem vm_cmp (x y n : Nat) (hx : x < 8) (hy : y < 8) (d e : List UInt8) (hd : Tl x n d) (he : Tl y n e) : Vm.cmpV (53 :: (mk x ++ d)) (53 :: (mk y ++ e)) = Vm.sgn x y := by
  obtain ⟨h1, h2, h3⟩ := hd
  obtain ⟨f1, f2, f3⟩ := he
  obtain ⟨m1, m2, m3, m4⟩ := mk_ok x hx
  obtain ⟨k1, k2, k3, k4⟩ := mk_ok y hy
  have e1 : ∀ (z : Nat) (l : List UInt8), 53 :: (mk z ++ l) = Vm.glue [] (53 :: (mk z ++ l)) [] := fun z l => by simp [Vm.glue]
  have o1 : (53 :: (mk x ++ d)).all Vm.ok1 = true := by simp only [List.all_cons, List.all_append, m1, Vm.dig_ok h1, Bool.and_true]; decide
  have o2 : (53 :: (mk y ++ e)).all Vm.ok1 = true := by simp only [List.all_cons, List.all_append, k1, Vm.dig_ok f1, Bool.and_true]; decide
  have n1 : mk x = [] → d = [] := fun h => by
    rcases h3 with ⟨_, h4⟩ | ⟨h4, _⟩
    · exact h4
    · exact absurd h (m4 h4)
  have n2 : mk y = [] → e = [] := fun h => by
    rcases f3 with ⟨_, h4⟩ | ⟨h4, _⟩
    · exact h4
    · exact absurd h (k4 h4)
  rw [e1 x d, e1 y e, cmpV_glue [] _ [] [] _ [] rfl o1 rfl rfl o2 rfl]
  show Vm.both (Vm.cmpD [48] [48]) (Vm.both (Vm.cmpP (40 + 1) (53 :: (mk x ++ d)) (53 :: (mk y ++ e))) (Vm.cmpP 41 [48] [48])) = _
  rw [(Vm.cmpD_eq [48] [48]).2 rfl, both_zero_left, cmpP48, both_zero, cmpP_mark 40 (by decide) m2 k2 h1 f1 n1 n2, mk_cmp x y hx hy]
  by_cases hxy : x = y
  · subst hxy
    have hs : Vm.sgn (x : Int) (x : Int) = 0 := (Vm.sgn_eq _ _).2 rfl
    rw [hs, both_zero_left, cmpP_digs 39 d e h1 f1, Vm.sgn_eq]
    rcases h3 with ⟨h4, rfl⟩ | ⟨h4, _, h5⟩
    · rcases f3 with ⟨_, rfl⟩ | ⟨g4, _⟩
      · rfl
      · exact absurd h4 g4
    · rcases f3 with ⟨g4, _⟩ | ⟨_, _, g5⟩
      · exact absurd g4 h4
      · rw [h5, g5]
  · unfold Vm.both
    rw [if_neg]
    rw [beq_iff_eq, Vm.sgn_eq]; omega

set_option maxRecDepth 100000 in
set_option maxHeartbeats 2000000 in
theorem verMarks_any (a b n : Nat) (hn : n < 256) (w : World) (hw : MaxOk w) :
    Calls Tryd.prog 6 #[.int .u8 a, .int .u8 b, .int .u8 n] w fun e w' => e = .returned (.bool true) ∧ Below w.heap.size w w' := by
  have hnot : ∀ (x : Bool) (w : World), (Op.unary .not (.bool x)).run Tryd.prog w = .ok (.bool (!x)) w := fun _ _ => rfl
  have HW := Lib.hid hw
  have HN : Hid (n < 4294967296) := by show _ < _; omega
  have un : IntKind.u64.wrap (n : Int) = n := IntWalk.u64_in _ (by omega)
  have n0 : (0 : Int) ≤ (n : Int) := by omega
  have a0 : (0 : Int) ≤ (a : Int) := by omega
  have b0 : (0 : Int) ≤ (b : Int) := by omega
  obtain ⟨x, hx, hx8⟩ : ∃ x : Nat, (a : Int) % 8 = x ∧ x < 8 := ⟨a % 8, by omega, by omega⟩
  obtain ⟨y, hy, hy8⟩ : ∃ y : Nat, (b : Int) % 8 = y ∧ y < 8 := ⟨b % 8, by omega, by omega⟩
  have x0 : (0 : Int) ≤ (x : Int) := by omega
  have x8 : (x : Int) < 8 := by omega
  have y0 : (0 : Int) ≤ (y : Int) := by omega
  have y8 : (y : Int) < 8 := by omega
  clear hw hn
  go_enter Tryd.func6, Tryd.ntmps6
  go_wp2_with fail
  refine (known_any _ HW.out).mono ?_
  rintro _ w1 ⟨rfl, hb⟩
  have HB := Lib.hid hb
  have HM := Lib.hid (maxOk_below HW.out hb)
  clear hb HW
  have cx := marks_cell w1 x hx8
  have cy := marks_cell w1 y hy8
  have HKX := Lib.hid (mk_ok x hx8)
  have HKY := Lib.hid (mk_ok y hy8)
  have HCM : Hid (∀ d e, Tl x n d → Tl y n e → Vm.cmpV (53 :: (mk x ++ d)) (53 :: (mk y ++ e)) = Vm.sgn x y) := fun d e hd he => vm_cmp x y n hx8 hy8 d e hd he
  have HCN : Hid (∀ d e, Tl x n d → Tl y n e → Vm.cmpV (53 :: (mk y ++ e)) (53 :: (mk x ++ d)) = Vm.sgn y x) := fun d e hd he => vm_cmp y x n hy8 hx8 e d he hd
  have HVX : Hid (∀ d, Tl x n d → Vm.check (53 :: (mk x ++ d)) = 0) := fun d hd => vm_check x n hx8 d hd
  have HVY : Hid (∀ d, Tl y n d → Vm.check (53 :: (mk y ++ d)) = 0) := fun d hd => vm_check y n hy8 d hd
  obtain ⟨mx, hmx⟩ : ∃ m, mk x = m := ⟨_, rfl⟩
  obtain ⟨my, hmy⟩ : ∃ m, mk y = m := ⟨_, rfl⟩
  rw [hmx] at cx HKX HCM HCN HVX
  rw [hmy] at cy HKY HCM HCN HVY
  have lx := HKX.out.2.2.1
  have ly := HKY.out.2.2.1
  have apx : (⟨#[53]⟩ : ByteArray) ++ ⟨mx.toArray⟩ = ⟨(53 :: mx).toArray⟩ := ByteArray.mk_append_mk [53] mx
  have apy : (⟨#[53]⟩ : ByteArray) ++ ⟨my.toArray⟩ = ⟨(53 :: my).toArray⟩ := ByteArray.mk_append_mk [53] my
  have HMX := Lib.hid hmx
  have HMY := Lib.hid hmy
  clear hmx hmy
  go_wp2_with fail
  go_quiet (fail)
  have hb1 : Below w1.heap.size w1 ((w1.alloc (.cells #[.string ⟨#[126]⟩, .string ⟨#[]⟩, .string ⟨#[65]⟩, .string ⟨#[90]⟩, .string ⟨#[97]⟩, .string ⟨#[122]⟩, .string ⟨#[43]⟩, .string ⟨#[46]⟩] 9)).drewN nq) := below_drewN ((Below.refl _ _).alloc (Nat.le_refl _) _) nq
  have HM1 := Lib.hid (maxOk_below HM.out hb1)
  have HB1 := Lib.hid (HB.out.trans (hb1.mono HB.out.size))
  clear hb1 HM HB cx cy HKX HKY HMX HMY hnot
  by_cases hx1 : x = 1
  · have gx : (x : Int) = 1 := by omega
    by_cases hy1 : y = 1
    · have gy : (y : Int) = 1 := by omega
      have gxy : (x : Int) = (y : Int) := by omega
      obtain ⟨d, HT1, hdn⟩ : ∃ d, Hid (Tl x n d) ∧ d = [] := ⟨[], ⟨rfl, by simp, Or.inl ⟨hx1, rfl⟩⟩, rfl⟩
      have HB2 := HB1
      have HM2 := HM1
      clear HB1 HM1
      obtain ⟨s1, hs1⟩ : ∃ l, 53 :: mx = l := ⟨_, rfl⟩
      have ls : s1.length ≤ 20 := by rw [← hs1]; simp; omega
      rw [hs1]
      obtain ⟨t, HT2, htn⟩ : ∃ d, Hid (Tl y n d) ∧ d = [] := ⟨[], ⟨rfl, by simp, Or.inl ⟨hy1, rfl⟩⟩, rfl⟩
      have HB3 := HB2
      have HM3 := HM2
      clear HB2 HM2
      obtain ⟨t1, ht1⟩ : ∃ l, 53 :: my = l := ⟨_, rfl⟩
      have lt : t1.length ≤ 20 := by rw [← ht1]; simp; omega
      rw [ht1]
      have Q1 : Hid (Vm.check s1 = 0) := Lib.hid (by rw [show s1 = 53 :: (mx ++ d) from by rw [← hs1, hdn, List.append_nil]]; exact HVX.out _ HT1.out)
      have Q2 : Hid (Vm.check t1 = 0) := Lib.hid (by rw [show t1 = 53 :: (my ++ t) from by rw [← ht1, htn, List.append_nil]]; exact HVY.out _ HT2.out)
      have Q3 : Hid (Vm.cmpV s1 t1 = 0) := Lib.hid (by rw [show s1 = 53 :: (mx ++ d) from by rw [← hs1, hdn, List.append_nil], show t1 = 53 :: (my ++ t) from by rw [← ht1, htn, List.append_nil], HCM.out _ _ HT1.out HT2.out]; exact (Vm.sgn_eq _ _).2 (by omega))
      have Q4 : Hid (Vm.cmpV t1 s1 = 0) := Lib.hid (by rw [show s1 = 53 :: (mx ++ d) from by rw [← hs1, hdn, List.append_nil], show t1 = 53 :: (my ++ t) from by rw [← ht1, htn, List.append_nil], HCN.out _ _ HT1.out HT2.out]; exact (Vm.sgn_eq _ _).2 (by omega))
      clear hs1 ht1 HT1 HT2
      go_wp2_with fail
      refine (compare_at s1 t1 0 _ HM3.out Q1.out Q2.out Q3.out).mono ?_
      rintro _ w4 ⟨rfl, hb⟩
      have HB4 := Lib.hid (HB3.out.trans (hb.mono HB3.out.size))
      have HM4 := Lib.hid (maxOk_below HM3.out hb)
      clear hb HB3 HM3
      go_wp2_with fail
      refine (compare_at t1 s1 0 _ HM4.out Q2.out Q1.out Q4.out).mono ?_
      rintro _ w5 ⟨rfl, hb⟩
      have HB5 := Lib.hid (HB4.out.trans (hb.mono HB4.out.size))
      clear hb HB4 HM4
      go_wp2_with fail
      go_ret
      exact ⟨rfl, HB5.out⟩
    · have gy : (y : Int) ≠ 1 := by omega
      rcases Nat.lt_or_gt_of_ne (show x ≠ y by omega) with hab | hab
      · have gxy : (x : Int) < (y : Int) := by omega
        obtain ⟨d, HT1, hdn⟩ : ∃ d, Hid (Tl x n d) ∧ d = [] := ⟨[], ⟨rfl, by simp, Or.inl ⟨hx1, rfl⟩⟩, rfl⟩
        have HB2 := HB1
        have HM2 := HM1
        clear HB1 HM1
        obtain ⟨s1, hs1⟩ : ∃ l, 53 :: mx = l := ⟨_, rfl⟩
        have ls : s1.length ≤ 20 := by rw [← hs1]; simp; omega
        rw [hs1]
        go_wp2_with fail
        refine (decimal_any n HN.out _).mono ?_
        rintro _ w3 ⟨t, rfl, hd0, hd, htn, htl, hb⟩
        have HT2 : Hid (Tl y n t) := ⟨hd, htl, Or.inr ⟨hy1, hd0, htn⟩⟩
        have HB3 := Lib.hid (HB2.out.trans (hb.mono HB2.out.size))
        have HM3 := Lib.hid (maxOk_below HM2.out hb)
        clear hb HB2 HM2 hd0 hd htn
        have ap3 : (⟨(53 :: my).toArray⟩ : ByteArray) ++ ⟨t.toArray⟩ = ⟨(53 :: (my ++ t)).toArray⟩ := ByteArray.mk_append_mk (53 :: my) t
        obtain ⟨t1, ht1⟩ : ∃ l, 53 :: (my ++ t) = l := ⟨_, rfl⟩
        have lt : t1.length ≤ 20 := by rw [← ht1]; simp; omega
        rw [ht1] at ap3
        have Q1 : Hid (Vm.check s1 = 0) := Lib.hid (by rw [show s1 = 53 :: (mx ++ d) from by rw [← hs1, hdn, List.append_nil]]; exact HVX.out _ HT1.out)
        have Q2 : Hid (Vm.check t1 = 0) := Lib.hid (by rw [show t1 = 53 :: (my ++ t) from by rw [← ht1]]; exact HVY.out _ HT2.out)
        have Q3 : Hid (Vm.cmpV s1 t1 = (-1)) := Lib.hid (by rw [show s1 = 53 :: (mx ++ d) from by rw [← hs1, hdn, List.append_nil], show t1 = 53 :: (my ++ t) from by rw [← ht1], HCM.out _ _ HT1.out HT2.out]; exact Vm.sgn_lt (by omega))
        have Q4 : Hid (Vm.cmpV t1 s1 = 1) := Lib.hid (by rw [show s1 = 53 :: (mx ++ d) from by rw [← hs1, hdn, List.append_nil], show t1 = 53 :: (my ++ t) from by rw [← ht1], HCN.out _ _ HT1.out HT2.out]; exact Vm.sgn_gt (by omega))
        clear hs1 ht1 HT1 HT2
        go_wp2_with fail
        refine (compare_at s1 t1 (-1) _ HM3.out Q1.out Q2.out Q3.out).mono ?_
        rintro _ w4 ⟨rfl, hb⟩
        have HB4 := Lib.hid (HB3.out.trans (hb.mono HB3.out.size))
        have HM4 := Lib.hid (maxOk_below HM3.out hb)
        clear hb HB3 HM3
        go_wp2_with fail
        refine (compare_at t1 s1 1 _ HM4.out Q2.out Q1.out Q4.out).mono ?_
        rintro _ w5 ⟨rfl, hb⟩
        have HB5 := Lib.hid (HB4.out.trans (hb.mono HB4.out.size))
        clear hb HB4 HM4
        go_wp2_with fail
        go_ret
        exact ⟨rfl, HB5.out⟩
      · have gxy : (y : Int) < (x : Int) := by omega
        obtain ⟨d, HT1, hdn⟩ : ∃ d, Hid (Tl x n d) ∧ d = [] := ⟨[], ⟨rfl, by simp, Or.inl ⟨hx1, rfl⟩⟩, rfl⟩
        have HB2 := HB1
        have HM2 := HM1
        clear HB1 HM1
        obtain ⟨s1, hs1⟩ : ∃ l, 53 :: mx = l := ⟨_, rfl⟩
        have ls : s1.length ≤ 20 := by rw [← hs1]; simp; omega
        rw [hs1]
        go_wp2_with fail
        refine (decimal_any n HN.out _).mono ?_
        rintro _ w3 ⟨t, rfl, hd0, hd, htn, htl, hb⟩
        have HT2 : Hid (Tl y n t) := ⟨hd, htl, Or.inr ⟨hy1, hd0, htn⟩⟩
        have HB3 := Lib.hid (HB2.out.trans (hb.mono HB2.out.size))
        have HM3 := Lib.hid (maxOk_below HM2.out hb)
        clear hb HB2 HM2 hd0 hd htn
        have ap3 : (⟨(53 :: my).toArray⟩ : ByteArray) ++ ⟨t.toArray⟩ = ⟨(53 :: (my ++ t)).toArray⟩ := ByteArray.mk_append_mk (53 :: my) t
        obtain ⟨t1, ht1⟩ : ∃ l, 53 :: (my ++ t) = l := ⟨_, rfl⟩
        have lt : t1.length ≤ 20 := by rw [← ht1]; simp; omega
        rw [ht1] at ap3
        have Q1 : Hid (Vm.check s1 = 0) := Lib.hid (by rw [show s1 = 53 :: (mx ++ d) from by rw [← hs1, hdn, List.append_nil]]; exact HVX.out _ HT1.out)
        have Q2 : Hid (Vm.check t1 = 0) := Lib.hid (by rw [show t1 = 53 :: (my ++ t) from by rw [← ht1]]; exact HVY.out _ HT2.out)
        have Q3 : Hid (Vm.cmpV s1 t1 = 1) := Lib.hid (by rw [show s1 = 53 :: (mx ++ d) from by rw [← hs1, hdn, List.append_nil], show t1 = 53 :: (my ++ t) from by rw [← ht1], HCM.out _ _ HT1.out HT2.out]; exact Vm.sgn_gt (by omega))
        have Q4 : Hid (Vm.cmpV t1 s1 = (-1)) := Lib.hid (by rw [show s1 = 53 :: (mx ++ d) from by rw [← hs1, hdn, List.append_nil], show t1 = 53 :: (my ++ t) from by rw [← ht1], HCN.out _ _ HT1.out HT2.out]; exact Vm.sgn_lt (by omega))
        clear hs1 ht1 HT1 HT2
        go_wp2_with fail
        refine (compare_at s1 t1 1 _ HM3.out Q1.out Q2.out Q3.out).mono ?_
        rintro _ w4 ⟨rfl, hb⟩
        have HB4 := Lib.hid (HB3.out.trans (hb.mono HB3.out.size))
        have HM4 := Lib.hid (maxOk_below HM3.out hb)
        clear hb HB3 HM3
        go_wp2_with fail
        refine (compare_at t1 s1 (-1) _ HM4.out Q2.out Q1.out Q4.out).mono ?_
        rintro _ w5 ⟨rfl, hb⟩
        have HB5 := Lib.hid (HB4.out.trans (hb.mono HB4.out.size))
        clear hb HB4 HM4
        go_wp2_with fail
        go_ret
        exact ⟨rfl, HB5.out⟩
  · have gx : (x : Int) ≠ 1 := by omega
    by_cases hy1 : y = 1
    · have gy : (y : Int) = 1 := by omega
      rcases Nat.lt_or_gt_of_ne (show x ≠ y by omega) with hab | hab
      · have gxy : (x : Int) < (y : Int) := by omega
        go_wp2_with fail
        refine (decimal_any n HN.out _).mono ?_
        rintro _ w2 ⟨d, rfl, hd0, hd, hdn, hdl, hb⟩
        have HT1 : Hid (Tl x n d) := ⟨hd, hdl, Or.inr ⟨hx1, hd0, hdn⟩⟩
        have HB2 := Lib.hid (HB1.out.trans (hb.mono HB1.out.size))
        have HM2 := Lib.hid (maxOk_below HM1.out hb)
        clear hb HB1 HM1 hd0 hd hdn
        have ap2 : (⟨(53 :: mx).toArray⟩ : ByteArray) ++ ⟨d.toArray⟩ = ⟨(53 :: (mx ++ d)).toArray⟩ := ByteArray.mk_append_mk (53 :: mx) d
        obtain ⟨s1, hs1⟩ : ∃ l, 53 :: (mx ++ d) = l := ⟨_, rfl⟩
        have ls : s1.length ≤ 20 := by rw [← hs1]; simp; omega
        rw [hs1] at ap2
        obtain ⟨t, HT2, htn⟩ : ∃ d, Hid (Tl y n d) ∧ d = [] := ⟨[], ⟨rfl, by simp, Or.inl ⟨hy1, rfl⟩⟩, rfl⟩
        have HB3 := HB2
        have HM3 := HM2
        clear HB2 HM2
        obtain ⟨t1, ht1⟩ : ∃ l, 53 :: my = l := ⟨_, rfl⟩
        have lt : t1.length ≤ 20 := by rw [← ht1]; simp; omega
        rw [ht1]
        have Q1 : Hid (Vm.check s1 = 0) := Lib.hid (by rw [show s1 = 53 :: (mx ++ d) from by rw [← hs1]]; exact HVX.out _ HT1.out)
        have Q2 : Hid (Vm.check t1 = 0) := Lib.hid (by rw [show t1 = 53 :: (my ++ t) from by rw [← ht1, htn, List.append_nil]]; exact HVY.out _ HT2.out)
        have Q3 : Hid (Vm.cmpV s1 t1 = (-1)) := Lib.hid (by rw [show s1 = 53 :: (mx ++ d) from by rw [← hs1], show t1 = 53 :: (my ++ t) from by rw [← ht1, htn, List.append_nil], HCM.out _ _ HT1.out HT2.out]; exact Vm.sgn_lt (by omega))
        have Q4 : Hid (Vm.cmpV t1 s1 = 1) := Lib.hid (by rw [show s1 = 53 :: (mx ++ d) from by rw [← hs1], show t1 = 53 :: (my ++ t) from by rw [← ht1, htn, List.append_nil], HCN.out _ _ HT1.out HT2.out]; exact Vm.sgn_gt (by omega))
        clear hs1 ht1 HT1 HT2
        go_wp2_with fail
        refine (compare_at s1 t1 (-1) _ HM3.out Q1.out Q2.out Q3.out).mono ?_
        rintro _ w4 ⟨rfl, hb⟩
        have HB4 := Lib.hid (HB3.out.trans (hb.mono HB3.out.size))
        have HM4 := Lib.hid (maxOk_below HM3.out hb)
        clear hb HB3 HM3
        go_wp2_with fail
        refine (compare_at t1 s1 1 _ HM4.out Q2.out Q1.out Q4.out).mono ?_
        rintro _ w5 ⟨rfl, hb⟩
        have HB5 := Lib.hid (HB4.out.trans (hb.mono HB4.out.size))
        clear hb HB4 HM4
        go_wp2_with fail
        go_ret
        exact ⟨rfl, HB5.out⟩
      · have gxy : (y : Int) < (x : Int) := by omega
        go_wp2_with fail
        refine (decimal_any n HN.out _).mono ?_
        rintro _ w2 ⟨d, rfl, hd0, hd, hdn, hdl, hb⟩
        have HT1 : Hid (Tl x n d) := ⟨hd, hdl, Or.inr ⟨hx1, hd0, hdn⟩⟩
        have HB2 := Lib.hid (HB1.out.trans (hb.mono HB1.out.size))
        have HM2 := Lib.hid (maxOk_below HM1.out hb)
        clear hb HB1 HM1 hd0 hd hdn
        have ap2 : (⟨(53 :: mx).toArray⟩ : ByteArray) ++ ⟨d.toArray⟩ = ⟨(53 :: (mx ++ d)).toArray⟩ := ByteArray.mk_append_mk (53 :: mx) d
        obtain ⟨s1, hs1⟩ : ∃ l, 53 :: (mx ++ d) = l := ⟨_, rfl⟩
        have ls : s1.length ≤ 20 := by rw [← hs1]; simp; omega
        rw [hs1] at ap2
        obtain ⟨t, HT2, htn⟩ : ∃ d, Hid (Tl y n d) ∧ d = [] := ⟨[], ⟨rfl, by simp, Or.inl ⟨hy1, rfl⟩⟩, rfl⟩
        have HB3 := HB2
        have HM3 := HM2
        clear HB2 HM2
        obtain ⟨t1, ht1⟩ : ∃ l, 53 :: my = l := ⟨_, rfl⟩
        have lt : t1.length ≤ 20 := by rw [← ht1]; simp; omega
        rw [ht1]
        have Q1 : Hid (Vm.check s1 = 0) := Lib.hid (by rw [show s1 = 53 :: (mx ++ d) from by rw [← hs1]]; exact HVX.out _ HT1.out)
        have Q2 : Hid (Vm.check t1 = 0) := Lib.hid (by rw [show t1 = 53 :: (my ++ t) from by rw [← ht1, htn, List.append_nil]]; exact HVY.out _ HT2.out)
        have Q3 : Hid (Vm.cmpV s1 t1 = 1) := Lib.hid (by rw [show s1 = 53 :: (mx ++ d) from by rw [← hs1], show t1 = 53 :: (my ++ t) from by rw [← ht1, htn, List.append_nil], HCM.out _ _ HT1.out HT2.out]; exact Vm.sgn_gt (by omega))
        have Q4 : Hid (Vm.cmpV t1 s1 = (-1)) := Lib.hid (by rw [show s1 = 53 :: (mx ++ d) from by rw [← hs1], show t1 = 53 :: (my ++ t) from by rw [← ht1, htn, List.append_nil], HCN.out _ _ HT1.out HT2.out]; exact Vm.sgn_lt (by omega))
        clear hs1 ht1 HT1 HT2
        go_wp2_with fail
        refine (compare_at s1 t1 1 _ HM3.out Q1.out Q2.out Q3.out).mono ?_
        rintro _ w4 ⟨rfl, hb⟩
        have HB4 := Lib.hid (HB3.out.trans (hb.mono HB3.out.size))
        have HM4 := Lib.hid (maxOk_below HM3.out hb)
        clear hb HB3 HM3
        go_wp2_with fail
        refine (compare_at t1 s1 (-1) _ HM4.out Q2.out Q1.out Q4.out).mono ?_
        rintro _ w5 ⟨rfl, hb⟩
        have HB5 := Lib.hid (HB4.out.trans (hb.mono HB4.out.size))
        clear hb HB4 HM4
        go_wp2_with fail
        go_ret
        exact ⟨rfl, HB5.out⟩
    · have gy : (y : Int) ≠ 1 := by omega
      rcases Nat.lt_trichotomy x y with hab | hab | hab
      · have gxy : (x : Int) < (y : Int) := by omega
        go_wp2_with fail
        refine (decimal_any n HN.out _).mono ?_
        rintro _ w2 ⟨d, rfl, hd0, hd, hdn, hdl, hb⟩
        have HT1 : Hid (Tl x n d) := ⟨hd, hdl, Or.inr ⟨hx1, hd0, hdn⟩⟩
        have HB2 := Lib.hid (HB1.out.trans (hb.mono HB1.out.size))
        have HM2 := Lib.hid (maxOk_below HM1.out hb)
        clear hb HB1 HM1 hd0 hd hdn
        have ap2 : (⟨(53 :: mx).toArray⟩ : ByteArray) ++ ⟨d.toArray⟩ = ⟨(53 :: (mx ++ d)).toArray⟩ := ByteArray.mk_append_mk (53 :: mx) d
        obtain ⟨s1, hs1⟩ : ∃ l, 53 :: (mx ++ d) = l := ⟨_, rfl⟩
        have ls : s1.length ≤ 20 := by rw [← hs1]; simp; omega
        rw [hs1] at ap2
        go_wp2_with fail
        refine (decimal_any n HN.out _).mono ?_
        rintro _ w3 ⟨t, rfl, hd0, hd, htn, htl, hb⟩
        have HT2 : Hid (Tl y n t) := ⟨hd, htl, Or.inr ⟨hy1, hd0, htn⟩⟩
        have HB3 := Lib.hid (HB2.out.trans (hb.mono HB2.out.size))
        have HM3 := Lib.hid (maxOk_below HM2.out hb)
        clear hb HB2 HM2 hd0 hd htn
        have ap3 : (⟨(53 :: my).toArray⟩ : ByteArray) ++ ⟨t.toArray⟩ = ⟨(53 :: (my ++ t)).toArray⟩ := ByteArray.mk_append_mk (53 :: my) t
        obtain ⟨t1, ht1⟩ : ∃ l, 53 :: (my ++ t) = l := ⟨_, rfl⟩
        have lt : t1.length ≤ 20 := by rw [← ht1]; simp; omega
        rw [ht1] at ap3
        have Q1 : Hid (Vm.check s1 = 0) := Lib.hid (by rw [show s1 = 53 :: (mx ++ d) from by rw [← hs1]]; exact HVX.out _ HT1.out)
        have Q2 : Hid (Vm.check t1 = 0) := Lib.hid (by rw [show t1 = 53 :: (my ++ t) from by rw [← ht1]]; exact HVY.out _ HT2.out)
        have Q3 : Hid (Vm.cmpV s1 t1 = (-1)) := Lib.hid (by rw [show s1 = 53 :: (mx ++ d) from by rw [← hs1], show t1 = 53 :: (my ++ t) from by rw [← ht1], HCM.out _ _ HT1.out HT2.out]; exact Vm.sgn_lt (by omega))
        have Q4 : Hid (Vm.cmpV t1 s1 = 1) := Lib.hid (by rw [show s1 = 53 :: (mx ++ d) from by rw [← hs1], show t1 = 53 :: (my ++ t) from by rw [← ht1], HCN.out _ _ HT1.out HT2.out]; exact Vm.sgn_gt (by omega))
        clear hs1 ht1 HT1 HT2
        go_wp2_with fail
        refine (compare_at s1 t1 (-1) _ HM3.out Q1.out Q2.out Q3.out).mono ?_
        rintro _ w4 ⟨rfl, hb⟩
        have HB4 := Lib.hid (HB3.out.trans (hb.mono HB3.out.size))
        have HM4 := Lib.hid (maxOk_below HM3.out hb)
        clear hb HB3 HM3
        go_wp2_with fail
        refine (compare_at t1 s1 1 _ HM4.out Q2.out Q1.out Q4.out).mono ?_
        rintro _ w5 ⟨rfl, hb⟩
        have HB5 := Lib.hid (HB4.out.trans (hb.mono HB4.out.size))
        clear hb HB4 HM4
        go_wp2_with fail
        go_ret
        exact ⟨rfl, HB5.out⟩
      · have gxy : (x : Int) = (y : Int) := by omega
        go_wp2_with fail
        refine (decimal_any n HN.out _).mono ?_
        rintro _ w2 ⟨d, rfl, hd0, hd, hdn, hdl, hb⟩
        have HT1 : Hid (Tl x n d) := ⟨hd, hdl, Or.inr ⟨hx1, hd0, hdn⟩⟩
        have HB2 := Lib.hid (HB1.out.trans (hb.mono HB1.out.size))
        have HM2 := Lib.hid (maxOk_below HM1.out hb)
        clear hb HB1 HM1 hd0 hd hdn
        have ap2 : (⟨(53 :: mx).toArray⟩ : ByteArray) ++ ⟨d.toArray⟩ = ⟨(53 :: (mx ++ d)).toArray⟩ := ByteArray.mk_append_mk (53 :: mx) d
        obtain ⟨s1, hs1⟩ : ∃ l, 53 :: (mx ++ d) = l := ⟨_, rfl⟩
        have ls : s1.length ≤ 20 := by rw [← hs1]; simp; omega
        rw [hs1] at ap2
        go_wp2_with fail
        refine (decimal_any n HN.out _).mono ?_
        rintro _ w3 ⟨t, rfl, hd0, hd, htn, htl, hb⟩
        have HT2 : Hid (Tl y n t) := ⟨hd, htl, Or.inr ⟨hy1, hd0, htn⟩⟩
        have HB3 := Lib.hid (HB2.out.trans (hb.mono HB2.out.size))
        have HM3 := Lib.hid (maxOk_below HM2.out hb)
        clear hb HB2 HM2 hd0 hd htn
        have ap3 : (⟨(53 :: my).toArray⟩ : ByteArray) ++ ⟨t.toArray⟩ = ⟨(53 :: (my ++ t)).toArray⟩ := ByteArray.mk_append_mk (53 :: my) t
        obtain ⟨t1, ht1⟩ : ∃ l, 53 :: (my ++ t) = l := ⟨_, rfl⟩
        have lt : t1.length ≤ 20 := by rw [← ht1]; simp; omega
        rw [ht1] at ap3
        have Q1 : Hid (Vm.check s1 = 0) := Lib.hid (by rw [show s1 = 53 :: (mx ++ d) from by rw [← hs1]]; exact HVX.out _ HT1.out)
        have Q2 : Hid (Vm.check t1 = 0) := Lib.hid (by rw [show t1 = 53 :: (my ++ t) from by rw [← ht1]]; exact HVY.out _ HT2.out)
        have Q3 : Hid (Vm.cmpV s1 t1 = 0) := Lib.hid (by rw [show s1 = 53 :: (mx ++ d) from by rw [← hs1], show t1 = 53 :: (my ++ t) from by rw [← ht1], HCM.out _ _ HT1.out HT2.out]; exact (Vm.sgn_eq _ _).2 (by omega))
        have Q4 : Hid (Vm.cmpV t1 s1 = 0) := Lib.hid (by rw [show s1 = 53 :: (mx ++ d) from by rw [← hs1], show t1 = 53 :: (my ++ t) from by rw [← ht1], HCN.out _ _ HT1.out HT2.out]; exact (Vm.sgn_eq _ _).2 (by omega))
        clear hs1 ht1 HT1 HT2
        go_wp2_with fail
        refine (compare_at s1 t1 0 _ HM3.out Q1.out Q2.out Q3.out).mono ?_
        rintro _ w4 ⟨rfl, hb⟩
        have HB4 := Lib.hid (HB3.out.trans (hb.mono HB3.out.size))
        have HM4 := Lib.hid (maxOk_below HM3.out hb)
        clear hb HB3 HM3
        go_wp2_with fail
        refine (compare_at t1 s1 0 _ HM4.out Q2.out Q1.out Q4.out).mono ?_
        rintro _ w5 ⟨rfl, hb⟩
        have HB5 := Lib.hid (HB4.out.trans (hb.mono HB4.out.size))
        clear hb HB4 HM4
        go_wp2_with fail
        go_ret
        exact ⟨rfl, HB5.out⟩
      · have gxy : (y : Int) < (x : Int) := by omega
        go_wp2_with fail
        refine (decimal_any n HN.out _).mono ?_
        rintro _ w2 ⟨d, rfl, hd0, hd, hdn, hdl, hb⟩
        have HT1 : Hid (Tl x n d) := ⟨hd, hdl, Or.inr ⟨hx1, hd0, hdn⟩⟩
        have HB2 := Lib.hid (HB1.out.trans (hb.mono HB1.out.size))
        have HM2 := Lib.hid (maxOk_below HM1.out hb)
        clear hb HB1 HM1 hd0 hd hdn
        have ap2 : (⟨(53 :: mx).toArray⟩ : ByteArray) ++ ⟨d.toArray⟩ = ⟨(53 :: (mx ++ d)).toArray⟩ := ByteArray.mk_append_mk (53 :: mx) d
        obtain ⟨s1, hs1⟩ : ∃ l, 53 :: (mx ++ d) = l := ⟨_, rfl⟩
        have ls : s1.length ≤ 20 := by rw [← hs1]; simp; omega
        rw [hs1] at ap2
        go_wp2_with fail
        refine (decimal_any n HN.out _).mono ?_
        rintro _ w3 ⟨t, rfl, hd0, hd, htn, htl, hb⟩
        have HT2 : Hid (Tl y n t) := ⟨hd, htl, Or.inr ⟨hy1, hd0, htn⟩⟩
        have HB3 := Lib.hid (HB2.out.trans (hb.mono HB2.out.size))
        have HM3 := Lib.hid (maxOk_below HM2.out hb)
        clear hb HB2 HM2 hd0 hd htn
        have ap3 : (⟨(53 :: my).toArray⟩ : ByteArray) ++ ⟨t.toArray⟩ = ⟨(53 :: (my ++ t)).toArray⟩ := ByteArray.mk_append_mk (53 :: my) t
        obtain ⟨t1, ht1⟩ : ∃ l, 53 :: (my ++ t) = l := ⟨_, rfl⟩
        have lt : t1.length ≤ 20 := by rw [← ht1]; simp; omega
        rw [ht1] at ap3
        have Q1 : Hid (Vm.check s1 = 0) := Lib.hid (by rw [show s1 = 53 :: (mx ++ d) from by rw [← hs1]]; exact HVX.out _ HT1.out)
        have Q2 : Hid (Vm.check t1 = 0) := Lib.hid (by rw [show t1 = 53 :: (my ++ t) from by rw [← ht1]]; exact HVY.out _ HT2.out)
        have Q3 : Hid (Vm.cmpV s1 t1 = 1) := Lib.hid (by rw [show s1 = 53 :: (mx ++ d) from by rw [← hs1], show t1 = 53 :: (my ++ t) from by rw [← ht1], HCM.out _ _ HT1.out HT2.out]; exact Vm.sgn_gt (by omega))
        have Q4 : Hid (Vm.cmpV t1 s1 = (-1)) := Lib.hid (by rw [show s1 = 53 :: (mx ++ d) from by rw [← hs1], show t1 = 53 :: (my ++ t) from by rw [← ht1], HCN.out _ _ HT1.out HT2.out]; exact Vm.sgn_lt (by omega))
        clear hs1 ht1 HT1 HT2
        go_wp2_with fail
        refine (compare_at s1 t1 1 _ HM3.out Q1.out Q2.out Q3.out).mono ?_
        rintro _ w4 ⟨rfl, hb⟩
        have HB4 := Lib.hid (HB3.out.trans (hb.mono HB3.out.size))
        have HM4 := Lib.hid (maxOk_below HM3.out hb)
        clear hb HB3 HM3
        go_wp2_with fail
        refine (compare_at t1 s1 (-1) _ HM4.out Q2.out Q1.out Q4.out).mono ?_
        rintro _ w5 ⟨rfl, hb⟩
        have HB5 := Lib.hid (HB4.out.trans (hb.mono HB4.out.size))
        clear hb HB4 HM4
        go_wp2_with fail
        go_ret
        exact ⟨rfl, HB5.out⟩
end Go.Proofs.YtkbahnimnhafiaaDoor
