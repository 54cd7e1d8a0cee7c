/- known: what each statement of the weights looks at first. -/
import Derived.Test.YtaghhdgiegcimaaDoorWr
namespace Go.Proofs.YtaghhdgiegcimaaDoor
open Go.RowKit

theorem textW_prod (n : Bool) {k : Nat} {e : Int} (ho : k % 2 = 1) (h2 : k < 2 ^ 53) (lo : -1074 ≤ e) (hi : (k.log2 : Int) + e ≤ 1023) :
    Wm.textW (Wm.word n (Wm.rungOf k e)) = Lib.itoa (Wm.sg n k) ++ 112 :: Lib.itoa e := by
  rw [textW_fin n (Wm.rungOf_lt (by omega) h2 hi)]
  unfold Wm.textF
  rw [(Wm.kOf_rungOf ho h2 lo).1, (Wm.kOf_rungOf ho h2 lo).2]
theorem parse_at (l : List UInt8) (b : Nat) (n : Int) (w : World) (hk : KOk w) (hl : l.length ≤ 200) (h1 : outW l = b) (h2 : errW l = n) :
    Calls Tryd.prog 30 #[.string ⟨l.toArray⟩] w fun e w' => e = .returned (.tuple #[.float .f64 b, .int .i64 n]) ∧ Below w.heap.size w w' := by
  have := parse_w l hl w hk; rw [h1, h2] at this; exact this
theorem text_at (b : Nat) (l : List UInt8) (w : World) (hk : KOk w) (hb : b < Wm.W) (h : Wm.textW b = l) :
    Calls Tryd.prog 29 #[.float .f64 b] w fun e w' => e = .returned (.string ⟨l.toArray⟩) ∧ Below w.heap.size w w' := by
  have := text_w b hb w hk; rw [h] at this; exact this
theorem compare_at (a b : Nat) (c : Int) (w : World) (ha : a < Wm.W) (hb : b < Wm.W) (h : cmpW a b = c) :
    Calls Tryd.prog 24 #[.float .f64 a, .float .f64 b] w fun e w' => e = .returned (.int .i64 c) ∧ w = w' := by
  have := compare_w a b ha hb w; rw [← h]; exact this
theorem same_at (a b : Nat) (c : Bool) (w : World) (ha : a < Wm.W) (hb : b < Wm.W) (h : (cmpW a b == 0) = c) :
    Calls Tryd.prog 28 #[.float .f64 a, .float .f64 b] w fun e w' => e = .returned (.bool c) ∧ w = w' := by
  have := same_w a b ha hb w; rw [← h]; exact this
theorem itoa_m1074 : Lib.itoa (-1074) = [45, 49, 48, 55, 52] := by
  unfold Lib.itoa
  rw [if_pos (by decide), show (-1074 : Int).natAbs = 1074 from rfl, Wm.dec_big (by decide), Wm.dec_big (by decide), Wm.dec_big (by decide), Wm.dec_small (by decide)]
  rfl
theorem itoa_1 : Lib.itoa 1 = [49] := by
  unfold Lib.itoa
  rw [if_neg (by decide), show (1 : Int).toNat = 1 from rfl, Wm.dec_small (by decide)]; rfl
theorem itoa_m3 : Lib.itoa (-3) = [45, 51] := by
  unfold Lib.itoa
  rw [if_pos (by decide), show (-3 : Int).natAbs = 3 from rfl, Wm.dec_small (by decide)]; rfl
theorem itoa_m1 : Lib.itoa (-1) = [45, 49] := by
  unfold Lib.itoa
  rw [if_pos (by decide), show (-1 : Int).natAbs = 1 from rfl, Wm.dec_small (by decide)]; rfl
theorem text_least : Wm.textW 1 = [49, 112, 45, 49, 48, 55, 52] := by
  have := textW_prod false (k := 1) (e := -1074) (by decide) (by decide) (by decide) (by decide)
  rw [show Wm.word false (Wm.rungOf 1 (-1074)) = 1 from by decide +kernel, show Wm.sg false 1 = 1 from rfl, itoa_1, itoa_m1074] at this
  exact this
theorem text_m15 : Wm.textW 13832806255468478464 = [45, 51, 112, 45, 49] := by
  have := textW_prod true (k := 3) (e := -1) (by decide) (by decide) (by decide) (by decide +kernel)
  rw [show Wm.word true (Wm.rungOf 3 (-1)) = 13832806255468478464 from by decide +kernel, show Wm.sg true 3 = -3 from rfl, itoa_m3, itoa_m1] at this
  exact this
/-- known's row behind w's blocks, as it stands in a later world. -/
def KSt (w W : World) : Prop := KOk w ∧ Below w.heap.size w W ∧ w.heap.size < W.heap.size ∧ W.heap[w.heap.size]? = some (.cells #[.float .f64 18442240474082181120, .float .f64 13832806255468478464, .float .f64 9223372036854775808, .float .f64 0, .float .f64 4613937818241073152, .float .f64 9218868437227405312] 39 (0, 0))
theorem kst_ok {w W : World} (h : KSt w W) : KOk W := kOk_below h.1 h.2.1
theorem kst_below {w W W' : World} (h : KSt w W) (hb : Below W.heap.size W W') : KSt w W' := by
  obtain ⟨h0, h1, h2, h3⟩ := h
  exact ⟨h0, h1.trans (hb.mono (by omega)), Nat.lt_of_lt_of_le h2 hb.size, (hb.block _ (by omega)).trans h3⟩
theorem kst_drew {w W : World} (h : KSt w W) : KSt w W.drew := kst_below h (Below.refl _ _).drew
theorem kst_new (w : World) (h : KOk w) : KSt w (w.alloc (.cells #[.float .f64 18442240474082181120, .float .f64 13832806255468478464, .float .f64 9223372036854775808, .float .f64 0, .float .f64 4613937818241073152, .float .f64 9218868437227405312] 39)) :=
  ⟨h, (Below.refl _ _).alloc (Nat.le_refl _) _, by simp, heap_alloc_new w _⟩
theorem kst_cell {w W : World} (h : KSt w W) (i : Nat) (v : Value) (hv : (#[.float .f64 18442240474082181120, .float .f64 13832806255468478464, .float .f64 9223372036854775808, .float .f64 0, .float .f64 4613937818241073152, .float .f64 9218868437227405312] : Array Value)[i]? = some v) : W.cell? ⟨w.heap.size, i, none⟩ = some v := by
  simp only [World.cell?, h.2.2.2]; exact hv
theorem keep2 {w u u' : World} {i j : Nat} {vi vj : Value} (h : u.cell? ⟨w.heap.size, i, none⟩ = some vi ∧ u.cell? ⟨w.heap.size, j, none⟩ = some vj ∧ KSt w u) (hb : Below u.heap.size u u') : u'.cell? ⟨w.heap.size, i, none⟩ = some vi ∧ u'.cell? ⟨w.heap.size, j, none⟩ = some vj ∧ KSt w u' := by
  obtain ⟨h0, h1, h4⟩ := h
  have hs := h4.2.2.1
  refine ⟨?_, ?_, kst_below h4 hb⟩
  · rw [hb.cell (by simp; omega)]; exact h0
  · rw [hb.cell (by simp; omega)]; exact h1
theorem kfacts (m : Nat) (hm : m < 5) : ∃ (x y : Nat), x < Wm.W ∧ y < Wm.W ∧ (#[.float .f64 18442240474082181120, .float .f64 13832806255468478464, .float .f64 9223372036854775808, .float .f64 0, .float .f64 4613937818241073152, .float .f64 9218868437227405312] : Array Value)[m]? = some (.float .f64 x) ∧
    (#[.float .f64 18442240474082181120, .float .f64 13832806255468478464, .float .f64 9223372036854775808, .float .f64 0, .float .f64 4613937818241073152, .float .f64 9218868437227405312] : Array Value)[m + 1]? = some (.float .f64 y) ∧ cmpW x y = -1 ∧ cmpW y x = 1 ∧ (cmpW y y == 0) = true := by
  match m, hm with
  | 0, _ => exact ⟨18442240474082181120, 13832806255468478464, by decide, by decide, rfl, rfl, by decide +kernel, by decide +kernel, by decide +kernel⟩
  | 1, _ => exact ⟨13832806255468478464, 9223372036854775808, by decide, by decide, rfl, rfl, by decide +kernel, by decide +kernel, by decide +kernel⟩
  | 2, _ => exact ⟨9223372036854775808, 0, by decide, by decide, rfl, rfl, by decide +kernel, by decide +kernel, by decide +kernel⟩
  | 3, _ => exact ⟨0, 4613937818241073152, by decide, by decide, rfl, rfl, by decide +kernel, by decide +kernel, by decide +kernel⟩
  | 4, _ => exact ⟨4613937818241073152, 9218868437227405312, by decide, by decide, rfl, rfl, by decide +kernel, by decide +kernel, by decide +kernel⟩
theorem addr_block (a : Addr) (n : Nat) (h : a.spot = none) : a.add n = ⟨a.block, a.off + n, none⟩ := by
  unfold Addr.add
  split
  · rename_i h0; subst h0; cases a; simp at h; subst h; rfl
  · cases a; simp at h; subst h; rfl
theorem fRow_new (w : World) (bs : List Nat) (T : TypeId) : FRow (w.alloc (.cells (bs.map (fun b => Value.float .f64 b)).toArray T)) (some ⟨w.heap.size, 0, none⟩) bs := fun _ => by
  refine ⟨_, rfl, fun j hj => ?_⟩
  rw [addr_block _ _ rfl]
  have h := heap_alloc_new w (.cells (bs.map (fun b => Value.float .f64 b)).toArray T)
  simp only [World.cell?, h]
  simp [hj]
theorem kst_alloc {w W : World} (h : KSt w W) (o : Obj) : KSt w (W.alloc o) := kst_below h ((Below.refl _ _).alloc (Nat.le_refl _) _)
set_option maxRecDepth 100000 in
theorem sum_35 (A : Option Addr) (c : Nat) (w : World) (h : FRow w A [4607182418800017408, 4611686018427387904, 4602678819172646912]) :
    Calls Tryd.prog 39 #[.slice A 3 c] w fun e w' => e = .returned (.float .f64 4615063718147915776) ∧ Below w.heap.size w w' := by
  refine (sum_w A c _ w h (by decide)).mono ?_
  rintro e w' ⟨⟨r, rfl, _, hr⟩, n, rfl⟩
  rw [show sumF [4607182418800017408, 4611686018427387904, 4602678819172646912] = some 4615063718147915776 from by decide +kernel] at hr
  simp only at hr
  subst hr
  exact ⟨rfl, below_drewN (Below.refl _ _) n⟩
set_option maxRecDepth 100000 in
theorem sum_nan (A : Option Addr) (c : Nat) (w : World) (h : FRow w A [9218868437227405312, 18442240474082181120]) :
    Calls Tryd.prog 39 #[.slice A 2 c] w fun e w' => (∃ r, e = .returned (.float .f64 r) ∧ r < Wm.W ∧ Wm.nan r = true) ∧ Below w.heap.size w w' := by
  refine (sum_w A c _ w h (by decide)).mono ?_
  rintro e w' ⟨⟨r, rfl, hw, hr⟩, n, rfl⟩
  rw [show sumF [9218868437227405312, 18442240474082181120] = none from by decide +kernel] at hr
  exact ⟨⟨r, rfl, hw, hr⟩, below_drewN (Below.refl _ _) n⟩
set_option maxRecDepth 100000 in
set_option maxHeartbeats 4000000 in
theorem known_any (w : World) (hw : KOk w) :
    Calls Tryd.prog 22 #[] w fun e w' => e = .returned (.bool true) ∧ Below w.heap.size w w' := by
  have HK := Lib.hid (kst_new w hw)
  clear hw
  have hsub : ∀ W : World, (binOp .sub 39 (.float .f64 0) (.float .f64 9218868437227405312)).run Tryd.prog W = .ok (.float .f64 18442240474082181120) W :=
    fun W => run_float_arith W .sub _ .f64 0 9218868437227405312 18442240474082181120 (by decide +kernel)
  go_enter Tryd.func22, Tryd.ntmps22
  go_wp2_with fail
  refine (inf_any _ _).mono ?_
  rintro e w1 ⟨g1, g2⟩; subst g2; subst g1
  rw [show Wm.word (decide ((1 : Int) < 0)) 9218868437227405312 = 9218868437227405312 from rfl]
  go_wp2_with fail
  refine (copysign_any 0 13830554455654793216 (by decide) (by decide) _).mono ?_
  rintro e w1 ⟨g1, g2⟩; subst g2; subst g1
  rw [show Wm.word (Wm.neg 13830554455654793216) (Wm.rung 0) = 9223372036854775808 from rfl]
  go_wp2_with fail
  refine (nan_any _).mono ?_
  rintro e w1 ⟨g1, g2⟩; subst g2; subst g1
  go_wp2_with fail
  clear hsub
  go_loopw [5] (fun i wr => ∃ m : Nat, m ≤ 5 ∧ i = .int .i64 ((m : Int) + 1) ∧ Hid (KSt w wr)) (fun i _ => (6 - intOf i).toNat)
  case atStart => exact ⟨0, by decide, rfl, HK⟩
  case round =>
    clear HK
    obtain ⟨m, hm, rfl, HS⟩ := hrel
    by_cases hlt : m < 5
    · obtain ⟨x, y, hx, hy, f1, f2, q1, q2, q3⟩ := kfacts m hlt
      have c0 := kst_cell HS.out m _ f1
      have c1 := kst_cell HS.out (m + 1) _ f2
      have Q1 := Lib.hid q1
      have Q2 := Lib.hid q2
      have Q3 := Lib.hid q3
      have HX := Lib.hid hx
      have HY := Lib.hid hy
      clear f1 f2 q1 q2 q3 hx hy
      have m0 : (0 : Int) ≤ (m : Int) := by omega
      have m8 : (m : Int) < 6 := by omega
      have m1 : (0 : Int) ≤ (m : Int) + 1 := by omega
      have m9 : (m : Int) + 1 < 6 := by omega
      have hn1 : ((m : Int) + 1).toNat = m + 1 := by omega
      go_wp2_with fail
      have hw1 : IntKind.i64.wrap (m : Int) = m := IntWalk.i64_in _ (by omega)
      have hw2 : (m : Int) + 1 - 1 = m := by omega
      have hw3 : IntKind.i64.wrap ((m : Int) + 1 - 1) = m := by rw [hw2, hw1]
      go_region_held3 (fun w' => w'.cell? ⟨w.heap.size, m, none⟩ = some (.float .f64 x) ∧ w'.cell? ⟨w.heap.size, m + 1, none⟩ = some (.float .f64 y) ∧ KSt w w')
        (first
          | exact ⟨c0, c1, kst_drew HS.out⟩
          | assumption
          | (refine keep2 ?_ hb; assumption))
        (first
          | (go_at_call 24; refine (compare_at x y (-1) _ HX.out HY.out Q1.out).mono ?_; rintro _ w1 ⟨rfl, rfl⟩)
          | (go_at_call 24; refine (compare_at y x 1 _ HY.out HX.out Q2.out).mono ?_; rintro _ w1 ⟨rfl, rfl⟩)
          | (go_at_call 28; refine (same_at y y true _ HY.out HY.out Q3.out).mono ?_; rintro _ w1 ⟨rfl, rfl⟩))
      rename_i HS2
      have HS3 := Lib.hid HS2.2.2
      clear HS2 c0 c1 HS hw1 hw2 hw3
      go_wp2_with fail
      go_roundw
      case rel => exact ⟨m + 1, by omega, by go_num, HS3⟩
      case measure => simp [intOf]; omega
    · obtain rfl : m = 5 := by omega
      go_wp2_with fail
      refine (parse_at [51, 112, 45, 49] 4609434218613702656 0 _ (kst_ok HS.out) (by decide) (by decide +kernel) (by decide +kernel)).mono ?_
      rintro _ w1 ⟨rfl, hb⟩
      have HS1 := Lib.hid (kst_below HS.out hb)
      clear hb HS
      go_wp2_with fail
      refine (parse_at [45, 48] 9223372036854775808 0 _ (kst_ok HS1.out) (by decide) (by decide +kernel) (by decide +kernel)).mono ?_
      rintro _ w2 ⟨rfl, hb⟩
      have HS2 := Lib.hid (kst_below HS1.out hb)
      clear hb HS1
      go_wp2_with fail
      refine (parse_at [50, 112, 48] 0 2 _ (kst_ok HS2.out) (by decide) (by decide +kernel) (by decide +kernel)).mono ?_
      rintro _ w3 ⟨rfl, hb⟩
      have HS3 := Lib.hid (kst_below HS2.out hb)
      clear hb HS2
      go_wp2_with fail
      refine (parse_at [49, 112, 49, 48, 50, 52] 0 8 _ (kst_ok HS3.out) (by decide) (by decide +kernel) (by decide +kernel)).mono ?_
      rintro _ w4 ⟨rfl, hb⟩
      have HS4 := Lib.hid (kst_below HS3.out hb)
      clear hb HS3
      go_wp2_with fail
      refine (parse_at [49, 112, 45, 49, 48, 55, 53] 0 8 _ (kst_ok HS4.out) (by decide) (by decide +kernel) (by decide +kernel)).mono ?_
      rintro _ w5 ⟨rfl, hb⟩
      have HS5 := Lib.hid (kst_below HS4.out hb)
      clear hb HS4
      go_wp2_with fail
      refine (parse_at [49, 112, 45, 49, 48, 55, 52] 1 0 _ (kst_ok HS5.out) (by decide) (by decide +kernel) (by decide +kernel)).mono ?_
      rintro _ w6 ⟨rfl, hb⟩
      have HS6 := Lib.hid (kst_below HS5.out hb)
      clear hb HS5
      go_wp2_with fail
      refine (greatest_w (some ⟨w6.heap.size, 0, none⟩) 4 [4607182418800017408, 9218868437227405312, 4613937818241073152, 9218868437227405312] _ (fRow_new w6 _ _) (by decide) (by decide)).mono ?_
      rintro _ w7 ⟨g1, g2⟩; subst g2; subst g1
      rw [show (great [4607182418800017408, 9218868437227405312, 4613937818241073152, 9218868437227405312] : Nat) = 1 from by decide +kernel]
      have HS7 := Lib.hid (show KSt w (w6.alloc (.cells (([4607182418800017408, 9218868437227405312, 4613937818241073152, 9218868437227405312] : List Nat).map (fun b => Value.float .f64 b)).toArray 39)) from kst_alloc HS6.out _)
      clear HS6
      have o1 : (FloatKind.f64.format.order 4609434218613702656 4609434218613702656 == some .eq) = true := by decide +kernel
      have o2 : (FloatKind.f64.format.order 9223372036854775808 0 == some .eq) = true := by decide +kernel
      have o3 : (FloatKind.f64.format.order 1 0 == some .gt) = true := by decide +kernel
      have o4 : (FloatKind.f64.format.order 4615063718147915776 4615063718147915776 == some .eq) = true := by decide +kernel
      have hsub : ∀ W : World, (binOp .sub 39 (.float .f64 0) (.float .f64 9218868437227405312)).run Tryd.prog W = .ok (.float .f64 18442240474082181120) W :=
        fun W => run_float_arith W .sub _ .f64 0 9218868437227405312 18442240474082181120 (by decide +kernel)
      obtain ⟨w8, hw8⟩ : ∃ w8, w6.alloc (.cells (([4607182418800017408, 9218868437227405312, 4613937818241073152, 9218868437227405312] : List Nat).map (fun b => Value.float .f64 b)).toArray 39) = w8 := ⟨_, rfl⟩
      rw [hw8] at HS7
      rw [hw8]
      clear hw8
      go_wp2_with fail
      refine (signbit_any 9223372036854775808 (by decide) _).mono ?_
      rintro _ w9 ⟨g1, g2⟩; subst g2; subst g1
      rw [show Wm.neg 9223372036854775808 = true from rfl]
      go_wp2_with fail
      refine (text_at 1 [49, 112, 45, 49, 48, 55, 52] _ (kst_ok HS7.out) (by decide) text_least).mono ?_
      rintro _ w10 ⟨rfl, hb⟩
      have HS8 := Lib.hid (kst_below HS7.out hb)
      clear hb HS7
      go_wp2_with fail
      refine (text_at 13832806255468478464 [45, 51, 112, 45, 49] _ (kst_ok HS8.out) (by decide) text_m15).mono ?_
      rintro _ w11 ⟨rfl, hb⟩
      have HS9 := Lib.hid (kst_below HS8.out hb)
      clear hb HS8
      go_wp2_with fail
      refine (text_at 9221120237041090561 [110, 97, 110] _ (kst_ok HS9.out) (by decide) (by decide +kernel)).mono ?_
      rintro _ w12 ⟨rfl, hb⟩
      have HS10 := Lib.hid (kst_below HS9.out hb)
      clear hb HS9
      go_wp2_with fail
      refine (text_at 9223372036854775808 [45, 48] _ (kst_ok HS10.out) (by decide) (by decide +kernel)).mono ?_
      rintro _ w13 ⟨rfl, hb⟩
      have HS11 := Lib.hid (kst_below HS10.out hb)
      clear hb HS10
      go_wp2_with fail
      refine (check_w 9221120237041090561 (by decide) _).mono ?_
      rintro _ w14 ⟨g1, g2⟩; subst g2; subst g1
      rw [show chkW 9221120237041090561 = 8 from by decide +kernel]
      go_wp2_with fail
      refine (sum_35 (some ⟨w13.heap.size, 0, none⟩) 3 _ (fRow_new w13 [4607182418800017408, 4611686018427387904, 4602678819172646912] _)).mono ?_
      rintro _ w15 ⟨rfl, hb⟩
      have HS12 := Lib.hid (kst_below (kst_alloc HS11.out _) hb)
      clear hb HS11
      go_wp2_with fail
      refine (sum_nan (some ⟨w15.heap.size, 0, none⟩) 2 _ (fRow_new w15 [9218868437227405312, 18442240474082181120] _)).mono ?_
      rintro _ w16 ⟨⟨x, rfl, hx, hxn⟩, hb⟩
      have HS13 := Lib.hid (kst_below (kst_alloc HS12.out _) hb)
      have HX := Lib.hid hx
      have HXN := Lib.hid hxn
      clear hb HS12 hx hxn
      go_wp2_with fail
      refine (sum_nan (some ⟨w16.heap.size, 0, none⟩) 2 _ (fRow_new w16 [9218868437227405312, 18442240474082181120] _)).mono ?_
      rintro _ w17 ⟨⟨y, rfl, hy, hyn⟩, hb⟩
      have HS14 := Lib.hid (kst_below (kst_alloc HS13.out _) hb)
      have o5 := Wm.ord_ne x y HX.out hy
      rw [HXN.out, Bool.true_or, Bool.true_or] at o5
      clear hb HS13 hy hyn
      go_wp2_with fail
      go_ret
      exact ⟨rfl, HS14.out.2.1⟩
end Go.Proofs.YtaghhdgiegcimaaDoor
