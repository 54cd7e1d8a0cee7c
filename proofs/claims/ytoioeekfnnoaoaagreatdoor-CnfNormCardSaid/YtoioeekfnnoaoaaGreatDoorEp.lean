/- Any literals as Norm makes them: the law walked. -/
import Derived.Test.YtoioeekfnnoaoaaGreatDoorEm
import Derived.Test.YtoioeekfnnoaoaaGreatDoorEn
namespace Go.Proofs.YtoioeekfnnoaoaaGreatDoor
open Go.RowKit Cl Up
attribute [local go_sem ↓] Go.wp_at_zero Go.wp_at_succ
theorem pair_grid {w : World} {C A : Option Addr} {c n d : Nat} {l : List Int} (hn : l.length = n) (h : Rg.Row encO 1 w C [(A, n, c), (none, 0, 0)]) (hr : IRow w A l) : GRow w C [l, []] := grid_of h rfl (in_cons hn.symm hr (in_cons rfl (irow_nil _ _) (in_nil _)))
set_option maxRecDepth 100000 in
set_option maxHeartbeats 12800000 in
theorem cnfNorm_any {Q : World → Prop} (HQ : Stays Q) (HKN : KnownC13 Q) (HNO : NormC Q) (HHO : HoldsC Q) (HFI : FirstC Q) (A B : Option Addr) (n m c d : Nat) (l : List Int) (k : List Bool) (w : World) (hn : l.length = n) (hm : k.length = m) (hl : IRow w A l) (hb : BRow w B k) (h64 : ∀ x ∈ l, In64 x) (hq : Q w) :
    Calls Tryz.prog 5 #[.slice A n c, .slice B m d] w fun e w' => e = .returned (.bool true) ∧ Below w.heap.size w w' := by
  have HK0 := Lib.hid (HKN w hq)
  have HQQ := Lib.hid fun (u : World) (hb : Below w.heap.size w u) => HQ w u hq hb
  have HN := Lib.hid hn
  have HM := Lib.hid hm
  have HL := Lib.hid fun (u : World) (h : Below w.heap.size w u) => irow_below hl h
  have HBR := Lib.hid fun (u : World) (h : Below w.heap.size w u) => Rg.row_below hb h
  have H64 := Lib.hid h64
  have HNOC := Lib.hid HNO
  have HHOC := Lib.hid HHO
  have HFIC := Lib.hid HFI
  clear hn hm hl hb h64 hq HKN HNO HHO HFI
  go_enter Tryz.func5, Tryz.ntmps5
  go_wp2_with (go_at_call 9; refine HK0.out.mono ?_)
  rintro _ u0 ⟨rfl, hb⟩
  have HB0 := Lib.hid hb
  clear hb HK0
  cases d1 : decide ((100 : Int) < (n : Int))
  case true =>
    go_wp2_with fail
    go_ret
    exact ⟨rfl, HB0.out⟩
  cases d2 : decide ((100 : Int) < (m : Int))
  case true =>
    go_wp2_with fail
    go_ret
    exact ⟨rfl, HB0.out⟩
  have hn1 : n ≤ 100 := by have := of_decide_eq_false d1; omega
  have hm1 : m ≤ 100 := by have := of_decide_eq_false d2; omega
  go_wp2_with fail
  go_loopw [5] (fun i wr => ∃ j : Nat, j ≤ n ∧ i = .int .i64 j ∧ Hid (∀ x ∈ l.take j, x ≠ 0 ∧ -1000 ≤ x ∧ x ≤ 1000) ∧ Hid (Below w.heap.size w wr)) (fun i _ => n - (intOf i).toNat)
  case atStart => exact ⟨0, Nat.zero_le _, rfl, fun c h => absurd h (by simp), HB0.out⟩
  case round =>
    obtain ⟨j, hj, rfl, HT, HW⟩ := hrel
    by_cases hlt : j < n
    · have hjl : j < l.length := by rw [HN.out]; exact hlt
      obtain ⟨ad, x, rfl, hx, hbx, hc⟩ := irow_at (HL.out wr HW.out) j hjl
      have j0 : (0 : Int) ≤ (j : Int) := by omega
      have j1 : (j : Int) < (n : Int) := by omega
      have HOK : Hid ((x == 0 || (decide ((1000 : Int) < x) || decide (x < (-1000 : Int)))) = false → ∀ y ∈ l.take (j + 1), y ≠ 0 ∧ -1000 ≤ y ∧ y ≤ 1000) := fun e y hy => by
        rw [List.take_succ_eq_append_getElem hjl, hx] at hy
        rcases List.mem_append.1 hy with hy | hy
        · exact HT.out y hy
        · rw [List.mem_singleton.1 hy]
          simp only [Bool.or_eq_false_iff, beq_eq_false_iff_ne, decide_eq_false_iff_not] at e
          exact ⟨e.1, by omega, by omega⟩
      have HH1 := Lib.hid (HHOC.out (some ad) B n m c d l k wr HN.out HM.out (HL.out wr HW.out) (HBR.out wr HW.out) (by omega) (by omega) H64.out (HQQ.out wr HW.out))
      have HH2 := Lib.hid fun (u : World) (h : Below w.heap.size w u) => refHolds_any (some ad) B n m c d l k u HN.out HM.out (HL.out u h) (HBR.out u h) (by omega) (by omega)
      clear hx hjl
      have bad : ∀ (hbad : (x == 0 || (decide ((1000 : Int) < x) || decide (x < (-1000 : Int)))) = true), True := fun _ => trivial
      cases e0 : (x == 0)
      · cases e1 : decide ((1000 : Int) < x)
        · cases e2 : decide (x < (-1000 : Int))
          · have HZ := Lib.hid (HOK.out (by rw [e0, e1, e2]; rfl))
            clear HOK HH1 HH2 bad
            go_wp2_with fail
            go_roundw
            case rel => exact ⟨j + 1, by omega, by go_num, HZ.out, HW.out⟩
            case measure => simp [intOf]; omega
          · clear HOK bad
            go_wp2_with (go_at_call 23; refine HH1.out.mono ?_)
            rintro _ v1 ⟨rfl, hb1⟩
            have HV1 := Lib.hid (HW.out.trans (hb1.mono HW.out.size))
            have HH3 := Lib.hid (HH2.out v1 HV1.out)
            clear hb1 HH1 HH2
            go_wp2_with (go_at_call 24; refine HH3.out.mono ?_)
            rintro _ v2 ⟨rfl, hb2⟩
            have HV2 := Lib.hid (HV1.out.trans (hb2.mono HV1.out.size))
            clear hb2 HH3
            go_wp2_with fail
            go_ret
            exact ⟨by simp, HV2.out⟩
        · clear HOK bad
          go_wp2_with (go_at_call 23; refine HH1.out.mono ?_)
          rintro _ v1 ⟨rfl, hb1⟩
          have HV1 := Lib.hid (HW.out.trans (hb1.mono HW.out.size))
          have HH3 := Lib.hid (HH2.out v1 HV1.out)
          clear hb1 HH1 HH2
          go_wp2_with (go_at_call 24; refine HH3.out.mono ?_)
          rintro _ v2 ⟨rfl, hb2⟩
          have HV2 := Lib.hid (HV1.out.trans (hb2.mono HV1.out.size))
          clear hb2 HH3
          go_wp2_with fail
          go_ret
          exact ⟨by simp, HV2.out⟩
      · clear HOK bad
        go_wp2_with (go_at_call 23; refine HH1.out.mono ?_)
        rintro _ v1 ⟨rfl, hb1⟩
        have HV1 := Lib.hid (HW.out.trans (hb1.mono HW.out.size))
        have HH3 := Lib.hid (HH2.out v1 HV1.out)
        clear hb1 HH1 HH2
        go_wp2_with (go_at_call 24; refine HH3.out.mono ?_)
        rintro _ v2 ⟨rfl, hb2⟩
        have HV2 := Lib.hid (HV1.out.trans (hb2.mono HV1.out.size))
        clear hb2 HH3
        go_wp2_with fail
        go_ret
        exact ⟨by simp, HV2.out⟩
    · have HALL : Hid (∀ x ∈ l, x ≠ 0 ∧ -1000 ≤ x ∧ x ≤ 1000) := fun x hx => HT.out x (by rw [List.take_of_length_le (by rw [HN.out]; omega)]; exact hx)
      have HN1 := Lib.hid (HNOC.out A n c l wr HN.out (HL.out wr HW.out) (by omega) (fun x hx => by have := HALL.out x hx; exact ⟨this.1, by omega⟩) (HQQ.out wr HW.out))
      have HNR := Lib.hid fun (u : World) (h : Below w.heap.size w u) => refNorm_any A n c l u HN.out (HL.out u h) (by omega) (fun x hx => by have := HALL.out x hx; exact ⟨this.1, by omega⟩)
      clear HT
      go_wp2_with (go_at_call 25; refine HN1.out.mono ?_)
      rintro _ u1 ⟨C1, e1, x1, ok1, rfl, hi1, hr1, hb1, hs1⟩
      have HB1 := Lib.hid (HW.out.trans (hb1.mono HW.out.size))
      have HI1 := Lib.hid hi1
      have HR1 := Lib.hid hr1
      have HS1 := Lib.hid hs1
      have HN2 := Lib.hid (HNR.out u1 HB1.out)
      clear hi1 hr1 hb1 hs1 HN1 HNR
      go_wp2_with (go_at_call 26; refine HN2.out.mono ?_)
      rintro _ u2 ⟨v2, x2, ok2, rfl, hi2, ho2, hb2, hs2⟩
      obtain ⟨rfl, rfl⟩ := norm_one (fun _ => Iff.rfl) HI1.out hi2
      have HB2 := Lib.hid (HB1.out.trans (hb2.mono HB1.out.size))
      obtain ⟨C2, d2', rfl, hr2, _⟩ := Rg.row_own fitsI ho2
      obtain ⟨q, hq⟩ : ∃ q, x1.length = q := ⟨_, rfl⟩
      have HQL := Lib.hid hq
      have hq1 : q ≤ 100 := by rw [← hq]; have := HS1.out; rw [HN.out] at this; omega
      simp only [hq]
      have HINT := Lib.hid (ints7_any C1 C2 q q e1 d2' x1 x1 u2 hq hq (irow_below HR1.out hb2) hr2 (by omega))
      have hxx : decide (x1 = x1) = true := by simp
      rw [hxx] at HINT
      have HR12 := Lib.hid (irow_below HR1.out hb2)
      clear hi2 ho2 hb2 hs2 hr2 hq hxx HN2 HR1
      go_wp2_with (go_at_call 27; refine HINT.out.mono ?_)
      rintro _ u3 ⟨rfl, hb3⟩
      have HB3 := Lib.hid (HB2.out.trans (hb3.mono HB2.out.size))
      have HR13 := Lib.hid (irow_below HR12.out hb3)
      have HH1 := Lib.hid fun (u : World) (h : Below w.heap.size w u) => HHOC.out A B n m c d l k u HN.out HM.out (HL.out u h) (HBR.out u h) (by omega) (by omega) H64.out (HQQ.out u h)
      have HH3 := Lib.hid (HH1.out u3 HB3.out)
      have HH2 := Lib.hid fun (u : World) (h : Below w.heap.size w u) => refHolds_any A B n m c d l k u HN.out HM.out (HL.out u h) (HBR.out u h) (by omega) (by omega)
      clear hb3 HINT HR12
      go_wp2_with (go_at_call 23; refine HH3.out.mono ?_)
      rintro _ u4 ⟨rfl, hb4⟩
      have HB4 := Lib.hid (HB3.out.trans (hb4.mono HB3.out.size))
      have HR14 := Lib.hid (irow_below HR13.out hb4)
      have HH4 := Lib.hid (HH2.out u4 HB4.out)
      clear hb4 HH3 HH2 HR13
      go_wp2_with (go_at_call 24; refine HH4.out.mono ?_)
      rintro _ u5 ⟨rfl, hb5⟩
      have HB5 := Lib.hid (HB4.out.trans (hb5.mono HB4.out.size))
      have HR15 := Lib.hid (irow_below HR14.out hb5)
      clear hb5 HH4 HR14
      obtain ⟨b6, hb6⟩ : ∃ b, u5.heap.size = b := ⟨_, rfl⟩
      obtain ⟨u6, hu6⟩ : ∃ u, u5.alloc (.cells #[.slice A n c, .slice none 0 0] 49) = u := ⟨_, rfl⟩
      have HBA : Hid (Below u5.heap.size u5 u6 ∧ u5.heap.size ≤ u6.heap.size) := by rw [← hu6]; exact ⟨(Below.refl _ _).alloc (Nat.le_refl _) _, by simp⟩
      have HD6 : Hid (Rg.Row encO 1 u6 (some ⟨b6, 0, none⟩) [(A, n, c), (none, 0, 0)]) := by show Rg.Row _ _ _ _ _; rw [← hu6, ← hb6]; exact drow_new _ _ _ _ rfl
      have HB6 := Lib.hid (HB5.out.trans (HBA.out.1.mono HB5.out.size))
      have HG6 := Lib.hid (pair_grid (d := 0) HN.out HD6.out (HL.out u6 HB6.out))
      have HF6 := Lib.hid (HFIC.out (some ⟨b6, 0, none⟩) B 2 m 2 d [l, []] k u6 rfl HM.out HG6.out (HBR.out u6 HB6.out) (by omega) (by omega) (fun x hx => by
        rcases List.mem_cons.1 hx with rfl | hx
        · rw [HN.out]; omega
        · rw [List.mem_singleton.1 hx]; exact Nat.zero_le _) (fun x hx y hy => by
        rcases List.mem_cons.1 hx with rfl | hx
        · exact H64.out y hy
        · rw [List.mem_singleton.1 hx] at hy; exact absurd hy (by simp)) (HQQ.out u6 HB6.out))
      go_wp2_with (go_at_call 28; refine HF6.out.mono ?_)
      rintro _ u7 ⟨rfl, hb7⟩
      have HB7 := Lib.hid (HB6.out.trans (hb7.mono HB6.out.size))
      have HR17 := Lib.hid (irow_below (irow_below HR15.out HBA.out.1) hb7)
      clear hb7 HF6 hb6 hu6 HG6 HD6 HBA HR15
      obtain ⟨b8, hb8⟩ : ∃ b, u7.heap.size = b := ⟨_, rfl⟩
      obtain ⟨u8, hu8⟩ : ∃ u, u7.alloc (.cells #[.slice A n c, .slice none 0 0] 35) = u := ⟨_, rfl⟩
      have HBA : Hid (Below u7.heap.size u7 u8 ∧ u7.heap.size ≤ u8.heap.size) := by rw [← hu8]; exact ⟨(Below.refl _ _).alloc (Nat.le_refl _) _, by simp⟩
      have HD8 : Hid (Rg.Row encO 1 u8 (some ⟨b8, 0, none⟩) [(A, n, c), (none, 0, 0)]) := by show Rg.Row _ _ _ _ _; rw [← hu8, ← hb8]; exact drow_new _ _ _ _ rfl
      have HB8 := Lib.hid (HB7.out.trans (HBA.out.1.mono HB7.out.size))
      have HG8 := Lib.hid (pair_grid (d := 0) HN.out HD8.out (HL.out u8 HB8.out))
      have HF8 := Lib.hid (refFirst_any (some ⟨b8, 0, none⟩) B 2 m 2 d [l, []] k u8 rfl HM.out HG8.out (HBR.out u8 HB8.out) (by omega) (by omega) (fun x hx => by
        rcases List.mem_cons.1 hx with rfl | hx
        · rw [HN.out]; omega
        · rw [List.mem_singleton.1 hx]; exact Nat.zero_le _))
      go_wp2_with (go_at_call 29; refine HF8.out.mono ?_)
      rintro _ u9 ⟨rfl, hb9⟩
      have HB9 := Lib.hid (HB8.out.trans (hb9.mono HB8.out.size))
      have HR19 := Lib.hid (irow_below (irow_below HR17.out HBA.out.1) hb9)
      clear hb9 HF8 hb8 hu8 HG8 HD8 HBA HR17
      cases ok1
      · go_wp2_with fail
        go_ret
        exact ⟨by simp, HB9.out⟩
      · have he := norm_holds HI1.out k
        have HX := Lib.hid (HHOC.out C1 B q m e1 d x1 k u9 HQL.out HM.out HR19.out (HBR.out u9 HB9.out) (by omega) (by omega) (fun x hx => by
          rcases HI1.out with ⟨h, _⟩ | ⟨_, _, _, h⟩
          · cases h
          · exact H64.out x ((h x).1 hx)) (HQQ.out u9 HB9.out))
        rw [he] at HX
        clear he
        go_wp2_with (go_at_call 23; refine HX.out.mono ?_)
        rintro _ u10 ⟨rfl, hb10⟩
        have HB10 := Lib.hid (HB9.out.trans (hb10.mono HB9.out.size))
        have HY := Lib.hid (HH1.out u10 HB10.out)
        clear hb10 HX
        go_wp2_with (go_at_call 23; refine HY.out.mono ?_)
        rintro _ u11 ⟨rfl, hb11⟩
        have HB11 := Lib.hid (HB10.out.trans (hb11.mono HB10.out.size))
        clear hb11 HY
        go_wp2_with fail
        go_ret
        exact ⟨by simp, HB11.out⟩
end Go.Proofs.YtoioeekfnnoaoaaGreatDoor
