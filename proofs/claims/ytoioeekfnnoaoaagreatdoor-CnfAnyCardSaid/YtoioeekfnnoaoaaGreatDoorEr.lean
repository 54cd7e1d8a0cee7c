/- Any two rows of clauses: the law walked. -/
import Derived.Test.YtoioeekfnnoaoaaGreatDoorEm
import Derived.Test.YtoioeekfnnoaoaaGreatDoorEj
import Derived.Test.YtoioeekfnnoaoaaGreatDoorEk
namespace Go.Proofs.YtoioeekfnnoaoaaGreatDoor.Cl
open Go.RowKit Up Sz
theorem word_short {x : Int} (h : x.natAbs ≤ 256) : (wordZ x).length ≤ 4 := by
  have := dec_len 20 x.natAbs 2 (by omega)
  unfold wordZ decT
  split
  · rw [List.length_cons]; omega
  · omega
theorem line_short {c : List Int} (h : ∀ x ∈ c, x.natAbs ≤ 256) : (clLine c).length ≤ 5 * c.length + 1 := by
  induction c with
  | nil => decide
  | cons x c ih =>
    have h1 := word_short (h x (by simp))
    have h2 := ih fun y hy => h y (by simp [hy])
    rw [clLine_cons, List.length_append, List.length_cons, List.length_cons]; omega
theorem join_short : ∀ {l : List (List Int)}, (∀ c ∈ l, c.length ≤ 256 ∧ ∀ x ∈ c, x.natAbs ≤ 256) → (joinL (l.map clLine)).length ≤ 1282 * l.length
  | [], _ => by decide
  | c :: l, h => by
    have h1 := line_short (h c (by simp)).2
    have h0 := (h c (by simp)).1
    have h2 := join_short fun d hd => h d (List.mem_cons_of_mem _ hd)
    rw [List.map_cons, joinL_cons, List.length_append, List.length_append, List.length_cons]
    simp only [List.length_cons, List.length_nil]
    omega
theorem text_short {n : Nat} {l : List (List Int)} (h : (checkAll n l).2 = 0) (hl : l.length ≤ 200) : (textC n l).length ≤ 262144 := by
  obtain ⟨_, h1, _, _, h2⟩ := all_ok h
  have h3 := join_short (l := l) fun c hc => by
    have := check_ok (h2 c hc)
    refine ⟨this.2.2.1, fun x hx => ?_⟩
    obtain ⟨_, a, b⟩ := this.2.2.2 x hx
    omega
  have h4 : (headT n l.length).length ≤ 20 := by
    have a := dec_len 20 n 2 (by omega)
    have b := dec_len 20 l.length 2 (by omega)
    unfold headT cnfT
    simp only [wordsT, List.length_append, List.length_cons, List.length_nil]
    unfold decT
    omega
  unfold textC
  rw [joinL_cons, List.length_append, List.length_append]
  simp only [List.length_cons, List.length_nil]
  omega
end Go.Proofs.YtoioeekfnnoaoaaGreatDoor.Cl
namespace Go.Proofs.YtoioeekfnnoaoaaGreatDoor
open Go.RowKit Cl Up
attribute [local go_sem ↓] Go.wp_at_zero Go.wp_at_succ
set_option maxRecDepth 100000 in
set_option maxHeartbeats 12800000 in
theorem cnfAny_any {Q : World → Prop} (HQ : Stays Q) (HKN : KnownC13 Q) (HCK : CheckC Q) (HCA : CheckAllC Q) (HSA : SameC Q) (HTX : TextC Q) (HPA : ParseC Q) (n : Int) (A B : Option Addr) (p q c d : Nat) (l k : List (List Int)) (w : World) (hp : l.length = p) (hq0 : k.length = q) (hl : GRow w A l) (hk : GRow w B k) (hq : Q w) :
    Calls Tryz.prog 3 #[.int .i64 n, .slice A p c, .slice B q d] w fun e w' => e = .returned (.bool true) ∧ Below w.heap.size w w' := by
  have HK0 := Lib.hid (HKN w hq)
  have HQQ := Lib.hid fun (u : World) (hb : Below w.heap.size w u) => HQ w u hq hb
  have HF1 := Lib.hid fun (u : World) (hb : Below w.heap.size w u) => few13_any A p c l u hp (Gr.row_below hl hb)
  have HF2 := Lib.hid fun (u : World) (hb : Below w.heap.size w u) => few13_any B q d k u hq0 (Gr.row_below hk hb)
  obtain ⟨fa, hfa⟩ : ∃ b, fewG l = b := ⟨_, rfl⟩
  obtain ⟨fb, hfb⟩ : ∃ b, fewG k = b := ⟨_, rfl⟩
  simp only [hfa] at HF1
  simp only [hfb] at HF2
  have HFA := Lib.hid hfa
  have HFB := Lib.hid hfb
  have HP := Lib.hid hp
  have HQ0 := Lib.hid hq0
  have HL := Lib.hid fun (u : World) (h : Below w.heap.size w u) => Gr.row_below hl h
  have HKG := Lib.hid fun (u : World) (h : Below w.heap.size w u) => Gr.row_below hk h
  have HCKC := Lib.hid HCK
  have HCAC := Lib.hid HCA
  have HSAC := Lib.hid HSA
  have HTXC := Lib.hid HTX
  have HPAC := Lib.hid HPA
  clear hfa hfb hp hq0 hl hk hq HKN HCK HCA HSA HTX HPA
  go_enter Tryz.func3, Tryz.ntmps3
  go_wp2_with (go_at_call 9; refine HK0.out.mono ?_)
  rintro _ u0 ⟨rfl, hb⟩
  have HB0 := Lib.hid hb
  have HS1 := Lib.hid (HF1.out u0 hb)
  have HS2 := Lib.hid (HF2.out u0 hb)
  clear hb HK0 HF1 HF2
  go_wp2_with (go_at_call 10; refine HS1.out.mono ?_)
  rintro _ u1 ⟨rfl, rfl⟩
  cases fa
  · go_wp2_with fail
    go_ret
    exact ⟨rfl, HB0.out⟩
  go_wp2_with (go_at_call 10; refine HS2.out.mono ?_)
  rintro _ u1 ⟨rfl, rfl⟩
  cases fb
  · go_wp2_with fail
    go_ret
    exact ⟨rfl, HB0.out⟩
  have few_of : ∀ {t : List (List Int)}, fewG t = true → t.length ≤ 200 ∧ ∀ c ∈ t, c.length ≤ 300 := fun h => by
    unfold fewG at h
    rw [Bool.and_eq_true, decide_eq_true_iff, List.all_eq_true] at h
    exact ⟨h.1, fun c hc => of_decide_eq_true (h.2 c hc)⟩
  obtain ⟨la, lc⟩ := few_of HFA.out
  obtain ⟨ka, kc⟩ := few_of HFB.out
  rw [HP.out] at la
  rw [HQ0.out] at ka
  have HLC := Lib.hid lc
  have HKC := Lib.hid kc
  have HTO1 := Lib.hid fun (u : World) (hb : Below w.heap.size w u) => to13_any A p c l u HP.out (HL.out u hb) (by omega) (fun x hx => by have := HLC.out x hx; omega)
  have HTO2 := Lib.hid fun (u : World) (hb : Below w.heap.size w u) => to13_any B q d k u HQ0.out (HKG.out u hb) (by omega) (fun x hx => by have := HKC.out x hx; omega)
  clear few_of lc kc HS1 HS2
  have HT0 := Lib.hid (HTO1.out u0 HB0.out)
  go_wp2_with (go_at_call 12; refine HT0.out.mono ?_)
  rintro _ u2 ⟨v2, rfl, ho2, hb2, hz2⟩
  obtain ⟨C2, d2, rfl, hr2⟩ := Gr.row_own ho2
  rw [HP.out]
  have HB2 := Lib.hid (HB0.out.trans (hb2.mono HB0.out.size))
  have HX2 := Lib.hid (HCAC.out n C2 p d2 l u2 HP.out hr2 (by omega) (fun x hx => by have := HLC.out x hx; omega) (HQQ.out u2 HB2.out))
  obtain ⟨ci, hci⟩ : ∃ x, (checkAll n l).1 = x := ⟨_, rfl⟩
  obtain ⟨ce, hce⟩ : ∃ x, (checkAll n l).2 = x := ⟨_, rfl⟩
  have HCE := Lib.hid hce
  rw [hci, hce] at HX2
  clear ho2 hb2 hz2 hr2 HT0
  go_wp2_with (go_at_call 11; refine HX2.out.mono ?_)
  first | rintro _ u3 rfl hb3 | rintro _ u3 ⟨rfl, hb3⟩
  have HB3 := Lib.hid (HB2.out.trans (hb3.mono HB2.out.size))
  have HX3 := Lib.hid (refCheckAll_any n A p c l u3 HP.out (HL.out u3 HB3.out))
  rw [hci, hce] at HX3
  clear hci hce hb3 HX2
  go_wp2_with (go_at_call 13; refine HX3.out.mono ?_)
  first | rintro _ u4 rfl hb4 | rintro _ u4 ⟨rfl, hb4⟩
  have HB4 := Lib.hid (HB3.out.trans (hb4.mono HB3.out.size))
  have HT4 := Lib.hid (HTO1.out u4 HB4.out)
  clear hb4 HX3
  go_wp2_with (go_at_call 12; refine HT4.out.mono ?_)
  rintro _ u5 ⟨v5, rfl, ho5, hb5, hz5⟩
  obtain ⟨C5, d5, rfl, hr5⟩ := Gr.row_own ho5
  rw [HP.out]
  have HB5 := Lib.hid (HB4.out.trans (hb5.mono HB4.out.size))
  have HR5 := Lib.hid hr5
  have HT5 := Lib.hid (HTO2.out u5 HB5.out)
  clear ho5 hb5 hz5 hr5 HT4
  go_wp2_with (go_at_call 12; refine HT5.out.mono ?_)
  rintro _ u6 ⟨v6, rfl, ho6, hb6, hz6⟩
  obtain ⟨C6, d6, rfl, hr6⟩ := Gr.row_own ho6
  rw [HQ0.out]
  have HB6 := Lib.hid (HB5.out.trans (hb6.mono HB5.out.size))
  have HX6 := Lib.hid (HSAC.out C5 C6 p q d5 d6 l k u6 HP.out HQ0.out (Gr.row_below HR5.out hb6) hr6 (by omega) (by omega) (fun x hx => by have := HLC.out x hx; omega) (fun x hx => by have := HKC.out x hx; omega) (HQQ.out u6 HB6.out))
  have HY6 := Lib.hid fun (u : World) (hb : Below w.heap.size w u) => refSameClauses_any A B p q c d l k u HP.out HQ0.out (HL.out u hb) (HKG.out u hb) (by omega) (fun x hx => by have := HLC.out x hx; omega)
  obtain ⟨sm, hsm⟩ : ∃ b, decide (l = k) = b := ⟨_, rfl⟩
  rw [hsm] at HX6
  simp only [hsm] at HY6
  clear ho6 hb6 hz6 hr6 hsm HT5
  go_wp2_with (go_at_call 14; refine HX6.out.mono ?_)
  first | rintro _ u7 rfl hb7 | rintro _ u7 ⟨rfl, hb7⟩
  have HB7 := Lib.hid (HB6.out.trans (hb7.mono HB6.out.size))
  have HY7 := Lib.hid (HY6.out u7 HB7.out)
  clear hb7 HX6 HY6 HR5
  go_wp2_with (go_at_call 15; refine HY7.out.mono ?_)
  first | rintro _ u8 rfl hb8 | rintro _ u8 ⟨rfl, hb8⟩
  have HB8 := Lib.hid (HB7.out.trans (hb8.mono HB7.out.size))
  clear hb8 HY7
  go_wp2_with fail
  go_loopw [11] (fun i wr => ∃ j : Nat, j ≤ p ∧ i = .int .i64 j ∧ Hid (Below w.heap.size w wr)) (fun i _ => p - (intOf i).toNat)
  case atStart => exact ⟨0, Nat.zero_le _, rfl, HB8.out⟩
  case round =>
    obtain ⟨j, hj, rfl, HW⟩ := hrel
    by_cases hlt : j < p
    · have hjl : j < l.length := by rw [HP.out]; exact hlt
      obtain ⟨ad, C, m, cc, x, rfl, hbx, hc, hx, hxl, hxr⟩ := grow_at (HL.out w (Below.refl _ _)) j hjl
      have j0 : (0 : Int) ≤ (j : Int) := by omega
      have j1 : (j : Int) < (p : Int) := by omega
      have hm : m ≤ 300 := by rw [← hxl, ← hx]; exact HLC.out _ (List.getElem_mem hjl)
      have HCELL := Lib.hid fun (u : World) (h : Below w.heap.size w u) => cell_below hc hbx h
      have HC1 := Lib.hid fun (u : World) (h : Below w.heap.size w u) => HCKC.out n C m cc x u hxl (irow_below hxr h) (by omega) (HQQ.out u h)
      have HC2 := Lib.hid fun (u : World) (h : Below w.heap.size w u) => refCheckClause_any n C m cc x u hxl (irow_below hxr h)
      obtain ⟨e0, he0⟩ : ∃ e, checkC n x = e := ⟨_, rfl⟩
      simp only [he0] at HC1 HC2
      have hcw := HCELL.out wr HW.out
      have hcw2 := HCELL.out wr.drew HW.out.drew
      clear hc hx hxl hxr hjl he0 hbx
      go_wp2_with fail
      go_region_with (first
        | (go_at_call 16; refine (HC1.out z1 HZ1.out).mono ?_; first | rintro _ z2 rfl hb2 | rintro _ z2 ⟨rfl, hb2⟩; have HZ2 := Lib.hid (HZ1.out.trans (hb2.mono HZ1.out.size)); have hc2 := HCELL.out z2 HZ2.out; clear hb2)
        | (go_at_call 17; refine (HC2.out z1 HZ1.out).mono ?_; first | rintro _ z2 rfl hb2 | rintro _ z2 ⟨rfl, hb2⟩; have HZ2 := Lib.hid (HZ1.out.trans (hb2.mono HZ1.out.size)); have hc2 := HCELL.out z2 HZ2.out; clear hb2)
        | (go_at_call 16; refine (HC1.out _ HW.out.drew).mono ?_; first | rintro _ z1 rfl hb1 | rintro _ z1 ⟨rfl, hb1⟩; have HZ1 : Hid (Below w.heap.size w z1) := HW.out.drew.trans (hb1.mono HW.out.drew.size); have hc1 := HCELL.out z1 HZ1.out; clear hb1)
        | (go_at_call 17; refine (HC2.out _ HW.out.drew).mono ?_; first | rintro _ z1 rfl hb1 | rintro _ z1 ⟨rfl, hb1⟩; have HZ1 : Hid (Below w.heap.size w z1) := HW.out.drew.trans (hb1.mono HW.out.drew.size); have hc1 := HCELL.out z1 HZ1.out; clear hb1))
      all_goals
        go_wp2_with fail
        go_roundw
        case rel => exact ⟨j + 1, by omega, by go_num, HZ2.out⟩
        case measure => simp [intOf]; omega
    · have hjn2 : ¬ ((j : Int) < (p : Int)) := by omega
      by_cases hok : ce = 0
      · obtain ⟨n0, n1, _, _, hall⟩ := all_ok (HCE.out.trans hok)
        obtain ⟨N, rfl⟩ : ∃ N : Nat, n = (N : Int) := ⟨n.toNat, by omega⟩
        have HOK := Lib.hid (HCE.out.trans hok)
        have HLEN := Lib.hid (text_short HOK.out (by rw [HP.out]; exact la))
        have HPT := Lib.hid (parse_text HOK.out HLEN.out)
        have HT := Lib.hid (HTO1.out wr HW.out)
        have hsmall : ∀ x ∈ l, ∀ y ∈ x, y.natAbs ≤ 2199023255552 := fun x hx y hy => by
          obtain ⟨_, a, b⟩ := (check_ok (hall x hx)).2.2.2 y hy
          omega
        have HCT := Lib.hid fun (u : World) (hb : Below w.heap.size w u) => refCnfText_any N A p c l u (by omega) HP.out (HL.out u hb) (by omega) (fun x hx => by have := HLC.out x hx; omega) hsmall (by have := HLEN.out; omega)
        obtain ⟨tx, htx⟩ : ∃ t, textC N l = t := ⟨_, rfl⟩
        have HTX2 := Lib.hid fun (u : World) (C : Option Addr) (e : Nat) (hb : Below w.heap.size w u) (hr : GRow u C l) => HTXC.out N C p e l u HP.out hr HOK.out HLEN.out (HQQ.out u hb)
        simp only [htx] at HCT HTX2 HPT HLEN
        subst hok
        clear n0 hall hsmall htx
        go_wp2_with (go_at_call 12; refine HT.out.mono ?_)
        rintro _ y1 ⟨v1, rfl, ho1, hb1, hz1⟩
        obtain ⟨C1, e1, rfl, hr1⟩ := Gr.row_own ho1
        rw [HP.out]
        have HY1 := Lib.hid (HW.out.trans (hb1.mono HW.out.size))
        have HX1 := Lib.hid (HTX2.out y1 C1 e1 HY1.out hr1)
        clear ho1 hb1 hz1 hr1 HT
        go_wp2_with (go_at_call 18; refine HX1.out.mono ?_)
        first | rintro _ y2 rfl hb2 | rintro _ y2 ⟨rfl, hb2⟩
        have HY2 := Lib.hid (HY1.out.trans (hb2.mono HY1.out.size))
        have HX2 := Lib.hid (HPAC.out tx y2 HLEN.out (HQQ.out y2 HY2.out))
        unfold ParseP at HX2
        rw [HPT.out] at HX2
        simp only at HX2
        clear hb2 HX1
        go_wp2_with (go_at_call 19; refine HX2.out.mono ?_)
        rintro _ y3 ⟨C3, e3, rfl, hr3, hb3⟩
        rw [HP.out]
        have HY3 := Lib.hid (HY2.out.trans (hb3.mono HY2.out.size))
        have HR3 := Lib.hid hr3
        have HX3 := Lib.hid (HCT.out y3 HY3.out)
        clear hr3 hb3 HX2
        go_wp2_with (go_at_call 20; refine HX3.out.mono ?_)
        first | rintro _ y4 rfl hb4 | rintro _ y4 ⟨rfl, hb4⟩
        have HY4 := Lib.hid (HY3.out.trans (hb4.mono HY3.out.size))
        have HX4 := Lib.hid (of13_any C3 p e3 l y4 HP.out (Gr.row_below HR3.out hb4) (by omega))
        clear hb4 HX3 HR3
        go_wp2_with (go_at_call 21; refine HX4.out.mono ?_)
        rintro _ y5 ⟨v5, rfl, ho5, hb5, hz5⟩
        obtain ⟨C5, e5, rfl, hr5⟩ := Gr.row_own ho5
        rw [HP.out]
        have HY5 := Lib.hid (HY4.out.trans (hb5.mono HY4.out.size))
        have HX5 := Lib.hid (refSameClauses_any C5 A p p e5 c l l y5 HP.out HP.out hr5 (HL.out y5 HY5.out) (by omega) (fun x hx => by have := HLC.out x hx; omega))
        have hll : decide (l = l) = true := by simp
        rw [hll] at HX5
        clear ho5 hb5 hz5 hr5 hll HX4
        go_wp2_with (go_at_call 15; refine HX5.out.mono ?_)
        first | rintro _ y6 rfl hb6 | rintro _ y6 ⟨rfl, hb6⟩
        have HY6 := Lib.hid (HY5.out.trans (hb6.mono HY5.out.size))
        clear hb6 HX5
        go_wp2_with fail
        go_ret
        exact ⟨by simp, HY6.out⟩
      · go_wp2_with fail
        go_ret
        exact ⟨by simp, HW.out⟩
end Go.Proofs.YtoioeekfnnoaoaaGreatDoor
