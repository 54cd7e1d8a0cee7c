/- The law AskReads, walked. The law AskAny, walked. The law AskRanges, walked. -/
import Derived.Test.YtkdildgdodnbbaaGreatDoorFd
import Derived.Test.YtkdildgdodnbbaaGreatDoorFb
import Derived.Test.YtkdildgdodnbbaaGreatDoorFe
import Derived.Test.YtkdildgdodnbbaaGreatDoorFc
namespace Go.Proofs.YtkdildgdodnbbaaGreatDoor
open Go.RowKit Rs At Pg Ak Sz
theorem Ak.qsm_ok {l : List Rq} (h : ∀ a ∈ l, checkQ a = 0) : QSm l := fun a ha => Nat.le_trans (few_ok h a ha).2 (by decide)
attribute [local go_sem ↓] Go.wp_at_zero Go.wp_at_succ
set_option maxRecDepth 100000 in
set_option maxHeartbeats 6400000 in
theorem askReads_any (s : List UInt8) (w : World) (hw : QOk w) :
    Calls Tryz.prog 4 #[.string ⟨s.toArray⟩] w fun e w' => e = .returned (.bool true) ∧ Below w.heap.size w w' := by
  have HW := Lib.hid hw
  clear hw
  by_cases h1 : 3000 < s.length
  · have d0 : decide ((3000 : Int) < (s.length : Int)) = true := decide_eq_true (by omega)
    clear h1
    go_enter Tryz.func4, Tryz.ntmps4
    go_wp2_with fail
    refine (known9_any w HW.out).mono ?_
    rintro _ u ⟨rfl, hb⟩
    have HB := Lib.hid hb
    clear hb
    go_wp2_with fail
    go_ret
    exact ⟨rfl, HB.out⟩
  have d0 : decide ((3000 : Int) < (s.length : Int)) = false := decide_eq_false (by omega)
  have HP := Lib.hid fun (u : World) (hb : Below w.heap.size w u) => askParse_any s u (qok_below HW.out hb) (by omega) (lines_le (by omega))
  have HQ := Lib.hid fun (u : World) (hb : Below w.heap.size w u) => refParseAsks_any s u (qok_below HW.out hb).1 (by omega) (lines_le (by omega))
  obtain ⟨X, hX⟩ : ∃ X, readQ s = X := ⟨_, rfl⟩
  have hal := readQ_check (s := s)
  have hfe := readQ_few (s := s)
  rw [hX] at hal hfe
  obtain ⟨i, k, l⟩ := X
  dsimp only at hal hfe
  have HX := Lib.hid hX
  have HAL := Lib.hid hal
  obtain ⟨n, hn⟩ : ∃ n, l.length = n := ⟨_, rfl⟩
  rw [hn] at hfe
  have HN := Lib.hid hn
  have hii : ((i : Int) != (i : Int)) = false := by simp
  have hkk : (k != k) = false := by simp
  clear hX hal h1 hn
  go_enter Tryz.func4, Tryz.ntmps4
  go_wp2_with fail
  refine (known9_any w HW.out).mono ?_
  rintro _ u0 ⟨rfl, hb⟩
  have HB0 := Lib.hid hb
  clear hb
  go_wp2_with fail
  refine (HP.out u0 HB0.out).mono ?_
  rintro e u1 h
  obtain ⟨hb, A, n1, c, rfl, hn1, hr⟩ := parR_get h HX.out
  obtain rfl : n1 = n := hn1.symm.trans HN.out
  have HB1 := Lib.hid (HB0.out.trans (hb.mono HB0.out.size))
  have HR1 := Lib.hid hr
  clear h hb hn1 hr HP d0
  go_wp2_with fail
  refine (HQ.out u1 HB1.out).mono ?_
  rintro e u2 h
  obtain ⟨hb, B, n2, c2, rfl, hn2, hr⟩ := parR_get h HX.out
  obtain rfl : n2 = n1 := hn2.symm.trans HN.out
  have HB2 := Lib.hid (HB1.out.trans (hb.mono HB1.out.size))
  have HR2 := Lib.hid (qrow_below HR1.out hb)
  have HM2 := Lib.hid hr
  clear h hb hn2 hr HQ HR1 HB1
  go_wp2_with fail
  refine (of9_any A n2 c l u2 HN.out HR2.out (by omega) (qsm_ok HAL.out)).mono ?_
  rintro _ u3 ⟨C, d, rfl, hr, hb⟩
  have HB3 := Lib.hid (HB2.out.trans (hb.mono HB2.out.size))
  have HR3 := Lib.hid (qrow_below HR2.out hb)
  have HM3 := Lib.hid (qrow_below HM2.out hb)
  have HO3 := Lib.hid hr
  clear hb hr HB2 HR2 HM2 hii hkk
  go_wp2_with fail
  refine (refSameAsks_any C B n2 n2 d c2 l l u3 HN.out HN.out HO3.out HM3.out (by omega) (qfew_ok HAL.out) (qfew_ok HAL.out)).mono ?_
  rintro _ u4 ⟨rfl, hb⟩
  rw [decide_eq_true (rfl : l = l)]
  have HB4 := Lib.hid (HB3.out.trans (hb.mono HB3.out.size))
  have HR4 := Lib.hid (qrow_below HR3.out hb)
  clear hb HB3 HR3 HM3 HO3
  go_wp2_with fail
  go_loopw [9] (fun i wr => ∃ j : Nat, j ≤ n2 ∧ i = .int .i64 j ∧ Hid (Below u4.heap.size u4 wr)) (fun i _ => n2 - (intOf i).toNat)
  case atStart => exact ⟨0, Nat.zero_le _, rfl, Below.refl _ _⟩
  case round =>
    obtain ⟨j, hj, rfl, HB⟩ := hrel
    have HWR := Lib.hid (HB4.out.trans (HB.out.mono HB4.out.size))
    by_cases hlt : j < n2
    · have hlr : j < l.length := by rw [HN.out]; exact hlt
      obtain ⟨ad, C1, m, d1, rfl, hm, hs, hc⟩ := qrow_at HR4.out j hlr
      obtain ⟨c0, c1, c2⟩ := hc _ HB.out
      have hmem := List.getElem_mem hlr
      obtain ⟨f1, f2⟩ := few_ok HAL.out _ hmem
      have hck := HAL.out _ hmem
      obtain ⟨a, ha⟩ : ∃ a, l[j] = a := ⟨_, rfl⟩
      rw [ha] at c0 c1 hm hs f1 f2 hck
      obtain ⟨kd, nm, r⟩ := a
      dsimp only at c0 c1 hm hs f1 f2
      have HC := Lib.hid (askCheck_any kd nm C1 m d1 r wr (qok_below HW.out HWR.out).1 (by unfold maxLen; omega) hm (srow_below hs HB.out) (by omega))
      rw [hck] at HC
      clear hc ha hm hs f1 f2 hck hmem
      go_wp2_with fail
      refine HC.out.mono ?_
      rintro _ z ⟨rfl, hb⟩
      have HZ := Lib.hid (HB.out.trans (hb.mono HB.out.size))
      clear hb HC c0 c1 c2
      go_wp2_with fail
      go_roundw
      case rel => exact ⟨j + 1, by omega, by go_num, HZ⟩
      case measure => simp [intOf]; omega
    · obtain rfl : j = n2 := by omega
      go_wp2_with fail
      go_ret
      exact ⟨rfl, HWR.out⟩
end Go.Proofs.YtkdildgdodnbbaaGreatDoor
namespace Go.Proofs.YtkdildgdodnbbaaGreatDoor
open Go.RowKit Rs At Pg Ak Sz
theorem Ak.few_all {l : List Rq} (h : fewQ l = true) : l.length ≤ 40 ∧ ∀ a ∈ l, a.atm.name.length ≤ 100 ∧ a.atm.rng.length ≤ 80 := by
  unfold fewQ at h
  rw [Bool.and_eq_true, decide_eq_true_eq] at h
  exact ⟨h.1, fun a ha => Ak.few_parts (List.all_eq_true.1 h.2 a ha)⟩
theorem Ak.few_qfew {l : List Rq} (h : fewQ l = true) : QFew l := fun a ha => by
  have := (few_all h).2 a ha
  unfold maxLen; omega
theorem Ak.few_qsm {l : List Rq} (h : fewQ l = true) : QSm l := fun a ha => by
  have := (few_all h).2 a ha
  omega
theorem Ak.text_reads {l : List Rq} (h : (checkQs l).2 = 0) : readQ (txtR l) = (0, 0, l) ∧ (txtR l).length ≤ 65536 ∧ ∀ x ∈ linesL (txtR l), x.length ≤ 4000 := by
  have e : txtR l = textQ l := if_pos h
  obtain ⟨h1, _, h3⟩ := checks_of h
  rw [e]
  refine ⟨readQ_text h, ?_, fun x hx => ?_⟩
  · have h4 := textQ_le h3
    have h5 : l.length * 1009 ≤ 32 * 1009 := Nat.mul_le_mul_right _ h1
    omega
  · rw [text_lines h3] at hx
    obtain ⟨a, ha, rfl⟩ := List.mem_map.1 hx
    have := line_le (h3 a ha)
    omega
attribute [local go_sem ↓] Go.wp_at_zero Go.wp_at_succ
set_option maxRecDepth 100000 in
set_option maxHeartbeats 6400000 in
theorem askAny_any (A B : Option Addr) (n m c d : Nat) (l k : List Rq) (w : World) (hw : QOk w) (hn : l.length = n) (hm : k.length = m) (hr : QRow w A l) (hq : QRow w B k) (hf : QWd l) (hg : QWd k) :
    Calls Tryz.prog 3 #[.slice A n c, .slice B m d] w fun e w' => e = .returned (.bool true) ∧ Below w.heap.size w w' := by
  have HW := Lib.hid hw
  have HN := Lib.hid hn
  have HM := Lib.hid hm
  have HR := Lib.hid hr
  have HQ := Lib.hid hq
  have HF := Lib.hid hf
  have HG := Lib.hid hg
  clear hw hn hm hr hq hf hg
  obtain ⟨fa, hfa⟩ : ∃ b, fewQ l = b := ⟨_, rfl⟩
  obtain ⟨fb, hfb⟩ : ∃ b, fewQ k = b := ⟨_, rfl⟩
  have HFA := Lib.hid hfa
  have HFB := Lib.hid hfb
  have HCA := Lib.hid fun (u : World) (hb : Below w.heap.size w u) => few9_any A n c l u (qok_below HW.out hb).1 HN.out (qrow_below HR.out hb) HF.out
  have HCB := Lib.hid fun (u : World) (hb : Below w.heap.size w u) => few9_any B m d k u (qok_below HW.out hb).1 HM.out (qrow_below HQ.out hb) HG.out
  rw [hfa] at HCA
  rw [hfb] at HCB
  clear hfa hfb
  go_enter Tryz.func3, Tryz.ntmps3
  go_wp2_with fail
  refine (known9_any w HW.out).mono ?_
  rintro _ u0 ⟨rfl, hb⟩
  have HB0 := Lib.hid hb
  clear hb
  go_wp2_with fail
  refine (HCA.out _ HB0.out).mono ?_
  rintro _ u1 ⟨rfl, hb⟩
  have HB1 := Lib.hid (HB0.out.trans (hb.mono HB0.out.size))
  clear hb HCA HB0
  cases fa
  · go_wp2_with fail
    go_ret
    exact ⟨rfl, HB1.out⟩
  go_wp2_with fail
  refine (HCB.out _ HB1.out).mono ?_
  rintro _ u2 ⟨rfl, hb⟩
  have HB2 := Lib.hid (HB1.out.trans (hb.mono HB1.out.size))
  clear hb HCB HB1
  cases fb
  · go_wp2_with fail
    go_ret
    exact ⟨rfl, HB2.out⟩
  have hn40 : n ≤ 40 := by rw [← HN.out]; exact (few_all HFA.out).1
  have hm40 : m ≤ 40 := by rw [← HM.out]; exact (few_all HFB.out).1
  go_wp2_with fail
  refine (to9_any A n c l u2 HN.out (qrow_below HR.out HB2.out) (by omega) (few_qsm HFA.out)).mono ?_
  rintro _ u3 ⟨C, e, rfl, hr, hb⟩
  have HB3 := Lib.hid (HB2.out.trans (hb.mono HB2.out.size))
  have HX3 := Lib.hid hr
  clear hb hr HB2
  go_wp2_with fail
  go_loopw [6] (fun i wr => ∃ j : Nat, j ≤ n ∧ i = .int .i64 j ∧ Hid (Below u3.heap.size u3 wr)) (fun i _ => n - (intOf i).toNat)
  case atStart => exact ⟨0, Nat.zero_le _, rfl, Below.refl _ _⟩
  case round =>
    obtain ⟨j, hj, rfl, HB⟩ := hrel
    have HWR := Lib.hid (HB3.out.trans (HB.out.mono HB3.out.size))
    by_cases hlt : j < n
    · have hlr : j < l.length := by rw [HN.out]; exact hlt
      obtain ⟨ad, C1, x1, e1, rfl, hx1, hs1, hc1⟩ := qrow_at HX3.out j hlr
      obtain ⟨ae, C2, x2, e2, rfl, hx2, hs2, hc2⟩ := qrow_at HR.out j hlr
      obtain ⟨f1, f2⟩ := (few_all HFA.out).2 _ (List.getElem_mem hlr)
      obtain ⟨a, ha⟩ : ∃ a, l[j] = a := ⟨_, rfl⟩
      rw [ha] at hx1 hs1 hc1 hx2 hs2 hc2 f1 f2
      obtain ⟨kd, nm, r⟩ := a
      dsimp only at hx1 hs1 hc1 hx2 hs2 hc2 f1 f2
      have HC : Hid (∀ u, Below wr.heap.size wr u → (u.cell? (ad.add (j * 3)) = some (.int .i64 kd) ∧ u.cell? ⟨(ad.add (j * 3)).block, (ad.add (j * 3)).off + 1, none⟩ = some (.string ⟨nm.toArray⟩) ∧ u.cell? ⟨(ad.add (j * 3)).block, (ad.add (j * 3)).off + 2, none⟩ = some (.slice C1 x1 e1)) ∧ (u.cell? (ae.add (j * 3)) = some (.int .i64 kd) ∧ u.cell? ⟨(ae.add (j * 3)).block, (ae.add (j * 3)).off + 1, none⟩ = some (.string ⟨nm.toArray⟩) ∧ u.cell? ⟨(ae.add (j * 3)).block, (ae.add (j * 3)).off + 2, none⟩ = some (.slice C2 x2 e2))) := fun u hb => ⟨hc1 _ (HB.out.trans (hb.mono HB.out.size)), hc2 _ (HWR.out.trans (hb.mono HWR.out.size))⟩
      have HD : Hid (Below wr.heap.size wr wr.drew) := (Below.refl _ _).drew
      have HK1 : Hid (∀ u, Below wr.heap.size wr u → Calls Tryz.prog 10 #[.agg #[.int .i64 kd, .string ⟨nm.toArray⟩, .slice C1 x1 e1]] u fun e w' => e = .returned (.int .i64 (checkQ ⟨kd, nm, r⟩)) ∧ Below u.heap.size u w') := fun u hb =>
        askCheck_any kd nm C1 x1 e1 r u (qok_below HW.out (HWR.out.trans (hb.mono HWR.out.size))).1 (by unfold maxLen; omega) hx1 (srow_below hs1 (HB.out.trans (hb.mono HB.out.size))) (by omega)
      have HK2 : Hid (∀ u, Below wr.heap.size wr u → Calls Tryz.prog 11 #[.agg #[.int .i64 kd, .string ⟨nm.toArray⟩, .slice C2 x2 e2]] u fun e w' => e = .returned (.int .i64 (checkQ ⟨kd, nm, r⟩)) ∧ Below u.heap.size u w') := fun u hb =>
        refCheckAsk_any kd nm C2 x2 e2 r u (qok_below HW.out (HWR.out.trans (hb.mono HWR.out.size))).1 (by unfold maxLen; omega) hx2 (srow_below hs2 (HWR.out.trans (hb.mono HWR.out.size))) (by omega)
      obtain ⟨K, hK⟩ : ∃ K, checkQ ⟨kd, nm, r⟩ = K := ⟨_, rfl⟩
      rw [hK] at HK1 HK2
      have hkk : (K != K) = false := by simp
      have j0 : (0 : Int) ≤ (j : Int) := by omega
      have j1 : (j : Int) < (n : Int) := by omega
      clear hc1 hc2 ha hx1 hs1 hx2 hs2 f1 f2 hK
      obtain ⟨⟨c0, c1, c2⟩, d0, d1, d2⟩ := HC.out _ (Below.refl _ _)
      obtain ⟨⟨s0, s1, s2⟩, t0, t1, t2⟩ := HC.out _ HD.out
      go_wp2_with fail
      go_region_held3 (fun u => (u.cell? (ad.add (j * 3)) = some (.int .i64 kd) ∧ u.cell? ⟨(ad.add (j * 3)).block, (ad.add (j * 3)).off + 1, none⟩ = some (.string ⟨nm.toArray⟩) ∧ u.cell? ⟨(ad.add (j * 3)).block, (ad.add (j * 3)).off + 2, none⟩ = some (.slice C1 x1 e1)) ∧ (u.cell? (ae.add (j * 3)) = some (.int .i64 kd) ∧ u.cell? ⟨(ae.add (j * 3)).block, (ae.add (j * 3)).off + 1, none⟩ = some (.string ⟨nm.toArray⟩) ∧ u.cell? ⟨(ae.add (j * 3)).block, (ae.add (j * 3)).off + 2, none⟩ = some (.slice C2 x2 e2)))
        (first
          | exact HC.out _ HD.out
          | exact HC.out _ HZ1.out
          | exact HC.out _ HZ2.out)
        (first
          | (go_at_call 11; refine (HK2.out _ HZ1.out).mono ?_; rintro _ z2 ⟨rfl, hb⟩; have HZ2 : Hid (Below wr.heap.size wr z2) := HZ1.out.trans (hb.mono HZ1.out.size); clear hb)
          | (go_at_call 10; refine (HK1.out _ HD.out).mono ?_; rintro _ z1 ⟨rfl, hb⟩; have HZ1 : Hid (Below wr.heap.size wr z1) := HD.out.trans (hb.mono HD.out.size); clear hb))
      have HB5 := Lib.hid (HB.out.trans (HZ2.out.mono HB.out.size))
      clear c0 c1 c2 d0 d1 d2 s0 s1 s2 t0 t1 t2 HK1 HK2
      go_wp2_with fail
      go_roundw
      case rel => exact ⟨j + 1, by omega, by go_num, HB5⟩
      case measure => simp [intOf]; omega
    · obtain rfl : j = n := by omega
      obtain ⟨T, hT⟩ : ∃ T, txtR l = T := ⟨_, rfl⟩
      obtain ⟨Y, hY⟩ : ∃ Y, checkQs l = Y := ⟨_, rfl⟩
      have hrd := text_reads (l := l)
      rw [hT, hY] at hrd
      obtain ⟨yi, yk⟩ := Y
      dsimp only at hrd
      have HRD := Lib.hid hrd
      have HTX : Hid (∀ u, Below u3.heap.size u3 u → Calls Tryz.prog 12 #[.slice C j e] u fun e w' => e = .returned (.tuple #[.string ⟨T.toArray⟩, .int .i64 yi, .int .i64 yk]) ∧ Below u.heap.size u w') := fun u hb => by
        have h := askText_any C j e l u (qok_below HW.out (HB3.out.trans (hb.mono HB3.out.size))) HN.out (qrow_below HX3.out hb) (few_qfew HFA.out)
        rw [hT, hY] at h
        exact h
      have HTR : Hid (∀ u, Below w.heap.size w u → Calls Tryz.prog 13 #[.slice A j c] u fun e w' => e = .returned (.tuple #[.string ⟨T.toArray⟩, .int .i64 yi, .int .i64 yk]) ∧ Below u.heap.size u w') := fun u hb => by
        have h := refAskText_any A j c l u (qok_below HW.out hb).1 HN.out (qrow_below HR.out hb) (few_qfew HFA.out)
        rw [hT, hY] at h
        exact h
      obtain ⟨q, hq⟩ : ∃ q, decide (l = k) = q := ⟨_, rfl⟩
      have HQQ := Lib.hid hq
      have hqq : (q != q) = false := by simp
      have hii : ((yi : Int) != (yi : Int)) = false := by simp
      have hkk : (yk != yk) = false := by simp
      have htt : (T != T) = false := by simp
      clear hT hY hrd hq
      go_wp2_with fail
      refine (HTX.out _ HB.out).mono ?_
      rintro _ u4 ⟨rfl, hb⟩
      have HB4 := Lib.hid (HB.out.trans (hb.mono HB.out.size))
      clear hb HTX HB HWR
      have HW4 := Lib.hid (HB3.out.trans (HB4.out.mono HB3.out.size))
      go_wp2_with fail
      refine (HTR.out _ HW4.out).mono ?_
      rintro _ u5 ⟨rfl, hb⟩
      have HB5 := Lib.hid (HB4.out.trans (hb.mono HB4.out.size))
      have HW5 := Lib.hid (HW4.out.trans (hb.mono HW4.out.size))
      clear hb HTR HB4 HW4
      go_wp2_with fail
      refine (to9_any B m d k u5 HM.out (qrow_below HQ.out HW5.out) (by omega) (few_qsm HFB.out)).mono ?_
      rintro _ u6 ⟨D, g, rfl, hr, hb⟩
      have HB6 := Lib.hid (HB5.out.trans (hb.mono HB5.out.size))
      have HW6 := Lib.hid (HW5.out.trans (hb.mono HW5.out.size))
      have HD6 := Lib.hid hr
      clear hb hr HB5 HW5
      go_wp2_with fail
      refine (askSame_any C D j m e g l k u6 HN.out HM.out (qrow_below HX3.out HB6.out) HD6.out (by omega) (few_qfew HFA.out) (few_qfew HFB.out)).mono ?_
      rintro _ u7 ⟨rfl, hb⟩
      rw [HQQ.out]
      have HW7 := Lib.hid (HW6.out.trans (hb.mono HW6.out.size))
      clear hb HB6 HW6 HD6
      go_wp2_with fail
      refine (refSameAsks_any A B j m c d l k u7 HN.out HM.out (qrow_below HR.out HW7.out) (qrow_below HQ.out HW7.out) (by omega) (few_qfew HFA.out) (few_qfew HFB.out)).mono ?_
      rintro _ u8 ⟨rfl, hb⟩
      rw [HQQ.out]
      have HW8 := Lib.hid (HW7.out.trans (hb.mono HW7.out.size))
      clear hb HW7
      by_cases hy : yk = 0
      case neg =>
        have dy : (yk != 0) = true := by simpa using hy
        clear hy
        go_wp2_with fail
        go_ret
        exact ⟨rfl, HW8.out⟩
      subst hy
      obtain ⟨r1, r2, r3⟩ := HRD.out rfl
      have HP := Lib.hid (askParse_any T u8 (qok_below HW.out HW8.out) r2 r3)
      have HR1 := Lib.hid r1
      clear r1 r2 r3 HRD
      go_wp2_with fail
      refine HP.out.mono ?_
      rintro ee u9 h
      obtain ⟨hb, F, n9, c9, rfl, hn9, hr9⟩ := parR_get h HR1.out
      obtain rfl : n9 = j := hn9.symm.trans HN.out
      have HW9 := Lib.hid (HW8.out.trans (hb.mono HW8.out.size))
      have HF9 := Lib.hid hr9
      clear h hb hn9 hr9 HP HW8 htt hii hkk hqq
      go_wp2_with fail
      refine (of9_any F n9 c9 l u9 HN.out HF9.out (by omega) (few_qsm HFA.out)).mono ?_
      rintro _ v1 ⟨G, h1, rfl, hr, hb⟩
      have HV1 := Lib.hid (HW9.out.trans (hb.mono HW9.out.size))
      have HG1 := Lib.hid hr
      clear hb hr HW9 HF9
      go_wp2_with fail
      refine (refSameAsks_any G A n9 n9 h1 c l l v1 HN.out HN.out HG1.out (qrow_below HR.out HV1.out) (by omega) (few_qfew HFA.out) (few_qfew HFA.out)).mono ?_
      rintro _ v2 ⟨rfl, hb⟩
      rw [decide_eq_true (rfl : l = l)]
      have HV2 := Lib.hid (HV1.out.trans (hb.mono HV1.out.size))
      clear hb HV1 HG1
      go_wp2_with fail
      go_ret
      exact ⟨rfl, HV2.out⟩
end Go.Proofs.YtkdildgdodnbbaaGreatDoor
namespace Go.Proofs.YtkdildgdodnbbaaGreatDoor
open Go.RowKit Rs At Pg Ak Sz
theorem Ak.check_n {l : List Sp} (h : checkA ⟨[110], l⟩ = 0) (k : Nat) (h1 : 1 ≤ k) (h4 : k ≤ 4) : checkQ ⟨(k : Int), [110], l⟩ = if (k = 2 ∨ k = 3) ∧ decide (l = allS) = false then 1 else 0 := by
  unfold checkQ
  rw [if_neg (by show ¬ ((k : Int) < 1 ∨ 4 < (k : Int)); omega), if_pos h]
  by_cases hh : (k = 2 ∨ k = 3) ∧ decide (l = allS) = false
  · rw [if_pos hh, if_pos ⟨by rcases hh.1 with e | e <;> (subst e; first | exact Or.inl rfl | exact Or.inr rfl), of_decide_eq_false hh.2⟩]
  · rw [if_neg hh, if_neg]
    rintro ⟨g1, g2⟩
    refine hh ⟨?_, decide_eq_false g2⟩
    rcases g1 with e | e
    · exact Or.inl (by have : (k : Int) = 2 := e; omega)
    · exact Or.inr (by have : (k : Int) = 3 := e; omega)
attribute [local go_sem ↓] Go.wp_at_zero Go.wp_at_succ
set_option maxRecDepth 100000 in
set_option maxHeartbeats 6400000 in
theorem askRanges_any (A : Option Addr) (n c : Nat) (l : List Sp) (w : World) (hw : QOk w) (hn : l.length = n) (hr : SRow w A l) (hl : n ≤ maxLen) (hs : Wide l) :
    Calls Tryz.prog 6 #[.slice A n c] w fun e w' => e = .returned (.bool true) ∧ Below w.heap.size w w' := by
  have HW := Lib.hid hw
  have HN := Lib.hid hn
  have HR := Lib.hid hr
  have HSW := Lib.hid hs
  clear hw hn hr hs
  go_enter Tryz.func6, Tryz.ntmps6
  go_wp2_with fail
  refine (known9_any w HW.out).mono ?_
  rintro _ u0 ⟨rfl, hb⟩
  have HB0 := Lib.hid hb
  clear hb
  obtain ⟨W1, hW1⟩ : ∃ W, u0.alloc (.cells #[.string ⟨#[110]⟩, .slice A n c] 38) = W := ⟨_, rfl⟩
  have HL1 : Hid (Below u0.heap.size u0 W1) := alloc_low hW1
  have HW1 : Hid (Below w.heap.size w W1) := HB0.out.trans (HL1.out.mono HB0.out.size)
  have HS1 : Hid (St W1 W1 [⟨A, n, l⟩]) := ⟨(qok_below HW.out HW1.out).1, Below.refl _ _, fun x hx => by
    rw [List.mem_singleton.1 hx]; exact ⟨srow_below HR.out HW1.out, HN.out⟩⟩
  have HG : Hid (∀ u, Below W1.heap.size W1 u → u.cell? ⟨u0.heap.size, 0, none⟩ = some (.string ⟨#[110]⟩) ∧ u.cell? ⟨u0.heap.size, 1, none⟩ = some (.slice A n c)) := fun u hb => ⟨(cell_two hW1 hb).1, (cell_two hW1 hb).2.1⟩
  obtain ⟨c0, c1⟩ := HG.out _ (Below.refl _ _)
  obtain ⟨fb, hfb⟩ : ∃ b, fewA ⟨[110], l⟩ = b := ⟨_, rfl⟩
  have HF := Lib.hid hfb
  have HFC := Lib.hid (few4_any HS1.out [110] A n c l 0 rfl (by decide) hl HSW.out)
  rw [hfb] at HFC
  clear hfb
  go_wp2_with fail
  clear hW1
  refine HFC.out.mono ?_
  rintro _ u1 ⟨rfl, hs⟩
  have HS2 := Lib.hid hs
  clear hs HFC c0 c1
  obtain ⟨c0, c1⟩ := HG.out _ HS2.out.2.1
  cases fb
  · have HE := Lib.hid (HW1.out.trans (HS2.out.2.1.mono HW1.out.size))
    go_wp2_with fail
    go_ret
    exact ⟨rfl, HE.out⟩
  have hn1 : n ≤ 1000 := by
    have h2 := (Ak.few_parts HF.out).2
    rw [← HN.out]; exact Nat.le_trans h2 (by decide)
  obtain ⟨K, hK⟩ : ∃ K, checkA ⟨[110], l⟩ = K := ⟨_, rfl⟩
  have HCC := Lib.hid (s4_refCheck HS2.out 0 rfl hn1 c [110] (by decide) K hK)
  have HK := Lib.hid hK
  clear hK
  go_wp2_with fail
  refine HCC.out.mono ?_
  rintro _ u2 ⟨rfl, hs⟩
  have HS3 := Lib.hid hs
  clear hs HCC c0 c1 HS2
  by_cases hk0 : K = 0
  case neg =>
    have dk : (K != 0) = true := by simpa using hk0
    have HE := Lib.hid (HW1.out.trans (HS3.out.2.1.mono HW1.out.size))
    clear hk0
    go_wp2_with fail
    go_ret
    exact ⟨rfl, HE.out⟩
  subst hk0
  obtain ⟨c0, c1⟩ := HG.out _ HS3.out.2.1
  go_wp2_with fail
  refine (s4_to HS3.out 0 rfl hn1 c [110]).mono ?_
  rintro _ u3 ⟨C, m, d, rfl, hs⟩
  have hm : m = n := (st_row hs 0 rfl).2.symm.trans HN.out
  subst hm
  have HS4 := Lib.hid hs
  clear hs c0 c1 HS3
  obtain ⟨W4, hW4⟩ : ∃ W, u3.alloc (.cells #[.string ⟨#[110]⟩, .slice C m d] 32) = W := ⟨_, rfl⟩
  have HL4 : Hid (Below u3.heap.size u3 W4) := alloc_low hW4
  have HW4 : Hid (Below w.heap.size w W4) := HW1.out.trans ((HS4.out.2.1.trans (HL4.out.mono HS4.out.2.1.size)).mono HW1.out.size)
  have HS5 : Hid (St W4 W4 [⟨C, m, l⟩, ⟨A, m, l⟩]) := st_base (st_step HS4.out HL4.out)
  have HG4 : Hid (∀ u, Below W4.heap.size W4 u → u.cell? ⟨u3.heap.size, 0, none⟩ = some (.string ⟨#[110]⟩) ∧ u.cell? ⟨u3.heap.size, 1, none⟩ = some (.slice C m d)) := fun u hb => ⟨(cell_two hW4 hb).1, (cell_two hW4 hb).2.1⟩
  go_wp2_with fail
  clear hW4
  refine (s_refAll HS5.out).mono ?_
  rintro _ u4 ⟨C4, n4, d4, rfl, hs⟩
  obtain rfl : n4 = 1 := (st_row hs 0 rfl).2.symm
  have HS6 := Lib.hid hs
  clear hs HS4
  obtain ⟨b, hb⟩ : ∃ b, decide (l = allS) = b := ⟨_, rfl⟩
  have HBB := Lib.hid hb
  clear hb
  go_wp2_with fail
  refine (s_sameRange HS6.out 2 0 rfl rfl hn1 (by decide) _ _ b HBB.out).mono ?_
  rintro _ u5 ⟨rfl, hs⟩
  have HS7 := Lib.hid hs
  clear hs HS6
  go_wp2_with fail
  go_loopw [6] (fun i wr => ∃ k : Nat, 1 ≤ k ∧ k ≤ 5 ∧ i = .int .i64 k ∧ Hid (Below W4.heap.size W4 wr)) (fun i _ => 5 - (intOf i).toNat)
  case atStart => exact ⟨1, by decide, by decide, rfl, HS7.out.2.1⟩
  case round =>
    obtain ⟨k, hk1, hk5, rfl, HBR⟩ := hrel
    by_cases hlt : k ≤ 4
    · have h5 : k = 1 ∨ k = 2 ∨ k = 3 ∨ k = 4 := by omega
      obtain ⟨c0, c1⟩ := HG4.out _ HBR.out
      have HCK : Hid (∀ q : Nat, 1 ≤ q → q ≤ 4 → Calls Tryz.prog 10 #[.agg #[.int .i64 (q : Int), .string ⟨#[110]⟩, .slice C m d]] wr fun e w' => e = .returned (.int .i64 (if (q = 2 ∨ q = 3) ∧ b = false then 1 else 0)) ∧ Below wr.heap.size wr w') := fun q h1 h4 => by
        have h := askCheck_any (q : Int) [110] C m d l wr (qok_below HW.out (HW4.out.trans (HBR.out.mono HW4.out.size))).1 (by decide) HN.out (srow_below (st_row HS5.out 0 rfl).1 HBR.out) hn1
        rw [check_n HK.out q h1 h4, HBB.out] at h
        exact h
      clear hlt hk1 hk5
      cases b
      · rcases h5 with rfl | rfl | rfl | rfl
        · have HC : Hid (Calls Tryz.prog 10 #[.agg #[.int .i64 1, .string ⟨#[110]⟩, .slice C m d]] wr fun e w' => e = .returned (.int .i64 0) ∧ Below wr.heap.size wr w') := by
            have h := HCK.out 1 (by decide) (by decide)
            exact h
          go_wp2_with fail
          refine HC.out.mono ?_
          rintro _ z ⟨rfl, hb⟩
          have HZ := Lib.hid (HBR.out.trans (hb.mono HBR.out.size))
          clear hb HC HCK c0 c1
          go_wp2_with fail
          go_roundw
          case rel => exact ⟨2, by decide, by decide, by go_num, HZ⟩
          case measure => simp [intOf]
        · have HC : Hid (Calls Tryz.prog 10 #[.agg #[.int .i64 2, .string ⟨#[110]⟩, .slice C m d]] wr fun e w' => e = .returned (.int .i64 1) ∧ Below wr.heap.size wr w') := by
            have h := HCK.out 2 (by decide) (by decide)
            exact h
          go_wp2_with fail
          refine HC.out.mono ?_
          rintro _ z ⟨rfl, hb⟩
          have HZ := Lib.hid (HBR.out.trans (hb.mono HBR.out.size))
          clear hb HC HCK c0 c1
          go_wp2_with fail
          go_roundw
          case rel => exact ⟨3, by decide, by decide, by go_num, HZ⟩
          case measure => simp [intOf]
        · have HC : Hid (Calls Tryz.prog 10 #[.agg #[.int .i64 3, .string ⟨#[110]⟩, .slice C m d]] wr fun e w' => e = .returned (.int .i64 1) ∧ Below wr.heap.size wr w') := by
            have h := HCK.out 3 (by decide) (by decide)
            exact h
          go_wp2_with fail
          refine HC.out.mono ?_
          rintro _ z ⟨rfl, hb⟩
          have HZ := Lib.hid (HBR.out.trans (hb.mono HBR.out.size))
          clear hb HC HCK c0 c1
          go_wp2_with fail
          go_roundw
          case rel => exact ⟨4, by decide, by decide, by go_num, HZ⟩
          case measure => simp [intOf]
        · have HC : Hid (Calls Tryz.prog 10 #[.agg #[.int .i64 4, .string ⟨#[110]⟩, .slice C m d]] wr fun e w' => e = .returned (.int .i64 0) ∧ Below wr.heap.size wr w') := by
            have h := HCK.out 4 (by decide) (by decide)
            exact h
          go_wp2_with fail
          refine HC.out.mono ?_
          rintro _ z ⟨rfl, hb⟩
          have HZ := Lib.hid (HBR.out.trans (hb.mono HBR.out.size))
          clear hb HC HCK c0 c1
          go_wp2_with fail
          go_roundw
          case rel => exact ⟨5, by decide, by decide, by go_num, HZ⟩
          case measure => simp [intOf]
      · rcases h5 with rfl | rfl | rfl | rfl
        · have HC : Hid (Calls Tryz.prog 10 #[.agg #[.int .i64 1, .string ⟨#[110]⟩, .slice C m d]] wr fun e w' => e = .returned (.int .i64 0) ∧ Below wr.heap.size wr w') := by
            have h := HCK.out 1 (by decide) (by decide)
            exact h
          go_wp2_with fail
          refine HC.out.mono ?_
          rintro _ z ⟨rfl, hb⟩
          have HZ := Lib.hid (HBR.out.trans (hb.mono HBR.out.size))
          clear hb HC HCK c0 c1
          go_wp2_with fail
          go_roundw
          case rel => exact ⟨2, by decide, by decide, by go_num, HZ⟩
          case measure => simp [intOf]
        · have HC : Hid (Calls Tryz.prog 10 #[.agg #[.int .i64 2, .string ⟨#[110]⟩, .slice C m d]] wr fun e w' => e = .returned (.int .i64 0) ∧ Below wr.heap.size wr w') := by
            have h := HCK.out 2 (by decide) (by decide)
            exact h
          go_wp2_with fail
          refine HC.out.mono ?_
          rintro _ z ⟨rfl, hb⟩
          have HZ := Lib.hid (HBR.out.trans (hb.mono HBR.out.size))
          clear hb HC HCK c0 c1
          go_wp2_with fail
          go_roundw
          case rel => exact ⟨3, by decide, by decide, by go_num, HZ⟩
          case measure => simp [intOf]
        · have HC : Hid (Calls Tryz.prog 10 #[.agg #[.int .i64 3, .string ⟨#[110]⟩, .slice C m d]] wr fun e w' => e = .returned (.int .i64 0) ∧ Below wr.heap.size wr w') := by
            have h := HCK.out 3 (by decide) (by decide)
            exact h
          go_wp2_with fail
          refine HC.out.mono ?_
          rintro _ z ⟨rfl, hb⟩
          have HZ := Lib.hid (HBR.out.trans (hb.mono HBR.out.size))
          clear hb HC HCK c0 c1
          go_wp2_with fail
          go_roundw
          case rel => exact ⟨4, by decide, by decide, by go_num, HZ⟩
          case measure => simp [intOf]
        · have HC : Hid (Calls Tryz.prog 10 #[.agg #[.int .i64 4, .string ⟨#[110]⟩, .slice C m d]] wr fun e w' => e = .returned (.int .i64 0) ∧ Below wr.heap.size wr w') := by
            have h := HCK.out 4 (by decide) (by decide)
            exact h
          go_wp2_with fail
          refine HC.out.mono ?_
          rintro _ z ⟨rfl, hb⟩
          have HZ := Lib.hid (HBR.out.trans (hb.mono HBR.out.size))
          clear hb HC HCK c0 c1
          go_wp2_with fail
          go_roundw
          case rel => exact ⟨5, by decide, by decide, by go_num, HZ⟩
          case measure => simp [intOf]
    · obtain rfl : k = 5 := by omega
      have HE := Lib.hid (HW4.out.trans (HBR.out.mono HW4.out.size))
      go_wp2_with fail
      go_ret
      exact ⟨rfl, HE.out⟩
end Go.Proofs.YtkdildgdodnbbaaGreatDoor
