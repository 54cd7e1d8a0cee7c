/- The laws VerNumbers and VerMarks, walked. -/
import Derived.Test.YtkbahnimnhafiaaDoorVu
namespace Go.Proofs.YtkbahnimnhafiaaDoor
open Go.RowKit

/-- What VerNumbers looks at, of two runs of digits. -/
theorem vn_facts (s t : List UInt8) (c : Int) (hs0 : s ≠ []) (hs : s.all Vm.dig = true) (hsl : s.length ≤ 18) (ht0 : t ≠ []) (ht : t.all Vm.dig = true) (htl : t.length ≤ 18) (hc : Vm.sgn (Vm.num s) (Vm.num t) = c) :
    (Vm.check s = 0 ∧ Vm.check t = 0 ∧ Vm.cmpV s t = c) ∧
    (Vm.check ([49, 58] ++ s) = 0 ∧ Vm.check ([50, 58] ++ s) = 0 ∧ Vm.check ([48, 58] ++ s) = 0 ∧ Vm.check ([49, 58] ++ t) = 0) ∧
    (Vm.cmpV ([49, 58] ++ s) t = 1 ∧ Vm.cmpV ([50, 58] ++ s) ([49, 58] ++ t) = 1 ∧ Vm.cmpV ([48, 58] ++ s) t = c) ∧
    (Vm.check ([49, 46] ++ s) = 0 ∧ Vm.check ([49, 46] ++ t) = 0 ∧ Vm.check ([49, 45] ++ s) = 0 ∧ Vm.check ([49, 45] ++ t) = 0 ∧ Vm.check ([49, 126] ++ s) = 0 ∧ Vm.check [49] = 0) ∧
    (Vm.cmpV ([49, 46] ++ s) ([49, 46] ++ t) = c ∧ Vm.cmpV ([49, 45] ++ s) ([49, 45] ++ t) = c ∧ Vm.cmpV ([49, 126] ++ s) [49] = -1 ∧ Vm.cmpV ([49, 46] ++ s) [49] = 1) := by
  have es : s = Vm.glue [] s [] := by simp [Vm.glue]
  have et : t = Vm.glue [] t [] := by simp [Vm.glue]
  have e1 : ∀ (x : UInt8) (l : List UInt8), [x, 58] ++ l = Vm.glue [x] l [] := fun x l => by simp [Vm.glue]
  have e2 : ∀ (l : List UInt8), l ≠ [] → [49, 45] ++ l = Vm.glue [] [49] l := fun l hl => by
    have : l.isEmpty = false := by simpa using hl
    simp [Vm.glue, this]
  have e3 : ∀ (x : UInt8) (l : List UInt8), [49, x] ++ l = Vm.glue [] (49 :: ([x] ++ l)) [] := fun x l => by simp [Vm.glue]
  have e4 : ([49] : List UInt8) = Vm.glue [] (49 :: ([] ++ [])) [] := rfl
  have os := Vm.dig_ok hs
  have ot := Vm.dig_ok ht
  have ps := part_digs hs0 hs
  have pt := part_digs ht0 ht
  have d1 : ([49] : List UInt8).all Vm.dig = true := by decide
  have d2 : ([50] : List UInt8).all Vm.dig = true := by decide
  have d0 : ([48] : List UInt8).all Vm.dig = true := by decide
  have hp : Vm.cmpP 41 s t = c := by rw [cmpP_digs 40 s t hs ht, hc]
  have hp' : Vm.cmpP 40 s t = c := by rw [cmpP_digs 39 s t hs ht, hc]
  have pm : ∀ (x : UInt8) (l : List UInt8), Vm.ok1 x = true → l ≠ [] → l.all Vm.dig = true → Vm.partOk (49 :: ([x] ++ l)) = true := fun x l hx hl hd => part_mark (by decide) (by simp [hx]) hl hd
  have om : ∀ (x : UInt8) (l : List UInt8), Vm.ok1 x = true → l.all Vm.dig = true → (49 :: ([x] ++ l)).all Vm.ok1 = true := fun x l hx hd => by
    simp only [List.all_cons, List.all_append, List.all_nil, hx, Vm.dig_ok hd, Bool.and_true]; decide
  refine ⟨⟨?_, ?_, ?_⟩, ⟨?_, ?_, ?_, ?_⟩, ⟨?_, ?_, ?_⟩, ⟨?_, ?_, ?_, ?_, ?_, by decide⟩, ?_, ?_, ?_, ?_⟩
  · rw [es]; exact digs_pieces [] s [] rfl os rfl (by simp) (by simp; omega) ps (Or.inl rfl)
  · rw [et]; exact digs_pieces [] t [] rfl ot rfl (by simp) (by simp; omega) pt (Or.inl rfl)
  · rw [es, et, cmpV_glue [] s [] [] t [] rfl os rfl rfl ot rfl]
    show Vm.both (Vm.cmpD [48] [48]) (Vm.both (Vm.cmpP 41 s t) (Vm.cmpP 41 [48] [48])) = c
    rw [(Vm.cmpD_eq [48] [48]).2 rfl, both_zero_left, cmpP48, both_zero, hp]
  · rw [e1]; exact digs_pieces [49] s [] d1 os rfl (by simp) (by simp; omega) ps (Or.inl rfl)
  · rw [e1]; exact digs_pieces [50] s [] d2 os rfl (by simp) (by simp; omega) ps (Or.inl rfl)
  · rw [e1]; exact digs_pieces [48] s [] d0 os rfl (by simp) (by simp; omega) ps (Or.inl rfl)
  · rw [e1]; exact digs_pieces [49] t [] d1 ot rfl (by simp) (by simp; omega) pt (Or.inl rfl)
  · rw [e1, et, cmpV_glue [49] s [] [] t [] d1 os rfl rfl ot rfl]; rfl
  · rw [e1, e1, cmpV_glue [50] s [] [49] t [] d2 os rfl d1 ot rfl]; rfl
  · rw [e1, et, cmpV_glue [48] s [] [] t [] d0 os rfl rfl ot rfl]
    show Vm.both (Vm.cmpD [48] [48]) (Vm.both (Vm.cmpP 41 s t) (Vm.cmpP 41 [48] [48])) = c
    rw [(Vm.cmpD_eq [48] [48]).2 rfl, both_zero_left, cmpP48, both_zero, hp]
  · rw [e3]; exact digs_pieces [] _ [] rfl (om 46 s (by decide) hs) rfl (by simp) (by simp; omega) (pm 46 s (by decide) hs0 hs) (Or.inl rfl)
  · rw [e3]; exact digs_pieces [] _ [] rfl (om 46 t (by decide) ht) rfl (by simp) (by simp; omega) (pm 46 t (by decide) ht0 ht) (Or.inl rfl)
  · rw [e2 s hs0]; exact digs_pieces [] [49] s rfl (by decide) os (by simp) (by simp; omega) (by decide) (Or.inr ps)
  · rw [e2 t ht0]; exact digs_pieces [] [49] t rfl (by decide) ot (by simp) (by simp; omega) (by decide) (Or.inr pt)
  · rw [e3]; exact digs_pieces [] _ [] rfl (om 126 s (by decide) hs) rfl (by simp) (by simp; omega) (pm 126 s (by decide) hs0 hs) (Or.inl rfl)
  · rw [e3, e3, cmpV_glue [] _ [] [] _ [] rfl (om 46 s (by decide) hs) rfl rfl (om 46 t (by decide) ht) rfl]
    show Vm.both (Vm.cmpD [48] [48]) (Vm.both (Vm.cmpP (40 + 1) (49 :: ([46] ++ s)) (49 :: ([46] ++ t))) (Vm.cmpP 41 [48] [48])) = c
    rw [(Vm.cmpD_eq [48] [48]).2 rfl, both_zero_left, cmpP48, both_zero, cmpP_mark 40 (by decide) (by decide) (by decide) hs ht (by simp) (by simp), (Vm.cmpO_eq [46] [46]).2 rfl, both_zero_left, hp']
  · rw [e2 s hs0, e2 t ht0, cmpV_glue [] [49] s [] [49] t rfl (by decide) os rfl (by decide) ot]
    have i1 : s.isEmpty = false := by simpa using hs0
    have i2 : t.isEmpty = false := by simpa using ht0
    rw [i1, i2]
    show Vm.both (Vm.cmpD [48] [48]) (Vm.both (Vm.cmpP 41 [49] [49]) (Vm.cmpP 41 s t)) = c
    rw [(Vm.cmpD_eq [48] [48]).2 rfl, both_zero_left, show Vm.cmpP 41 [49] [49] = 0 by decide, both_zero_left, hp]
  · rw [e3]
    conv => lhs; arg 2; rw [e4]
    rw [cmpV_glue [] _ [] [] _ [] rfl (om 126 s (by decide) hs) rfl rfl (by decide) rfl]
    show Vm.both (Vm.cmpD [48] [48]) (Vm.both (Vm.cmpP (40 + 1) (49 :: ([126] ++ s)) (49 :: ([] ++ []))) (Vm.cmpP 41 [48] [48])) = -1
    rw [(Vm.cmpD_eq [48] [48]).2 rfl, both_zero_left, cmpP_mark 40 (by decide) (by decide) (by decide) hs (by decide) (by simp) (by simp)]
    rfl
  · rw [e3]
    conv => lhs; arg 2; rw [e4]
    rw [cmpV_glue [] _ [] [] _ [] rfl (om 46 s (by decide) hs) rfl rfl (by decide) rfl]
    show Vm.both (Vm.cmpD [48] [48]) (Vm.both (Vm.cmpP (40 + 1) (49 :: ([46] ++ s)) (49 :: ([] ++ []))) (Vm.cmpP 41 [48] [48])) = 1
    rw [(Vm.cmpD_eq [48] [48]).2 rfl, both_zero_left, cmpP_mark 40 (by decide) (by decide) (by decide) hs (by decide) (by simp) (by simp)]
    rfl

set_option maxHeartbeats 2000000 in
theorem verNumbers_any (a b n : Nat) (ep : Bool) (ha : a < 4294967296) (hb : b < 4294967296) (w : World) (hw : MaxOk w) :
    Calls Tryd.prog 5 #[.int .u32 a, .int .u32 b, .int .u8 n, .bool ep] w fun e w' => e = .returned (.bool true) ∧ Below w.heap.size w w' := by
  have hnot : ∀ (x : Bool) (w : World), (Op.unary .not (.bool x)).run Tryd.prog w = .ok (.bool (!x)) w := fun _ _ => rfl
  have HW := Lib.hid hw
  have HA := Lib.hid ha
  have HBb := Lib.hid hb
  have ua : IntKind.u64.wrap (a : Int) = a := IntWalk.u64_in _ (by omega)
  have ub : IntKind.u64.wrap (b : Int) = b := IntWalk.u64_in _ (by omega)
  have n0 : (0 : Int) ≤ (n : Int) := by omega
  clear hw ha hb
  go_enter Tryd.func5, Tryd.ntmps5
  go_wp2_with fail
  refine (known_any _ HW.out).mono ?_
  rintro _ w1 ⟨rfl, hb⟩
  have HB := Lib.hid hb
  have HM := Lib.hid (maxOk_below HW.out hb)
  clear hb HW
  go_wp2_with fail
  refine (decimal_any a HA.out _).mono ?_
  rintro _ w2 ⟨d, rfl, hd0, hd, hdn, hdl, hb⟩
  have HB2 := Lib.hid (HB.out.trans (hb.mono HB.out.size))
  have HM2 := Lib.hid (maxOk_below HM.out hb)
  have HD0 := Lib.hid hd0
  have HD := Lib.hid hd
  have HDN := Lib.hid hdn
  clear hb HB HM hd0 hd hdn
  go_wp2_with fail
  refine (decimal_any b HBb.out _).mono ?_
  rintro _ w3 ⟨t, rfl, ht0, ht, htn, htl, hb⟩
  have HB3 := Lib.hid (HB2.out.trans (hb.mono HB2.out.size))
  have HM3 := Lib.hid (maxOk_below HM2.out hb)
  have HT0 := Lib.hid ht0
  have HT := Lib.hid ht
  have HTN := Lib.hid htn
  clear hb HB2 HM2 ht0 ht htn ua ub
  go_wp2_with fail
  go_loop [9, 11] (fun s i => ∃ k : Nat, (k : Int) ≤ (n : Int) % 9 ∧ i = .int .i64 k ∧ s = .string ⟨(List.replicate k 48 ++ d).toArray⟩) (fun _ i => 9 - (intOf i).toNat)
  case atStart => exact ⟨0, by omega, rfl, rfl⟩
  case round =>
    obtain ⟨k, hk, rfl, rfl⟩ := hrel
    have hk9 : k < 9 := by omega
    by_cases hlt : (k : Int) < (n : Int) % 9
    · have hap : (⟨#[48]⟩ : ByteArray) ++ ⟨(List.replicate k 48 ++ d).toArray⟩ = ⟨(List.replicate (k + 1) 48 ++ d).toArray⟩ := by
        show ByteArray.mk [48].toArray ++ _ = _
        rw [ByteArray.mk_append_mk, List.replicate_succ]; rfl
      have HAP := Lib.hid hap
      obtain ⟨z, hz⟩ : ∃ z, List.replicate k 48 ++ d = z := ⟨_, rfl⟩
      have hzl : z.length ≤ 100 := by rw [← hz]; simp; omega
      rw [hz] at hap HAP
      rw [hz]
      clear hap hz
      go_wp2_with fail
      go_round
      case rel => exact ⟨k + 1, by omega, by go_num, congrArg Value.string HAP.out⟩
      case measure => simp [intOf]; omega
    · have hfin := vn_facts (List.replicate k 48 ++ d) t
      obtain ⟨s, hs⟩ : ∃ s, List.replicate k 48 ++ d = s := ⟨_, rfl⟩
      have hs0 : s ≠ [] := by rw [← hs]; simp [HD0.out]
      have hsd : s.all Vm.dig = true := by
        rw [← hs, List.all_append, HD.out, Bool.and_true, List.all_eq_true]
        intro x hx
        rw [List.eq_of_mem_replicate hx]; decide
      have hsl : s.length ≤ 18 := by rw [← hs]; simp; omega
      have hsn : Vm.num s = a := by rw [← hs, zeros_num, HDN.out]
      rw [hs] at hfin
      rw [hs]
      have HF : Hid (∀ c : Int, Vm.sgn (a : Int) (b : Int) = c → _) := fun c hc => hfin c hs0 hsd hsl HT0.out HT.out (by omega) (by rw [hsn, HTN.out]; exact hc)
      clear hs hs0 hsd hsn hfin HD0 HD HDN HT0 HT HTN hk hk9
      rcases Nat.lt_trichotomy a b with hab | heq | hgt
      · have HC : Vm.sgn (a : Int) (b : Int) = -1 := Vm.sgn_lt (by omega)
        have g1 : (a : Int) < (b : Int) := by omega
        obtain ⟨⟨q1, q2, q3⟩, ⟨q4, q5, q6, q7⟩, ⟨q8, q9, q10⟩, ⟨q11, q12, q13, q14, q15, q16⟩, q17, q18, q19, q20⟩ := HF.out (-1) HC
        have Q1 := Lib.hid q1
        have Q2 := Lib.hid q2
        have Q3 := Lib.hid q3
        have Q4 := Lib.hid q4
        have Q5 := Lib.hid q5
        have Q6 := Lib.hid q6
        have Q7 := Lib.hid q7
        have Q8 := Lib.hid q8
        have Q9 := Lib.hid q9
        have Q10 := Lib.hid q10
        have Q11 := Lib.hid q11
        have Q12 := Lib.hid q12
        have Q13 := Lib.hid q13
        have Q14 := Lib.hid q14
        have Q15 := Lib.hid q15
        have Q16 := Lib.hid q16
        have Q17 := Lib.hid q17
        have Q18 := Lib.hid q18
        have Q19 := Lib.hid q19
        have Q20 := Lib.hid q20
        clear q1 q2 q3 q4 q5 q6 q7 q8 q9 q10 q11 q12 q13 q14 q15 q16 q17 q18 q19 q20 HF HC
        cases ep
        · obtain ⟨x1, hx1⟩ : ∃ y, [49, 46] ++ s = y := ⟨_, rfl⟩
          have ap1 : (⟨#[49, 46]⟩ : ByteArray) ++ ⟨s.toArray⟩ = ⟨x1.toArray⟩ := by rw [← hx1]; exact ByteArray.mk_append_mk [49, 46] s
          obtain ⟨x2, hx2⟩ : ∃ y, [49, 46] ++ t = y := ⟨_, rfl⟩
          have ap2 : (⟨#[49, 46]⟩ : ByteArray) ++ ⟨t.toArray⟩ = ⟨x2.toArray⟩ := by rw [← hx2]; exact ByteArray.mk_append_mk [49, 46] t
          obtain ⟨x3, hx3⟩ : ∃ y, [49, 45] ++ s = y := ⟨_, rfl⟩
          have ap3 : (⟨#[49, 45]⟩ : ByteArray) ++ ⟨s.toArray⟩ = ⟨x3.toArray⟩ := by rw [← hx3]; exact ByteArray.mk_append_mk [49, 45] s
          obtain ⟨x4, hx4⟩ : ∃ y, [49, 45] ++ t = y := ⟨_, rfl⟩
          have ap4 : (⟨#[49, 45]⟩ : ByteArray) ++ ⟨t.toArray⟩ = ⟨x4.toArray⟩ := by rw [← hx4]; exact ByteArray.mk_append_mk [49, 45] t
          obtain ⟨x5, hx5⟩ : ∃ y, [49, 126] ++ s = y := ⟨_, rfl⟩
          have ap5 : (⟨#[49, 126]⟩ : ByteArray) ++ ⟨s.toArray⟩ = ⟨x5.toArray⟩ := by rw [← hx5]; exact ByteArray.mk_append_mk [49, 126] s
          rw [hx1] at Q11 Q17 Q20
          rw [hx2] at Q12 Q17
          rw [hx3] at Q13 Q18
          rw [hx4] at Q14 Q18
          rw [hx5] at Q15 Q19
          clear hx1 hx2 hx3 hx4 hx5 Q4 Q5 Q6 Q7 Q8 Q9 Q10
          go_wp2_with fail
          refine (compare_at (s) (t) (-1) _ HM3.out Q1.out Q2.out Q3.out).mono ?_
          rintro _ w11 ⟨rfl, hb⟩
          have HB11 := Lib.hid (HB3.out.trans (hb.mono HB3.out.size))
          have HM11 := Lib.hid (maxOk_below HM3.out hb)
          clear hb HB3 HM3
          go_wp2_with fail
          refine (compare_at (x1) (x2) (-1) _ HM11.out Q11.out Q12.out Q17.out).mono ?_
          rintro _ w12 ⟨rfl, hb⟩
          have HB12 := Lib.hid (HB11.out.trans (hb.mono HB11.out.size))
          have HM12 := Lib.hid (maxOk_below HM11.out hb)
          clear hb HB11 HM11
          go_wp2_with fail
          refine (compare_at (x3) (x4) (-1) _ HM12.out Q13.out Q14.out Q18.out).mono ?_
          rintro _ w13 ⟨rfl, hb⟩
          have HB13 := Lib.hid (HB12.out.trans (hb.mono HB12.out.size))
          have HM13 := Lib.hid (maxOk_below HM12.out hb)
          clear hb HB12 HM12
          go_wp2_with fail
          refine (compare_at (x5) ([49]) (-1) _ HM13.out Q15.out Q16.out Q19.out).mono ?_
          rintro _ w14 ⟨rfl, hb⟩
          have HB14 := Lib.hid (HB13.out.trans (hb.mono HB13.out.size))
          have HM14 := Lib.hid (maxOk_below HM13.out hb)
          clear hb HB13 HM13
          go_wp2_with fail
          refine (compare_at (x1) ([49]) (1) _ HM14.out Q11.out Q16.out Q20.out).mono ?_
          rintro _ w15 ⟨rfl, hb⟩
          have HB15 := Lib.hid (HB14.out.trans (hb.mono HB14.out.size))
          have HM15 := Lib.hid (maxOk_below HM14.out hb)
          clear hb HB14 HM14
          go_wp2_with fail
          go_ret
          exact ⟨rfl, HB15.out⟩
        · obtain ⟨x1, hx1⟩ : ∃ y, [49, 58] ++ s = y := ⟨_, rfl⟩
          have ap1 : (⟨#[49, 58]⟩ : ByteArray) ++ ⟨s.toArray⟩ = ⟨x1.toArray⟩ := by rw [← hx1]; exact ByteArray.mk_append_mk [49, 58] s
          obtain ⟨x2, hx2⟩ : ∃ y, [50, 58] ++ s = y := ⟨_, rfl⟩
          have ap2 : (⟨#[50, 58]⟩ : ByteArray) ++ ⟨s.toArray⟩ = ⟨x2.toArray⟩ := by rw [← hx2]; exact ByteArray.mk_append_mk [50, 58] s
          obtain ⟨x3, hx3⟩ : ∃ y, [49, 58] ++ t = y := ⟨_, rfl⟩
          have ap3 : (⟨#[49, 58]⟩ : ByteArray) ++ ⟨t.toArray⟩ = ⟨x3.toArray⟩ := by rw [← hx3]; exact ByteArray.mk_append_mk [49, 58] t
          obtain ⟨x4, hx4⟩ : ∃ y, [48, 58] ++ s = y := ⟨_, rfl⟩
          have ap4 : (⟨#[48, 58]⟩ : ByteArray) ++ ⟨s.toArray⟩ = ⟨x4.toArray⟩ := by rw [← hx4]; exact ByteArray.mk_append_mk [48, 58] s
          rw [hx1] at Q4 Q8
          rw [hx2] at Q5 Q9
          rw [hx3] at Q7 Q9
          rw [hx4] at Q6 Q10
          clear hx1 hx2 hx3 hx4 Q11 Q12 Q13 Q14 Q15 Q16 Q17 Q18 Q19 Q20
          go_wp2_with fail
          refine (compare_at (x1) (t) (1) _ HM3.out Q4.out Q2.out Q8.out).mono ?_
          rintro _ w11 ⟨rfl, hb⟩
          have HB11 := Lib.hid (HB3.out.trans (hb.mono HB3.out.size))
          have HM11 := Lib.hid (maxOk_below HM3.out hb)
          clear hb HB3 HM3
          go_wp2_with fail
          refine (compare_at (x2) (x3) (1) _ HM11.out Q5.out Q7.out Q9.out).mono ?_
          rintro _ w12 ⟨rfl, hb⟩
          have HB12 := Lib.hid (HB11.out.trans (hb.mono HB11.out.size))
          have HM12 := Lib.hid (maxOk_below HM11.out hb)
          clear hb HB11 HM11
          go_wp2_with fail
          refine (compare_at (x4) (t) (-1) _ HM12.out Q6.out Q2.out Q10.out).mono ?_
          rintro _ w13 ⟨rfl, hb⟩
          have HB13 := Lib.hid (HB12.out.trans (hb.mono HB12.out.size))
          have HM13 := Lib.hid (maxOk_below HM12.out hb)
          clear hb HB12 HM12
          go_wp2_with fail
          go_ret
          exact ⟨rfl, HB13.out⟩
      · subst heq
        have HC : Vm.sgn (a : Int) (a : Int) = 0 := (Vm.sgn_eq _ _).2 rfl
        obtain ⟨⟨q1, q2, q3⟩, ⟨q4, q5, q6, q7⟩, ⟨q8, q9, q10⟩, ⟨q11, q12, q13, q14, q15, q16⟩, q17, q18, q19, q20⟩ := HF.out (0) HC
        have Q1 := Lib.hid q1
        have Q2 := Lib.hid q2
        have Q3 := Lib.hid q3
        have Q4 := Lib.hid q4
        have Q5 := Lib.hid q5
        have Q6 := Lib.hid q6
        have Q7 := Lib.hid q7
        have Q8 := Lib.hid q8
        have Q9 := Lib.hid q9
        have Q10 := Lib.hid q10
        have Q11 := Lib.hid q11
        have Q12 := Lib.hid q12
        have Q13 := Lib.hid q13
        have Q14 := Lib.hid q14
        have Q15 := Lib.hid q15
        have Q16 := Lib.hid q16
        have Q17 := Lib.hid q17
        have Q18 := Lib.hid q18
        have Q19 := Lib.hid q19
        have Q20 := Lib.hid q20
        clear q1 q2 q3 q4 q5 q6 q7 q8 q9 q10 q11 q12 q13 q14 q15 q16 q17 q18 q19 q20 HF HC
        cases ep
        · obtain ⟨x1, hx1⟩ : ∃ y, [49, 46] ++ s = y := ⟨_, rfl⟩
          have ap1 : (⟨#[49, 46]⟩ : ByteArray) ++ ⟨s.toArray⟩ = ⟨x1.toArray⟩ := by rw [← hx1]; exact ByteArray.mk_append_mk [49, 46] s
          obtain ⟨x2, hx2⟩ : ∃ y, [49, 46] ++ t = y := ⟨_, rfl⟩
          have ap2 : (⟨#[49, 46]⟩ : ByteArray) ++ ⟨t.toArray⟩ = ⟨x2.toArray⟩ := by rw [← hx2]; exact ByteArray.mk_append_mk [49, 46] t
          obtain ⟨x3, hx3⟩ : ∃ y, [49, 45] ++ s = y := ⟨_, rfl⟩
          have ap3 : (⟨#[49, 45]⟩ : ByteArray) ++ ⟨s.toArray⟩ = ⟨x3.toArray⟩ := by rw [← hx3]; exact ByteArray.mk_append_mk [49, 45] s
          obtain ⟨x4, hx4⟩ : ∃ y, [49, 45] ++ t = y := ⟨_, rfl⟩
          have ap4 : (⟨#[49, 45]⟩ : ByteArray) ++ ⟨t.toArray⟩ = ⟨x4.toArray⟩ := by rw [← hx4]; exact ByteArray.mk_append_mk [49, 45] t
          obtain ⟨x5, hx5⟩ : ∃ y, [49, 126] ++ s = y := ⟨_, rfl⟩
          have ap5 : (⟨#[49, 126]⟩ : ByteArray) ++ ⟨s.toArray⟩ = ⟨x5.toArray⟩ := by rw [← hx5]; exact ByteArray.mk_append_mk [49, 126] s
          rw [hx1] at Q11 Q17 Q20
          rw [hx2] at Q12 Q17
          rw [hx3] at Q13 Q18
          rw [hx4] at Q14 Q18
          rw [hx5] at Q15 Q19
          clear hx1 hx2 hx3 hx4 hx5 Q4 Q5 Q6 Q7 Q8 Q9 Q10
          go_wp2_with fail
          refine (compare_at (s) (t) (0) _ HM3.out Q1.out Q2.out Q3.out).mono ?_
          rintro _ w11 ⟨rfl, hb⟩
          have HB11 := Lib.hid (HB3.out.trans (hb.mono HB3.out.size))
          have HM11 := Lib.hid (maxOk_below HM3.out hb)
          clear hb HB3 HM3
          go_wp2_with fail
          refine (compare_at (x1) (x2) (0) _ HM11.out Q11.out Q12.out Q17.out).mono ?_
          rintro _ w12 ⟨rfl, hb⟩
          have HB12 := Lib.hid (HB11.out.trans (hb.mono HB11.out.size))
          have HM12 := Lib.hid (maxOk_below HM11.out hb)
          clear hb HB11 HM11
          go_wp2_with fail
          refine (compare_at (x3) (x4) (0) _ HM12.out Q13.out Q14.out Q18.out).mono ?_
          rintro _ w13 ⟨rfl, hb⟩
          have HB13 := Lib.hid (HB12.out.trans (hb.mono HB12.out.size))
          have HM13 := Lib.hid (maxOk_below HM12.out hb)
          clear hb HB12 HM12
          go_wp2_with fail
          refine (compare_at (x5) ([49]) (-1) _ HM13.out Q15.out Q16.out Q19.out).mono ?_
          rintro _ w14 ⟨rfl, hb⟩
          have HB14 := Lib.hid (HB13.out.trans (hb.mono HB13.out.size))
          have HM14 := Lib.hid (maxOk_below HM13.out hb)
          clear hb HB13 HM13
          go_wp2_with fail
          refine (compare_at (x1) ([49]) (1) _ HM14.out Q11.out Q16.out Q20.out).mono ?_
          rintro _ w15 ⟨rfl, hb⟩
          have HB15 := Lib.hid (HB14.out.trans (hb.mono HB14.out.size))
          have HM15 := Lib.hid (maxOk_below HM14.out hb)
          clear hb HB14 HM14
          go_wp2_with fail
          go_ret
          exact ⟨rfl, HB15.out⟩
        · obtain ⟨x1, hx1⟩ : ∃ y, [49, 58] ++ s = y := ⟨_, rfl⟩
          have ap1 : (⟨#[49, 58]⟩ : ByteArray) ++ ⟨s.toArray⟩ = ⟨x1.toArray⟩ := by rw [← hx1]; exact ByteArray.mk_append_mk [49, 58] s
          obtain ⟨x2, hx2⟩ : ∃ y, [50, 58] ++ s = y := ⟨_, rfl⟩
          have ap2 : (⟨#[50, 58]⟩ : ByteArray) ++ ⟨s.toArray⟩ = ⟨x2.toArray⟩ := by rw [← hx2]; exact ByteArray.mk_append_mk [50, 58] s
          obtain ⟨x3, hx3⟩ : ∃ y, [49, 58] ++ t = y := ⟨_, rfl⟩
          have ap3 : (⟨#[49, 58]⟩ : ByteArray) ++ ⟨t.toArray⟩ = ⟨x3.toArray⟩ := by rw [← hx3]; exact ByteArray.mk_append_mk [49, 58] t
          obtain ⟨x4, hx4⟩ : ∃ y, [48, 58] ++ s = y := ⟨_, rfl⟩
          have ap4 : (⟨#[48, 58]⟩ : ByteArray) ++ ⟨s.toArray⟩ = ⟨x4.toArray⟩ := by rw [← hx4]; exact ByteArray.mk_append_mk [48, 58] s
          rw [hx1] at Q4 Q8
          rw [hx2] at Q5 Q9
          rw [hx3] at Q7 Q9
          rw [hx4] at Q6 Q10
          clear hx1 hx2 hx3 hx4 Q11 Q12 Q13 Q14 Q15 Q16 Q17 Q18 Q19 Q20
          go_wp2_with fail
          refine (compare_at (x1) (t) (1) _ HM3.out Q4.out Q2.out Q8.out).mono ?_
          rintro _ w11 ⟨rfl, hb⟩
          have HB11 := Lib.hid (HB3.out.trans (hb.mono HB3.out.size))
          have HM11 := Lib.hid (maxOk_below HM3.out hb)
          clear hb HB3 HM3
          go_wp2_with fail
          refine (compare_at (x2) (x3) (1) _ HM11.out Q5.out Q7.out Q9.out).mono ?_
          rintro _ w12 ⟨rfl, hb⟩
          have HB12 := Lib.hid (HB11.out.trans (hb.mono HB11.out.size))
          have HM12 := Lib.hid (maxOk_below HM11.out hb)
          clear hb HB11 HM11
          go_wp2_with fail
          refine (compare_at (x4) (t) (0) _ HM12.out Q6.out Q2.out Q10.out).mono ?_
          rintro _ w13 ⟨rfl, hb⟩
          have HB13 := Lib.hid (HB12.out.trans (hb.mono HB12.out.size))
          have HM13 := Lib.hid (maxOk_below HM12.out hb)
          clear hb HB12 HM12
          go_wp2_with fail
          go_ret
          exact ⟨rfl, HB13.out⟩
      · have HC : Vm.sgn (a : Int) (b : Int) = 1 := Vm.sgn_gt (by omega)
        have g1 : (b : Int) < (a : Int) := by omega
        obtain ⟨⟨q1, q2, q3⟩, ⟨q4, q5, q6, q7⟩, ⟨q8, q9, q10⟩, ⟨q11, q12, q13, q14, q15, q16⟩, q17, q18, q19, q20⟩ := HF.out (1) HC
        have Q1 := Lib.hid q1
        have Q2 := Lib.hid q2
        have Q3 := Lib.hid q3
        have Q4 := Lib.hid q4
        have Q5 := Lib.hid q5
        have Q6 := Lib.hid q6
        have Q7 := Lib.hid q7
        have Q8 := Lib.hid q8
        have Q9 := Lib.hid q9
        have Q10 := Lib.hid q10
        have Q11 := Lib.hid q11
        have Q12 := Lib.hid q12
        have Q13 := Lib.hid q13
        have Q14 := Lib.hid q14
        have Q15 := Lib.hid q15
        have Q16 := Lib.hid q16
        have Q17 := Lib.hid q17
        have Q18 := Lib.hid q18
        have Q19 := Lib.hid q19
        have Q20 := Lib.hid q20
        clear q1 q2 q3 q4 q5 q6 q7 q8 q9 q10 q11 q12 q13 q14 q15 q16 q17 q18 q19 q20 HF HC
        cases ep
        · obtain ⟨x1, hx1⟩ : ∃ y, [49, 46] ++ s = y := ⟨_, rfl⟩
          have ap1 : (⟨#[49, 46]⟩ : ByteArray) ++ ⟨s.toArray⟩ = ⟨x1.toArray⟩ := by rw [← hx1]; exact ByteArray.mk_append_mk [49, 46] s
          obtain ⟨x2, hx2⟩ : ∃ y, [49, 46] ++ t = y := ⟨_, rfl⟩
          have ap2 : (⟨#[49, 46]⟩ : ByteArray) ++ ⟨t.toArray⟩ = ⟨x2.toArray⟩ := by rw [← hx2]; exact ByteArray.mk_append_mk [49, 46] t
          obtain ⟨x3, hx3⟩ : ∃ y, [49, 45] ++ s = y := ⟨_, rfl⟩
          have ap3 : (⟨#[49, 45]⟩ : ByteArray) ++ ⟨s.toArray⟩ = ⟨x3.toArray⟩ := by rw [← hx3]; exact ByteArray.mk_append_mk [49, 45] s
          obtain ⟨x4, hx4⟩ : ∃ y, [49, 45] ++ t = y := ⟨_, rfl⟩
          have ap4 : (⟨#[49, 45]⟩ : ByteArray) ++ ⟨t.toArray⟩ = ⟨x4.toArray⟩ := by rw [← hx4]; exact ByteArray.mk_append_mk [49, 45] t
          obtain ⟨x5, hx5⟩ : ∃ y, [49, 126] ++ s = y := ⟨_, rfl⟩
          have ap5 : (⟨#[49, 126]⟩ : ByteArray) ++ ⟨s.toArray⟩ = ⟨x5.toArray⟩ := by rw [← hx5]; exact ByteArray.mk_append_mk [49, 126] s
          rw [hx1] at Q11 Q17 Q20
          rw [hx2] at Q12 Q17
          rw [hx3] at Q13 Q18
          rw [hx4] at Q14 Q18
          rw [hx5] at Q15 Q19
          clear hx1 hx2 hx3 hx4 hx5 Q4 Q5 Q6 Q7 Q8 Q9 Q10
          go_wp2_with fail
          refine (compare_at (s) (t) (1) _ HM3.out Q1.out Q2.out Q3.out).mono ?_
          rintro _ w11 ⟨rfl, hb⟩
          have HB11 := Lib.hid (HB3.out.trans (hb.mono HB3.out.size))
          have HM11 := Lib.hid (maxOk_below HM3.out hb)
          clear hb HB3 HM3
          go_wp2_with fail
          refine (compare_at (x1) (x2) (1) _ HM11.out Q11.out Q12.out Q17.out).mono ?_
          rintro _ w12 ⟨rfl, hb⟩
          have HB12 := Lib.hid (HB11.out.trans (hb.mono HB11.out.size))
          have HM12 := Lib.hid (maxOk_below HM11.out hb)
          clear hb HB11 HM11
          go_wp2_with fail
          refine (compare_at (x3) (x4) (1) _ HM12.out Q13.out Q14.out Q18.out).mono ?_
          rintro _ w13 ⟨rfl, hb⟩
          have HB13 := Lib.hid (HB12.out.trans (hb.mono HB12.out.size))
          have HM13 := Lib.hid (maxOk_below HM12.out hb)
          clear hb HB12 HM12
          go_wp2_with fail
          refine (compare_at (x5) ([49]) (-1) _ HM13.out Q15.out Q16.out Q19.out).mono ?_
          rintro _ w14 ⟨rfl, hb⟩
          have HB14 := Lib.hid (HB13.out.trans (hb.mono HB13.out.size))
          have HM14 := Lib.hid (maxOk_below HM13.out hb)
          clear hb HB13 HM13
          go_wp2_with fail
          refine (compare_at (x1) ([49]) (1) _ HM14.out Q11.out Q16.out Q20.out).mono ?_
          rintro _ w15 ⟨rfl, hb⟩
          have HB15 := Lib.hid (HB14.out.trans (hb.mono HB14.out.size))
          have HM15 := Lib.hid (maxOk_below HM14.out hb)
          clear hb HB14 HM14
          go_wp2_with fail
          go_ret
          exact ⟨rfl, HB15.out⟩
        · obtain ⟨x1, hx1⟩ : ∃ y, [49, 58] ++ s = y := ⟨_, rfl⟩
          have ap1 : (⟨#[49, 58]⟩ : ByteArray) ++ ⟨s.toArray⟩ = ⟨x1.toArray⟩ := by rw [← hx1]; exact ByteArray.mk_append_mk [49, 58] s
          obtain ⟨x2, hx2⟩ : ∃ y, [50, 58] ++ s = y := ⟨_, rfl⟩
          have ap2 : (⟨#[50, 58]⟩ : ByteArray) ++ ⟨s.toArray⟩ = ⟨x2.toArray⟩ := by rw [← hx2]; exact ByteArray.mk_append_mk [50, 58] s
          obtain ⟨x3, hx3⟩ : ∃ y, [49, 58] ++ t = y := ⟨_, rfl⟩
          have ap3 : (⟨#[49, 58]⟩ : ByteArray) ++ ⟨t.toArray⟩ = ⟨x3.toArray⟩ := by rw [← hx3]; exact ByteArray.mk_append_mk [49, 58] t
          obtain ⟨x4, hx4⟩ : ∃ y, [48, 58] ++ s = y := ⟨_, rfl⟩
          have ap4 : (⟨#[48, 58]⟩ : ByteArray) ++ ⟨s.toArray⟩ = ⟨x4.toArray⟩ := by rw [← hx4]; exact ByteArray.mk_append_mk [48, 58] s
          rw [hx1] at Q4 Q8
          rw [hx2] at Q5 Q9
          rw [hx3] at Q7 Q9
          rw [hx4] at Q6 Q10
          clear hx1 hx2 hx3 hx4 Q11 Q12 Q13 Q14 Q15 Q16 Q17 Q18 Q19 Q20
          go_wp2_with fail
          refine (compare_at (x1) (t) (1) _ HM3.out Q4.out Q2.out Q8.out).mono ?_
          rintro _ w11 ⟨rfl, hb⟩
          have HB11 := Lib.hid (HB3.out.trans (hb.mono HB3.out.size))
          have HM11 := Lib.hid (maxOk_below HM3.out hb)
          clear hb HB3 HM3
          go_wp2_with fail
          refine (compare_at (x2) (x3) (1) _ HM11.out Q5.out Q7.out Q9.out).mono ?_
          rintro _ w12 ⟨rfl, hb⟩
          have HB12 := Lib.hid (HB11.out.trans (hb.mono HB11.out.size))
          have HM12 := Lib.hid (maxOk_below HM11.out hb)
          clear hb HB11 HM11
          go_wp2_with fail
          refine (compare_at (x4) (t) (1) _ HM12.out Q6.out Q2.out Q10.out).mono ?_
          rintro _ w13 ⟨rfl, hb⟩
          have HB13 := Lib.hid (HB12.out.trans (hb.mono HB12.out.size))
          have HM13 := Lib.hid (maxOk_below HM12.out hb)
          clear hb HB12 HM12
          go_wp2_with fail
          go_ret
          exact ⟨rfl, HB13.out⟩
end Go.Proofs.YtkbahnimnhafiaaDoor
