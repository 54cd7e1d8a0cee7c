/- The reference's ParseWeight, walked. -/
import Derived.Test.YtaghhdgiegcimaaDoorWrw
import Derived.Test.YtaghhdgiegcimaaDoorWtt
import Derived.Test.YtaghhdgiegcimaaDoorWrz
namespace Go.Proofs.YtaghhdgiegcimaaDoor
open Go.RowKit

/-- What ParseWeight hands back. -/
def refOut (l : List UInt8) : Nat := if l = [110, 97, 110] then 9221120237041090560 else outW l
def refEnd (l : List UInt8) : Ending := .returned (.tuple #[.float .f64 (refOut l), .int .i64 (errW l)])
theorem lastOdd_num (a : List UInt8) (hp : Wm.plain a) (h : lastOdd a = true) : Vm.num a % 2 = 1 := by
  obtain ⟨p1, p2, _⟩ := hp
  have e := Wm.num_last a p1
  have hdig : Vm.dig (a.getLast p1) = true := by rw [List.all_eq_true] at p2; exact p2 _ (List.getLast_mem p1)
  rw [Wm.dig_iff] at hdig
  unfold lastOdd at h
  rw [List.getLast?_eq_some_getLast p1] at h
  have h' : (((a.getLast p1).toNat : Int) - 48) % 2 = 1 := by simpa using h
  omega
theorem valR_yes {l : List UInt8} {most : Nat} (h : Vm.num l ≤ most) : valR l most = .returned (.tuple #[.int .u64 (Vm.num l), .bool true]) := if_pos h
theorem valR_no {l : List UInt8} {most : Nat} (h : ¬ Vm.num l ≤ most) : valR l most = .returned (.tuple #[.int .u64 0, .bool false]) := if_neg h
theorem sgnd_nil : Wm.sgnd [] = false := rfl
theorem form_nil : formOk [] = false := by decide
theorem refEnd_gen (l : List UInt8) (h3 : (l == [110, 97, 110]) = false) (he : errW l = prodErr l) (hv : valW l = prodOf l) :
    (formOk l = false → refEnd l = .returned (.tuple #[.float .f64 0, .int .i64 2])) ∧
    (formOk l = true → Wm.rangeOk (Wm.nmb (Vm.fst 112 l)) (Wm.nmb (Vm.snd 112 l)) = false → refEnd l = .returned (.tuple #[.float .f64 0, .int .i64 8])) ∧
    (formOk l = true → Wm.rangeOk (Wm.nmb (Vm.fst 112 l)) (Wm.nmb (Vm.snd 112 l)) = true → refEnd l = .returned (.tuple #[.float .f64 (Wm.prodVal (Wm.nmb (Vm.fst 112 l)) (Wm.nmb (Vm.snd 112 l))), .int .i64 0])) := by
  have hn : l ≠ [110, 97, 110] := by simpa using h3
  unfold refEnd refOut
  rw [if_neg hn]
  unfold outW
  rw [he, hv]
  unfold prodOf prodErr
  refine ⟨fun h => ?_, fun h h2 => ?_, fun h h2 => ?_⟩
  · rw [h]; rfl
  · rw [h, h2]; rfl
  · rw [h, h2]; rfl
theorem refVal (l : List UInt8) (h : formOk l = true) (hr : Wm.rangeOk (Wm.nmb (Vm.fst 112 l)) (Wm.nmb (Vm.snd 112 l)) = true) :
    Wm.prodVal (Wm.nmb (Vm.fst 112 l)) (Wm.nmb (Vm.snd 112 l)) = Wm.word (Wm.sgnd l) (Wm.rungOf (Vm.num (Vm.fst 112 (Wm.mgn l))) (Wm.sg (Wm.sgnd (Vm.snd 112 l)) (Vm.num (Wm.mgn (Vm.snd 112 l))))) ∧ Vm.num (Vm.fst 112 (Wm.mgn l)) % 2 = 1 := by
  obtain ⟨q1, q2, q3, q4⟩ := pieces_sgn l
  rw [← q2, ← q3]
  have hf := h
  unfold formOk at hf
  simp only [Bool.and_eq_true] at hf
  obtain ⟨_, h2, _, h4⟩ := hf
  have hodd := odd_ne _ h2 h4
  have hrr := refRange_eq l
  rw [hr] at hrr
  unfold refRange at hrr
  simp only [Bool.and_eq_true, decide_eq_true_eq] at hrr
  obtain ⟨r1, r2, _⟩ := hrr
  generalize Vm.fst 112 l = a at *
  generalize Vm.snd 112 l = b at *
  have hF : Wm.nmb a = if Wm.sgnd a then -(Vm.num (Wm.mgn a) : Int) else Vm.num (Wm.mgn a) := by
    unfold Wm.nmb; cases Wm.sgnd a <;> simp only [Bool.false_eq_true, if_false, if_true] <;> rw [if_pos (by omega)]
  have hP : Wm.nmb b = Wm.sg (Wm.sgnd b) (Vm.num (Wm.mgn b)) := by
    unfold Wm.nmb Wm.sg; cases Wm.sgnd b <;> simp only [Bool.false_eq_true, if_false, if_true] <;> rw [if_pos (by omega)] <;> omega
  rw [hP]
  rw [hF] at hodd ⊢
  unfold Wm.prodVal
  generalize Vm.num (Wm.mgn a) = m at *
  cases Wm.sgnd a
  · simp only [Bool.false_eq_true, if_false] at hodd ⊢
    rw [decide_eq_false (by omega), Int.natAbs_natCast]
    exact ⟨rfl, by omega⟩
  · simp only [if_true] at hodd ⊢
    rw [decide_eq_true (by omega), Int.natAbs_neg, Int.natAbs_natCast]
    exact ⟨rfl, by omega⟩
set_option maxRecDepth 20000 in
set_option maxHeartbeats 4000000 in
theorem refParse_any (l : List UInt8) (hl : l.length ≤ 200) (w : World) :
    Calls Tryd.prog 34 #[.string ⟨l.toArray⟩] w fun e w' => e = refEnd l ∧ w = w' := by
  have hfb := fb_run
  rcases lit_cases l with rfl | rfl | rfl | rfl | rfl | ⟨h1, h2, h3, h4, h5, he, hv⟩
  · have HV : Hid (refEnd [105, 110, 102] = .returned (.tuple #[.float .f64 9218868437227405312, .int .i64 0])) := by
      show _ = _; unfold refEnd
      rw [show refOut [105, 110, 102] = 9218868437227405312 from by decide +kernel, show errW [105, 110, 102] = 0 from by decide +kernel]
    go_enter Tryd.func34, Tryd.ntmps34
    go_wp2_with fail
    go_ret2
    exact ⟨by rw [HV.out]; rfl, rfl⟩
  · have HV : Hid (refEnd [45, 105, 110, 102] = .returned (.tuple #[.float .f64 18442240474082181120, .int .i64 0])) := by
      show _ = _; unfold refEnd
      rw [show refOut [45, 105, 110, 102] = 18442240474082181120 from by decide +kernel, show errW [45, 105, 110, 102] = 0 from by decide +kernel]
    go_enter Tryd.func34, Tryd.ntmps34
    go_wp2_with fail
    go_ret2
    exact ⟨by rw [HV.out]; rfl, rfl⟩
  · have HV : Hid (refEnd [110, 97, 110] = .returned (.tuple #[.float .f64 9221120237041090560, .int .i64 0])) := by
      show _ = _; unfold refEnd
      rw [show refOut [110, 97, 110] = 9221120237041090560 from by decide +kernel, show errW [110, 97, 110] = 0 from by decide +kernel]
    go_enter Tryd.func34, Tryd.ntmps34
    go_wp2_with fail
    go_ret2
    exact ⟨by rw [HV.out]; rfl, rfl⟩
  · have HV : Hid (refEnd [48] = .returned (.tuple #[.float .f64 0, .int .i64 0])) := by
      show _ = _; unfold refEnd
      rw [show refOut [48] = 0 from by decide +kernel, show errW [48] = 0 from by decide +kernel]
    go_enter Tryd.func34, Tryd.ntmps34
    go_wp2_with fail
    go_ret2
    exact ⟨by rw [HV.out]; rfl, rfl⟩
  · have HV : Hid (refEnd [45, 48] = .returned (.tuple #[.float .f64 9223372036854775808, .int .i64 0])) := by
      show _ = _; unfold refEnd
      rw [show refOut [45, 48] = 9223372036854775808 from by decide +kernel, show errW [45, 48] = 0 from by decide +kernel]
    go_enter Tryd.func34, Tryd.ntmps34
    go_wp2_with fail
    go_ret2
    exact ⟨by rw [HV.out]; rfl, rfl⟩
  · obtain ⟨E1, E2, E3⟩ := refEnd_gen l h3 he hv
    have H1 := Lib.hid E1
    have hfm := refForm_eq l
    have hrg := refRange_eq l
    have hrv := refVal l
    obtain ⟨q1, q2, q3, q4⟩ := pieces_sgn l
    have H2 : Hid (formOk l = true → refRange (Vm.num (Vm.fst 112 (Wm.mgn l))) (Vm.num (Wm.mgn (Vm.snd 112 (Wm.mgn l)))) (Wm.sgnd (Vm.snd 112 (Wm.mgn l))) = false → refEnd l = .returned (.tuple #[.float .f64 0, .int .i64 8])) := by
      show _ → _ → _
      intro h h6
      rw [← q2, ← q4, hrg] at h6
      exact E2 h h6
    have H3 : Hid (formOk l = true → refRange (Vm.num (Vm.fst 112 (Wm.mgn l))) (Vm.num (Wm.mgn (Vm.snd 112 (Wm.mgn l)))) (Wm.sgnd (Vm.snd 112 (Wm.mgn l))) = true → refEnd l = .returned (.tuple #[.float .f64 (Wm.word (Wm.sgnd l) (Wm.rungOf (Vm.num (Vm.fst 112 (Wm.mgn l))) (Wm.sg (Wm.sgnd (Vm.snd 112 (Wm.mgn l))) (Vm.num (Wm.mgn (Vm.snd 112 (Wm.mgn l))))))), .int .i64 0]) ∧ Vm.num (Vm.fst 112 (Wm.mgn l)) % 2 = 1) := by
      show _ → _ → _
      intro h h6
      rw [← q2, ← q4, hrg] at h6
      obtain ⟨v1, v2⟩ := hrv h h6
      refine ⟨?_, v2⟩
      rw [E3 h h6, v1, q4]
    have HF : Hid (formOk l = (Vm.has 112 (Wm.mgn l) && (plainB (Vm.fst 112 (Wm.mgn l)) && (plainB (Wm.mgn (Vm.snd 112 (Wm.mgn l))) && (!(Wm.sgnd (Vm.snd 112 (Wm.mgn l)) && Wm.mgn (Vm.snd 112 (Wm.mgn l)) == [48]) && lastOdd (Vm.fst 112 (Wm.mgn l))))))) := by
      show _ = _
      rw [← hfm]; unfold refForm; rw [q4]
    have htl := mgn_cons l
    have htle := Wm.mgn_le l
    clear E1 E2 E3 he hv hfm hrg hrv q1 q2 q3 q4
    by_cases h0 : l = []
    · subst h0
      have HV := Lib.hid (H1.out form_nil)
      clear H1 H2 H3 HF htl htle
      go_enter Tryd.func34, Tryd.ntmps34
      go_wp2_with fail
      refine (place_any [] 112 _ (by decide)).mono ?_
      rintro e w1 ⟨g1, g2⟩; subst g2; subst g1
      rw [show place [] 112 = -1 from by decide]
      go_wp2_with fail
      go_ret2
      exact ⟨by rw [HV.out]; rfl, rfl⟩
    have hpos : 0 < l.length := List.length_pos_iff.2 h0
    have hemp : l.isEmpty = false := by cases l <;> simp at *
    obtain ⟨c, hc, hc'⟩ := byte_at l 0 hpos
    have hsg : ((c.toNat : Int) == 45) = Wm.sgnd l := by
      unfold Wm.sgnd
      cases l with
      | nil => exact absurd rfl h0
      | cons x u =>
        have : x = c := hc'
        subst this
        rw [Bool.eq_iff_iff]
        simp only [List.head?_cons, beq_iff_eq, Option.some.injEq]
        exact ⟨fun h => UInt8.toNat.inj (show x.toNat = 45 by omega), fun h => by rw [h]; rfl⟩
    clear hc' h0
    cases hs : Wm.sgnd l
    all_goals
      rw [hs] at hsg H3 htl
      simp only [Bool.false_eq_true, if_false, if_true] at htl
      clear hs
    case' false =>
      rw [← htl] at H2 H3 HF htle
      clear htl
      obtain ⟨t, rfl⟩ : ∃ t, t = l := ⟨l, rfl⟩
    case' true =>
      have hex : (ByteArray.mk l.toArray).extract 1 l.length = ⟨(Wm.mgn l).toArray⟩ := by
        rw [ByteArray.extract_mk]
        conv => lhs; rw [htl]
        simp
      clear htl
      obtain ⟨t, ht⟩ : ∃ t, Wm.mgn l = t := ⟨_, rfl⟩
      rw [ht] at H2 H3 HF htle hex
      clear ht
    all_goals
      have htl : t.length ≤ 200 := by omega
      have hpl := place_any t 112
      have htw := tw_take (· != 112) t
      have hsl := snd_le 112 t
      have hfl := fst_le t 112
      have hhas := has_iff t 112
      have hexa : (ByteArray.mk t.toArray).extract 0 (Vm.fst 112 t).length = ⟨(Vm.fst 112 t).toArray⟩ := by
        rw [ByteArray.extract_mk, List.drop_zero, Nat.sub_zero]
        exact congrArg (fun x : List UInt8 => ByteArray.mk x.toArray) htw
      have hexb : (ByteArray.mk t.toArray).extract ((Vm.fst 112 t).length + 1) t.length = ⟨(Vm.snd 112 t).toArray⟩ := by
        rw [ByteArray.extract_mk]
        refine congrArg (fun x : List UInt8 => ByteArray.mk x.toArray) ?_
        rw [List.take_of_length_le (by rw [List.length_drop]; exact Nat.le_refl _), ← List.drop_drop]
        unfold Vm.snd Vm.fst
        rw [tw_drop]
      have hpp : place t 112 = if Vm.has 112 t then ((Vm.fst 112 t).length : Int) else -1 := rfl
      generalize place t 112 = pl at *
      go_enter Tryd.func34, Tryd.ntmps34
      go_wp2_with fail
      clear h1 h2 h3 h4 h5 hc hsg
      refine (hpl _ (by omega)).mono ?_
      rintro e w1 ⟨g1, g2⟩; subst g2; subst g1
      clear hpl
      cases hh : Vm.has 112 t
      · have HV := Lib.hid (H1.out (by rw [HF.out, hh]; rfl))
        rw [hh] at hpp
        simp only [Bool.false_eq_true, if_false] at hpp
        subst hpp
        clear hh hexa hexb H1 H2 H3 HF hhas
        go_wp2_with fail
        go_ret2
        exact ⟨by rw [HV.out]; rfl, rfl⟩
      · have hal := hhas.1 hh
        rw [hh] at hpp HF
        simp only [if_true] at hpp
        subst hpp
        clear hhas hh htw
        generalize Vm.fst 112 t = a at *
        generalize Vm.snd 112 t = b0 at *
        have hbl := Wm.mgn_le b0
        have hbc := mgn_cons b0
        by_cases hbe : b0 = []
        case pos =>
          subst hbe
          have HV := Lib.hid (H1.out (by rw [HF.out, show plainB (Wm.mgn []) = false from rfl]; simp))
          clear H1 H2 H3 HF hbc
          go_wp2_with fail
          go_at_call 68
          refine (plain_any a (by omega) _).mono ?_
          rintro e w1 ⟨g1, g2⟩; subst g2; subst g1
          cases hpa : plainB a
          · go_wp2_with fail
            go_ret2
            exact ⟨by rw [HV.out]; rfl, rfl⟩
          go_wp2_with fail
          go_at_call 68
          refine (plain_any [] (by simp) _).mono ?_
          rintro e w1 ⟨g1, g2⟩; subst g2; subst g1
          rw [show plainB [] = false from rfl]
          go_wp2_with fail
          go_ret2
          exact ⟨by rw [HV.out]; rfl, rfl⟩
        case neg =>
          have hbpos : 0 < b0.length := List.length_pos_iff.2 hbe
          have hbemp : b0.isEmpty = false := by cases b0 <;> simp at *
          obtain ⟨d, hd, hd'⟩ := byte_at b0 0 hbpos
          have hdg : ((d.toNat : Int) == 45) = Wm.sgnd b0 := by
            unfold Wm.sgnd
            cases b0 with
            | nil => exact absurd rfl hbe
            | cons x u =>
              have : x = d := hd'
              subst this
              rw [Bool.eq_iff_iff]
              simp only [List.head?_cons, beq_iff_eq, Option.some.injEq]
              exact ⟨fun h => UInt8.toNat.inj (show x.toNat = 45 by omega), fun h => by rw [h]; rfl⟩
          clear hd' hbe
          have hexc : (ByteArray.mk b0.toArray).extract 1 b0.length = ⟨(b0.drop 1).toArray⟩ := by
            rw [ByteArray.extract_mk]
            refine congrArg (fun x : List UInt8 => ByteArray.mk x.toArray) ?_
            rw [List.take_of_length_le (by rw [List.length_drop]; exact Nat.le_refl _)]
          have hmg : Wm.mgn b0 = if Wm.sgnd b0 then b0.drop 1 else b0 := rfl
          clear hbc
          obtain ⟨ng, hng⟩ : ∃ ng, Wm.sgnd b0 = ng := ⟨_, rfl⟩
          rw [hng] at hdg hmg
          cases ng
          all_goals
            rw [hng] at HF H2 H3
            clear hng
          case' false =>
            simp only [Bool.false_eq_true, if_false] at hmg
            rw [hmg] at HF H2 H3 hbl
            clear hmg hexc
            obtain ⟨bl, rfl⟩ : ∃ bl, bl = b0 := ⟨b0, rfl⟩
          case' true =>
            simp only [if_true] at hmg
            rw [← hmg] at hexc
            obtain ⟨bl, hbl'⟩ : ∃ bl, Wm.mgn b0 = bl := ⟨_, rfl⟩
            rw [hbl'] at HF H2 H3 hbl hexc
            clear hmg hbl'
          all_goals
            go_wp2_with fail
            go_at_call 68
            refine (plain_any a (by omega) _).mono ?_
            rintro e w1 ⟨g1, g2⟩; subst g2; subst g1
            cases hpa : plainB a
            · have HV := Lib.hid (H1.out (by rw [HF.out, hpa]; rfl))
              clear H1 H2 H3 HF hpa
              go_wp2_with fail
              go_ret2
              exact ⟨by rw [HV.out]; rfl, rfl⟩
            have HPA := Lib.hid ((plainB_iff a).1 hpa)
            rw [hpa] at HF
            clear hpa
            go_wp2_with fail
            go_at_call 68
            refine (plain_any bl (by omega) _).mono ?_
            rintro e w1 ⟨g1, g2⟩; subst g2; subst g1
            cases hpb : plainB bl
            · have HV := Lib.hid (H1.out (by rw [HF.out, hpb]; rfl))
              clear H1 H2 H3 HF hpb
              go_wp2_with fail
              go_ret2
              exact ⟨by rw [HV.out]; rfl, rfl⟩
            have HPB := Lib.hid ((plainB_iff bl).1 hpb)
            rw [hpb] at HF
            clear hpb
            have hane : 0 < a.length := List.length_pos_iff.2 HPA.out.1
            obtain ⟨z, hz, hz'⟩ := byte_at a (a.length - 1) (by omega)
            have hlo : lastOdd a = (((z.toNat : Int) - 48) % 2 == 1) := by
              unfold lastOdd
              rw [List.getLast?_eq_some_getLast HPA.out.1, List.getLast_eq_getElem, hz']; rfl
            clear hz'
            have hev : (((z.toNat : Int) - 48) % 2 == 0) = !lastOdd a := by
              rw [hlo]
              cases hq : (((z.toNat : Int) - 48) % 2 == 1)
              · rw [Bool.not_false, beq_iff_eq]; rw [beq_eq_false_iff_ne] at hq; omega
              · rw [Bool.not_true, beq_eq_false_iff_ne]; rw [beq_iff_eq] at hq; omega
            clear hlo
            cases hzb : (bl == [48])
            all_goals
              cases hlast : lastOdd a
              all_goals
                rw [hzb, hlast] at HF
                rw [hlast] at hev
                simp only [Bool.and_true, Bool.and_false, Bool.not_true, Bool.not_false, Bool.true_and] at HF hev
                have hlast2 := lastOdd_num a HPA.out
                rw [hlast] at hlast2
                clear hlast
                first
                | (have HV := Lib.hid (H1.out HF.out)
                   clear H1 H2 H3 HF
                   go_wp2_with fail
                   go_ret2
                   exact ⟨by rw [HV.out]; rfl, rfl⟩)
                | (have HT : Hid (formOk _ = true) := HF
                   clear H1
                   have hodd : Vm.num a % 2 = 1 := hlast2 rfl
                   have HDA := Lib.hid HPA.out.2.1
                   have HDB := Lib.hid HPB.out.2.1
                   clear hlast2 HPA HPB
                   go_wp2_with fail
                   clear hev hzb
                   go_at_call 69
                   refine (value_any a 9007199254740991 (by omega) HDA.out (by decide) (by decide) _).mono ?_
                   rintro e w1 ⟨g1, g2⟩; subst g2; subst g1
                   have hcb := value_any bl 5000 (by omega) HDB.out (by decide) (by decide)
                   have HCB := Lib.hid hcb
                   clear hcb HDA HDB
                   by_cases hm : Vm.num a ≤ 9007199254740991
                   · rw [valR_yes hm]
                     go_wp2_with fail
                     go_at_call 69
                     refine (HCB.out _).mono ?_
                     rintro e w1 ⟨g1, g2⟩; subst g2; subst g1
                     clear HCB
                     by_cases hk : Vm.num bl ≤ 5000
                     · rw [valR_yes hk]
                       generalize Vm.num a = m at *
                       generalize Vm.num bl = k at *
                       clear hexa hexb
                       have hkn : (k : Int) ≤ 5000 := by omega
                       go_wp2_with fail
                       have hrr : ∀ g, refRange m k g = (decide (-1074 ≤ Wm.sg g k) && decide ((m.log2 : Int) + 1 + Wm.sg g k ≤ 1024)) := fun g => by
                         unfold refRange; rw [decide_eq_true hm, decide_eq_true hk]; simp
                       rw [hrr] at H2 H3
                       first
                       | (rw [show Wm.sg true k = -(k : Int) from by simp [Wm.sg]] at H2 H3
                          obtain ⟨E, hE⟩ : ∃ E : Int, -(k : Int) = E := ⟨_, rfl⟩
                          rw [hE] at H2 H3 ⊢)
                       | (rw [show Wm.sg false k = (k : Int) from by simp [Wm.sg]] at H2 H3
                          obtain ⟨E, hE⟩ : ∃ E : Int, (k : Int) = E := ⟨_, rfl⟩
                          rw [hE] at H2 H3 ⊢)
                       have hEb : -5000 ≤ E ∧ E ≤ 5000 := by omega
                       have H2' := H2.out HT.out
                       have H3' := fun h => (H3.out HT.out h).1
                       have H2 := Lib.hid H2'
                       have H3 := Lib.hid H3'
                       clear H2' H3' hrr HT
                       go_loop [14, 15] (fun y v => ∃ (x y0 : Nat), y = .int .i64 y0 ∧ v = .int .u64 x ∧ Hid (BitSt m x y0)) (fun _ v => (intOf v).toNat)
                       case atStart => exact ⟨m, 0, rfl, rfl, bitSt_start (by omega)⟩
                       case round =>
                         obtain ⟨x, y, rfl, rfl, HS⟩ := hrel
                         have hxn := HS.out.2
                         have hlog := Wm.log2_lt53 (k := m) (by omega) (by omega)
                         have hy : y ≤ 60 := by
                           have h1 := HS.out.1
                           split at h1 <;> omega
                         by_cases hx : 0 < x
                         · have HN := Lib.hid (bitSt_next HS.out hx)
                           clear HS
                           go_wp2_with fail
                           go_round
                           case rel => exact ⟨x / 2, y + 1, by go_num, by go_num, HN⟩
                           case measure => simp [intOf]; omega
                         · obtain rfl : x = 0 := by omega
                           have hyv : (y : Int) = m.log2 + 1 := by have := HS.out.1; simp at this; omega
                           clear HS hx hxn
                           by_cases c1 : E < -1074
                           · have HV := Lib.hid (H2.out (by rw [decide_eq_false (by omega)]; rfl))
                             clear H2 H3
                             go_wp2_with fail
                             go_ret2
                             exact ⟨by rw [HV.out]; rfl, rfl⟩
                           by_cases c2 : 1024 < (m.log2 : Int) + 1 + E
                           · have HV := Lib.hid (H2.out (by rw [decide_eq_false (show ¬ (m.log2 : Int) + 1 + E ≤ 1024 by omega), Bool.and_false]))
                             clear H2 H3
                             go_wp2_with fail
                             go_ret2
                             exact ⟨by rw [HV.out]; rfl, rfl⟩
                           have HV := Lib.hid (H3.out (by rw [decide_eq_true (show -1074 ≤ E by omega), decide_eq_true (show (m.log2 : Int) + 1 + E ≤ 1024 by omega)]; rfl))
                           clear H2 H3
                           by_cases c3 : (m.log2 : Int) + 1 + E - 1 < -1022
                           · have c4 : 0 ≤ E + 1074 := by omega
                             go_wp2_with fail
                             go_ret2
                             refine ⟨?_, rfl⟩
                             rw [HV.out]
                             first
                             | (have hh1 := hex
                                first
                                | (have hh2 : -(k : Int) = E := hE
                                   exact congrArg (fun x => Ending.returned (Value.tuple #[.float .f64 x, .int .i64 0])) (Wm.finSw true (by omega) (by omega) (by omega)))
                                | exact congrArg (fun x => Ending.returned (Value.tuple #[.float .f64 x, .int .i64 0])) (Wm.finS true (by omega) (by omega) (by omega)))
                             | (first
                                | (have hh2 : -(k : Int) = E := hE
                                   exact congrArg (fun x => Ending.returned (Value.tuple #[.float .f64 x, .int .i64 0])) (Wm.finSw false (by omega) (by omega) (by omega)))
                                | exact congrArg (fun x => Ending.returned (Value.tuple #[.float .f64 x, .int .i64 0])) (Wm.finS false (by omega) (by omega) (by omega)))
                           · go_wp2_with fail
                             go_ret2
                             refine ⟨?_, rfl⟩
                             rw [HV.out]
                             first
                             | (have hh1 := hex
                                exact congrArg (fun x => Ending.returned (Value.tuple #[.float .f64 x, .int .i64 0])) (Wm.finN true (by omega) (by omega) (by omega) (by omega)))
                             | exact congrArg (fun x => Ending.returned (Value.tuple #[.float .f64 x, .int .i64 0])) (Wm.finN false (by omega) (by omega) (by omega) (by omega))
                     · rw [valR_no hk]
                       have HV := Lib.hid (H2.out HT.out (by unfold refRange; rw [decide_eq_false hk]; simp))
                       clear H2 H3
                       go_wp2_with fail
                       go_ret2
                       exact ⟨by rw [HV.out]; rfl, rfl⟩
                   · rw [valR_no hm]
                     have HV := Lib.hid (H2.out HT.out (by unfold refRange; rw [decide_eq_false hm]; simp))
                     clear H2 H3
                     go_wp2_with fail
                     go_at_call 69
                     refine (HCB.out _).mono ?_
                     rintro e w1 ⟨g1, g2⟩; subst g2; subst g1
                     by_cases hk2 : Vm.num bl ≤ 5000
                     · rw [valR_yes hk2]
                       go_wp2_with fail
                       go_ret2
                       exact ⟨by rw [HV.out]; rfl, rfl⟩
                     · rw [valR_no hk2]
                       go_wp2_with fail
                       go_ret2
                       exact ⟨by rw [HV.out]; rfl, rfl⟩)
end Go.Proofs.YtaghhdgiegcimaaDoor
