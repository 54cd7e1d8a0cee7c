/- The law RngAny, walked. -/
import Derived.Test.YtpfkcjofpihgjaaGreatDoorKc
import Derived.Test.YtpfkcjofpihgjaaGreatDoorKd
namespace Go.Proofs.YtpfkcjofpihgjaaGreatDoor
open Go.RowKit Rs
set_option maxRecDepth 100000 in
set_option maxHeartbeats 8000000 in
theorem rngAny_any (A0 : Option Addr) (n0 c0 : Nat) (l0 : List Sp) (A1 : Option Addr) (n1 c1 : Nat) (l1 : List Sp) (sg : List UInt8) (v : List UInt8) (w : World) (hw : MaxOk w) (hn0 : l0.length = n0) (hr0 : SRow w A0 l0) (hm0 : n0 ≤ maxLen) (hw0 : Wide l0) (hn1 : l1.length = n1) (hr1 : SRow w A1 l1) (hm1 : n1 ≤ maxLen) (hw1 : Wide l1) :
    Calls Tryz.prog 3 #[.slice A0 n0 c0, .slice A1 n1 c1, .string ⟨sg.toArray⟩, .string ⟨v.toArray⟩] w fun e w' => e = .returned (.bool true) ∧ Below w.heap.size w w' := by
  have HS0 : Hid (St w w [⟨A1, n1, l1⟩, ⟨A0, n0, l0⟩]) := ⟨hw, Below.refl _ _, fun x hx => by
    simp only [List.mem_cons, List.not_mem_nil, or_false] at hx
    rcases hx with rfl | rfl <;> exact ⟨by assumption, by assumption⟩⟩
  have HW0 := Lib.hid hw0
  have HN0 := Lib.hid hn0
  clear hr0 hw0 hn0
  unfold maxLen at hm0
  have HW1 := Lib.hid hw1
  have HN1 := Lib.hid hn1
  clear hr1 hw1 hn1
  unfold maxLen at hm1
  clear hw
  go_enter Tryz.func3, Tryz.ntmps3
  go_wp2_with fail
  refine (s_known3 HS0.out).mono ?_
  rintro _ u1 ⟨rfl, hs⟩
  have HS1 := Lib.hid hs
  clear hs HS0
  obtain ⟨b0, hb0⟩ : ∃ b, fewL l0 = b := ⟨_, rfl⟩
  have HF0 := Lib.hid hb0
  clear hb0
  go_wp2_with fail
  refine (s_few HS1.out 1 rfl (by unfold maxLen; omega) HW0.out _ b0 HF0.out).mono ?_
  rintro _ u2 ⟨rfl, hs⟩
  have HS2 := Lib.hid hs
  clear hs HS1
  cases b0
  · go_wp2_with fail
    go_ret
    exact ⟨rfl, HS2.out.2.1⟩
  · skip
    obtain ⟨b1, hb1⟩ : ∃ b, fewL l1 = b := ⟨_, rfl⟩
    have HF1 := Lib.hid hb1
    clear hb1
    go_wp2_with fail
    refine (s_few HS2.out 0 rfl (by unfold maxLen; omega) HW1.out _ b1 HF1.out).mono ?_
    rintro _ u3 ⟨rfl, hs⟩
    have HS3 := Lib.hid hs
    clear hs HS2
    cases b1
    · go_wp2_with fail
      go_ret
      exact ⟨rfl, HS3.out.2.1⟩
    · skip
      have fl0 : n0 ≤ 80 := by have := few_len HF0.out; rw [HN0.out] at this; exact this
      have fl1 : n1 ≤ 80 := by have := few_len HF1.out; rw [HN1.out] at this; exact this
      by_cases hsg : 10 < sg.length
      · have dlsg : decide ((10 : Int) < (sg.length : Int)) = true := decide_eq_true (by omega)
        go_wp2_with fail
        go_ret
        exact ⟨rfl, HS3.out.2.1⟩
      · have dlsg : decide ((10 : Int) < (sg.length : Int)) = false := decide_eq_false (by omega)
        by_cases hv : 100 < v.length
        · have dlv : decide ((100 : Int) < (v.length : Int)) = true := decide_eq_true (by omega)
          go_wp2_with fail
          go_ret
          exact ⟨rfl, HS3.out.2.1⟩
        · have dlv : decide ((100 : Int) < (v.length : Int)) = false := decide_eq_false (by omega)
          obtain ⟨ck, hck⟩ : ∃ c, checkR l0 = c := ⟨_, rfl⟩
          have HCK := Lib.hid hck
          obtain ⟨sm, hsm⟩ : ∃ c, decide (l0 = l1) = c := ⟨_, rfl⟩
          have HSM := Lib.hid hsm
          obtain ⟨oe, hoe⟩ : ∃ c, ofE sg v = c := ⟨_, rfl⟩
          have HOE := Lib.hid hoe
          obtain ⟨x, hx⟩ : ∃ c, ofR sg v = c := ⟨_, rfl⟩
          have HXX := Lib.hid hx
          have HGx : Hid (Rs.Good x) := by show Rs.Good _; rw [← hx]; exact ofR_good _ _
          obtain ⟨ne, hne⟩ : ∃ c, normE 0 l0 = c := ⟨_, rfl⟩
          have HNE := Lib.hid hne
          obtain ⟨z, hz⟩ : ∃ c, nrmR l0 = c := ⟨_, rfl⟩
          have HZ := Lib.hid hz
          have HGz : Hid (Rs.Good z) := by show Rs.Good _; rw [← hz]; exact nrmR_good _
          clear hck hsm hoe hx hne hz
          go_wp2_with fail
          refine (s_to HS3.out 1 rfl (by omega) _).mono ?_
          rintro _ u4 ⟨C4, n4, d4, rfl, hs⟩
          have HS4 := Lib.hid hs
          clear hs HS3
          have e0 : n4 ≤ 1000 := by have := (st_row HS4.out 0 rfl).2; have h2 := HN0.out; omega
          go_wp2_with fail
          refine (s_check HS4.out 0 rfl (by omega) _ ck HCK.out).mono ?_
          rintro _ u5 ⟨rfl, hs⟩
          have HS5 := Lib.hid hs
          clear hs HS4
          go_wp2_with fail
          refine (s_checkRange HS5.out 2 rfl (by omega) _ ck HCK.out).mono ?_
          rintro _ u6 ⟨rfl, hs⟩
          have HS6 := Lib.hid hs
          clear hs HS5
          go_wp2_with fail
          refine (s_to HS6.out 2 rfl (by omega) _).mono ?_
          rintro _ u7 ⟨C7, n7, d7, rfl, hs⟩
          have HS7 := Lib.hid hs
          clear hs HS6
          have e1 : n7 ≤ 1000 := by have := (st_row HS7.out 0 rfl).2; have h2 := HN0.out; omega
          go_wp2_with fail
          refine (s_to HS7.out 2 rfl (by omega) _).mono ?_
          rintro _ u8 ⟨C8, n8, d8, rfl, hs⟩
          have HS8 := Lib.hid hs
          clear hs HS7
          have e2 : n8 ≤ 1000 := by have := (st_row HS8.out 0 rfl).2; have h2 := HN1.out; omega
          go_wp2_with fail
          refine (s_same HS8.out 1 0 rfl rfl (by omega) (by omega) _ _ sm HSM.out).mono ?_
          rintro _ u9 ⟨rfl, hs⟩
          have HS9 := Lib.hid hs
          clear hs HS8
          go_wp2_with fail
          refine (s_sameRange HS9.out 4 3 rfl rfl (by omega) (by omega) _ _ sm HSM.out).mono ?_
          rintro _ u10 ⟨rfl, hs⟩
          have HS10 := Lib.hid hs
          clear hs HS9
          clear e1 e2
          cases sm
          all_goals
            go_wp2_with fail
            refine (s_of HS10.out sg v x oe HXX.out HOE.out).mono ?_
            rintro _ u11 ⟨C11, n11, d11, rfl, hs⟩
            have HS11 := Lib.hid hs
            clear hs HS10
            go_wp2_with fail
            refine (s_refOf HS11.out sg v x oe HXX.out HOE.out).mono ?_
            rintro _ u12 ⟨C12, n12, d12, rfl, hs⟩
            have HS12 := Lib.hid hs
            clear hs HS11
            go_wp2_with fail
            refine (s_ofG HS12.out 1 rfl HGx.out _).mono ?_
            rintro _ u13 ⟨C13, n13, d13, rfl, hs⟩
            have HS13 := Lib.hid hs
            clear hs HS12
            go_wp2_with fail
            refine (s_sameRangeG HS13.out 0 1 rfl rfl HGx.out HGx.out _ _ rfl).mono ?_
            rintro _ u14 ⟨rfl, hs⟩
            have HS14 := Lib.hid hs
            clear hs HS13
            go_wp2_with fail
            refine (s_spans HS14.out 7 rfl (by omega) _).mono ?_
            rintro _ u15 ⟨C15, n15, d15, rfl, hs⟩
            have HS15 := Lib.hid hs
            clear hs HS14
            have e3 : n15 ≤ 1000 := by have := (st_row HS15.out 0 rfl).2; have h2 := HN0.out; omega
            go_wp2_with fail
            refine (s_norm HS15.out 0 rfl (by omega) _ z ne HZ.out HNE.out).mono ?_
            rintro _ u16 ⟨C16, n16, d16, rfl, hs⟩
            have HS16 := Lib.hid hs
            clear hs HS15
            clear e3
            go_wp2_with fail
            refine (s_refNorm HS16.out 9 rfl (by omega) _ z ne HZ.out HNE.out).mono ?_
            rintro _ u17 ⟨C17, n17, d17, rfl, hs⟩
            have HS17 := Lib.hid hs
            clear hs HS16
            go_wp2_with fail
            refine (s_ofG HS17.out 1 rfl HGz.out _).mono ?_
            rintro _ u18 ⟨C18, n18, d18, rfl, hs⟩
            have HS18 := Lib.hid hs
            clear hs HS17
            go_wp2_with fail
            refine (s_sameRangeG HS18.out 0 1 rfl rfl HGz.out HGz.out _ _ rfl).mono ?_
            rintro _ u19 ⟨rfl, hs⟩
            have HS19 := Lib.hid hs
            clear hs HS18
            by_cases gn : ne = 0
            case neg =>
              have gen : (ne != 0) = true := by simpa using gn
              clear gn
              go_wp2_with fail
              go_ret
              exact ⟨rfl, HS19.out.2.1⟩
            subst gn
            go_wp2_with fail
            refine (s_checkG HS19.out 2 rfl HGz.out _).mono ?_
            rintro _ u20 ⟨rfl, hs⟩
            have HS20 := Lib.hid hs
            clear hs HS19
            go_wp2_with fail
            go_ret
            exact ⟨rfl, HS20.out.2.1⟩
end Go.Proofs.YtpfkcjofpihgjaaGreatDoor
