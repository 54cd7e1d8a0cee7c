/- The law RngThree, walked. -/
import Derived.Test.YtpfkcjofpihgjaaGreatDoorKc
import Derived.Test.YtpfkcjofpihgjaaGreatDoorKd
namespace Go.Proofs.YtpfkcjofpihgjaaGreatDoor
open Go.RowKit Rs
set_option maxRecDepth 100000 in
set_option maxHeartbeats 8000000 in
theorem rngThree_any (A0 : Option Addr) (n0 c0 : Nat) (l0 : List Sp) (A1 : Option Addr) (n1 c1 : Nat) (l1 : List Sp) (A2 : Option Addr) (n2 c2 : Nat) (l2 : List Sp) (v : List UInt8) (w : World) (hw : MaxOk w) (hn0 : l0.length = n0) (hr0 : SRow w A0 l0) (hm0 : n0 ≤ maxLen) (hw0 : Wide l0) (hn1 : l1.length = n1) (hr1 : SRow w A1 l1) (hm1 : n1 ≤ maxLen) (hw1 : Wide l1) (hn2 : l2.length = n2) (hr2 : SRow w A2 l2) (hm2 : n2 ≤ maxLen) (hw2 : Wide l2) :
    Calls Tryz.prog 6 #[.slice A0 n0 c0, .slice A1 n1 c1, .slice A2 n2 c2, .string ⟨v.toArray⟩] w fun e w' => e = .returned (.bool true) ∧ Below w.heap.size w w' := by
  have HS0 : Hid (St w w [⟨A2, n2, l2⟩, ⟨A1, n1, l1⟩, ⟨A0, n0, l0⟩]) := ⟨hw, Below.refl _ _, fun x hx => by
    simp only [List.mem_cons, List.not_mem_nil, or_false] at hx
    rcases hx with rfl | rfl | rfl <;> exact ⟨by assumption, by assumption⟩⟩
  have HW0 := Lib.hid hw0
  have HN0 := Lib.hid hn0
  clear hr0 hw0 hn0
  unfold maxLen at hm0
  have HW1 := Lib.hid hw1
  have HN1 := Lib.hid hn1
  clear hr1 hw1 hn1
  unfold maxLen at hm1
  have HW2 := Lib.hid hw2
  have HN2 := Lib.hid hn2
  clear hr2 hw2 hn2
  unfold maxLen at hm2
  clear hw
  go_enter Tryz.func6, Tryz.ntmps6
  go_wp2_with fail
  refine (s_known3 HS0.out).mono ?_
  rintro _ u1 ⟨rfl, hs⟩
  have HS1 := Lib.hid hs
  clear hs HS0
  by_cases h0 : 9 < n0
  · have dl0 : decide ((9 : Int) < (n0 : Int)) = true := decide_eq_true (by omega)
    go_wp2_with fail
    go_ret
    exact ⟨rfl, HS1.out.2.1⟩
  · have dl0 : decide ((9 : Int) < (n0 : Int)) = false := decide_eq_false (by omega)
    by_cases h1 : 9 < n1
    · have dl1 : decide ((9 : Int) < (n1 : Int)) = true := decide_eq_true (by omega)
      go_wp2_with fail
      go_ret
      exact ⟨rfl, HS1.out.2.1⟩
    · have dl1 : decide ((9 : Int) < (n1 : Int)) = false := decide_eq_false (by omega)
      by_cases h2 : 9 < n2
      · have dl2 : decide ((9 : Int) < (n2 : Int)) = true := decide_eq_true (by omega)
        go_wp2_with fail
        go_ret
        exact ⟨rfl, HS1.out.2.1⟩
      · have dl2 : decide ((9 : Int) < (n2 : Int)) = false := decide_eq_false (by omega)
        obtain ⟨b0, hb0⟩ : ∃ b, fewL l0 = b := ⟨_, rfl⟩
        have HF0 := Lib.hid hb0
        clear hb0
        go_wp2_with fail
        refine (s_few HS1.out 2 rfl (by unfold maxLen; omega) HW0.out _ b0 HF0.out).mono ?_
        rintro _ u2 ⟨rfl, hs⟩
        have HS2 := Lib.hid hs
        clear hs HS1
        cases b0
        · go_wp2_with fail
          go_ret
          exact ⟨rfl, HS2.out.2.1⟩
        · skip
          obtain ⟨b1, hb1⟩ : ∃ b, fewL l1 = b := ⟨_, rfl⟩
          have HF1 := Lib.hid hb1
          clear hb1
          go_wp2_with fail
          refine (s_few HS2.out 1 rfl (by unfold maxLen; omega) HW1.out _ b1 HF1.out).mono ?_
          rintro _ u3 ⟨rfl, hs⟩
          have HS3 := Lib.hid hs
          clear hs HS2
          cases b1
          · go_wp2_with fail
            go_ret
            exact ⟨rfl, HS3.out.2.1⟩
          · skip
            obtain ⟨b2, hb2⟩ : ∃ b, fewL l2 = b := ⟨_, rfl⟩
            have HF2 := Lib.hid hb2
            clear hb2
            go_wp2_with fail
            refine (s_few HS3.out 0 rfl (by unfold maxLen; omega) HW2.out _ b2 HF2.out).mono ?_
            rintro _ u4 ⟨rfl, hs⟩
            have HS4 := Lib.hid hs
            clear hs HS3
            cases b2
            · go_wp2_with fail
              go_ret
              exact ⟨rfl, HS4.out.2.1⟩
            · skip
              obtain ⟨cv, hcv⟩ : ∃ c, Vm.check v = c := ⟨_, rfl⟩
              have HCV := Lib.hid hcv
              clear hcv
              go_wp2_with fail
              refine (s_checkVer HS4.out v cv HCV.out).mono ?_
              rintro _ u5 ⟨rfl, hs⟩
              have HS5 := Lib.hid hs
              clear hs HS4
              by_cases gv : cv = 0
              case neg =>
                have gev : (cv != 0) = true := by simpa using gv
                clear gv
                go_wp2_with fail
                go_ret
                exact ⟨rfl, HS5.out.2.1⟩
              subst gv
              have HV : Hid (Vm.check v = 0) := HCV.out
              obtain ⟨e0, he0⟩ : ∃ e, normE 0 l0 = e := ⟨_, rfl⟩
              obtain ⟨x, hx⟩ : ∃ r, nrmR l0 = r := ⟨_, rfl⟩
              have HE0 := Lib.hid he0
              have HXx := Lib.hid hx
              have HGx : Hid (Rs.Good x) := by show Rs.Good _; rw [← hx]; exact nrmR_good _
              have hlx : x.length ≤ 9 := by have := nrmR_len l0; rw [hx, HN0.out] at this; omega
              clear he0 hx
              go_wp2_with fail
              refine (s_refNorm HS5.out 2 rfl (by omega) _ x e0 HXx.out HE0.out).mono ?_
              rintro _ u6 ⟨C6, n6, d6, rfl, hs⟩
              have HS6 := Lib.hid hs
              clear hs HS5
              obtain ⟨e1, he1⟩ : ∃ e, normE 0 l1 = e := ⟨_, rfl⟩
              obtain ⟨y, hy⟩ : ∃ r, nrmR l1 = r := ⟨_, rfl⟩
              have HE1 := Lib.hid he1
              have HXy := Lib.hid hy
              have HGy : Hid (Rs.Good y) := by show Rs.Good _; rw [← hy]; exact nrmR_good _
              have hly : y.length ≤ 9 := by have := nrmR_len l1; rw [hy, HN1.out] at this; omega
              clear he1 hy
              go_wp2_with fail
              refine (s_refNorm HS6.out 2 rfl (by omega) _ y e1 HXy.out HE1.out).mono ?_
              rintro _ u7 ⟨C7, n7, d7, rfl, hs⟩
              have HS7 := Lib.hid hs
              clear hs HS6
              obtain ⟨e2, he2⟩ : ∃ e, normE 0 l2 = e := ⟨_, rfl⟩
              obtain ⟨z, hz⟩ : ∃ r, nrmR l2 = r := ⟨_, rfl⟩
              have HE2 := Lib.hid he2
              have HXz := Lib.hid hz
              have HGz : Hid (Rs.Good z) := by show Rs.Good _; rw [← hz]; exact nrmR_good _
              have hlz : z.length ≤ 9 := by have := nrmR_len l2; rw [hz, HN2.out] at this; omega
              clear he2 hz
              go_wp2_with fail
              refine (s_refNorm HS7.out 2 rfl (by omega) _ z e2 HXz.out HE2.out).mono ?_
              rintro _ u8 ⟨C8, n8, d8, rfl, hs⟩
              have HS8 := Lib.hid hs
              clear hs HS7
              by_cases g0 : e0 = 0
              case neg =>
                have ge0 : (e0 != 0) = true := by simpa using g0
                clear g0
                go_wp2_with fail
                go_ret
                exact ⟨rfl, HS8.out.2.1⟩
              subst g0
              by_cases g1 : e1 = 0
              case neg =>
                have ge1 : (e1 != 0) = true := by simpa using g1
                clear g1
                go_wp2_with fail
                go_ret
                exact ⟨rfl, HS8.out.2.1⟩
              subst g1
              by_cases g2 : e2 = 0
              case neg =>
                have ge2 : (e2 != 0) = true := by simpa using g2
                clear g2
                go_wp2_with fail
                go_ret
                exact ⟨rfl, HS8.out.2.1⟩
              subst g2
              have HT := Lib.hid (three HGx.out HGy.out HGz.out (by omega) (by omega) (by omega))
              obtain ⟨i, hi⟩ : ∃ b, hasR x v = b := ⟨_, rfl⟩
              obtain ⟨j, hj⟩ : ∃ b, hasR y v = b := ⟨_, rfl⟩
              obtain ⟨k, hk⟩ : ∃ b, hasR z v = b := ⟨_, rfl⟩
              have HI := Lib.hid hi
              have HJ := Lib.hid hj
              have HK := Lib.hid hk
              have HIJ : Hid (hasR (andR x (orR y z)) v = (i && (j || k))) := by
                show _ = _
                have ly : (orR y z).length ≤ 18 := by rw [orR_few HGy.out.1 HGz.out.1 (by omega)]; have := lenO HGy.out.1 HGz.out.1; omega
                rw [hasA HGx.out (goodO HGy.out HGz.out) HV.out (by omega), hasO HGy.out HGz.out HV.out (by omega), hi, hj, hk]
              clear hi hj hk
              go_wp2_with fail
              refine (s_toG HS8.out 2 rfl HGx.out _).mono ?_
              rintro _ u9 ⟨C9, n9, d9, rfl, hs⟩
              have HS9 := Lib.hid hs
              clear hs HS8
              go_wp2_with fail
              refine (s_toG HS9.out 2 rfl HGy.out _).mono ?_
              rintro _ u10 ⟨C10, n10, d10, rfl, hs⟩
              have HS10 := Lib.hid hs
              clear hs HS9
              go_wp2_with fail
              refine (s_toG HS10.out 2 rfl HGz.out _).mono ?_
              rintro _ u11 ⟨C11, n11, d11, rfl, hs⟩
              have HS11 := Lib.hid hs
              clear hs HS10
              go_wp2_with fail
              refine (s_and HS11.out 2 1 rfl rfl HGx.out HGy.out _ _ (andR x y) rfl).mono ?_
              rintro _ u12 ⟨C12, n12, d12, rfl, hs⟩
              have HS12 := Lib.hid hs
              clear hs HS11
              go_wp2_with fail
              refine (s_and HS12.out 0 1 rfl rfl (goodA HGx.out HGy.out) HGz.out _ _ (andR (andR x y) z) rfl).mono ?_
              rintro _ u13 ⟨C13, n13, d13, rfl, hs⟩
              have HS13 := Lib.hid hs
              clear hs HS12
              go_wp2_with fail
              refine (s_and HS13.out 3 2 rfl rfl HGy.out HGz.out _ _ (andR y z) rfl).mono ?_
              rintro _ u14 ⟨C14, n14, d14, rfl, hs⟩
              have HS14 := Lib.hid hs
              clear hs HS13
              go_wp2_with fail
              refine (s_and HS14.out 5 0 rfl rfl HGx.out (goodA HGy.out HGz.out) _ _ (andR x (andR y z)) rfl).mono ?_
              rintro _ u15 ⟨C15, n15, d15, rfl, hs⟩
              have HS15 := Lib.hid hs
              clear hs HS14
              go_wp2_with fail
              refine (s_sameG HS15.out 2 0 rfl rfl (goodA (goodA HGx.out HGy.out) HGz.out) (goodA HGx.out (goodA HGy.out HGz.out)) _ _ HT.out.1).mono ?_
              rintro _ u16 ⟨rfl, hs⟩
              have HS16 := Lib.hid hs
              clear hs HS15
              go_wp2_with fail
              refine (s_or HS16.out 6 5 rfl rfl HGx.out HGy.out _ _ (orR x y) rfl).mono ?_
              rintro _ u17 ⟨C17, n17, d17, rfl, hs⟩
              have HS17 := Lib.hid hs
              clear hs HS16
              go_wp2_with fail
              refine (s_or HS17.out 0 5 rfl rfl (goodO HGx.out HGy.out) HGz.out _ _ (orR (orR x y) z) rfl).mono ?_
              rintro _ u18 ⟨C18, n18, d18, rfl, hs⟩
              have HS18 := Lib.hid hs
              clear hs HS17
              go_wp2_with fail
              refine (s_or HS18.out 7 6 rfl rfl HGy.out HGz.out _ _ (orR y z) rfl).mono ?_
              rintro _ u19 ⟨C19, n19, d19, rfl, hs⟩
              have HS19 := Lib.hid hs
              clear hs HS18
              go_wp2_with fail
              refine (s_or HS19.out 9 0 rfl rfl HGx.out (goodO HGy.out HGz.out) _ _ (orR x (orR y z)) rfl).mono ?_
              rintro _ u20 ⟨C20, n20, d20, rfl, hs⟩
              have HS20 := Lib.hid hs
              clear hs HS19
              go_wp2_with fail
              refine (s_sameG HS20.out 2 0 rfl rfl (goodO (goodO HGx.out HGy.out) HGz.out) (goodO HGx.out (goodO HGy.out HGz.out)) _ _ HT.out.2.1).mono ?_
              rintro _ u21 ⟨rfl, hs⟩
              have HS21 := Lib.hid hs
              clear hs HS20
              go_wp2_with fail
              refine (s_or HS21.out 9 8 rfl rfl HGy.out HGz.out _ _ (orR y z) rfl).mono ?_
              rintro _ u22 ⟨C22, n22, d22, rfl, hs⟩
              have HS22 := Lib.hid hs
              clear hs HS21
              go_wp2_with fail
              refine (s_and HS22.out 11 0 rfl rfl HGx.out (goodO HGy.out HGz.out) _ _ (andR x (orR y z)) rfl).mono ?_
              rintro _ u23 ⟨C23, n23, d23, rfl, hs⟩
              have HS23 := Lib.hid hs
              clear hs HS22
              go_wp2_with fail
              refine (s_and HS23.out 12 11 rfl rfl HGx.out HGy.out _ _ (andR x y) rfl).mono ?_
              rintro _ u24 ⟨C24, n24, d24, rfl, hs⟩
              have HS24 := Lib.hid hs
              clear hs HS23
              go_wp2_with fail
              refine (s_and HS24.out 13 11 rfl rfl HGx.out HGz.out _ _ (andR x z) rfl).mono ?_
              rintro _ u25 ⟨C25, n25, d25, rfl, hs⟩
              have HS25 := Lib.hid hs
              clear hs HS24
              go_wp2_with fail
              refine (s_or HS25.out 1 0 rfl rfl (goodA HGx.out HGy.out) (goodA HGx.out HGz.out) _ _ (orR (andR x y) (andR x z)) rfl).mono ?_
              rintro _ u26 ⟨C26, n26, d26, rfl, hs⟩
              have HS26 := Lib.hid hs
              clear hs HS25
              go_wp2_with fail
              refine (s_sameG HS26.out 3 0 rfl rfl (goodA HGx.out (goodO HGy.out HGz.out)) (goodO (goodA HGx.out HGy.out) (goodA HGx.out HGz.out)) _ _ HT.out.2.2).mono ?_
              rintro _ u27 ⟨rfl, hs⟩
              have HS27 := Lib.hid hs
              clear hs HS26
              go_wp2_with fail
              refine (s_or HS27.out 14 13 rfl rfl HGy.out HGz.out _ _ (orR y z) rfl).mono ?_
              rintro _ u28 ⟨C28, n28, d28, rfl, hs⟩
              have HS28 := Lib.hid hs
              clear hs HS27
              go_wp2_with fail
              refine (s_and HS28.out 16 0 rfl rfl HGx.out (goodO HGy.out HGz.out) _ _ (andR x (orR y z)) rfl).mono ?_
              rintro _ u29 ⟨C29, n29, d29, rfl, hs⟩
              have HS29 := Lib.hid hs
              clear hs HS28
              go_wp2_with fail
              refine (s_has HS29.out 0 rfl (goodA HGx.out (goodO HGy.out HGz.out)) _ v HV.out _ HIJ.out).mono ?_
              rintro _ u30 ⟨rfl, hs⟩
              have HS30 := Lib.hid hs
              clear hs HS29
              go_wp2_with fail
              refine (s_has HS30.out 17 rfl HGx.out _ v HV.out i HI.out).mono ?_
              rintro _ u31 ⟨rfl, hs⟩
              have HS31 := Lib.hid hs
              clear hs HS30
              cases i
              · go_wp2_with fail
                go_ret
                exact ⟨rfl, HS31.out.2.1⟩
              · skip
                go_wp2_with fail
                refine (s_has HS31.out 16 rfl HGy.out _ v HV.out j HJ.out).mono ?_
                rintro _ u32 ⟨rfl, hs⟩
                have HS32 := Lib.hid hs
                clear hs HS31
                cases j
                · skip
                  go_wp2_with fail
                  refine (s_has HS32.out 15 rfl HGz.out _ v HV.out k HK.out).mono ?_
                  rintro _ u33 ⟨rfl, hs⟩
                  have HS33 := Lib.hid hs
                  clear hs HS32
                  cases k <;> (go_wp2_with fail; go_ret; exact ⟨rfl, HS33.out.2.1⟩)
                · go_wp2_with fail
                  go_ret
                  exact ⟨rfl, HS32.out.2.1⟩
end Go.Proofs.YtpfkcjofpihgjaaGreatDoor
