/- The law RngTurns, walked. -/
import Derived.Test.YtpfkcjofpihgjaaGreatDoorKc
import Derived.Test.YtpfkcjofpihgjaaGreatDoorKd
namespace Go.Proofs.YtpfkcjofpihgjaaGreatDoor
open Go.RowKit Rs
set_option maxRecDepth 100000 in
set_option maxHeartbeats 8000000 in
theorem rngTurns_any (A0 : Option Addr) (n0 c0 : Nat) (l0 : List Sp) (A1 : Option Addr) (n1 c1 : Nat) (l1 : List Sp) (w : World) (hw : MaxOk w) (hn0 : l0.length = n0) (hr0 : SRow w A0 l0) (hm0 : n0 ≤ maxLen) (hw0 : Wide l0) (hn1 : l1.length = n1) (hr1 : SRow w A1 l1) (hm1 : n1 ≤ maxLen) (hw1 : Wide l1) :
    Calls Tryz.prog 5 #[.slice A0 n0 c0, .slice A1 n1 c1] w fun e w' => e = .returned (.bool true) ∧ Below w.heap.size w w' := by
  have HS0 : Hid (St w w [⟨A1, n1, l1⟩, ⟨A0, n0, l0⟩]) := ⟨hw, Below.refl _ _, fun x hx => by
    simp only [List.mem_cons, List.not_mem_nil, or_false] at hx
    rcases hx with rfl | rfl <;> exact ⟨by assumption, by assumption⟩⟩
  have HW0 := Lib.hid hw0
  have HN0 := Lib.hid hn0
  clear hr0 hw0 hn0
  unfold maxLen at hm0
  have HW1 := Lib.hid hw1
  have HN1 := Lib.hid hn1
  clear hr1 hw1 hn1
  unfold maxLen at hm1
  clear hw
  go_enter Tryz.func5, Tryz.ntmps5
  go_wp2_with fail
  refine (s_known3 HS0.out).mono ?_
  rintro _ u1 ⟨rfl, hs⟩
  have HS1 := Lib.hid hs
  clear hs HS0
  by_cases h0 : 20 < n0
  · have dl0 : decide ((20 : Int) < (n0 : Int)) = true := decide_eq_true (by omega)
    go_wp2_with fail
    go_ret
    exact ⟨rfl, HS1.out.2.1⟩
  · have dl0 : decide ((20 : Int) < (n0 : Int)) = false := decide_eq_false (by omega)
    by_cases h1 : 20 < n1
    · have dl1 : decide ((20 : Int) < (n1 : Int)) = true := decide_eq_true (by omega)
      go_wp2_with fail
      go_ret
      exact ⟨rfl, HS1.out.2.1⟩
    · have dl1 : decide ((20 : Int) < (n1 : Int)) = false := decide_eq_false (by omega)
      obtain ⟨b0, hb0⟩ : ∃ b, fewL l0 = b := ⟨_, rfl⟩
      have HF0 := Lib.hid hb0
      clear hb0
      go_wp2_with fail
      refine (s_few HS1.out 1 rfl (by unfold maxLen; omega) HW0.out _ b0 HF0.out).mono ?_
      rintro _ u2 ⟨rfl, hs⟩
      have HS2 := Lib.hid hs
      clear hs HS1
      cases b0
      · go_wp2_with fail
        go_ret
        exact ⟨rfl, HS2.out.2.1⟩
      · skip
        obtain ⟨b1, hb1⟩ : ∃ b, fewL l1 = b := ⟨_, rfl⟩
        have HF1 := Lib.hid hb1
        clear hb1
        go_wp2_with fail
        refine (s_few HS2.out 0 rfl (by unfold maxLen; omega) HW1.out _ b1 HF1.out).mono ?_
        rintro _ u3 ⟨rfl, hs⟩
        have HS3 := Lib.hid hs
        clear hs HS2
        cases b1
        · go_wp2_with fail
          go_ret
          exact ⟨rfl, HS3.out.2.1⟩
        · skip
          obtain ⟨e0, he0⟩ : ∃ e, normE 0 l0 = e := ⟨_, rfl⟩
          obtain ⟨x, hx⟩ : ∃ r, nrmR l0 = r := ⟨_, rfl⟩
          have HE0 := Lib.hid he0
          have HXx := Lib.hid hx
          have HGx : Hid (Rs.Good x) := by show Rs.Good _; rw [← hx]; exact nrmR_good _
          have hlx : x.length ≤ 20 := by have := nrmR_len l0; rw [hx, HN0.out] at this; omega
          clear he0 hx
          go_wp2_with fail
          refine (s_refNorm HS3.out 1 rfl (by omega) _ x e0 HXx.out HE0.out).mono ?_
          rintro _ u4 ⟨C4, n4, d4, rfl, hs⟩
          have HS4 := Lib.hid hs
          clear hs HS3
          obtain ⟨e1, he1⟩ : ∃ e, normE 0 l1 = e := ⟨_, rfl⟩
          obtain ⟨y, hy⟩ : ∃ r, nrmR l1 = r := ⟨_, rfl⟩
          have HE1 := Lib.hid he1
          have HXy := Lib.hid hy
          have HGy : Hid (Rs.Good y) := by show Rs.Good _; rw [← hy]; exact nrmR_good _
          have hly : y.length ≤ 20 := by have := nrmR_len l1; rw [hy, HN1.out] at this; omega
          clear he1 hy
          go_wp2_with fail
          refine (s_refNorm HS4.out 1 rfl (by omega) _ y e1 HXy.out HE1.out).mono ?_
          rintro _ u5 ⟨C5, n5, d5, rfl, hs⟩
          have HS5 := Lib.hid hs
          clear hs HS4
          by_cases g0 : e0 = 0
          case neg =>
            have ge0 : (e0 != 0) = true := by simpa using g0
            clear g0
            go_wp2_with fail
            go_ret
            exact ⟨rfl, HS5.out.2.1⟩
          subst g0
          by_cases g1 : e1 = 0
          case neg =>
            have ge1 : (e1 != 0) = true := by simpa using g1
            clear g1
            go_wp2_with fail
            go_ret
            exact ⟨rfl, HS5.out.2.1⟩
          subst g1
          have HT := Lib.hid (turns HGx.out HGy.out (by omega) (by omega))
          go_wp2_with fail
          refine (s_toG HS5.out 1 rfl HGx.out _).mono ?_
          rintro _ u6 ⟨C6, n6, d6, rfl, hs⟩
          have HS6 := Lib.hid hs
          clear hs HS5
          go_wp2_with fail
          refine (s_toG HS6.out 1 rfl HGy.out _).mono ?_
          rintro _ u7 ⟨C7, n7, d7, rfl, hs⟩
          have HS7 := Lib.hid hs
          clear hs HS6
          go_wp2_with fail
          refine (s_not HS7.out 1 rfl HGx.out _ (notR x) rfl).mono ?_
          rintro _ u8 ⟨C8, n8, d8, rfl, hs⟩
          have HS8 := Lib.hid hs
          clear hs HS7
          go_wp2_with fail
          refine (s_not HS8.out 0 rfl (goodN HGx.out) _ (notR (notR x)) rfl).mono ?_
          rintro _ u9 ⟨C9, n9, d9, rfl, hs⟩
          have HS9 := Lib.hid hs
          clear hs HS8
          go_wp2_with fail
          refine (s_sameG HS9.out 0 3 rfl rfl (goodN (goodN HGx.out)) HGx.out _ _ HT.out.1).mono ?_
          rintro _ u10 ⟨rfl, hs⟩
          have HS10 := Lib.hid hs
          clear hs HS9
          go_wp2_with fail
          refine (s_not HS10.out 3 rfl HGx.out _ (notR x) rfl).mono ?_
          rintro _ u11 ⟨C11, n11, d11, rfl, hs⟩
          have HS11 := Lib.hid hs
          clear hs HS10
          go_wp2_with fail
          refine (s_not HS11.out 3 rfl HGy.out _ (notR y) rfl).mono ?_
          rintro _ u12 ⟨C12, n12, d12, rfl, hs⟩
          have HS12 := Lib.hid hs
          clear hs HS11
          go_wp2_with fail
          refine (s_and HS12.out 1 0 rfl rfl (goodN HGx.out) (goodN HGy.out) _ _ (andR (notR x) (notR y)) rfl).mono ?_
          rintro _ u13 ⟨C13, n13, d13, rfl, hs⟩
          have HS13 := Lib.hid hs
          clear hs HS12
          go_wp2_with fail
          refine (s_or HS13.out 6 5 rfl rfl HGx.out HGy.out _ _ (orR x y) rfl).mono ?_
          rintro _ u14 ⟨C14, n14, d14, rfl, hs⟩
          have HS14 := Lib.hid hs
          clear hs HS13
          go_wp2_with fail
          refine (s_not HS14.out 0 rfl (goodO HGx.out HGy.out) _ (notR (orR x y)) rfl).mono ?_
          rintro _ u15 ⟨C15, n15, d15, rfl, hs⟩
          have HS15 := Lib.hid hs
          clear hs HS14
          go_wp2_with fail
          refine (s_sameG HS15.out 2 0 rfl rfl (goodA (goodN HGx.out) (goodN HGy.out)) (goodN (goodO HGx.out HGy.out)) _ _ HT.out.2.1).mono ?_
          rintro _ u16 ⟨rfl, hs⟩
          have HS16 := Lib.hid hs
          clear hs HS15
          go_wp2_with fail
          refine (s_not HS16.out 8 rfl HGx.out _ (notR x) rfl).mono ?_
          rintro _ u17 ⟨C17, n17, d17, rfl, hs⟩
          have HS17 := Lib.hid hs
          clear hs HS16
          go_wp2_with fail
          refine (s_or HS17.out 9 0 rfl rfl HGx.out (goodN HGx.out) _ _ (orR x (notR x)) rfl).mono ?_
          rintro _ u18 ⟨C18, n18, d18, rfl, hs⟩
          have HS18 := Lib.hid hs
          clear hs HS17
          go_wp2_with fail
          refine (s_all HS18.out allR rfl).mono ?_
          rintro _ u19 ⟨C19, n19, d19, rfl, hs⟩
          have HS19 := Lib.hid hs
          clear hs HS18
          go_wp2_with fail
          refine (s_sameG HS19.out 1 0 rfl rfl (goodO HGx.out (goodN HGx.out)) goodAll _ _ HT.out.2.2.1).mono ?_
          rintro _ u20 ⟨rfl, hs⟩
          have HS20 := Lib.hid hs
          clear hs HS19
          go_wp2_with fail
          refine (s_not HS20.out 11 rfl HGx.out _ (notR x) rfl).mono ?_
          rintro _ u21 ⟨C21, n21, d21, rfl, hs⟩
          have HS21 := Lib.hid hs
          clear hs HS20
          go_wp2_with fail
          refine (s_and HS21.out 12 0 rfl rfl HGx.out (goodN HGx.out) _ _ [] HT.out.2.2.2.1).mono ?_
          rintro _ u22 ⟨C22, n22, d22, rfl, hs⟩
          have HS22 := Lib.hid hs
          clear hs HS21
          obtain rfl : n22 = 0 := (st_row HS22.out 0 rfl).2.symm
          go_wp2_with fail
          refine (s_and HS22.out 13 12 rfl rfl HGx.out HGy.out _ _ (andR x y) rfl).mono ?_
          rintro _ u23 ⟨C23, n23, d23, rfl, hs⟩
          have HS23 := Lib.hid hs
          clear hs HS22
          go_wp2_with fail
          refine (s_and HS23.out 13 14 rfl rfl HGy.out HGx.out _ _ (andR y x) rfl).mono ?_
          rintro _ u24 ⟨C24, n24, d24, rfl, hs⟩
          have HS24 := Lib.hid hs
          clear hs HS23
          go_wp2_with fail
          refine (s_sameG HS24.out 1 0 rfl rfl (goodA HGx.out HGy.out) (goodA HGy.out HGx.out) _ _ HT.out.2.2.2.2.1).mono ?_
          rintro _ u25 ⟨rfl, hs⟩
          have HS25 := Lib.hid hs
          clear hs HS24
          go_wp2_with fail
          refine (s_or HS25.out 15 15 rfl rfl HGx.out HGx.out _ _ (orR x x) rfl).mono ?_
          rintro _ u26 ⟨C26, n26, d26, rfl, hs⟩
          have HS26 := Lib.hid hs
          clear hs HS25
          go_wp2_with fail
          refine (s_sameG HS26.out 0 16 rfl rfl (goodO HGx.out HGx.out) HGx.out _ _ HT.out.2.2.2.2.2).mono ?_
          rintro _ u27 ⟨rfl, hs⟩
          have HS27 := Lib.hid hs
          clear hs HS26
          go_wp2_with fail
          go_ret
          exact ⟨rfl, HS27.out.2.1⟩
end Go.Proofs.YtpfkcjofpihgjaaGreatDoor
