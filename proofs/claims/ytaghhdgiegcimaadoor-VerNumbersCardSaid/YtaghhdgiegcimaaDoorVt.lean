/- The laws VerRows and VerAny, walked. -/
import Derived.Test.YtaghhdgiegcimaaDoorVo
namespace Go.Proofs.YtaghhdgiegcimaaDoor
open Go.RowKit

theorem checkVer_at (l : List UInt8) (c : Int) (w : World) (hc : Vm.check l = c) :
    Calls Tryd.prog 17 #[.string ⟨l.toArray⟩] w fun e w' => e = .returned (.int .i64 c) ∧ w = w' := by
  have := checkVer_any l w; rw [hc] at this; exact this
theorem bne_of {c : Int} (h : c ≠ 0) : (c != 0) = true := by simpa using h

set_option maxHeartbeats 1000000 in
theorem verRows_any (l m n : List UInt8) (w : World) (hw : MaxOk w) :
    Calls Tryd.prog 4 #[.string ⟨l.toArray⟩, .string ⟨m.toArray⟩, .string ⟨n.toArray⟩] w fun e w' => e = .returned (.bool true) ∧ Below w.heap.size w w' := by
  have hnot : ∀ (x : Bool) (w : World), (Op.unary .not (.bool x)).run Tryd.prog w = .ok (.bool (!x)) w := fun _ _ => rfl
  have HW := Lib.hid hw
  clear hw
  go_enter Tryd.func4, Tryd.ntmps4
  go_wp2_with fail
  refine (known_any _ HW.out).mono ?_
  rintro _ w1 ⟨rfl, hb⟩
  have HB := Lib.hid hb
  have HM := Lib.hid (maxOk_below HW.out hb)
  clear hb HW
  go_wp2_with fail
  obtain ⟨c1, hc1⟩ : ∃ c, Vm.check l = c := ⟨_, rfl⟩
  obtain ⟨c2, hc2⟩ : ∃ c, Vm.check m = c := ⟨_, rfl⟩
  obtain ⟨c3, hc3⟩ : ∃ c, Vm.check n = c := ⟨_, rfl⟩
  have H1 := Lib.hid hc1
  have H2 := Lib.hid hc2
  have H3 := Lib.hid hc3
  clear hc1 hc2 hc3
  refine (checkVer_at l c1 _ H1.out).mono ?_
  rintro _ w2 ⟨rfl, rfl⟩
  by_cases g1 : c1 = 0
  · subst g1
    go_wp2_with fail
    refine (checkVer_at m c2 _ H2.out).mono ?_
    rintro _ w2 ⟨rfl, rfl⟩
    by_cases g2 : c2 = 0
    · subst g2
      go_wp2_with fail
      refine (checkVer_at n c3 _ H3.out).mono ?_
      rintro _ w2 ⟨rfl, rfl⟩
      by_cases g3 : c3 = 0
      · subst g3
        have HT := Lib.hid (Vm.cmpV_cmp.2 l m n)
        obtain ⟨x, hx⟩ : ∃ c, Vm.cmpV l m = c := ⟨_, rfl⟩
        obtain ⟨y, hy⟩ : ∃ c, Vm.cmpV m n = c := ⟨_, rfl⟩
        obtain ⟨z, hz⟩ : ∃ c, Vm.cmpV l n = c := ⟨_, rfl⟩
        rw [hx, hy, hz] at HT
        have X := Lib.hid hx
        have Y := Lib.hid hy
        have Z := Lib.hid hz
        clear hx hy hz
        go_wp2_with fail
        refine (compare_at l m x _ HM.out H1.out H2.out X.out).mono ?_
        rintro _ w2 ⟨rfl, hb2⟩
        have HB2 := Lib.hid (HB.out.trans (hb2.mono HB.out.size))
        have HM2 := Lib.hid (maxOk_below HM.out hb2)
        clear hb2 HB HM
        by_cases k1 : 0 < x
        · go_wp2_with fail
          go_ret
          exact ⟨by simp, HB2.out⟩
        · go_wp2_with fail
          refine (compare_at m n y _ HM2.out H2.out H3.out Y.out).mono ?_
          rintro _ w3 ⟨rfl, hb3⟩
          have HB3 := Lib.hid (HB2.out.trans (hb3.mono HB2.out.size))
          have HM3 := Lib.hid (maxOk_below HM2.out hb3)
          clear hb3 HB2 HM2
          by_cases k2 : 0 < y
          · go_wp2_with fail
            go_ret
            exact ⟨by simp, HB3.out⟩
          · have k3 : z ≤ 0 := HT.out (by omega) (by omega)
            go_wp2_with fail
            refine (compare_at l n z _ HM3.out H1.out H3.out Z.out).mono ?_
            rintro _ w4 ⟨rfl, hb4⟩
            have HB4 := Lib.hid (HB3.out.trans (hb4.mono HB3.out.size))
            clear hb4 HB3 HM3
            go_wp2_with fail
            go_ret
            exact ⟨by simp, HB4.out⟩
      · have n3 := bne_of g3
        go_wp2_with fail
        go_ret
        exact ⟨rfl, HB.out⟩
    · have n2 := bne_of g2
      go_wp2_with fail
      go_ret
      exact ⟨rfl, HB.out⟩
  · have n1 := bne_of g1
    go_wp2_with fail
    go_ret
    exact ⟨rfl, HB.out⟩

set_option maxHeartbeats 1000000 in
theorem verAny_any (l : List UInt8) (w : World) (hw : MaxOk w) (hlen : l.length ≤ 9223372036854775807) :
    Calls Tryd.prog 3 #[.string ⟨l.toArray⟩] w fun e w' => e = .returned (.bool true) ∧ Below w.heap.size w w' := by
  have hnot : ∀ (x : Bool) (w : World), (Op.unary .not (.bool x)).run Tryd.prog w = .ok (.bool (!x)) w := fun _ _ => rfl
  have HW := Lib.hid hw
  clear hw
  go_enter Tryd.func3, Tryd.ntmps3
  go_wp2_with fail
  refine (known_any _ HW.out).mono ?_
  rintro _ w1 ⟨rfl, hb⟩
  have HB := Lib.hid hb
  have HM := Lib.hid (maxOk_below HW.out hb)
  clear hb HW
  by_cases g0 : 200 < l.length
  · have H4 : Hid (Vm.check l = 4) := by show _ = _; rw [Vm.check, if_pos (by omega)]
    have g1 : (200 : Int) < (l.length : Int) := by omega
    go_wp2_with fail
    refine (check_at l 4 _ HM.out H4.out).mono ?_
    rintro _ w2 ⟨rfl, hb2⟩
    have HB2 := Lib.hid (HB.out.trans (hb2.mono HB.out.size))
    clear hb2 HB HM
    go_wp2_with fail
    go_ret
    exact ⟨rfl, HB2.out⟩
  · have HC1 : Hid (Vm.check l = 0 → Vm.check (Vm.canon l) = 0 ∧ Vm.canon (Vm.canon l) = Vm.canon l ∧ Vm.cmpV l (Vm.canon l) = 0 ∧ canonOf l = Vm.canon l) := fun h => ⟨Vm.canon_check h, Vm.canon_canon h, Vm.cmpV_own h, by rw [canonOf, if_pos h]⟩
    obtain ⟨c, hc⟩ : ∃ c, Vm.check l = c := ⟨_, rfl⟩
    obtain ⟨x, hx⟩ : ∃ x, canonOf l = x := ⟨_, rfl⟩
    have HC := Lib.hid hc
    have HX := Lib.hid hx
    clear hc hx
    have g1 : ¬ (200 : Int) < (l.length : Int) := by omega
    go_wp2_with fail
    refine (canon_any l _ HM.out).mono ?_
    rintro _ w2 ⟨rfl, hb2⟩
    have HB2 := Lib.hid (HB.out.trans (hb2.mono HB.out.size))
    have HM2 := Lib.hid (maxOk_below HM.out hb2)
    clear hb2 HB HM
    rw [HC.out, HX.out]
    go_wp2_with fail
    refine (refCanon_any l _).mono ?_
    rintro _ w3 ⟨rfl, hb3⟩
    have HB3 := Lib.hid (HB2.out.trans (hb3.mono HB2.out.size))
    have HM3 := Lib.hid (maxOk_below HM2.out hb3)
    clear hb3 HB2 HM2
    rw [HC.out, HX.out]
    go_wp2_with fail
    refine (check_at l c _ HM3.out HC.out).mono ?_
    rintro _ w4 ⟨rfl, hb4⟩
    have HB4 := Lib.hid (HB3.out.trans (hb4.mono HB3.out.size))
    have HM4 := Lib.hid (maxOk_below HM3.out hb4)
    clear hb4 HB3 HM3
    go_wp2_with fail
    refine (checkVer_at l c _ HC.out).mono ?_
    rintro _ w5 ⟨rfl, rfl⟩
    have e1 : (c != c) = false := by simp
    by_cases g2 : c = 0
    · subst g2
      obtain ⟨d1, d2, d3, d4⟩ := HC1.out HC.out
      have HX2 : Hid (Vm.canon l = x) := by show _ = _; rw [← d4, HX.out]
      rw [HX2.out] at d1 d2 d3
      have D1 := Lib.hid d1
      have D2 := Lib.hid d2
      have D3 := Lib.hid d3
      clear d1 d2 d3 d4 e1
      go_wp2_with fail
      refine (canon_at x x _ HM4.out D1.out D2.out).mono ?_
      rintro _ w6 ⟨rfl, hb6⟩
      have HB6 := Lib.hid (HB4.out.trans (hb6.mono HB4.out.size))
      have HM6 := Lib.hid (maxOk_below HM4.out hb6)
      clear hb6 HB4 HM4
      go_wp2_with fail
      obtain ⟨v, hv⟩ : ∃ v, Vm.num (Vm.ep l) = v := ⟨_, rfl⟩
      have HV := Lib.hid hv
      clear hv
      refine (epoch_at l v _ HM6.out HC.out HV.out).mono ?_
      rintro _ w7 ⟨rfl, hb7⟩
      have HB7 := Lib.hid (HB6.out.trans (hb7.mono HB6.out.size))
      have HM7 := Lib.hid (maxOk_below HM6.out hb7)
      clear hb7 HB6 HM6
      go_wp2_with fail
      refine (refEpoch_any l _ HC.out).mono ?_
      rintro _ w8 ⟨rfl, rfl⟩
      rw [HV.out]
      go_wp2_with fail
      refine (compare_at l x 0 _ HM7.out HC.out D1.out D3.out).mono ?_
      rintro _ w9 ⟨rfl, hb9⟩
      have HB9 := Lib.hid (HB7.out.trans (hb9.mono HB7.out.size))
      clear hb9 HB7 HM7
      go_wp2_with fail
      go_ret
      exact ⟨by simp, HB9.out⟩
    · have n1 := bne_of g2
      go_wp2_with fail
      go_ret
      exact ⟨rfl, HB4.out⟩
end Go.Proofs.YtaghhdgiegcimaaDoor
