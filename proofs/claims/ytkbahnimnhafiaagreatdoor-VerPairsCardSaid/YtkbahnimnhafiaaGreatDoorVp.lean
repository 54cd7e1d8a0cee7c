/- The law VerPairs, walked. -/
import Derived.Test.YtkbahnimnhafiaaGreatDoorQf
namespace Go.Proofs.YtkbahnimnhafiaaGreatDoor
open Go.RowKit

set_option maxHeartbeats 1000000 in
theorem verPairs_any (l m : List UInt8) (w : World) (hw : MaxOk w) :
    Calls Tryz.prog 3 #[.string ⟨l.toArray⟩, .string ⟨m.toArray⟩] w fun e w' => e = .returned (.bool true) ∧ Below w.heap.size w w' := by
  have hnot : ∀ (x : Bool) (w : World), (Op.unary .not (.bool x)).run Tryz.prog w = .ok (.bool (!x)) w := fun _ _ => rfl
  have HW := Lib.hid hw
  clear hw
  have HC : Hid (Vm.check l = 0 → Vm.check m = 0 → (Vm.cmpV l m = 0 ↔ canonOf l = canonOf m) ∧ Vm.cmpV m l = - Vm.cmpV l m ∧ -1 ≤ Vm.cmpV l m ∧ Vm.cmpV l m ≤ 1) := fun h1 h2 => by
    refine ⟨?_, Vm.cmpV_cmp.1 l m, (Vm.cmpV_range l m).1, (Vm.cmpV_range l m).2⟩
    rw [Vm.cmpV_canon h1 h2, canonOf, canonOf, if_pos h1, if_pos h2]
  go_enter Tryz.func3, Tryz.ntmps3
  go_wp2_with fail
  refine (known_any _ HW.out).mono ?_
  rintro _ w1 ⟨rfl, hb⟩
  have HB := Lib.hid hb
  have HM := Lib.hid (maxOk_below HW.out hb)
  clear hb HW
  go_wp2_with fail
  refine (refCanon_any l _).mono ?_
  rintro _ w2 ⟨rfl, hb⟩
  have HB2 := Lib.hid (HB.out.trans (hb.mono HB.out.size))
  have HM2 := Lib.hid (maxOk_below HM.out hb)
  clear hb HB HM
  obtain ⟨x, hx⟩ : ∃ x, canonOf l = x := ⟨_, rfl⟩
  obtain ⟨y, hy⟩ : ∃ x, canonOf m = x := ⟨_, rfl⟩
  obtain ⟨e, he⟩ : ∃ x, Vm.check l = x := ⟨_, rfl⟩
  obtain ⟨f, hf⟩ : ∃ x, Vm.check m = x := ⟨_, rfl⟩
  have HE := Lib.hid he
  have HF := Lib.hid hf
  have HY := Lib.hid hy
  rw [hx, hy] at HC
  rw [hx, he]
  clear hx hy he hf
  go_wp2_with fail
  refine (refCanon_any m _).mono ?_
  rintro _ w3 ⟨rfl, hb⟩
  have HB3 := Lib.hid (HB2.out.trans (hb.mono HB2.out.size))
  have HM3 := Lib.hid (maxOk_below HM2.out hb)
  clear hb HB2 HM2
  rw [HY.out, HF.out]
  by_cases g1 : e = 0
  · subst g1
    by_cases g2 : f = 0
    · subst g2
      obtain ⟨c1, c2, c3, c4⟩ := HC.out HE.out HF.out
      obtain ⟨n, hn⟩ : ∃ n, Vm.cmpV l m = n := ⟨_, rfl⟩
      rw [hn] at c1 c2 c3 c4
      have HN := Lib.hid hn
      have HN2 := Lib.hid c2
      clear hn c2 HC HY
      have h3 : n = -1 ∨ n = 0 ∨ n = 1 := by omega
      clear c3 c4
      rcases h3 with rfl | rfl | rfl
      · have hxy : (x == y) = false := by rw [beq_eq_false_iff_ne]; exact fun h => absurd (c1.2 h) (by decide)
        clear c1
        have HN3 : Hid (Vm.cmpV m l = 1) := HN2.out
        clear HN2
        go_wp2_with fail
        refine (compare_at l m (-1) _ HM3.out HE.out HF.out HN.out).mono ?_
        rintro _ w4 ⟨rfl, hb⟩
        have HB4 := Lib.hid (HB3.out.trans (hb.mono HB3.out.size))
        have HM4 := Lib.hid (maxOk_below HM3.out hb)
        clear hb HB3 HM3
        go_wp2_with fail
        refine (refCompare_any l m _ HE.out HF.out).mono ?_
        rintro _ w5 ⟨rfl, hb⟩
        have HB5 := Lib.hid (HB4.out.trans (hb.mono HB4.out.size))
        have HM5 := Lib.hid (maxOk_below HM4.out hb)
        clear hb HB4 HM4
        rw [HN.out]
        go_wp2_with fail
        refine (compare_at m l 1 _ HM5.out HF.out HE.out HN3.out).mono ?_
        rintro _ w6 ⟨rfl, hb⟩
        have HB6 := Lib.hid (HB5.out.trans (hb.mono HB5.out.size))
        clear hb HB5 HM5
        go_wp2_with fail
        go_ret
        exact ⟨rfl, HB6.out⟩
      · obtain rfl : x = y := c1.1 rfl
        clear c1
        have HN3 : Hid (Vm.cmpV m l = 0) := HN2.out
        clear HN2
        go_wp2_with fail
        refine (compare_at l m 0 _ HM3.out HE.out HF.out HN.out).mono ?_
        rintro _ w4 ⟨rfl, hb⟩
        have HB4 := Lib.hid (HB3.out.trans (hb.mono HB3.out.size))
        have HM4 := Lib.hid (maxOk_below HM3.out hb)
        clear hb HB3 HM3
        go_wp2_with fail
        refine (refCompare_any l m _ HE.out HF.out).mono ?_
        rintro _ w5 ⟨rfl, hb⟩
        have HB5 := Lib.hid (HB4.out.trans (hb.mono HB4.out.size))
        have HM5 := Lib.hid (maxOk_below HM4.out hb)
        clear hb HB4 HM4
        rw [HN.out]
        go_wp2_with fail
        refine (compare_at m l 0 _ HM5.out HF.out HE.out HN3.out).mono ?_
        rintro _ w6 ⟨rfl, hb⟩
        have HB6 := Lib.hid (HB5.out.trans (hb.mono HB5.out.size))
        clear hb HB5 HM5
        go_wp2_with fail
        go_ret
        exact ⟨by simp, HB6.out⟩
      · have hxy : (x == y) = false := by rw [beq_eq_false_iff_ne]; exact fun h => absurd (c1.2 h) (by decide)
        clear c1
        have HN3 : Hid (Vm.cmpV m l = -1) := HN2.out
        clear HN2
        go_wp2_with fail
        refine (compare_at l m 1 _ HM3.out HE.out HF.out HN.out).mono ?_
        rintro _ w4 ⟨rfl, hb⟩
        have HB4 := Lib.hid (HB3.out.trans (hb.mono HB3.out.size))
        have HM4 := Lib.hid (maxOk_below HM3.out hb)
        clear hb HB3 HM3
        go_wp2_with fail
        refine (refCompare_any l m _ HE.out HF.out).mono ?_
        rintro _ w5 ⟨rfl, hb⟩
        have HB5 := Lib.hid (HB4.out.trans (hb.mono HB4.out.size))
        have HM5 := Lib.hid (maxOk_below HM4.out hb)
        clear hb HB4 HM4
        rw [HN.out]
        go_wp2_with fail
        refine (compare_at m l (-1) _ HM5.out HF.out HE.out HN3.out).mono ?_
        rintro _ w6 ⟨rfl, hb⟩
        have HB6 := Lib.hid (HB5.out.trans (hb.mono HB5.out.size))
        clear hb HB5 HM5
        go_wp2_with fail
        go_ret
        exact ⟨rfl, HB6.out⟩
    · have n2 := bne_of g2
      clear g2
      go_wp2_with fail
      go_ret
      exact ⟨rfl, HB3.out⟩
  · have n1 := bne_of g1
    clear g1
    go_wp2_with fail
    go_ret
    exact ⟨rfl, HB3.out⟩
end Go.Proofs.YtkbahnimnhafiaaGreatDoor
