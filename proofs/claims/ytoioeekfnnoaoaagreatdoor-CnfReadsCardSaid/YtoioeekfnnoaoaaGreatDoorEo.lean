/- Any text as clauses: the law walked. -/
import Derived.Test.YtoioeekfnnoaoaaGreatDoorEm
import Derived.Test.YtoioeekfnnoaoaaGreatDoorEj
namespace Go.Proofs.YtoioeekfnnoaoaaGreatDoor
open Go.RowKit Cl Up
attribute [local go_sem ↓] Go.wp_at_zero Go.wp_at_succ
set_option maxRecDepth 100000 in
set_option maxHeartbeats 6400000 in
theorem cnfReads_any {Q : World → Prop} (HQ : Stays Q) (HKN : KnownC13 Q) (HPA : ParseC Q) (HTX : TextC Q) (s : List UInt8) (w : World) (hq : Q w) :
    Calls Tryz.prog 4 #[.string ⟨s.toArray⟩] w fun e w' => e = .returned (.bool true) ∧ Below w.heap.size w w' := by
  have HK0 := Lib.hid (HKN w hq)
  have HQQ := Lib.hid fun (u : World) (hb : Below w.heap.size w u) => HQ w u hq hb
  have HTXC := Lib.hid HTX
  have HPAC := Lib.hid HPA
  clear hq HKN HPA HTX
  go_enter Tryz.func4, Tryz.ntmps4
  go_wp2_with (go_at_call 9; refine HK0.out.mono ?_)
  rintro _ u0 ⟨rfl, hb⟩
  have HB0 := Lib.hid hb
  clear hb HK0
  cases d1 : decide ((3000 : Int) < (s.length : Int))
  case true =>
    go_wp2_with fail
    go_ret
    exact ⟨rfl, HB0.out⟩
  have hs : s.length ≤ 3000 := by have := of_decide_eq_false d1; omega
  have HP1 := Lib.hid (HPAC.out s u0 (by omega) (HQQ.out u0 HB0.out))
  go_wp2_with (go_at_call 19; refine HP1.out.mono ?_)
  rintro _ u1 ⟨A1, c1, rfl, hr1, hb1⟩
  have HB1 := Lib.hid (HB0.out.trans (hb1.mono HB0.out.size))
  have HR1 := Lib.hid hr1
  have HP2 := Lib.hid (refParseCnf_any s u1 (by omega))
  have HFIT := Lib.hid (parse_fits s)
  obtain ⟨⟨i, k, n, l⟩, hp⟩ : ∃ p, parseC s = p := ⟨_, rfl⟩
  have HP := Lib.hid hp
  unfold PcRet at HP2
  rw [hp] at HP2 HR1 HFIT
  rw [hp]
  simp only at HP2 HR1 HFIT ⊢
  clear hr1 hb1 hp HP1
  go_wp2_with (go_at_call 22; refine HP2.out.mono ?_)
  rintro _ u2 ⟨hb2, v2, rfl, ho2⟩
  have HB2 := Lib.hid (HB1.out.trans (hb2.mono HB1.out.size))
  have HR12 := Lib.hid (Gr.row_below HR1.out hb2)
  obtain ⟨C2, d2, rfl, hr2⟩ := Gr.row_own ho2
  have HR2 := Lib.hid hr2
  obtain ⟨m, hm⟩ : ∃ m, l.length = m := ⟨_, rfl⟩
  have HM := Lib.hid hm
  have hm2 : m ≤ 131072 := by rw [← hm]; exact HFIT.out.1
  simp only [hm]
  have HO := Lib.hid (of13_any A1 m c1 l u2 hm HR12.out (by omega))
  clear hb2 ho2 hr2 hm HP2
  go_wp2_with (go_at_call 21; refine HO.out.mono ?_)
  rintro _ u3 ⟨v3, rfl, ho3, hb3, hz3⟩
  have HB3 := Lib.hid (HB2.out.trans (hb3.mono HB2.out.size))
  obtain ⟨C3, d3, rfl, hr3⟩ := Gr.row_own ho3
  rw [HM.out]
  have HS := Lib.hid (refSameClauses_any C3 C2 m m d3 d2 l l u3 HM.out HM.out hr3 (Gr.row_below HR2.out hb3) (by omega) (fun x hx => by have := HFIT.out.2 x hx; omega))
  have hll : decide (l = l) = true := by simp
  rw [hll] at HS
  have HR13 := Lib.hid (Gr.row_below HR12.out hb3)
  clear ho3 hb3 hz3 hr3 hll HO
  go_wp2_with (go_at_call 15; refine HS.out.mono ?_)
  rintro _ u4 ⟨rfl, hb4⟩
  have HB4 := Lib.hid (HB3.out.trans (hb4.mono HB3.out.size))
  have HR14 := Lib.hid (Gr.row_below HR13.out hb4)
  clear hb4 HS
  by_cases hk : k = 0
  · subst hk
    obtain ⟨_, ht, hck⟩ := text_parse HP.out
    have HT := Lib.hid (HTXC.out n A1 m c1 l u4 HM.out HR14.out hck (by rw [ht]; omega) (HQQ.out u4 HB4.out))
    rw [ht] at HT
    clear ht hck
    go_wp2_with (go_at_call 18; refine HT.out.mono ?_)
    rintro _ u5 ⟨rfl, hb5⟩
    have HB5 := Lib.hid (HB4.out.trans (hb5.mono HB4.out.size))
    clear hb5 HT
    go_wp2_with fail
    go_ret
    exact ⟨by simp, HB5.out⟩
  · go_wp2_with fail
    go_ret
    exact ⟨by simp, HB4.out⟩
end Go.Proofs.YtoioeekfnnoaoaaGreatDoor
