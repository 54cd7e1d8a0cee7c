/- Any two locks: the law walked. -/
import Derived.Test.YtojhapnodjabdaaGreatDoorCv
namespace Go.Proofs.YtojhapnodjabdaaGreatDoor
open Go.RowKit Lk At
attribute [local go_sem ↓] Go.wp_at_zero Go.wp_at_succ
set_option maxRecDepth 100000 in
set_option maxHeartbeats 6400000 in
theorem lockAny_any (A : Option Addr) (n c : Nat) (l : List Ent) (B : Option Addr) (m d : Nat) (r : List Ent) (nm : List UInt8) (w : World) (hw : WOk w) (hn : l.length = n) (hr : ERow w A l) (hm : r.length = m) (hq : ERow w B r) :
    Calls Tryz.prog 3 #[.slice A n c, .slice B m d, .string ⟨nm.toArray⟩] w fun e w' => e = .returned (.bool true) ∧ Below w.heap.size w w' := by
  have HK := Lib.hid (known8_any w hw)
  have HW := Lib.hid hw
  have HN := Lib.hid hn
  have HR := Lib.hid hr
  have HM := Lib.hid hm
  have HS := Lib.hid hq
  clear hw hn hr hm hq
  go_enter Tryz.func3, Tryz.ntmps3
  go_wp2_with fail
  refine HK.out.mono ?_
  rintro _ z ⟨rfl, hb⟩
  have HB := Lib.hid hb
  clear hb HK
  go_wp2_with fail
  refine (few8_any A n c l z HN.out (Rg.row_below HR.out HB.out)).mono ?_
  rintro e u ⟨r1, rfl, hb, hq⟩
  have HU := Lib.hid (HB.out.trans (hb.mono HB.out.size))
  have HQ := Lib.hid hq
  clear hb hq HB
  cases r1
  · go_wp2_with fail
    go_ret
    exact ⟨rfl, HU.out⟩
  obtain ⟨n80, hf⟩ := HQ.out rfl
  have HF := Lib.hid hf
  clear hf HQ
  go_wp2_with fail
  refine (few8_any B m d r u HM.out (Rg.row_below HS.out HU.out)).mono ?_
  rintro e u1 ⟨r2, rfl, hb, hq⟩
  have HU1 := Lib.hid (HU.out.trans (hb.mono HU.out.size))
  have HQ := Lib.hid hq
  clear hb hq HU
  cases r2
  · go_wp2_with fail
    go_ret
    exact ⟨rfl, HU1.out⟩
  obtain ⟨m80, hf⟩ := HQ.out rfl
  clear hf HQ
  go_wp2_with fail
  refine (to8_any A n c l u1 HN.out (Rg.row_below HR.out HU1.out) (by omega)).mono ?_
  rintro _ u2 ⟨C, g, rfl, hrow, hb⟩
  have HU2 := Lib.hid (HU1.out.trans (hb.mono HU1.out.size))
  have HC2 := Lib.hid hrow
  clear hb hrow HU1
  go_wp2_with fail
  refine (lockCheck_any C n g l u2 (maxOk_below HW.out.1 HU2.out) HN.out HC2.out (few_of HF.out)).mono ?_
  rintro _ u3 ⟨rfl, hb⟩
  have HU3 := Lib.hid (HU2.out.trans (hb.mono HU2.out.size))
  have HC3 := Lib.hid (Rg.row_below HC2.out hb)
  have HCK := Lib.hid (refCheckLock_any A n c l u3 HN.out (Rg.row_below HR.out HU3.out) (few_of HF.out))
  obtain ⟨X, hX⟩ : ∃ X, checkL l = X := ⟨_, rfl⟩
  have HX := Lib.hid hX
  rw [hX] at HCK ⊢
  obtain ⟨i, k⟩ := X
  dsimp only at HCK ⊢
  clear hb HU2 HC2 hX
  go_wp2_with fail
  refine HCK.out.mono ?_
  rintro _ u4 ⟨rfl, hb⟩
  have HU4 := Lib.hid (HU3.out.trans (hb.mono HU3.out.size))
  have HC4 := Lib.hid (Rg.row_below HC3.out hb)
  clear hb HU3 HC3 HCK
  have hk : (checkL l).2 = k := by rw [HX.out]
  have HWR := Lib.hid (lockWrite_any C n g l u4 (wok_below HW.out HU4.out) HN.out HC4.out (few_of HF.out))
  obtain ⟨T, hT⟩ : ∃ T, wrT l = T := ⟨_, rfl⟩
  have HT := Lib.hid hT
  rw [hk, hT] at HWR
  have HKK := Lib.hid hk
  clear hk hT
  go_wp2_with fail
  refine HWR.out.mono ?_
  rintro _ u5 ⟨rfl, hb⟩
  have HU5 := Lib.hid (HU4.out.trans (hb.mono HU4.out.size))
  have HC5 := Lib.hid (Rg.row_below HC4.out hb)
  clear hb HU4 HC4 HWR
  have HWQ := Lib.hid (refWriteLock_any A n c l u5 HN.out (Rg.row_below HR.out HU5.out) (few_of HF.out))
  rw [HKK.out, HT.out] at HWQ
  go_wp2_with fail
  refine HWQ.out.mono ?_
  rintro _ u6 ⟨rfl, hb⟩
  have HU6 := Lib.hid (HU5.out.trans (hb.mono HU5.out.size))
  have HC6 := Lib.hid (Rg.row_below HC5.out hb)
  clear hb HU5 HC5 HWQ
  have HG1 := Lib.hid (lockGet_any C n g l nm u6 HN.out HC6.out (esm_of HF.out) (by omega))
  obtain ⟨G, hG⟩ : ∃ G, getE l nm = G := ⟨_, rfl⟩
  have HG := Lib.hid hG
  rw [hG] at HG1
  obtain ⟨gv, gb⟩ := G
  dsimp only at HG1
  clear hG
  go_wp2_with fail
  refine HG1.out.mono ?_
  rintro _ u7 ⟨rfl, hb⟩
  have HU7 := Lib.hid (HU6.out.trans (hb.mono HU6.out.size))
  have HC7 := Lib.hid (Rg.row_below HC6.out hb)
  clear hb HU6 HC6 HG1
  have HG2 := Lib.hid (refGetLock_any A n c l nm u7 HN.out (Rg.row_below HR.out HU7.out) (by omega))
  rw [HG.out] at HG2
  dsimp only at HG2
  go_wp2_with fail
  refine HG2.out.mono ?_
  rintro _ u8 ⟨rfl, rfl⟩
  clear HG2
  go_wp2_with fail
  refine (to8_any B m d r u7 HM.out (Rg.row_below HS.out HU7.out) (by omega)).mono ?_
  rintro _ v1 ⟨E, h, rfl, hrow, hb⟩
  have HV1 := Lib.hid (HU7.out.trans (hb.mono HU7.out.size))
  have HC8 := Lib.hid (Rg.row_below HC7.out hb)
  have HE1 := Lib.hid hrow
  clear hb hrow HU7 HC7
  go_wp2_with fail
  obtain ⟨D, hD⟩ : ∃ D, decide (l = r) = D := ⟨_, rfl⟩
  have HD := Lib.hid hD
  refine (lockSame_any C E n g m h l r v1 HN.out HM.out HC8.out HE1.out (by omega) (by omega)).mono ?_
  rintro _ v2 ⟨rfl, hb⟩
  rw [hD]
  have HV2 := Lib.hid (HV1.out.trans (hb.mono HV1.out.size))
  clear hb hD HV1 HC8 HE1
  go_wp2_with fail
  refine (refSameLock_any A B n c m d l r v2 HN.out HM.out (Rg.row_below HR.out HV2.out) (Rg.row_below HS.out HV2.out) (by omega) (by omega)).mono ?_
  rintro _ v3 ⟨rfl, hb⟩
  rw [HD.out]
  have HV3 := Lib.hid (HV2.out.trans (hb.mono HV2.out.size))
  clear hb HV2
  by_cases hk0 : k = 0
  · have hc0 : (checkL l).2 = 0 := by rw [HKK.out]; exact hk0
    have HRD : Hid (readL T = (0, 0, l)) := by show _ = _; rw [← HT.out]; unfold wrT; rw [if_pos hc0]; exact read_write hc0
    have hTl : T.length ≤ 100000 := by rw [← HT.out]; unfold wrT; rw [if_pos hc0]; have := (write_len hc0).2; omega
    have e1 : (T == T) = true := by simp
    have e2 : (gv == gv) = true := by simp
    subst hk0
    clear hc0
    go_wp2_with fail
    refine (lockRead_any T v3 (wok_below HW.out HV3.out) hTl).mono ?_
    rintro e v4 hh
    obtain ⟨hb, Q, q, t, rfl, hqn, hrow⟩ := readR_get hh HRD.out
    have HV4 := Lib.hid (HV3.out.trans (hb.mono HV3.out.size))
    obtain rfl : q = n := by rw [← hqn]; exact HN.out
    have HRQ := Lib.hid hrow
    clear hh hb hqn hrow
    go_wp2_with fail
    refine (of8_any Q q t l v4 HN.out HRQ.out (by omega)).mono ?_
    rintro _ v5 ⟨O, o, rfl, hrow, hb⟩
    have HV5 := Lib.hid (HV4.out.trans (hb.mono HV4.out.size))
    have HRO := Lib.hid hrow
    clear hb hrow
    go_wp2_with fail
    refine (refSameLock_any O A q o q c l l v5 HN.out HN.out HRO.out (Rg.row_below HR.out HV5.out) (by omega) (by omega)).mono ?_
    rintro _ v6 ⟨rfl, hb⟩
    rw [decide_eq_true (rfl : l = l)]
    have HV6 := Lib.hid (HV5.out.trans (hb.mono HV5.out.size))
    clear hb
    go_wp2_with fail
    go_ret
    exact ⟨rfl, HV6.out⟩
  · have e0 : (k != 0) = true := bne_iff_ne.2 hk0
    go_wp2_with fail
    go_ret
    exact ⟨rfl, HV3.out⟩
end Go.Proofs.YtojhapnodjabdaaGreatDoor
