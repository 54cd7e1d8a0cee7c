/- The law AtomAny, walked. -/
import Derived.Test.YtbehmagjkdljfaaGreatDoorTg
namespace Go.Proofs.YtbehmagjkdljfaaGreatDoor
open Go.RowKit Rs At
attribute [local go_sem ↓] Go.wp_at_zero Go.wp_at_succ
theorem fewA_parts {name : List UInt8} {l : List Sp} (h : fewA ⟨name, l⟩ = true) : name.length ≤ 100 ∧ l.length ≤ 80 := by
  unfold fewA at h
  rw [Bool.and_eq_true, decide_eq_true_eq] at h
  exact ⟨h.1, few_len h.2⟩
set_option maxRecDepth 100000 in
set_option maxHeartbeats 16000000 in
theorem atomAny_any (na nb : List UInt8) (A0 A1 : Option Addr) (n0 c0 n1 c1 : Nat) (l0 l1 : List Sp) (w : World) (hw : MaxOk w) (hna : na.length ≤ maxLen) (hnb : nb.length ≤ maxLen)
    (hn0 : l0.length = n0) (hr0 : SRow w A0 l0) (hm0 : n0 ≤ maxLen) (hw0 : Wide l0) (hn1 : l1.length = n1) (hr1 : SRow w A1 l1) (hm1 : n1 ≤ maxLen) (hw1 : Wide l1) :
    Calls Tryz.prog 3 #[.agg #[.string ⟨na.toArray⟩, .slice A0 n0 c0], .agg #[.string ⟨nb.toArray⟩, .slice A1 n1 c1]] w fun e w' => e = .returned (.bool true) ∧ Below w.heap.size w w' := by
  obtain ⟨W1, hW1⟩ : ∃ W, w.alloc (.cells #[.string ⟨na.toArray⟩, .slice A0 n0 c0] 24) = W := ⟨_, rfl⟩
  obtain ⟨W2, hW2⟩ : ∃ W, W1.alloc (.cells #[.string ⟨nb.toArray⟩, .slice A1 n1 c1] 24) = W := ⟨_, rfl⟩
  have hb1 : Below w.heap.size w W1 := alloc_low hW1
  have hb2 : Below W1.heap.size W1 W2 := alloc_low hW2
  have HW0 : Hid (Below w.heap.size w W2 ∧ w.heap.size ≤ W2.heap.size) := ⟨hb1.trans (hb2.mono hb1.size), Nat.le_trans hb1.size hb2.size⟩
  have HXa : Hid (Bk w.heap.size na A0 n0 c0 W2) := bk_step (by rw [← hW1]; exact bk_new w na A0 n0 c0 24) hb2
  have HXb : Hid (Bk W1.heap.size nb A1 n1 c1 W2) := by rw [← hW2]; exact bk_new W1 nb A1 n1 c1 24
  have HS0 : Hid (St W2 W2 [⟨A1, n1, l1⟩, ⟨A0, n0, l0⟩]) := ⟨maxOk_below hw HW0.out.1, Below.refl _ _, fun x hx => by
    simp only [List.mem_cons, List.not_mem_nil, or_false] at hx
    rcases hx with rfl | rfl
    · exact ⟨srow_below hr1 HW0.out.1, hn1⟩
    · exact ⟨srow_below hr0 HW0.out.1, hn0⟩⟩
  have HNA := Lib.hid hna
  have HNB := Lib.hid hnb
  have HM0 := Lib.hid hm0
  have HM1 := Lib.hid hm1
  have HWD0 := Lib.hid hw0
  have HWD1 := Lib.hid hw1
  obtain ⟨fa, hfa⟩ : ∃ b, fewA ⟨na, l0⟩ = b := ⟨_, rfl⟩
  obtain ⟨fb, hfb⟩ : ∃ b, fewA ⟨nb, l1⟩ = b := ⟨_, rfl⟩
  obtain ⟨K, hK⟩ : ∃ K, checkA ⟨na, l0⟩ = K := ⟨_, rfl⟩
  obtain ⟨sm, hsm⟩ : ∃ b, decide ((⟨na, l0⟩ : Atm) = ⟨nb, l1⟩) = b := ⟨_, rfl⟩
  obtain ⟨nB, hnB⟩ : ∃ b, nameB na = b := ⟨_, rfl⟩
  have HFA := Lib.hid hfa
  have HFB := Lib.hid hfb
  have HK := Lib.hid hK
  have HSM := Lib.hid hsm
  have HNAB := Lib.hid hnB
  have q1 : (sm != sm) = false := by cases sm <;> rfl
  have q2 : (nB != nB) = false := by cases nB <;> rfl
  have q3 : (K != K) = false := by simp
  clear hw hna hnb hn0 hr0 hm0 hw0 hn1 hr1 hm1 hw1 hb1 hb2 hfa hfb hK hsm hnB
  go_enter Tryz.func3, Tryz.ntmps3
  obtain ⟨a0, a1⟩ := HXa.out.1
  obtain ⟨b0, b1⟩ := HXb.out.1
  go_wp2_with fail
  clear hW1 hW2
  refine (s_known4 HS0.out).mono ?_
  rintro _ u1 ⟨rfl, hs⟩
  have HW1 : Hid (Below w.heap.size w u1 ∧ w.heap.size ≤ u1.heap.size) := ⟨HW0.out.1.trans (hs.2.1.mono HW0.out.2), Nat.le_trans HW0.out.2 hs.2.1.size⟩
  have HXa : Hid (Bk w.heap.size na A0 n0 c0 u1) := bk_step HXa.out hs.2.1
  have HXb : Hid (Bk W1.heap.size nb A1 n1 c1 u1) := bk_step HXb.out hs.2.1
  have HS1 := Lib.hid (st_base hs)
  clear HS0 HW0 a0 a1 b0 b1
  clear hs
  obtain ⟨a0, a1⟩ := HXa.out.1
  obtain ⟨b0, b1⟩ := HXb.out.1
  go_wp2_with fail
  refine ((few4_any HS1.out na A0 n0 c0 l0 1 rfl HNA.out HM0.out HWD0.out).mono fun _ _ hr => (show BoolRet _ _ fa _ _ by rw [← HFA.out]; exact hr)).mono ?_
  rintro _ u2 ⟨rfl, hs⟩
  have HW2 : Hid (Below w.heap.size w u2 ∧ w.heap.size ≤ u2.heap.size) := ⟨HW1.out.1.trans (hs.2.1.mono HW1.out.2), Nat.le_trans HW1.out.2 hs.2.1.size⟩
  have HXa : Hid (Bk w.heap.size na A0 n0 c0 u2) := bk_step HXa.out hs.2.1
  have HXb : Hid (Bk W1.heap.size nb A1 n1 c1 u2) := bk_step HXb.out hs.2.1
  have HS2 := Lib.hid (st_base hs)
  clear HS1 HW1 a0 a1 b0 b1
  clear hs
  obtain ⟨a0, a1⟩ := HXa.out.1
  obtain ⟨b0, b1⟩ := HXb.out.1
  cases fa
  case false =>
    go_wp2_with fail
    go_ret
    exact ⟨rfl, HW2.out.1⟩
  go_wp2_with fail
  refine ((few4_any HS2.out nb A1 n1 c1 l1 0 rfl HNB.out HM1.out HWD1.out).mono fun _ _ hr => (show BoolRet _ _ fb _ _ by rw [← HFB.out]; exact hr)).mono ?_
  rintro _ u3 ⟨rfl, hs⟩
  have HW3 : Hid (Below w.heap.size w u3 ∧ w.heap.size ≤ u3.heap.size) := ⟨HW2.out.1.trans (hs.2.1.mono HW2.out.2), Nat.le_trans HW2.out.2 hs.2.1.size⟩
  have HXa : Hid (Bk w.heap.size na A0 n0 c0 u3) := bk_step HXa.out hs.2.1
  have HXb : Hid (Bk W1.heap.size nb A1 n1 c1 u3) := bk_step HXb.out hs.2.1
  have HS3 := Lib.hid (st_base hs)
  clear HS2 HW2 a0 a1 b0 b1
  clear hs
  obtain ⟨a0, a1⟩ := HXa.out.1
  obtain ⟨b0, b1⟩ := HXb.out.1
  cases fb
  case false =>
    go_wp2_with fail
    go_ret
    exact ⟨rfl, HW3.out.1⟩
  have HLA : Hid (na.length ≤ 100 ∧ n0 ≤ 1000) := by
    obtain ⟨h1, h2⟩ := fewA_parts HFA.out
    exact ⟨h1, by rw [← (st_row HS3.out 1 rfl).2]; exact Nat.le_trans h2 (by decide)⟩
  have HLB : Hid (nb.length ≤ 100 ∧ n1 ≤ 1000) := by
    obtain ⟨h1, h2⟩ := fewA_parts HFB.out
    exact ⟨h1, by rw [← (st_row HS3.out 0 rfl).2]; exact Nat.le_trans h2 (by decide)⟩
  have HL0 : Hid (l0.length ≤ 1000) := by show _ ≤ _; rw [(st_row HS3.out 1 rfl).2]; exact HLA.out.2
  have HL1 : Hid (l1.length ≤ 1000) := by show _ ≤ _; rw [(st_row HS3.out 0 rfl).2]; exact HLB.out.2
  go_wp2_with fail
  refine (s4_to HS3.out 1 rfl HLA.out.2 _ na).mono ?_
  rintro _ u4 ⟨C4, n4, e4, rfl, hs⟩
  have HW4 : Hid (Below w.heap.size w u4 ∧ w.heap.size ≤ u4.heap.size) := ⟨HW3.out.1.trans (hs.2.1.mono HW3.out.2), Nat.le_trans HW3.out.2 hs.2.1.size⟩
  have HXa : Hid (Bk w.heap.size na A0 n0 c0 u4) := bk_step HXa.out hs.2.1
  have HXb : Hid (Bk W1.heap.size nb A1 n1 c1 u4) := bk_step HXb.out hs.2.1
  have HS4 := Lib.hid (st_base hs)
  clear HS3 HW3 a0 a1 b0 b1
  clear hs
  obtain ⟨a0, a1⟩ := HXa.out.1
  obtain ⟨b0, b1⟩ := HXb.out.1
  have hnw := bk_new u4 na C4 n4 e4 30
  have hba := (Below.refl u4.heap.size u4).alloc (Nat.le_refl _) (.cells #[.string ⟨List.toArray na⟩, .slice C4 n4 e4] 30)
  obtain ⟨v5, hv5⟩ : ∃ v, u4.alloc (.cells #[.string ⟨List.toArray na⟩, .slice C4 n4 e4] 30) = v := ⟨_, rfl⟩
  rw [hv5] at hnw hba
  have HW5 : Hid (Below w.heap.size w v5 ∧ w.heap.size ≤ v5.heap.size) := ⟨HW4.out.1.trans (hba.mono HW4.out.2), Nat.le_trans HW4.out.2 hba.size⟩
  have HXa : Hid (Bk w.heap.size na A0 n0 c0 v5) := bk_step HXa.out hba
  have HXb : Hid (Bk W1.heap.size nb A1 n1 c1 v5) := bk_step HXb.out hba
  have HS5 := Lib.hid (st_base (st_step HS4.out hba))
  clear HS4 HW4 a0 a1 b0 b1
  have HXx : Hid (Bk u4.heap.size na C4 n4 e4 v5) := hnw
  clear hnw hba
  obtain ⟨a0, a1⟩ := HXa.out.1
  obtain ⟨b0, b1⟩ := HXb.out.1
  obtain ⟨x0, x1⟩ := HXx.out.1
  go_wp2_with fail
  clear hv5
  have HQ0 := Lib.hid (st_step HS5.out (Below.refl v5.heap.size v5).drew)
  go_region_held3 (fun w' => w'.cell? ⟨w.heap.size, 0, none⟩ = some (.string ⟨List.toArray na⟩) ∧ w'.cell? ⟨w.heap.size, 1, none⟩ = some (.slice A0 n0 c0) ∧ w'.cell? ⟨W1.heap.size, 0, none⟩ = some (.string ⟨List.toArray nb⟩) ∧ w'.cell? ⟨W1.heap.size, 1, none⟩ = some (.slice A1 n1 c1) ∧ w'.cell? ⟨u4.heap.size, 0, none⟩ = some (.string ⟨List.toArray na⟩) ∧ w'.cell? ⟨u4.heap.size, 1, none⟩ = some (.slice C4 n4 e4))
    (first
      | exact ⟨(bx2_below HXa.out.1 HXa.out.2 HQ0.out.2.1).1, (bx2_below HXa.out.1 HXa.out.2 HQ0.out.2.1).2, (bx2_below HXb.out.1 HXb.out.2 HQ0.out.2.1).1, (bx2_below HXb.out.1 HXb.out.2 HQ0.out.2.1).2, (bx2_below HXx.out.1 HXx.out.2 HQ0.out.2.1).1, (bx2_below HXx.out.1 HXx.out.2 HQ0.out.2.1).2⟩
      | exact ⟨(bx2_below HXa.out.1 HXa.out.2 HQ1.out.2.1).1, (bx2_below HXa.out.1 HXa.out.2 HQ1.out.2.1).2, (bx2_below HXb.out.1 HXb.out.2 HQ1.out.2.1).1, (bx2_below HXb.out.1 HXb.out.2 HQ1.out.2.1).2, (bx2_below HXx.out.1 HXx.out.2 HQ1.out.2.1).1, (bx2_below HXx.out.1 HXx.out.2 HQ1.out.2.1).2⟩
      | exact ⟨(bx2_below HXa.out.1 HXa.out.2 HQ2.out.2.1).1, (bx2_below HXa.out.1 HXa.out.2 HQ2.out.2.1).2, (bx2_below HXb.out.1 HXb.out.2 HQ2.out.2.1).1, (bx2_below HXb.out.1 HXb.out.2 HQ2.out.2.1).2, (bx2_below HXx.out.1 HXx.out.2 HQ2.out.2.1).1, (bx2_below HXx.out.1 HXx.out.2 HQ2.out.2.1).2⟩
      | exact ⟨(bx2_below HXa.out.1 HXa.out.2 HQ3.out.2.1).1, (bx2_below HXa.out.1 HXa.out.2 HQ3.out.2.1).2, (bx2_below HXb.out.1 HXb.out.2 HQ3.out.2.1).1, (bx2_below HXb.out.1 HXb.out.2 HQ3.out.2.1).2, (bx2_below HXx.out.1 HXx.out.2 HQ3.out.2.1).1, (bx2_below HXx.out.1 HXx.out.2 HQ3.out.2.1).2⟩
      | exact ⟨(bx2_below HXa.out.1 HXa.out.2 HQ4.out.2.1).1, (bx2_below HXa.out.1 HXa.out.2 HQ4.out.2.1).2, (bx2_below HXb.out.1 HXb.out.2 HQ4.out.2.1).1, (bx2_below HXb.out.1 HXb.out.2 HQ4.out.2.1).2, (bx2_below HXx.out.1 HXx.out.2 HQ4.out.2.1).1, (bx2_below HXx.out.1 HXx.out.2 HQ4.out.2.1).2⟩
      | exact ⟨(bx2_below HXa.out.1 HXa.out.2 HQ5.out.2.1).1, (bx2_below HXa.out.1 HXa.out.2 HQ5.out.2.1).2, (bx2_below HXb.out.1 HXb.out.2 HQ5.out.2.1).1, (bx2_below HXb.out.1 HXb.out.2 HQ5.out.2.1).2, (bx2_below HXx.out.1 HXx.out.2 HQ5.out.2.1).1, (bx2_below HXx.out.1 HXx.out.2 HQ5.out.2.1).2⟩
      | exact ⟨(bx2_below HXa.out.1 HXa.out.2 HQ6.out.2.1).1, (bx2_below HXa.out.1 HXa.out.2 HQ6.out.2.1).2, (bx2_below HXb.out.1 HXb.out.2 HQ6.out.2.1).1, (bx2_below HXb.out.1 HXb.out.2 HQ6.out.2.1).2, (bx2_below HXx.out.1 HXx.out.2 HQ6.out.2.1).1, (bx2_below HXx.out.1 HXx.out.2 HQ6.out.2.1).2⟩
      | exact ⟨(bx2_below HXa.out.1 HXa.out.2 HQ7.out.2.1).1, (bx2_below HXa.out.1 HXa.out.2 HQ7.out.2.1).2, (bx2_below HXb.out.1 HXb.out.2 HQ7.out.2.1).1, (bx2_below HXb.out.1 HXb.out.2 HQ7.out.2.1).2, (bx2_below HXx.out.1 HXx.out.2 HQ7.out.2.1).1, (bx2_below HXx.out.1 HXx.out.2 HQ7.out.2.1).2⟩)
    (first
      | (go_at_call 15; refine (s4_refName HQ6.out na HNA.out nB HNAB.out).mono ?_; rintro _ z7 ⟨rfl, hs⟩; have HQ7 := Lib.hid hs; clear hs)
      | (go_at_call 14; refine (s4_name HQ5.out na HNA.out nB HNAB.out).mono ?_; rintro _ z6 ⟨rfl, hs⟩; have HQ6 := Lib.hid hs; clear hs)
      | (go_at_call 13; refine (s4_refSame HQ4.out 3 2 rfl rfl HLA.out.2 HLB.out.2 _ _ na nb sm HSM.out).mono ?_; rintro _ z5 ⟨rfl, hs⟩; have HQ5 := Lib.hid hs; clear hs)
      | (go_at_call 12; refine (s4_same HQ3.out 1 0 rfl rfl (by have := (st_row HQ3.out 1 rfl).2; have := HL0.out; omega) (by have := (st_row HQ3.out 0 rfl).2; have := HL1.out; omega) _ _ na nb sm HSM.out).mono ?_; rintro _ z4 ⟨rfl, hs⟩; have HQ4 := Lib.hid hs; clear hs)
      | (go_at_call 9; refine (s4_to HQ2.out 1 rfl HLB.out.2 _ nb).mono ?_; rintro _ z3 ⟨D3, m3, g3, rfl, hs⟩; have HQ3 := Lib.hid hs; clear hs)
      | (go_at_call 11; refine (s4_refCheck HQ1.out 2 rfl HLA.out.2 _ na HNA.out K HK.out).mono ?_; rintro _ z2 ⟨rfl, hs⟩; have HQ2 := Lib.hid hs; clear hs)
      | (go_at_call 10; refine (s4_check HQ0.out 0 rfl (by have := (st_row HQ0.out 0 rfl).2; have := HL0.out; omega) _ na HNA.out K HK.out).mono ?_; rintro _ z1 ⟨rfl, hs⟩; have HQ1 := Lib.hid hs; clear hs))
  have HW6 : Hid (Below w.heap.size w z7 ∧ w.heap.size ≤ z7.heap.size) := ⟨HW5.out.1.trans (HQ7.out.2.1.mono HW5.out.2), Nat.le_trans HW5.out.2 HQ7.out.2.1.size⟩
  have HXa : Hid (Bk w.heap.size na A0 n0 c0 z7) := bk_step HXa.out HQ7.out.2.1
  have HXb : Hid (Bk W1.heap.size nb A1 n1 c1 z7) := bk_step HXb.out HQ7.out.2.1
  have HXx : Hid (Bk u4.heap.size na C4 n4 e4 z7) := bk_step HXx.out HQ7.out.2.1
  have HS6 := Lib.hid (st_base HQ7.out)
  clear HS5 HW5 a0 a1 b0 b1 x0 x1
  clear HQ0 HQ1 HQ2 HQ3 HQ4 HQ5 HQ6 HQ7
  obtain ⟨a0, a1⟩ := HXa.out.1
  obtain ⟨b0, b1⟩ := HXb.out.1
  obtain ⟨x0, x1⟩ := HXx.out.1
  go_wp2_with fail
  refine (s4_refCheck HS6.out 3 rfl HLA.out.2 _ na HNA.out K HK.out).mono ?_
  rintro _ u7 ⟨rfl, hs⟩
  have HW7 : Hid (Below w.heap.size w u7 ∧ w.heap.size ≤ u7.heap.size) := ⟨HW6.out.1.trans (hs.2.1.mono HW6.out.2), Nat.le_trans HW6.out.2 hs.2.1.size⟩
  have HXa : Hid (Bk w.heap.size na A0 n0 c0 u7) := bk_step HXa.out hs.2.1
  have HXb : Hid (Bk W1.heap.size nb A1 n1 c1 u7) := bk_step HXb.out hs.2.1
  have HXx : Hid (Bk u4.heap.size na C4 n4 e4 u7) := bk_step HXx.out hs.2.1
  have HS7 := Lib.hid (st_base hs)
  clear HS6 HW6 a0 a1 b0 b1 x0 x1
  clear hs
  obtain ⟨a0, a1⟩ := HXa.out.1
  obtain ⟨b0, b1⟩ := HXb.out.1
  obtain ⟨x0, x1⟩ := HXx.out.1
  by_cases hk0 : K = 0
  case neg =>
    have hne : (K != 0) = true := by simpa using hk0
    clear hk0
    go_wp2_with fail
    go_ret
    exact ⟨rfl, HW7.out.1⟩
  subst hk0
  have HCR : Hid (checkR l0 = 0) := (check_parts HK.out).2.1
  obtain ⟨t, ht⟩ : ∃ t, textA ⟨na, l0⟩ = t := ⟨_, rfl⟩
  have HT := Lib.hid ht
  have HTL : Hid (t.length ≤ 1000) := by show _ ≤ _; rw [← ht]; exact text_le HK.out
  have HPT : Hid (parseA t = (0, ⟨na, l0⟩)) := by show _ = _; rw [← ht]; exact parse_text HK.out
  clear ht
  go_wp2_with fail
  refine (s4_text HS7.out 1 rfl _ na HLA.out.1 HCR.out t HT.out).mono ?_
  rintro _ u8 ⟨rfl, hs⟩
  have HW8 : Hid (Below w.heap.size w u8 ∧ w.heap.size ≤ u8.heap.size) := ⟨HW7.out.1.trans (hs.2.1.mono HW7.out.2), Nat.le_trans HW7.out.2 hs.2.1.size⟩
  have HXa : Hid (Bk w.heap.size na A0 n0 c0 u8) := bk_step HXa.out hs.2.1
  have HXb : Hid (Bk W1.heap.size nb A1 n1 c1 u8) := bk_step HXb.out hs.2.1
  have HXx : Hid (Bk u4.heap.size na C4 n4 e4 u8) := bk_step HXx.out hs.2.1
  have HS8 := Lib.hid (st_base hs)
  clear HS7 HW7 a0 a1 b0 b1 x0 x1
  clear hs
  obtain ⟨a0, a1⟩ := HXa.out.1
  obtain ⟨b0, b1⟩ := HXb.out.1
  obtain ⟨x0, x1⟩ := HXx.out.1
  go_wp2_with fail
  refine (s4_parse HS8.out t HTL.out 0 na l0 HPT.out).mono ?_
  rintro _ u9 ⟨C9, n9, e9, rfl, hs⟩
  have HW9 : Hid (Below w.heap.size w u9 ∧ w.heap.size ≤ u9.heap.size) := ⟨HW8.out.1.trans (hs.2.1.mono HW8.out.2), Nat.le_trans HW8.out.2 hs.2.1.size⟩
  have HXa : Hid (Bk w.heap.size na A0 n0 c0 u9) := bk_step HXa.out hs.2.1
  have HXb : Hid (Bk W1.heap.size nb A1 n1 c1 u9) := bk_step HXb.out hs.2.1
  have HXx : Hid (Bk u4.heap.size na C4 n4 e4 u9) := bk_step HXx.out hs.2.1
  have HS9 := Lib.hid (st_base hs)
  clear HS8 HW8 a0 a1 b0 b1 x0 x1
  clear hs
  obtain ⟨a0, a1⟩ := HXa.out.1
  obtain ⟨b0, b1⟩ := HXb.out.1
  obtain ⟨x0, x1⟩ := HXx.out.1
  have hnw := bk_new u9 na C9 n9 e9 30
  have hba := (Below.refl u9.heap.size u9).alloc (Nat.le_refl _) (.cells #[.string ⟨List.toArray na⟩, .slice C9 n9 e9] 30)
  obtain ⟨v10, hv10⟩ : ∃ v, u9.alloc (.cells #[.string ⟨List.toArray na⟩, .slice C9 n9 e9] 30) = v := ⟨_, rfl⟩
  rw [hv10] at hnw hba
  have HW10 : Hid (Below w.heap.size w v10 ∧ w.heap.size ≤ v10.heap.size) := ⟨HW9.out.1.trans (hba.mono HW9.out.2), Nat.le_trans HW9.out.2 hba.size⟩
  have HXa : Hid (Bk w.heap.size na A0 n0 c0 v10) := bk_step HXa.out hba
  have HXb : Hid (Bk W1.heap.size nb A1 n1 c1 v10) := bk_step HXb.out hba
  have HXx : Hid (Bk u4.heap.size na C4 n4 e4 v10) := bk_step HXx.out hba
  have HS10 := Lib.hid (st_base (st_step HS9.out hba))
  clear HS9 HW9 a0 a1 b0 b1 x0 x1
  have HXzz : Hid (Bk u9.heap.size na C9 n9 e9 v10) := hnw
  clear hnw hba
  obtain ⟨a0, a1⟩ := HXa.out.1
  obtain ⟨b0, b1⟩ := HXb.out.1
  obtain ⟨x0, x1⟩ := HXx.out.1
  obtain ⟨zz0, zz1⟩ := HXzz.out.1
  go_wp2_with fail
  clear hv10
  have HQ0 := Lib.hid (st_step HS10.out (Below.refl v10.heap.size v10).drew)
  go_region_held3 (fun w' => w'.cell? ⟨w.heap.size, 0, none⟩ = some (.string ⟨List.toArray na⟩) ∧ w'.cell? ⟨w.heap.size, 1, none⟩ = some (.slice A0 n0 c0) ∧ w'.cell? ⟨W1.heap.size, 0, none⟩ = some (.string ⟨List.toArray nb⟩) ∧ w'.cell? ⟨W1.heap.size, 1, none⟩ = some (.slice A1 n1 c1) ∧ w'.cell? ⟨u4.heap.size, 0, none⟩ = some (.string ⟨List.toArray na⟩) ∧ w'.cell? ⟨u4.heap.size, 1, none⟩ = some (.slice C4 n4 e4) ∧ w'.cell? ⟨u9.heap.size, 0, none⟩ = some (.string ⟨List.toArray na⟩) ∧ w'.cell? ⟨u9.heap.size, 1, none⟩ = some (.slice C9 n9 e9))
    (first
      | exact ⟨(bx2_below HXa.out.1 HXa.out.2 HQ0.out.2.1).1, (bx2_below HXa.out.1 HXa.out.2 HQ0.out.2.1).2, (bx2_below HXb.out.1 HXb.out.2 HQ0.out.2.1).1, (bx2_below HXb.out.1 HXb.out.2 HQ0.out.2.1).2, (bx2_below HXx.out.1 HXx.out.2 HQ0.out.2.1).1, (bx2_below HXx.out.1 HXx.out.2 HQ0.out.2.1).2, (bx2_below HXzz.out.1 HXzz.out.2 HQ0.out.2.1).1, (bx2_below HXzz.out.1 HXzz.out.2 HQ0.out.2.1).2⟩
      | exact ⟨(bx2_below HXa.out.1 HXa.out.2 HQ1.out.2.1).1, (bx2_below HXa.out.1 HXa.out.2 HQ1.out.2.1).2, (bx2_below HXb.out.1 HXb.out.2 HQ1.out.2.1).1, (bx2_below HXb.out.1 HXb.out.2 HQ1.out.2.1).2, (bx2_below HXx.out.1 HXx.out.2 HQ1.out.2.1).1, (bx2_below HXx.out.1 HXx.out.2 HQ1.out.2.1).2, (bx2_below HXzz.out.1 HXzz.out.2 HQ1.out.2.1).1, (bx2_below HXzz.out.1 HXzz.out.2 HQ1.out.2.1).2⟩
      | exact ⟨(bx2_below HXa.out.1 HXa.out.2 HQ2.out.2.1).1, (bx2_below HXa.out.1 HXa.out.2 HQ2.out.2.1).2, (bx2_below HXb.out.1 HXb.out.2 HQ2.out.2.1).1, (bx2_below HXb.out.1 HXb.out.2 HQ2.out.2.1).2, (bx2_below HXx.out.1 HXx.out.2 HQ2.out.2.1).1, (bx2_below HXx.out.1 HXx.out.2 HQ2.out.2.1).2, (bx2_below HXzz.out.1 HXzz.out.2 HQ2.out.2.1).1, (bx2_below HXzz.out.1 HXzz.out.2 HQ2.out.2.1).2⟩
      | exact ⟨(bx2_below HXa.out.1 HXa.out.2 HQ3.out.2.1).1, (bx2_below HXa.out.1 HXa.out.2 HQ3.out.2.1).2, (bx2_below HXb.out.1 HXb.out.2 HQ3.out.2.1).1, (bx2_below HXb.out.1 HXb.out.2 HQ3.out.2.1).2, (bx2_below HXx.out.1 HXx.out.2 HQ3.out.2.1).1, (bx2_below HXx.out.1 HXx.out.2 HQ3.out.2.1).2, (bx2_below HXzz.out.1 HXzz.out.2 HQ3.out.2.1).1, (bx2_below HXzz.out.1 HXzz.out.2 HQ3.out.2.1).2⟩)
    (first
      | (go_at_call 13; refine (s4_refSame HQ2.out 0 5 rfl rfl (by have := (st_row HQ2.out 0 rfl).2; have := HL0.out; omega) HLA.out.2 _ _ na na true (by simp)).mono ?_; rintro _ z3 ⟨rfl, hs⟩; have HQ3 := Lib.hid hs; clear hs)
      | (go_at_call 19; refine (s4_of HQ1.out 0 rfl (by have := (st_row HQ1.out 0 rfl).2; have := HL0.out; omega) _ na).mono ?_; rintro _ z2 ⟨D4, m4, g4, rfl, hs⟩; have HQ2 := Lib.hid hs; clear hs)
      | (go_at_call 18; refine (s4_refText HQ0.out 4 rfl _ na HLA.out.1 HCR.out t HT.out).mono ?_; rintro _ z1 ⟨rfl, hs⟩; have HQ1 := Lib.hid hs; clear hs))
  have HW11 : Hid (Below w.heap.size w z3 ∧ w.heap.size ≤ z3.heap.size) := ⟨HW10.out.1.trans (HQ3.out.2.1.mono HW10.out.2), Nat.le_trans HW10.out.2 HQ3.out.2.1.size⟩
  have HXa : Hid (Bk w.heap.size na A0 n0 c0 z3) := bk_step HXa.out HQ3.out.2.1
  have HXb : Hid (Bk W1.heap.size nb A1 n1 c1 z3) := bk_step HXb.out HQ3.out.2.1
  have HXx : Hid (Bk u4.heap.size na C4 n4 e4 z3) := bk_step HXx.out HQ3.out.2.1
  have HXzz : Hid (Bk u9.heap.size na C9 n9 e9 z3) := bk_step HXzz.out HQ3.out.2.1
  have HS11 := Lib.hid (st_base HQ3.out)
  clear HS10 HW10 a0 a1 b0 b1 x0 x1 zz0 zz1
  clear HQ0 HQ1 HQ2 HQ3
  obtain ⟨a0, a1⟩ := HXa.out.1
  obtain ⟨b0, b1⟩ := HXb.out.1
  obtain ⟨x0, x1⟩ := HXx.out.1
  obtain ⟨zz0, zz1⟩ := HXzz.out.1
  go_wp2_with fail
  go_ret
  exact ⟨rfl, HW11.out.1⟩
end Go.Proofs.YtbehmagjkdljfaaGreatDoor
