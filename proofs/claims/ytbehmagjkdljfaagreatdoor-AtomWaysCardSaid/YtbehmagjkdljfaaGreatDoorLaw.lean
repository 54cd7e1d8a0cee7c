/- The law AtomWays, walked. -/
import Derived.Test.YtbehmagjkdljfaaGreatDoorNd
namespace Go.Proofs.YtbehmagjkdljfaaGreatDoor
open Go.RowKit Rs At
attribute [local go_sem ↓] Go.wp_at_zero Go.wp_at_succ
/-- The row that a call made is laid into a block that was made ahead of the call. -/
theorem late_store {U r1 : World} {L : List Ent} {T : TypeId} {C : Option Addr} {n : Nat} {l : List Sp} (name : List UInt8) (e : Nat) (hS : St U U L)
    (hb : Below (U.alloc (.cells #[.string ⟨#[]⟩, .slice none 0 0] T)).heap.size (U.alloc (.cells #[.string ⟨#[]⟩, .slice none 0 0] T)) r1) (hr : SRow r1 C l) (hn : l.length = n) :
    St U ((r1.setCell ⟨U.heap.size, 0, none⟩ (.string ⟨name.toArray⟩)).setCell ⟨U.heap.size, 1, none⟩ (.slice C n e)) (⟨C, n, l⟩ :: L) ∧
    Bk U.heap.size name C n e ((r1.setCell ⟨U.heap.size, 0, none⟩ (.string ⟨name.toArray⟩)).setCell ⟨U.heap.size, 1, none⟩ (.slice C n e)) := by
  obtain ⟨d0, d1, _, _⟩ := cell_two (w := U) rfl hb
  have e1 : r1.heap[U.heap.size]? = some (.cells #[.string ⟨#[]⟩, .slice none 0 0] T (0, 0)) := (hb.block _ (by simp)).trans (heap_alloc_new U _)
  have hno : ∀ j, 2 ≤ j → r1.cell? ⟨U.heap.size, j, none⟩ = none := fun j hj => by simp [World.cell?, e1]; omega
  have hap := row_apart hr hno
  have hB : Below U.heap.size U r1 := ((Below.refl _ _).alloc (Nat.le_refl _) _).trans (hb.mono (by simp))
  have hlt : U.heap.size < r1.heap.size := Nat.lt_of_lt_of_le (by simp) hb.size
  refine ⟨st_new hS ((hB.setCell (Nat.le_refl _) _).setCell (Nat.le_refl _) _) (srow_far (srow_far hr hap) hap) hn, ⟨?_, ?_⟩, ?_⟩
  · simp [go_sem, d0]
  · simp [go_sem, d1]
  · simpa using hlt
theorem soon_store {U r1 : World} {L : List Ent} {T : TypeId} {C : Option Addr} {n : Nat} (name : List UInt8) (e : Nat) (hS : St U r1 L) :
    St U (r1.alloc (.cells #[.string ⟨name.toArray⟩, .slice C n e] T)) L ∧ Bk r1.heap.size name C n e (r1.alloc (.cells #[.string ⟨name.toArray⟩, .slice C n e] T)) :=
  ⟨st_step hS ((Below.refl _ _).alloc (Nat.le_refl _) _), bk_new _ _ _ _ _ _⟩
set_option maxRecDepth 100000 in
set_option maxHeartbeats 16000000 in
theorem atomWays_any (A0 : Option Addr) (n0 c0 : Nat) (l0 : List Sp) (A1 : Option Addr) (n1 c1 : Nat) (l1 : List Sp) (v : List UInt8) (w : World) (hw : MaxOk w)
    (hn0 : l0.length = n0) (hr0 : SRow w A0 l0) (hm0 : n0 ≤ maxLen) (_ : Wide l0) (hn1 : l1.length = n1) (hr1 : SRow w A1 l1) (hm1 : n1 ≤ maxLen) (_ : Wide l1) :
    Calls Tryz.prog 6 #[.slice A0 n0 c0, .slice A1 n1 c1, .string ⟨v.toArray⟩] w fun e w' => e = .returned (.bool true) ∧ Below w.heap.size w w' := by
  have HW0 : Hid (Below w.heap.size w w ∧ w.heap.size ≤ w.heap.size) := ⟨Below.refl _ _, Nat.le_refl _⟩
  have HS0 : Hid (St w w [⟨A1, n1, l1⟩, ⟨A0, n0, l0⟩]) := ⟨hw, Below.refl _ _, fun x hx => by
    simp only [List.mem_cons, List.not_mem_nil, or_false] at hx
    rcases hx with rfl | rfl
    · exact ⟨hr1, hn1⟩
    · exact ⟨hr0, hn0⟩⟩
  have HM0 := Lib.hid hm0
  have HM1 := Lib.hid hm1
  obtain ⟨X, hX⟩ : ∃ r, nrmR l0 = r := ⟨_, rfl⟩
  obtain ⟨Y, hY⟩ : ∃ r, nrmR l1 = r := ⟨_, rfl⟩
  obtain ⟨ke, hke⟩ : ∃ r, normE 0 l0 = r := ⟨_, rfl⟩
  obtain ⟨kf, hkf⟩ : ∃ r, normE 0 l1 = r := ⟨_, rfl⟩
  have HX := Lib.hid hX
  have HY := Lib.hid hY
  have HKE := Lib.hid hke
  have HKF := Lib.hid hkf
  have HGX : Hid (Rs.Good X) := by show Rs.Good _; rw [← hX]; exact nrmR_good _
  have HGY : Hid (Rs.Good Y) := by show Rs.Good _; rw [← hY]; exact nrmR_good _
  have HLX : Hid ((X.map spOf).length ≤ 64) := by show _ ≤ _; rw [List.length_map]; exact HGX.out.2.2
  have HLY : Hid ((Y.map spOf).length ≤ 64) := by show _ ≤ _; rw [List.length_map]; exact HGY.out.2.2
  obtain ⟨kp, hkp⟩ : ∃ k, checkA ⟨[110], X.map spOf⟩ = k := ⟨_, rfl⟩
  obtain ⟨kq, hkq⟩ : ∃ k, checkA ⟨[110], Y.map spOf⟩ = k := ⟨_, rfl⟩
  obtain ⟨kv, hkv⟩ : ∃ k, Vm.check v = k := ⟨_, rfl⟩
  have HKP := Lib.hid hkp
  have HKQ := Lib.hid hkq
  have HKV := Lib.hid hkv
  clear hw hn0 hr0 hm0 hn1 hr1 hm1 hX hY hke hkf hkp hkq hkv
  go_enter Tryz.func6, Tryz.ntmps6
  go_wp2_with fail
  refine (s_known4 HS0.out).mono ?_
  rintro _ u1 ⟨rfl, hs⟩
  have HW1 : Hid (Below w.heap.size w u1 ∧ w.heap.size ≤ u1.heap.size) := ⟨HW0.out.1.trans (hs.2.1.mono HW0.out.2), Nat.le_trans HW0.out.2 hs.2.1.size⟩
  have HS1 := Lib.hid (st_base hs)
  clear HS0 HW0 
  clear hs
  go_wp2_with fail
  refine (s_refNormL HS1.out 1 rfl HM0.out _ X ke HX.out HKE.out).mono ?_
  rintro _ u2 ⟨C2, n2, e2, rfl, hs⟩
  have HW2 : Hid (Below w.heap.size w u2 ∧ w.heap.size ≤ u2.heap.size) := ⟨HW1.out.1.trans (hs.2.1.mono HW1.out.2), Nat.le_trans HW1.out.2 hs.2.1.size⟩
  have HS2 := Lib.hid (st_base hs)
  clear HS1 HW1 
  clear hs
  go_wp2_with fail
  refine (s_refNormL HS2.out 1 rfl HM1.out _ Y kf HY.out HKF.out).mono ?_
  rintro _ u3 ⟨C3, n3, e3, rfl, hs⟩
  have HW3 : Hid (Below w.heap.size w u3 ∧ w.heap.size ≤ u3.heap.size) := ⟨HW2.out.1.trans (hs.2.1.mono HW2.out.2), Nat.le_trans HW2.out.2 hs.2.1.size⟩
  have HS3 := Lib.hid (st_base hs)
  clear HS2 HW2 
  clear hs
  have hnw := bk_new u3 [110] C2 n2 e2 24
  have hba := (Below.refl u3.heap.size u3).alloc (Nat.le_refl _) (.cells #[.string ⟨List.toArray [110]⟩, .slice C2 n2 e2] 24)
  obtain ⟨v4, hv4⟩ : ∃ v, u3.alloc (.cells #[.string ⟨List.toArray [110]⟩, .slice C2 n2 e2] 24) = v := ⟨_, rfl⟩
  rw [hv4] at hnw hba
  have HW4 : Hid (Below w.heap.size w v4 ∧ w.heap.size ≤ v4.heap.size) := ⟨HW3.out.1.trans (hba.mono HW3.out.2), Nat.le_trans HW3.out.2 hba.size⟩
  have HS4 := Lib.hid (st_base (st_step HS3.out hba))
  clear HS3 HW3 
  have HXp : Hid (Bk u3.heap.size [110] C2 n2 e2 v4) := hnw
  clear hnw hba
  obtain ⟨p0, p1⟩ := HXp.out.1
  have hnw := bk_new v4 [110] C3 n3 e3 24
  have hba := (Below.refl v4.heap.size v4).alloc (Nat.le_refl _) (.cells #[.string ⟨List.toArray [110]⟩, .slice C3 n3 e3] 24)
  obtain ⟨v5, hv5⟩ : ∃ v, v4.alloc (.cells #[.string ⟨List.toArray [110]⟩, .slice C3 n3 e3] 24) = v := ⟨_, rfl⟩
  rw [hv5] at hnw hba
  have HW5 : Hid (Below w.heap.size w v5 ∧ w.heap.size ≤ v5.heap.size) := ⟨HW4.out.1.trans (hba.mono HW4.out.2), Nat.le_trans HW4.out.2 hba.size⟩
  have HXp : Hid (Bk u3.heap.size [110] C2 n2 e2 v5) := bk_step HXp.out hba
  have HS5 := Lib.hid (st_base (st_step HS4.out hba))
  clear HS4 HW4 p0 p1
  have HXq : Hid (Bk v4.heap.size [110] C3 n3 e3 v5) := hnw
  clear hnw hba
  obtain ⟨p0, p1⟩ := HXp.out.1
  obtain ⟨q0, q1⟩ := HXq.out.1
  have hz : v4.heap.size = u3.heap.size + 1 := by rw [← hv4]; simp
  rw [← hv4] at hv5
  rw [hz] at HXq q0 q1
  clear hz hv4
  by_cases hk0 : ke = 0
  case neg =>
    have hne : (ke != 0) = true := by simpa using hk0
    clear hk0
    go_wp2_with fail
    go_ret
    exact ⟨rfl, HW5.out.1⟩
  subst hk0
  by_cases hk0 : kf = 0
  case neg =>
    have hne : (kf != 0) = true := by simpa using hk0
    clear hk0
    go_wp2_with fail
    go_ret
    exact ⟨rfl, HW5.out.1⟩
  subst hk0
  go_wp2_with fail
  clear hv5
  refine (s4_refCheck HS5.out 1 rfl (by have := (st_row HS5.out 1 rfl).2; have := HLX.out; omega) _ [110] (by decide) kp HKP.out).mono ?_
  rintro _ u6 ⟨rfl, hs⟩
  have HW6 : Hid (Below w.heap.size w u6 ∧ w.heap.size ≤ u6.heap.size) := ⟨HW5.out.1.trans (hs.2.1.mono HW5.out.2), Nat.le_trans HW5.out.2 hs.2.1.size⟩
  have HXp : Hid (Bk u3.heap.size [110] C2 n2 e2 u6) := bk_step HXp.out hs.2.1
  have HXq : Hid (Bk (u3.heap.size+1) [110] C3 n3 e3 u6) := bk_step HXq.out hs.2.1
  have HS6 := Lib.hid (st_base hs)
  clear HS5 HW5 p0 p1 q0 q1
  clear hs
  obtain ⟨p0, p1⟩ := HXp.out.1
  obtain ⟨q0, q1⟩ := HXq.out.1
  by_cases hk0 : kp = 0
  case neg =>
    have hne : (kp != 0) = true := by simpa using hk0
    clear hk0
    go_wp2_with fail
    go_ret
    exact ⟨rfl, HW6.out.1⟩
  subst hk0
  go_wp2_with fail
  refine (s4_refCheck HS6.out 0 rfl (by have := (st_row HS6.out 0 rfl).2; have := HLY.out; omega) _ [110] (by decide) kq HKQ.out).mono ?_
  rintro _ u7 ⟨rfl, hs⟩
  have HW7 : Hid (Below w.heap.size w u7 ∧ w.heap.size ≤ u7.heap.size) := ⟨HW6.out.1.trans (hs.2.1.mono HW6.out.2), Nat.le_trans HW6.out.2 hs.2.1.size⟩
  have HXp : Hid (Bk u3.heap.size [110] C2 n2 e2 u7) := bk_step HXp.out hs.2.1
  have HXq : Hid (Bk (u3.heap.size+1) [110] C3 n3 e3 u7) := bk_step HXq.out hs.2.1
  have HS7 := Lib.hid (st_base hs)
  clear HS6 HW6 p0 p1 q0 q1
  clear hs
  obtain ⟨p0, p1⟩ := HXp.out.1
  obtain ⟨q0, q1⟩ := HXq.out.1
  by_cases hk0 : kq = 0
  case neg =>
    have hne : (kq != 0) = true := by simpa using hk0
    clear hk0
    go_wp2_with fail
    go_ret
    exact ⟨rfl, HW7.out.1⟩
  subst hk0
  go_wp2_with fail
  refine (s_checkVer HS7.out v kv HKV.out).mono ?_
  rintro _ u8 ⟨rfl, hs⟩
  have HW8 : Hid (Below w.heap.size w u8 ∧ w.heap.size ≤ u8.heap.size) := ⟨HW7.out.1.trans (hs.2.1.mono HW7.out.2), Nat.le_trans HW7.out.2 hs.2.1.size⟩
  have HXp : Hid (Bk u3.heap.size [110] C2 n2 e2 u8) := bk_step HXp.out hs.2.1
  have HXq : Hid (Bk (u3.heap.size+1) [110] C3 n3 e3 u8) := bk_step HXq.out hs.2.1
  have HS8 := Lib.hid (st_base hs)
  clear HS7 HW7 p0 p1 q0 q1
  clear hs
  obtain ⟨p0, p1⟩ := HXp.out.1
  obtain ⟨q0, q1⟩ := HXq.out.1
  by_cases hk0 : kv = 0
  case neg =>
    have hne : (kv != 0) = true := by simpa using hk0
    clear hk0
    go_wp2_with fail
    go_ret
    exact ⟨rfl, HW8.out.1⟩
  subst hk0
  by_cases hl1 : n2 = 1
  case neg =>
    have hne : ((n2 : Int) != 1) = true := by simpa using (by omega : ¬ (n2 : Int) = 1)
    clear hl1
    go_wp2_with fail
    go_ret
    exact ⟨rfl, HW8.out.1⟩
  subst hl1
  obtain ⟨x, rfl⟩ : ∃ x, X = [x] := List.length_eq_one_iff.1 (by have h := (st_row HS8.out 1 rfl).2; rw [List.length_map] at h; exact h)
  by_cases hl1 : n3 = 1
  case neg =>
    have hne : ((n3 : Int) != 1) = true := by simpa using (by omega : ¬ (n3 : Int) = 1)
    clear hl1
    go_wp2_with fail
    go_ret
    exact ⟨rfl, HW8.out.1⟩
  subst hl1
  obtain ⟨y, rfl⟩ : ∃ x, Y = [x] := List.length_eq_one_iff.1 (by have h := (st_row HS8.out 0 rfl).2; rw [List.length_map] at h; exact h)
  obtain ⟨s, hs⟩ : ∃ s, textA ⟨[110], [Rs.spOf x]⟩ = s := ⟨_, rfl⟩
  obtain ⟨t, ht⟩ : ∃ t, textA ⟨[110], [Rs.spOf y]⟩ = t := ⟨_, rfl⟩
  have HT1 := Lib.hid hs
  have HT2 := Lib.hid ht
  have HC1 : Hid (checkR [Rs.spOf x] = 0) := (check_parts HKP.out).2.1
  have HC2 : Hid (checkR [Rs.spOf y] = 0) := (check_parts HKQ.out).2.1
  clear hs ht
  go_wp2_with fail
  have HQ0 := Lib.hid (st_step HS8.out (Below.refl u8.heap.size u8).drew)
  go_region_held3 (fun w' => w'.cell? ⟨u3.heap.size, 0, none⟩ = some (.string ⟨List.toArray [110]⟩) ∧ w'.cell? ⟨u3.heap.size, 1, none⟩ = some (.slice C2 1 e2) ∧ w'.cell? ⟨(u3.heap.size+1), 0, none⟩ = some (.string ⟨List.toArray [110]⟩) ∧ w'.cell? ⟨(u3.heap.size+1), 1, none⟩ = some (.slice C3 1 e3))
    (first
      | exact ⟨(bx2_below HXp.out.1 HXp.out.2 HQ0.out.2.1).1, (bx2_below HXp.out.1 HXp.out.2 HQ0.out.2.1).2, (bx2_below HXq.out.1 HXq.out.2 HQ0.out.2.1).1, (bx2_below HXq.out.1 HXq.out.2 HQ0.out.2.1).2⟩
      | exact ⟨(bx2_below HXp.out.1 HXp.out.2 HQ1.out.2.1).1, (bx2_below HXp.out.1 HXp.out.2 HQ1.out.2.1).2, (bx2_below HXq.out.1 HXq.out.2 HQ1.out.2.1).1, (bx2_below HXq.out.1 HXq.out.2 HQ1.out.2.1).2⟩
      | exact ⟨(bx2_below HXp.out.1 HXp.out.2 HQ2.out.2.1).1, (bx2_below HXp.out.1 HXp.out.2 HQ2.out.2.1).2, (bx2_below HXq.out.1 HXq.out.2 HQ2.out.2.1).1, (bx2_below HXq.out.1 HXq.out.2 HQ2.out.2.1).2⟩)
    (first
      | (go_at_call 18; refine (s4_refText HQ1.out 0 rfl _ [110] (by decide) HC2.out t HT2.out).mono ?_; rintro _ z2 ⟨rfl, hs⟩; have HQ2 := Lib.hid hs; clear hs)
      | (go_at_call 18; refine (s4_refText HQ0.out 1 rfl _ [110] (by decide) HC1.out s HT1.out).mono ?_; rintro _ z1 ⟨rfl, hs⟩; have HQ1 := Lib.hid hs; clear hs))
  have HW9 : Hid (Below w.heap.size w z2 ∧ w.heap.size ≤ z2.heap.size) := ⟨HW8.out.1.trans (HQ2.out.2.1.mono HW8.out.2), Nat.le_trans HW8.out.2 HQ2.out.2.1.size⟩
  have HXp : Hid (Bk u3.heap.size [110] C2 1 e2 z2) := bk_step HXp.out HQ2.out.2.1
  have HXq : Hid (Bk (u3.heap.size+1) [110] C3 1 e3 z2) := bk_step HXq.out HQ2.out.2.1
  have HS9 := Lib.hid (st_base HQ2.out)
  clear HS8 HW8 p0 p1 q0 q1
  clear HQ0 HQ1 HQ2
  obtain ⟨p0, p1⟩ := HXp.out.1
  obtain ⟨q0, q1⟩ := HXq.out.1
  by_cases h4 : s.length < 4
  case pos =>
    have h4d : decide ((s.length : Int) < 4) = true := decide_eq_true (by omega)
    clear h4
    go_wp2_with fail
    go_ret
    exact ⟨rfl, HW9.out.1⟩
  have s4 : decide ((s.length : Int) < 4) = false := decide_eq_false (by omega)
  have H4s : Hid (4 ≤ s.length) := by show _ ≤ _; omega
  clear h4
  by_cases h4 : t.length < 4
  case pos =>
    have h4d : decide ((t.length : Int) < 4) = true := decide_eq_true (by omega)
    clear h4
    go_wp2_with fail
    go_ret
    exact ⟨rfl, HW9.out.1⟩
  have t4 : decide ((t.length : Int) < 4) = false := decide_eq_false (by omega)
  have H4t : Hid (4 ≤ t.length) := by show _ ≤ _; omega
  clear h4
  have hnx : [Rs.spOf x] ≠ allS := fun e => by
    have h := H4s.out
    rw [← HT1.out] at h
    unfold textA at h
    rw [if_pos (show [Rs.spOf x] = allS from e)] at h
    simp at h
  obtain ⟨hwx, htx⟩ := wsp_text (show checkA ⟨[110], [Rs.spOf x]⟩ = 0 from HKP.out) hnx
  rw [HT1.out] at htx
  have HWx := Lib.hid hwx
  have HPx : Hid ((Rs.spOf x).piece = x) := spOf_piece (HGX.out.2.1 x (by simp))
  have hny : [Rs.spOf y] ≠ allS := fun e => by
    have h := H4t.out
    rw [← HT2.out] at h
    unfold textA at h
    rw [if_pos (show [Rs.spOf y] = allS from e)] at h
    simp at h
  obtain ⟨hwy, hty⟩ := wsp_text (show checkA ⟨[110], [Rs.spOf y]⟩ = 0 from HKQ.out) hny
  rw [HT2.out] at hty
  have HWy := Lib.hid hwy
  have HPy : Hid ((Rs.spOf y).piece = y) := spOf_piece (HGY.out.2.1 y (by simp))
  have hlx := wsp_len hwx
  have hly := wsp_len hwy
  have hpo := wsp_or hwx hwy
  have hpa := wsp_and hwx hwy
  have hha := wsp_has hwx hwy HKV.out
  rw [HPx.out, HPy.out] at hpo hha
  rw [HPx.out] at hpa
  obtain ⟨RO, hRO⟩ : ∃ r, orR (orR [] [x]) [y] = r := ⟨_, rfl⟩
  obtain ⟨RA, hRA⟩ : ∃ r, orR [] (hAlt [x] (conds (Rs.spOf y))).2 = r := ⟨_, rfl⟩
  rw [hRO] at hpo hha
  rw [hRA] at hpa hha
  obtain ⟨bx, hbx⟩ : ∃ b, hasR [x] v = b := ⟨_, rfl⟩
  obtain ⟨by', hby⟩ : ∃ b, hasR [y] v = b := ⟨_, rfl⟩
  rw [hbx, hby] at hha
  have HBX := Lib.hid hbx
  have HBY := Lib.hid hby
  have HHA := Lib.hid hha
  obtain ⟨B1, hB1⟩ : ∃ b, altT (conds (Rs.spOf x)) = b := ⟨_, rfl⟩
  obtain ⟨B2, hB2⟩ : ∃ b, altT (conds (Rs.spOf y)) = b := ⟨_, rfl⟩
  rw [hB1] at htx hpo hpa hlx
  rw [hB2] at hty hpo hpa hly
  obtain ⟨px, hpx⟩ : ∃ p, [110, 32, 40] ++ B1 = p := ⟨_, rfl⟩
  obtain ⟨qy, hqy⟩ : ∃ p, B2 ++ [41] = p := ⟨_, rfl⟩
  have hpl : px.length ≤ 95 := by rw [← hpx, List.length_append]; show 3 + _ ≤ _; omega
  have hql : qy.length ≤ 93 := by rw [← hqy, List.length_append]; show _ + 1 ≤ _; omega
  have htx2 : s = px ++ [41] := by rw [htx, hpx]
  have hty2 : t = [110, 32, 40] ++ qy := by rw [hty, ← hqy, List.append_assoc]
  obtain ⟨m1, hm1⟩ : ∃ p, px ++ [32, 124, 32] = p := ⟨_, rfl⟩
  obtain ⟨m2, hm2⟩ : ∃ p, px ++ [32, 38, 32] = p := ⟨_, rfl⟩
  have hml1 : m1.length ≤ 98 := by rw [← hm1, List.length_append]; show _ + 3 ≤ _; omega
  have hml2 : m2.length ≤ 98 := by rw [← hm2, List.length_append]; show _ + 3 ≤ _; omega
  obtain ⟨o1, ho1⟩ : ∃ p, m1 ++ qy = p := ⟨_, rfl⟩
  obtain ⟨o2, ho2⟩ : ∃ p, m2 ++ qy = p := ⟨_, rfl⟩
  have HO1 : Hid (o1.length ≤ 1000) := by show _ ≤ _; rw [← ho1, List.length_append]; omega
  have HO2 : Hid (o2.length ≤ 1000) := by show _ ≤ _; rw [← ho2, List.length_append]; omega
  have HPO : Hid (parseA o1 = (0, ⟨[110], RO.map Rs.spOf⟩)) := by
    show _ = _; rw [← hpo, ← ho1, ← hm1, ← hpx, ← hqy]; simp
  have HPA : Hid (parseA o2 = (0, ⟨[110], RA.map Rs.spOf⟩)) := by
    show _ = _; rw [← hpa, ← ho2, ← hm2, ← hpx, ← hqy]; simp
  have hex : (⟨s.toArray⟩ : ByteArray).extract 0 (s.length - 1) = ⟨px.toArray⟩ := by rw [piece_of, htx2]; simp
  have hey : (⟨t.toArray⟩ : ByteArray).extract 3 t.length = ⟨qy.toArray⟩ := by rw [piece_of, hty2]; simp
  have f1 : ∀ W : World, (Op.stringOp .add ⟨px.toArray⟩ ⟨#[32, 124, 32]⟩).run Tryz.prog W = .ok (.string ⟨m1.toArray⟩) W := fun W => by
    rw [cat_run _ _ (by show px.toArray.size + 3 ≤ _; rw [List.size_toArray]; omega) W, ← hm1]; exact congrArg (fun z => Result.ok (Value.string z) W) (by first | (rw [ByteArray.mk_append_mk]; done) | (rw [ByteArray.mk_append_mk]; simp))
  have f2 : ∀ W : World, (Op.stringOp .add ⟨px.toArray⟩ ⟨#[32, 38, 32]⟩).run Tryz.prog W = .ok (.string ⟨m2.toArray⟩) W := fun W => by
    rw [cat_run _ _ (by show px.toArray.size + 3 ≤ _; rw [List.size_toArray]; omega) W, ← hm2]; exact congrArg (fun z => Result.ok (Value.string z) W) (by first | (rw [ByteArray.mk_append_mk]; done) | (rw [ByteArray.mk_append_mk]; simp))
  have f3 : ∀ W : World, (Op.stringOp .add ⟨m1.toArray⟩ ⟨qy.toArray⟩).run Tryz.prog W = .ok (.string ⟨o1.toArray⟩) W := fun W => by
    rw [cat_run _ _ (by show m1.toArray.size + qy.toArray.size ≤ _; rw [List.size_toArray, List.size_toArray]; omega) W, ← ho1]; exact congrArg (fun z => Result.ok (Value.string z) W) (by first | (rw [ByteArray.mk_append_mk]; done) | (rw [ByteArray.mk_append_mk]; simp))
  have f4 : ∀ W : World, (Op.stringOp .add ⟨m2.toArray⟩ ⟨qy.toArray⟩).run Tryz.prog W = .ok (.string ⟨o2.toArray⟩) W := fun W => by
    rw [cat_run _ _ (by show m2.toArray.size + qy.toArray.size ≤ _; rw [List.size_toArray, List.size_toArray]; omega) W, ← ho2]; exact congrArg (fun z => Result.ok (Value.string z) W) (by first | (rw [ByteArray.mk_append_mk]; done) | (rw [ByteArray.mk_append_mk]; simp))
  have hsl : 5 ≤ s.length ∧ s.length ≤ 100 := by rw [htx2, List.length_append]; show 5 ≤ _ + 1 ∧ _ + 1 ≤ _; rw [← hpx, List.length_append]; show 5 ≤ 3 + _ + 1 ∧ 3 + _ + 1 ≤ _; omega
  have htl : 5 ≤ t.length ∧ t.length ≤ 100 := by rw [hty2, List.length_append]; show 5 ≤ 3 + _ ∧ 3 + _ ≤ _; rw [← hqy, List.length_append]; show 5 ≤ 3 + (_ + 1) ∧ 3 + (_ + 1) ≤ _; omega
  have b0 : (0 : Int) ≤ (s.length : Int) - 1 := by omega
  have b1 : (s.length : Int) - 1 ≤ (s.length : Int) := by omega
  have b2 : IntKind.i64.wrap ((s.length : Int) - 1) = (s.length : Int) - 1 := IntWalk.i64_in _ (by omega)
  have b3 : ((s.length : Int) - 1).toNat = s.length - 1 := by omega
  have b4 : (3 : Int) ≤ (t.length : Int) := by omega
  have b5 : 0 < s.length := by omega
  have b6 : (1 : Int) ≤ (s.length : Int) := by omega
  have b7 : ((s.length - 1 : Nat) : Int) ≤ (s.length : Int) := by omega
  have HGO := Lib.hid hha.1.1
  have HGA := Lib.hid hha.2.1
  clear hnx hny hwx hwy htx hty HWx HWy HPx HPy hlx hly hpo hpa hha hRO hRA hbx hby hB1 hB2 hpx hqy hpl hql htx2 hty2 hm1 hm2 hml1 hml2 ho1 ho2 hsl htl
  clear HXp p0 p1
  clear HXq q0 q1
  go_wp2_with fail
  have HQ0 := Lib.hid (st_step HS9.out (Below.refl z2.heap.size z2).drew)
  go_region_held3 (fun _ => True) (trivial)
    (first
      | (go_at_call 17; refine (s4_parse HQ0.out o1 HO1.out 0 [110] _ HPO.out).mono ?_; rintro _ rg ⟨Cg, ng, eg, rfl, hs⟩; have HQ1 := Lib.hid hs; clear hs)
      | (go_at_call 17; refine (s4_parse (st_step (st_base (st_step HS9.out ((Below.refl _ _).alloc (Nat.le_refl _) (.cells #[.string ⟨#[]⟩, .slice none 0 0] 30)))) (Below.refl _ _).drew) o1 HO1.out 0 [110] _ HPO.out).mono ?_; rintro _ rg ⟨Cg, ng, eg, rfl, hs⟩; obtain ⟨d0, d1, g0, g1⟩ := cell_two rfl hs.2.1; have HLS := Lib.hid (late_store [110] eg HS9.out hs.2.1 (st_row hs 0 rfl).1 (st_row hs 0 rfl).2); clear hs))
  all_goals clear HQ0
  all_goals first
    | (obtain ⟨hv1, hv2⟩ := HLS.out; clear HLS d0 d1 g0 g1; generalize (rg.setCell ⟨z2.heap.size, 0, none⟩ (.string ⟨#[110]⟩)).setCell ⟨z2.heap.size, 1, none⟩ (.slice Cg ng eg) = vg at *)
    | (obtain ⟨hv1, hv2⟩ := soon_store (T := 30) (C := Cg) (n := ng) [110] eg HQ1.out; clear HQ1; generalize rg.alloc (.cells #[.string ⟨#[110]⟩, .slice Cg ng eg] 30) = vg at *)
  all_goals (
    have HW10 : Hid (Below w.heap.size w vg ∧ w.heap.size ≤ vg.heap.size) := ⟨HW9.out.1.trans (hv1.2.1.mono HW9.out.2), Nat.le_trans HW9.out.2 hv1.2.1.size⟩
    have HS10 := Lib.hid (st_base hv1)
    clear HS9 HW9 
    have HXg := Lib.hid hv2
    clear hv1 hv2
    obtain ⟨g0, g1⟩ := HXg.out.1
    go_wp2_with fail
    have HQ0 := Lib.hid (st_step HS10.out (Below.refl vg.heap.size vg).drew)
    go_region_held3 (fun _ => True) (trivial)
      (first
        | (go_at_call 17; refine (s4_parse HQ0.out o2 HO2.out 0 [110] _ HPA.out).mono ?_; rintro _ rh ⟨Ch, nh, eh, rfl, hs⟩; have HQ1 := Lib.hid hs; clear hs)
        | (go_at_call 17; refine (s4_parse (st_step (st_base (st_step HS10.out ((Below.refl _ _).alloc (Nat.le_refl _) (.cells #[.string ⟨#[]⟩, .slice none 0 0] 30)))) (Below.refl _ _).drew) o2 HO2.out 0 [110] _ HPA.out).mono ?_; rintro _ rh ⟨Ch, nh, eh, rfl, hs⟩; obtain ⟨d0, d1, g0, g1⟩ := cell_two rfl hs.2.1; have HLS := Lib.hid (late_store [110] eh HS10.out hs.2.1 (st_row hs 0 rfl).1 (st_row hs 0 rfl).2); clear hs))
    all_goals clear HQ0
    all_goals first
      | (obtain ⟨hv1, hv2⟩ := HLS.out; clear HLS d0 d1 g0 g1; generalize (rh.setCell ⟨vg.heap.size, 0, none⟩ (.string ⟨#[110]⟩)).setCell ⟨vg.heap.size, 1, none⟩ (.slice Ch nh eh) = vh at *)
      | (obtain ⟨hv1, hv2⟩ := soon_store (T := 30) (C := Ch) (n := nh) [110] eh HQ1.out; clear HQ1; generalize rh.alloc (.cells #[.string ⟨#[110]⟩, .slice Ch nh eh] 30) = vh at *)
    all_goals (
      have HW11 : Hid (Below w.heap.size w vh ∧ w.heap.size ≤ vh.heap.size) := ⟨HW10.out.1.trans (hv1.2.1.mono HW10.out.2), Nat.le_trans HW10.out.2 hv1.2.1.size⟩
      have HXg : Hid (Bk _ [110] Cg ng eg vh) := bk_step HXg.out hv1.2.1
      have HS11 := Lib.hid (st_base hv1)
      clear HS10 HW10 g0 g1
      have HXh := Lib.hid hv2
      clear hv1 hv2
      obtain ⟨g0, g1⟩ := HXg.out.1
      obtain ⟨h0, h1⟩ := HXh.out.1
      go_wp2_with fail
      refine (s_refHas HS11.out 3 rfl HGX.out _ v HKV.out bx HBX.out).mono ?_
      rintro _ u12 ⟨rfl, hs⟩
      have HW12 : Hid (Below w.heap.size w u12 ∧ w.heap.size ≤ u12.heap.size) := ⟨HW11.out.1.trans (hs.2.1.mono HW11.out.2), Nat.le_trans HW11.out.2 hs.2.1.size⟩
      have HXg : Hid (Bk _ [110] Cg ng eg u12) := bk_step HXg.out hs.2.1
      have HXh : Hid (Bk _ [110] Ch nh eh u12) := bk_step HXh.out hs.2.1
      have HS12 := Lib.hid (st_base hs)
      clear HS11 HW11 g0 g1 h0 h1
      clear hs
      obtain ⟨g0, g1⟩ := HXg.out.1
      obtain ⟨h0, h1⟩ := HXh.out.1
      go_wp2_with fail
      refine (s_refHas HS12.out 2 rfl HGY.out _ v HKV.out by' HBY.out).mono ?_
      rintro _ u13 ⟨rfl, hs⟩
      have HW13 : Hid (Below w.heap.size w u13 ∧ w.heap.size ≤ u13.heap.size) := ⟨HW12.out.1.trans (hs.2.1.mono HW12.out.2), Nat.le_trans HW12.out.2 hs.2.1.size⟩
      have HXg : Hid (Bk _ [110] Cg ng eg u13) := bk_step HXg.out hs.2.1
      have HXh : Hid (Bk _ [110] Ch nh eh u13) := bk_step HXh.out hs.2.1
      have HS13 := Lib.hid (st_base hs)
      clear HS12 HW12 g0 g1 h0 h1
      clear hs
      obtain ⟨g0, g1⟩ := HXg.out.1
      obtain ⟨h0, h1⟩ := HXh.out.1
      cases bx <;> cases by'
      all_goals (
        go_wp2_with fail
        refine (s_has HS13.out 1 rfl HGO.out _ v HKV.out _ HHA.out.1.2).mono ?_
        rintro _ u14 ⟨rfl, hs⟩
        have HW14 : Hid (Below w.heap.size w u14 ∧ w.heap.size ≤ u14.heap.size) := ⟨HW13.out.1.trans (hs.2.1.mono HW13.out.2), Nat.le_trans HW13.out.2 hs.2.1.size⟩
        have HXg : Hid (Bk _ [110] Cg ng eg u14) := bk_step HXg.out hs.2.1
        have HXh : Hid (Bk _ [110] Ch nh eh u14) := bk_step HXh.out hs.2.1
        have HS14 := Lib.hid (st_base hs)
        clear HS13 HW13 g0 g1 h0 h1
        clear hs
        obtain ⟨g0, g1⟩ := HXg.out.1
        obtain ⟨h0, h1⟩ := HXh.out.1
        first
          | (go_wp2_with fail; go_ret; exact ⟨rfl, HW14.out.1⟩)
          | (
            go_wp2_with fail
            refine (s_has HS14.out 0 rfl HGA.out _ v HKV.out _ HHA.out.2.2).mono ?_
            rintro _ u15 ⟨rfl, hs⟩
            have HW15 : Hid (Below w.heap.size w u15 ∧ w.heap.size ≤ u15.heap.size) := ⟨HW14.out.1.trans (hs.2.1.mono HW14.out.2), Nat.le_trans HW14.out.2 hs.2.1.size⟩
            have HXg : Hid (Bk _ [110] Cg ng eg u15) := bk_step HXg.out hs.2.1
            have HXh : Hid (Bk _ [110] Ch nh eh u15) := bk_step HXh.out hs.2.1
            have HS15 := Lib.hid (st_base hs)
            clear HS14 HW14 g0 g1 h0 h1
            clear hs
            obtain ⟨g0, g1⟩ := HXg.out.1
            obtain ⟨h0, h1⟩ := HXh.out.1
            go_wp2_with fail
            go_ret
            exact ⟨rfl, HW15.out.1⟩))))
end Go.Proofs.YtbehmagjkdljfaaGreatDoor
