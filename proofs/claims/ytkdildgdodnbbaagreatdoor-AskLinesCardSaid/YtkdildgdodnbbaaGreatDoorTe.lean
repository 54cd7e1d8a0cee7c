/- The reference's atoms, walked: SameAtom, All. The reference's Name, walked. The reference's versions, walked. The reference's CheckAtom, walked. The reference's word, walked. -/
import Derived.Test.YtkdildgdodnbbaaGreatDoorTd
import Derived.Test.YtkdildgdodnbbaaGreatDoorKc
namespace Go.Proofs.YtkdildgdodnbbaaGreatDoor
open Go.RowKit Rs At
set_option maxRecDepth 100000 in
set_option maxHeartbeats 1600000 in
theorem refAll_any (w : World) : Calls Tryz.prog 25 #[] w (SpansRet w (allR.map spOf)) := by
  go_enter Tryz.func25, Tryz.ntmps25
  go_wp2_with fail
  go_ret
  refine ⟨⟨some ⟨w.heap.size, 0, none⟩, 1, rfl, fun _ => ⟨_, rfl, by simp, fun i hi => ?_⟩, Nat.le_refl _, fun a ha => by cases ha; exact Nat.le_refl _⟩, (Below.refl _ _).alloc (Nat.le_refl _) _⟩
  have hi2 : i < 1 := hi
  obtain rfl : i = 0 := by omega
  have e : ∀ j, ((⟨w.heap.size, 0, none⟩ : Addr).add (0 * 4)).add j = ⟨w.heap.size, j, none⟩ := fun j => by
    rw [Nat.zero_mul, Rg.add_zero]; unfold Addr.add; split <;> simp_all
  refine ⟨?_, ?_, ?_, ?_⟩ <;> (rw [e, World.cell?_alloc_mark]; rfl)
set_option maxRecDepth 100000 in
set_option maxHeartbeats 1600000 in
theorem refSameAtom_any (na nb : List UInt8) (A B : Option Addr) (n m c d : Nat) (l k : List Sp) (w : World) (hn : l.length = n) (hm : k.length = m) (hr : SRow w A l) (hq : SRow w B k) (hl : n ≤ 1000) (hk : m ≤ 1000) :
    Calls Tryz.prog 35 #[.agg #[.string ⟨na.toArray⟩, .slice A n c], .agg #[.string ⟨nb.toArray⟩, .slice B m d]] w fun e w' => e = .returned (.bool (decide ((⟨na, l⟩ : Atm) = ⟨nb, k⟩))) ∧ Below w.heap.size w w' := by
  obtain ⟨R, hR⟩ : ∃ R, decide ((⟨na, l⟩ : Atm) = ⟨nb, k⟩) = R := ⟨_, rfl⟩
  rw [hR]
  have hb2 : Below w.heap.size w ((w.alloc (.cells #[.string ⟨na.toArray⟩, .slice A n c] 38)).alloc (.cells #[.string ⟨nb.toArray⟩, .slice B m d] 38)) := ((Below.refl _ _).alloc (Nat.le_refl _) _).alloc (by simp) _
  have HB := Lib.hid hb2
  have HR := Lib.hid (srow_below hr hb2)
  have HQ := Lib.hid (srow_below hq hb2)
  subst hn hm
  clear hb2 hr hq
  cases he : na == nb
  · have HF : Hid (R = false) := by
      show _ = _; rw [← hR]; refine decide_eq_false fun e => ?_
      have := (Atm.mk.inj e).1
      rw [this] at he; simp at he
    clear hR
    go_enter Tryz.func35, Tryz.ntmps35
    go_wp2_with fail
    go_ret
    exact ⟨by rw [HF.out]; rfl, HB.out⟩
  · have HT : Hid (R = decide (l = k)) := by
      show _ = _; rw [← hR]
      have e1 : na = nb := by simpa using he
      rw [Bool.eq_iff_iff]; simp [e1]
    clear hR
    go_enter Tryz.func35, Tryz.ntmps35
    go_wp2_with fail
    refine (sameRange_any A c l B d k _ HR.out HQ.out (by omega) (by omega)).mono ?_
    rintro _ u ⟨rfl, hb⟩
    have HBU : Hid (Below w.heap.size w u) := HB.out.trans (hb.mono HB.out.size)
    rw [← HT.out]
    clear hb
    go_wp2_with fail
    go_ret
    exact ⟨rfl, HBU.out⟩
end Go.Proofs.YtkdildgdodnbbaaGreatDoor
namespace Go.Proofs.YtkdildgdodnbbaaGreatDoor
open Go.RowKit Rs At
theorem low_facts (c : UInt8) : (At.low c = true → decide ((c.toNat : Int) < 97) = false ∧ decide ((122 : Int) < (c.toNat : Int)) = false ∧ decide ((97 : Int) ≤ (c.toNat : Int)) = true ∧ decide ((c.toNat : Int) ≤ 122) = true) := fun h => by
  unfold At.low at h
  rw [Bool.and_eq_true, decide_eq_true_eq, decide_eq_true_eq] at h
  exact ⟨decide_eq_false (by omega), decide_eq_false (by omega), decide_eq_true (by omega), decide_eq_true (by omega)⟩
theorem low_not (c : UInt8) (h : At.low c = false) : (c.toNat < 97) ∨ (¬ c.toNat < 97 ∧ 122 < c.toNat) := by
  unfold At.low at h
  rw [Bool.and_eq_false_iff, decide_eq_false_iff_not, decide_eq_false_iff_not] at h
  omega
set_option maxRecDepth 100000 in
set_option maxHeartbeats 1600000 in
theorem refName_any (l : List UInt8) (w : World) (hm : l.length ≤ maxLen) :
    Calls Tryz.prog 43 #[.string ⟨l.toArray⟩] w fun e w' => e = .returned (.bool (nameB l)) ∧ w = w' := by
  obtain ⟨R, hR⟩ : ∃ R, nameB l = R := ⟨_, rfl⟩
  rw [hR]
  cases l with
  | nil =>
    obtain rfl : R = false := hR.symm
    go_enter Tryz.func43, Tryz.ntmps43
    go_wp2_with fail
    go_ret
    exact ⟨rfl, rfl⟩
  | cons c0 t =>
    have hpos : 0 < (c0 :: t).length := by simp
    obtain ⟨l, hl⟩ : ∃ l, c0 :: t = l := ⟨_, rfl⟩
    have H24 : Hid (24 < l.length → R = false) := fun h => by rw [← hR, hl]; exact At.name_no24 h
    have HC : Hid (l.length ≤ 24 → R = (At.low c0 && l.all At.nameC)) := fun h => by rw [← hR, ← hl]; exact At.name_cons (by rw [hl]; exact h)
    have hpl : 0 < l.length := by rw [← hl]; exact hpos
    obtain ⟨cb, hcb, hcb'⟩ := byte_at l 0 hpl
    have h0 : cb = c0 := by rw [← hcb']; simp [← hl]
    subst h0
    rw [hl] at hm ⊢
    have n0 : decide ((l.length : Int) < 1) = false := decide_eq_false (by omega)
    clear hR hcb' hpos hl
    by_cases h24 : 24 < l.length
    · obtain rfl : R = false := H24.out h24
      have d0 : decide ((24 : Int) < (l.length : Int)) = true := decide_eq_true (by omega)
      go_enter Tryz.func43, Tryz.ntmps43
      go_wp2_with fail
      go_ret
      exact ⟨rfl, rfl⟩
    · have HR := Lib.hid (HC.out (by omega))
      have d0 : decide ((24 : Int) < (l.length : Int)) = false := decide_eq_false (by omega)
      have HL24 : Hid (l.length ≤ 24) := by show _ ≤ _; omega
      clear HC H24
      cases hlow : At.low cb
      · have HRF : Hid (R = false) := by show _ = _; rw [HR.out, hlow]; rfl
        rcases low_not cb hlow with h1 | ⟨h1, h2⟩
        · have a1 : decide ((cb.toNat : Int) < 97) = true := decide_eq_true (by omega)
          clear hlow HR h1
          go_enter Tryz.func43, Tryz.ntmps43
          go_wp2_with fail
          go_ret
          exact ⟨by rw [HRF.out]; rfl, rfl⟩
        · have a1 : decide ((cb.toNat : Int) < 97) = false := decide_eq_false (by omega)
          have a2 : decide ((122 : Int) < (cb.toNat : Int)) = true := decide_eq_true (by omega)
          clear hlow HR h1 h2
          go_enter Tryz.func43, Tryz.ntmps43
          go_wp2_with fail
          go_ret
          exact ⟨by rw [HRF.out]; rfl, rfl⟩
      · have HRA : Hid (R = l.all At.nameC) := by show _ = _; rw [HR.out, hlow]; rfl
        obtain ⟨a1, a2, _, _⟩ := low_facts cb hlow
        clear hlow HR
        go_enter Tryz.func43, Tryz.ntmps43
        go_wp2_with fail
        go_loop [3, 4] (fun i _ => ∃ k : Nat, k ≤ l.length ∧ i = .int .i64 k ∧ Hid ((l.take k).all At.nameC = true)) (fun i _ => l.length - (intOf i).toNat)
        case atStart => exact ⟨0, Nat.zero_le _, rfl, rfl⟩
        case round =>
          obtain ⟨k, hk, rfl, HK⟩ := hrel
          by_cases hlt : k < l.length
          · obtain ⟨c, hc, hc'⟩ := byte_at l k hlt
            have HS := Lib.hid (At.all_snoc (f := At.nameC) hlt hc')
            have HN : Hid (At.nameC c = false → R = false) := fun h => by rw [HRA.out]; exact At.all_no hlt hc' h
            have HY : Hid (At.nameC c = true → (l.take (k + 1)).all At.nameC = true) := fun h => by rw [HS.out, HK.out, h]; rfl
            clear hc' HS HK a1 a2
            cases h1 : At.low c
            · have H1 := Lib.hid h1
              have ht : ∃ b1 b2 : Bool, decide ((97 : Int) ≤ (c.toNat : Int)) = b1 ∧ decide ((c.toNat : Int) ≤ 122) = b2 ∧ (b1 && b2) = false := by
                refine ⟨_, _, rfl, rfl, ?_⟩
                rcases low_not c h1 with h | ⟨_, h⟩
                · rw [decide_eq_false (by omega)]; rfl
                · rw [decide_eq_false (p := (c.toNat : Int) ≤ 122) (by omega), Bool.and_false]
              rcases low_not c h1 with h | ⟨g, h⟩
              · have b1 : decide ((97 : Int) ≤ (c.toNat : Int)) = false := decide_eq_false (by omega)
                clear h h1 ht
                go_wp2_with fail
                refine (refDigit_any c _).mono ?_
                rintro e w' ⟨rfl, rfl⟩
                cases h2 : Vm.dig c
                · have HE := Lib.hid (At.nameC_else H1.out h2)
                  clear h2
                  by_cases h3 : c.toNat = 45
                  · have n1 : ((c.toNat : Int) != 45) = false := by simp [h3]
                    have e3 : c = 45 := by rw [← UInt8.toNat_inj]; exact h3
                    have HY2 := Lib.hid (HY.out (by rw [HE.out, e3]; rfl))
                    clear h3 e3
                    go_wp2_with fail
                    go_round
                    case rel => exact ⟨k + 1, by omega, by go_num, HY2⟩
                    case measure => simp [intOf]; omega
                  · have n1 : ((c.toNat : Int) != 45) = true := by simp; omega
                    have HN2 := Lib.hid (HN.out (by rw [HE.out]; rw [beq_eq_false_iff_ne]; intro e; exact h3 (by rw [e]; rfl)))
                    clear h3
                    go_wp2_with fail
                    go_ret
                    exact ⟨by rw [HN2.out]; rfl, rfl⟩
                · have HY2 := Lib.hid (HY.out (At.nameC_dig h2))
                  clear h2
                  go_wp2_with fail
                  go_round
                  case rel => exact ⟨k + 1, by omega, by go_num, HY2⟩
                  case measure => simp [intOf]; omega
              · have b1 : decide ((97 : Int) ≤ (c.toNat : Int)) = true := decide_eq_true (by omega)
                have b2 : decide ((c.toNat : Int) ≤ 122) = false := decide_eq_false (by omega)
                clear g h h1 ht
                go_wp2_with fail
                refine (refDigit_any c _).mono ?_
                rintro e w' ⟨rfl, rfl⟩
                cases h2 : Vm.dig c
                · have HE := Lib.hid (At.nameC_else H1.out h2)
                  clear h2
                  by_cases h3 : c.toNat = 45
                  · have n1 : ((c.toNat : Int) != 45) = false := by simp [h3]
                    have e3 : c = 45 := by rw [← UInt8.toNat_inj]; exact h3
                    have HY2 := Lib.hid (HY.out (by rw [HE.out, e3]; rfl))
                    clear h3 e3
                    go_wp2_with fail
                    go_round
                    case rel => exact ⟨k + 1, by omega, by go_num, HY2⟩
                    case measure => simp [intOf]; omega
                  · have n1 : ((c.toNat : Int) != 45) = true := by simp; omega
                    have HN2 := Lib.hid (HN.out (by rw [HE.out]; rw [beq_eq_false_iff_ne]; intro e; exact h3 (by rw [e]; rfl)))
                    clear h3
                    go_wp2_with fail
                    go_ret
                    exact ⟨by rw [HN2.out]; rfl, rfl⟩
                · have HY2 := Lib.hid (HY.out (At.nameC_dig h2))
                  clear h2
                  go_wp2_with fail
                  go_round
                  case rel => exact ⟨k + 1, by omega, by go_num, HY2⟩
                  case measure => simp [intOf]; omega
            · obtain ⟨_, _, b1, b2⟩ := low_facts c h1
              have HY2 := Lib.hid (HY.out (At.nameC_low h1))
              clear h1
              go_wp2_with fail
              go_round
              case rel => exact ⟨k + 1, by omega, by go_num, HY2⟩
              case measure => simp [intOf]; omega
          · obtain rfl : k = l.length := by omega
            have HRT : Hid (R = true) := by show _ = _; rw [HRA.out]; have h := HK.out; rwa [List.take_length] at h
            go_wp2_with fail
            go_ret
            exact ⟨by rw [HRT.out]; rfl, rfl⟩
end Go.Proofs.YtkdildgdodnbbaaGreatDoor
namespace Go.Proofs.YtkdildgdodnbbaaGreatDoor
open Go.RowKit Rs At
theorem conds_count (s : Sp) : (conds s).length = (if s.lo = [] then 0 else 1) + (if s.hi ≠ [] ∧ s.lo ≠ s.hi then 1 else 0) := by
  unfold conds
  by_cases h1 : s.lo = s.hi
  · by_cases h2 : s.lo = []
    · have h3 : s.hi = [] := by rw [← h1]; exact h2
      simp [h2, h3]
    · simp [h1, h1 ▸ h2]
  · by_cases h2 : s.lo = []
    · by_cases h3 : s.hi = []
      · exact absurd (h2.trans h3.symm) h1
      · have h4 : ¬ [] = s.hi := fun e => h3 e.symm
        simp [h2, h3, h4]
    · by_cases h3 : s.hi = [] <;> simp [h1, h2, h3]
set_option maxRecDepth 100000 in
set_option maxHeartbeats 1600000 in
theorem refVersions_any (A : Option Addr) (n c : Nat) (l : List Sp) (w : World) (hn : l.length = n) (hr : SRow w A l) (hl : n ≤ 1000) :
    Calls Tryz.prog 45 #[.slice A n c] w fun e w' => e = .returned (.int .i64 (vers (termOf l))) ∧ Below w.heap.size w w' := by
  have HR := Lib.hid hr
  have HN := Lib.hid hn
  clear hr hn
  go_enter Tryz.func45, Tryz.ntmps45
  go_wp2_with fail
  go_loopw [3, 4] (fun m i wr => ∃ k : Nat, k ≤ n ∧ i = .int .i64 k ∧ m = .int .i64 (vers (termOf (l.take k))) ∧ Hid (Below w.heap.size w wr)) (fun _ i _ => n - (intOf i).toNat)
  case atStart => exact ⟨0, Nat.zero_le _, rfl, rfl, Below.refl _ _⟩
  case round =>
    obtain ⟨k, hk, rfl, rfl, HB⟩ := hrel
    by_cases hlt : k < n
    · have hlr : k < l.length := by rw [HN.out]; exact hlt
      obtain ⟨ad, lo, hi, li, hh, rfl, hs, _, c0, c1, c2, c3⟩ := srow_at (srow_below HR.out HB.out) k hlr
      have hvs : vers (termOf (l.take (k + 1))) = vers (termOf (l.take k)) + (conds l[k]).length := by
        unfold termOf vers
        rw [List.take_succ_eq_append_getElem hlr, List.map_append, List.map_append, List.sum_append]; simp
      have hvb : vers (termOf (l.take k)) ≤ 2000 := by
        have h := vers_leM 2 (termOf (l.take k)) (fun x hx => by obtain ⟨s, _, rfl⟩ := List.mem_map.1 hx; exact conds_len s)
        have h2 : (termOf (l.take k)).length ≤ k := by unfold termOf; rw [List.length_map, List.length_take]; omega
        omega
      rw [hs, conds_count] at hvs
      dsimp only at hvs
      obtain ⟨v, hv⟩ : ∃ v, vers (termOf (l.take k)) = v := ⟨_, rfl⟩
      rw [hv] at hvs hvb ⊢
      have HLT := Lib.hid hlt
      clear hs hv
      cases e1 : lo.isEmpty <;> cases e2 : hi.isEmpty <;> cases e3 : lo == hi
      case false.false.false =>
        have HVS : Hid (vers (termOf (l.take (k + 1))) = v + 2) := by
          show _ = _
          rw [hvs]
          simp at e1 e2 e3
          simp [e1, e2, e3]
        have e4 : (hi == lo) = false := by rw [BEq.comm]; exact e3
        clear hvs
        go_wp2_with fail
        go_quiet (fail)
        go_wp2_with fail
        go_roundw
        case rel => exact ⟨k + 1, (by have := HLT.out; omega), by go_num, by rw [HVS.out]; go_num, below_drewN HB.out _⟩
        case measure => have := HLT.out; simp [intOf]; omega
      case false.false.true =>
        have HVS : Hid (vers (termOf (l.take (k + 1))) = v + 1) := by
          show _ = _
          rw [hvs]
          simp at e1 e2 e3
          simp [e2, e3]
        have e4 : (hi == lo) = true := by rw [BEq.comm]; exact e3
        clear hvs
        go_wp2_with fail
        go_quiet (fail)
        go_wp2_with fail
        go_roundw
        case rel => exact ⟨k + 1, (by have := HLT.out; omega), by go_num, by rw [HVS.out]; go_num, below_drewN HB.out _⟩
        case measure => have := HLT.out; simp [intOf]; omega
      case false.true.false =>
        have HVS : Hid (vers (termOf (l.take (k + 1))) = v + 1) := by
          show _ = _
          rw [hvs]
          simp at e1 e2 e3
          simp [e1, e2]
        have e4 : (hi == lo) = false := by rw [BEq.comm]; exact e3
        clear hvs
        go_wp2_with fail
        go_quiet (fail)
        go_wp2_with fail
        go_roundw
        case rel => exact ⟨k + 1, (by have := HLT.out; omega), by go_num, by rw [HVS.out]; go_num, below_drewN HB.out _⟩
        case measure => have := HLT.out; simp [intOf]; omega
      case false.true.true =>
        exfalso
        simp at e1 e2 e3
        simp_all
      case true.false.false =>
        have HVS : Hid (vers (termOf (l.take (k + 1))) = v + 1) := by
          show _ = _
          rw [hvs]
          simp at e1 e2 e3
          simp [e1, e2]
        have e4 : (hi == lo) = false := by rw [BEq.comm]; exact e3
        clear hvs
        go_wp2_with fail
        go_quiet (fail)
        go_wp2_with fail
        go_roundw
        case rel => exact ⟨k + 1, (by have := HLT.out; omega), by go_num, by rw [HVS.out]; go_num, below_drewN HB.out _⟩
        case measure => have := HLT.out; simp [intOf]; omega
      case true.false.true =>
        exfalso
        simp at e1 e2 e3
        simp_all
      case true.true.false =>
        exfalso
        simp at e1 e2 e3
        simp_all
      case true.true.true =>
        have HVS : Hid (vers (termOf (l.take (k + 1))) = v + 0) := by
          show _ = _
          rw [hvs]
          simp at e1 e2 e3
          simp [e1, e2]
        have e4 : (hi == lo) = true := by rw [BEq.comm]; exact e3
        clear hvs
        go_wp2_with fail
        go_quiet (fail)
        go_wp2_with fail
        go_roundw
        case rel => exact ⟨k + 1, (by have := HLT.out; omega), by go_num, by rw [HVS.out]; go_num, below_drewN HB.out _⟩
        case measure => have := HLT.out; simp [intOf]; omega
    · obtain rfl : k = n := by omega
      have HV : Hid (l.take k = l) := List.take_of_length_le (by rw [HN.out]; exact Nat.le_refl _)
      rw [HV.out]
      go_wp2_with fail
      go_ret
      exact ⟨rfl, HB.out⟩
end Go.Proofs.YtkdildgdodnbbaaGreatDoor
namespace Go.Proofs.YtkdildgdodnbbaaGreatDoor
open Go.RowKit Rs At
theorem vers_range (l : List Sp) : vers (termOf l) ≤ l.length * 2 := by
  have h := vers_leM 2 (termOf l) (fun x hx => by obtain ⟨s, _, rfl⟩ := List.mem_map.1 hx; exact conds_len s)
  have h2 : (termOf l).length = l.length := by unfold termOf; rw [List.length_map]
  rw [h2] at h; exact h
set_option maxRecDepth 100000 in
set_option maxHeartbeats 1600000 in
theorem refCheckAtom_any (name : List UInt8) (A : Option Addr) (n c : Nat) (l : List Sp) (w : World) (hw : MaxOk w) (hm : name.length ≤ maxLen) (hn : l.length = n) (hr : SRow w A l) (hl : n ≤ 1000) :
    Calls Tryz.prog 20 #[.agg #[.string ⟨name.toArray⟩, .slice A n c]] w fun e w' => e = .returned (.int .i64 (checkA ⟨name, l⟩)) ∧ Below w.heap.size w w' := by
  obtain ⟨K, hK⟩ : ∃ K, checkA ⟨name, l⟩ = K := ⟨_, rfl⟩
  rw [hK]
  have HKN : Hid (nameB name = false → K = 3) := fun h => by rw [← hK]; unfold checkA; rw [if_neg (by rw [h]; decide)]
  have HKR : Hid (nameB name = true → checkR l ≠ 0 → K = checkR l) := fun h h2 => by rw [← hK]; unfold checkA; rw [if_pos h, if_neg h2]
  have HKV : Hid (nameB name = true → checkR l = 0 → K = if 16 < vers (termOf l) then 4 else 0) := fun h h2 => by rw [← hK]; unfold checkA; rw [if_pos h, if_pos h2]
  obtain ⟨b, hb⟩ : ∃ b, w.heap.size = b := ⟨_, rfl⟩
  obtain ⟨W1, hW1⟩ : ∃ W, w.alloc (.cells #[.string ⟨name.toArray⟩, .slice A n c] 38) = W := ⟨_, rfl⟩
  have HX1 : Hid (Bx2 b name A n c W1) := by rw [← hW1, ← hb]; exact bx2_new w name A n c _
  have HW1 : Hid (Below w.heap.size w W1) := by rw [← hW1]; exact (Below.refl _ _).alloc (Nat.le_refl _) _
  have HR1 : Hid (SRow W1 A l) := srow_below hr HW1.out
  have HM1 : Hid (MaxOk W1) := maxOk_below hw HW1.out
  have hb1 : b < W1.heap.size := by rw [← hW1, ← hb]; simp
  have HB1 := Lib.hid hb1
  have HNM := Lib.hid hm
  have HN := Lib.hid hn
  clear hw hr hK hm hn
  obtain ⟨k0, k1⟩ := HX1.out
  obtain ⟨nb, hnb⟩ : ∃ x, nameB name = x := ⟨_, rfl⟩
  obtain ⟨cr, hcr⟩ : ∃ x, checkR l = x := ⟨_, rfl⟩
  obtain ⟨v, hv⟩ : ∃ v, vers (termOf l) = v := ⟨_, rfl⟩
  have HVB : Hid (v ≤ 2000) := by have h := vers_range l; rw [hv, HN.out] at h; show _ ≤ _; omega
  rw [hnb] at HKN HKR HKV
  rw [hcr] at HKR HKV
  rw [hv] at HKV
  have HNB := Lib.hid hnb
  have HCR := Lib.hid hcr
  have HV := Lib.hid hv
  clear hnb hcr hv
  go_enter Tryz.func20, Tryz.ntmps20
  go_wp2_with fail
  clear hb hW1
  refine (refName_any name _ HNM.out).mono ?_
  rintro _ z1 ⟨rfl, rfl⟩
  rw [HNB.out]
  cases nb
  · have HK := Lib.hid (HKN.out rfl)
    go_wp2_with fail
    go_ret
    exact ⟨by rw [HK.out]; rfl, HW1.out⟩
  · have HKR2 := Lib.hid (HKR.out rfl)
    have HKV2 := Lib.hid (HKV.out rfl)
    clear HKR HKV HKN
    go_wp2_with fail
    refine (checkRange_any A n c l _ HN.out HR1.out hl).mono ?_
    rintro _ z3 ⟨rfl, hb3⟩
    rw [HCR.out]
    have HB3 : Hid (Below w.heap.size w z3) := HW1.out.trans (hb3.mono HW1.out.size)
    have HR3 : Hid (SRow z3 A l) := srow_below HR1.out hb3
    obtain ⟨q0, q1⟩ := bx2_below HX1.out HB1.out hb3
    clear hb3 k0 k1
    by_cases hc0 : cr = 0
    · subst hc0
      have HK := Lib.hid (HKV2.out rfl)
      go_wp2_with fail
      refine (refVersions_any A n c l _ HN.out HR3.out hl).mono ?_
      rintro _ z4 ⟨rfl, hb4⟩
      rw [HV.out]
      have HB4 : Hid (Below w.heap.size w z4) := HB3.out.trans (hb4.mono HB3.out.size)
      clear hb4
      have hvb := HVB.out
      by_cases h16 : 16 < v
      · have d0 : decide ((16 : Int) < (v : Int)) = true := decide_eq_true (by omega)
        have HK2 : Hid (K = 4) := by show _ = _; rw [HK.out, if_pos h16]
        clear h16
        go_wp2_with fail
        go_ret
        exact ⟨by rw [HK2.out]; rfl, HB4.out⟩
      · have d0 : decide ((16 : Int) < (v : Int)) = false := decide_eq_false (by omega)
        have HK2 : Hid (K = 0) := by show _ = _; rw [HK.out, if_neg h16]
        clear h16
        go_wp2_with fail
        go_ret
        exact ⟨by rw [HK2.out]; rfl, HB4.out⟩
    · have HK := Lib.hid (HKR2.out hc0)
      have hne : (cr != 0) = true := bne_iff_ne.2 hc0
      clear hc0
      go_wp2_with fail
      go_ret
      exact ⟨by rw [HK.out]; rfl, HB3.out⟩
end Go.Proofs.YtkdildgdodnbbaaGreatDoor
namespace Go.Proofs.YtkdildgdodnbbaaGreatDoor
open Go.RowKit Rs At
theorem refPlace (s : List UInt8) (c : UInt8) (w : World) (hm : s.length ≤ 4000) : ∃ k : Int, decide (k < 0) = !Vm.has c s ∧
    Calls Tryz.prog 40 #[.string ⟨s.toArray⟩, .int .u8 c.toNat] w fun e w' => e = .returned (.int .i64 k) ∧ w = w' := by
  cases h : Vm.has c s
  · exact ⟨-1, by decide, place_no s c w hm h⟩
  · exact ⟨((Vm.fst c s).length : Int), decide_eq_false (by omega), place_yes s c w hm h⟩
theorem wordB_has (s : List UInt8) : wordB s = (!s.isEmpty && (!Vm.has 32 s && (!Vm.has 40 s && !Vm.has 41 s))) := by
  rw [wordB_eq]
  congr 1
  unfold Vm.has
  induction s with
  | nil => rfl
  | cons b l ih =>
    rw [List.any_cons, Bool.not_or, ih]
    have e : ∀ x : UInt8, (x == b) = (b == x) := fun x => BEq.comm
    have e0 : sp3.contains b = (b == 32 || (b == 40 || (b == 41 || false))) := rfl
    rw [e0, List.contains_cons, List.contains_cons, List.contains_cons, e 32, e 40, e 41]
    generalize (b == 32) = p1
    generalize (b == 40) = p2
    generalize (b == 41) = p3
    generalize l.contains 32 = q1
    generalize l.contains 40 = q2
    generalize l.contains 41 = q3
    cases p1 <;> cases p2 <;> cases p3 <;> cases q1 <;> cases q2 <;> cases q3 <;> rfl
set_option maxRecDepth 100000 in
set_option maxHeartbeats 1600000 in
theorem refBytes_any (s : List UInt8) (w : World) (hs : s.length ≤ 4000) :
    Calls Tryz.prog 65 #[.string ⟨s.toArray⟩] w fun e w' => e = .returned (.bool (wordB s)) ∧ w = w' := by
  obtain ⟨R, hR⟩ : ∃ R, wordB s = R := ⟨_, rfl⟩
  rw [hR]
  rw [wordB_has] at hR
  obtain ⟨i1, d1, p1⟩ := refPlace s 32 w hs
  obtain ⟨i2, d2, p2⟩ := refPlace s 40 w hs
  obtain ⟨i3, d3, p3⟩ := refPlace s 41 w hs
  rw [← d1, ← d2, ← d3] at hR
  have P1 := Lib.hid p1
  have P2 := Lib.hid p2
  have P3 := Lib.hid p3
  clear p1 p2 p3 d1 d2 d3
  cases he : s.isEmpty
  · rw [he] at hR
    cases g1 : decide (i1 < 0)
    · have HRR : Hid (false = R) := by rw [g1] at hR; exact hR
      clear hR
      go_enter Tryz.func65, Tryz.ntmps65
      go_wp2_with fail
      refine P1.out.mono ?_
      rintro _ z ⟨rfl, rfl⟩
      go_wp2_with fail
      go_ret
      exact ⟨by rw [← HRR.out]; rfl, rfl⟩
    · cases g2 : decide (i2 < 0)
      · have HRR : Hid (false = R) := by rw [g1, g2] at hR; exact hR
        clear hR
        go_enter Tryz.func65, Tryz.ntmps65
        go_wp2_with fail
        refine P1.out.mono ?_
        rintro _ z ⟨rfl, rfl⟩
        go_wp2_with fail
        refine P2.out.mono ?_
        rintro _ z ⟨rfl, rfl⟩
        go_wp2_with fail
        go_ret
        exact ⟨by rw [← HRR.out]; rfl, rfl⟩
      · have HRR : Hid (decide (i3 < 0) = R) := by rw [g1, g2] at hR; exact hR
        clear hR
        go_enter Tryz.func65, Tryz.ntmps65
        go_wp2_with fail
        refine P1.out.mono ?_
        rintro _ z ⟨rfl, rfl⟩
        go_wp2_with fail
        refine P2.out.mono ?_
        rintro _ z ⟨rfl, rfl⟩
        go_wp2_with fail
        refine P3.out.mono ?_
        rintro _ z ⟨rfl, rfl⟩
        go_wp2_with fail
        go_ret
        exact ⟨by rw [← HRR.out]; rfl, rfl⟩
  · rw [he] at hR
    have HRR : Hid (false = R) := hR
    clear hR
    go_enter Tryz.func65, Tryz.ntmps65
    go_wp2_with fail
    go_ret
    exact ⟨by rw [← HRR.out]; rfl, rfl⟩
end Go.Proofs.YtkdildgdodnbbaaGreatDoor
