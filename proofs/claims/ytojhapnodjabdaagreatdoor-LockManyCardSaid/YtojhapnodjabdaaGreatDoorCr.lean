/- The reference's Check, Get, Write of a lock: walked. -/
import Derived.Test.YtojhapnodjabdaaGreatDoorCq
import Derived.Test.YtojhapnodjabdaaGreatDoorCp
namespace Go.Proofs.YtojhapnodjabdaaGreatDoor
open Go.RowKit Lk At
attribute [local go_sem ↓] Go.wp_at_zero Go.wp_at_succ
theorem Lk.entE_no {nm v : List UInt8} (h : nameB nm = false) : entE (nm, v) = 3 := by unfold entE; rw [h]; rfl
theorem Lk.entE_yes {nm v : List UInt8} (h : nameB nm = true) : entE (nm, v) = verE v := by unfold entE; rw [h]; rfl
set_option maxRecDepth 100000 in
set_option maxHeartbeats 3200000 in
theorem refCheckLock_any (A : Option Addr) (n c : Nat) (l : List Ent) (w : World) (hn : l.length = n) (hr : ERow w A l) (hf : EFew l) :
    Calls Tryz.prog 12 #[.slice A n c] w fun e w' => e = .returned (.tuple #[.int .i64 (checkL l).1, .int .i64 (checkL l).2]) ∧ Below w.heap.size w w' := by
  obtain ⟨x1, x2⟩ := check_of hn
  obtain ⟨R, hR⟩ : ∃ R, checkL l = R := ⟨_, rfl⟩
  rw [hR] at x1 x2 ⊢
  have HN := Lib.hid hn
  have HR := Lib.hid hr
  have HF := Lib.hid hf
  clear hR hn hr hf
  by_cases h64 : 64 < n
  · have HX := Lib.hid (x1 h64)
    have d0 : decide ((64 : Int) < (n : Int)) = true := decide_eq_true (by omega)
    clear x1 x2
    go_enter Tryz.func12, Tryz.ntmps12
    go_wp2_with fail
    go_ret2
    exact ⟨by rw [HX.out]; rfl, Below.refl _ _⟩
  · have HR0 := Lib.hid (x2 h64).symm
    have d0 : decide ((64 : Int) < (n : Int)) = false := decide_eq_false (by omega)
    have hn64 : n ≤ 64 := by omega
    clear x1 x2 h64
    go_enter Tryz.func12, Tryz.ntmps12
    go_wp2_with fail
    clear d0
    go_loopw [4] (fun i wr => ∃ k : Nat, k ≤ n ∧ i = .int .i64 k ∧ Hid (firstE (errAt l) (n - k) k = R) ∧ Hid (Below w.heap.size w wr)) (fun i _ => n - (intOf i).toNat)
    case atStart => exact ⟨0, Nat.zero_le _, rfl, HR0.out, Below.refl _ _⟩
    case round =>
      obtain ⟨k, hk, rfl, HI, HB⟩ := hrel
      by_cases hlt : k < n
      · have hkl : k < l.length := by rw [HN.out]; exact hlt
        obtain ⟨j, hj⟩ : ∃ j, n - k = j + 1 := ⟨n - k - 1, by omega⟩
        have HJ : Hid (n - (k + 1) = j) := by show _ = _; omega
        have hI := HI.out
        rw [hj] at hI
        obtain ⟨s1, s2, s3⟩ := first_at hkl hI
        obtain ⟨ad, rfl, hc⟩ := erow_at HR.out k hkl
        obtain ⟨c0, c1⟩ := hc _ HB.out
        obtain ⟨hm, _⟩ := efew_at HF.out k hkl
        obtain ⟨E, hE⟩ : ∃ E, l[k] = E := ⟨_, rfl⟩
        rw [hE] at hc c0 c1 hm s1 s2 s3
        obtain ⟨nm, v⟩ := E
        dsimp only at hc c0 c1 hm s1 s2 s3
        have HC := Lib.hid hc
        have HM := Lib.hid hm
        have S1 := Lib.hid s1
        have S2 := Lib.hid s2
        have S3 := Lib.hid s3
        clear hj hc hE s1 s2 s3 hI HI hm
        go_wp2_with fail
        refine (refName_any nm _ HM.out).mono ?_
        rintro _ z ⟨rfl, rfl⟩
        cases hnb : nameB nm
        · have he := entE_no (v := v) hnb
          have HRR : Hid (R = (k, 3)) := by have := S1.out (by rw [he]; decide); rw [he] at this; exact this
          clear hnb he
          go_wp2_with fail
          go_ret2
          exact ⟨by rw [HRR.out]; rfl, HB.out⟩
        · have he := entE_yes (v := v) hnb
          rw [he] at S1 S2 S3
          clear hnb he
          go_wp2_with fail
          refine (refVersion_any v _).mono ?_
          rintro _ u ⟨rfl, hb⟩
          have HU := Lib.hid (HB.out.trans (hb.mono HB.out.size))
          obtain ⟨x, hx⟩ : ∃ x, verE v = x := ⟨_, rfl⟩
          rw [hx] at S1 S2 S3 ⊢
          clear hb hx c0 c1
          by_cases hx0 : x = 0
          · subst hx0
            by_cases hk0 : k = 0
            · have HI2 := Lib.hid (S2.out rfl hk0)
              have d0 : decide (0 < k) = false := decide_eq_false (by omega)
              clear hk0 S1 S2 S3
              go_wp2_with fail
              go_quiet (fail)
              go_wp2_with fail
              go_quiet (fail)
              go_wp2_with fail
              go_roundw
              case rel => exact ⟨k + 1, by omega, by go_num, by show _ = _; rw [HJ.out]; exact HI2.out, below_drewN HU.out _⟩
              case measure => simp [intOf]; omega
            · obtain ⟨p, hp⟩ : ∃ p, p + 1 = k := ⟨k - 1, by omega⟩
              have hpl : p < l.length := by omega
              obtain ⟨t1, t2, t3⟩ := S3.out rfl p hpl hp
              obtain ⟨ad', e', hc⟩ := erow_at HR.out p hpl
              cases e'
              obtain ⟨P, hP⟩ : ∃ P, l[p].1 = P := ⟨_, rfl⟩
              rw [hP] at t1 t2 t3 hc
              have HCC : Hid (∀ u', Below w.heap.size w u' → u'.cell? (ad.add (p * 2)) = some (.string ⟨P.toArray⟩) ∧ u'.cell? (ad.add (k * 2)) = some (.string ⟨nm.toArray⟩)) :=
                fun u' hb => ⟨(hc _ hb).1, (HC.out _ hb).1⟩
              have hkp : (k : Int) - 1 = (p : Int) := by omega
              have hwp : IntKind.i64.wrap ((k : Int) - 1) = (p : Int) := by rw [hkp]; exact IntWalk.i64_in _ (by omega)
              have hwq : IntKind.i64.wrap (p : Int) = (p : Int) := IntWalk.i64_in _ (by omega)
              have hpn : (p : Int) < (n : Int) := by omega
              have hp0 : (0 : Int) ≤ (p : Int) := by omega
              have hk0' : (0 : Int) ≤ (k : Int) := by omega
              have hkn : (k : Int) < (n : Int) := by omega
              have d0 : decide (0 < k) = true := decide_eq_true (by omega)
              obtain ⟨q0, q1⟩ := HCC.out _ HU.out
              have HT1 := Lib.hid t1
              have HT2 := Lib.hid t2
              have HT3 := Lib.hid t3
              clear t1 t2 t3 hc hP hp hk0 S1 S2 S3 HC
              by_cases hq : P = nm
              · have HRR := Lib.hid (HT1.out hq)
                have e1 : (P == nm) = true := by simpa using hq
                clear hq
                go_wp2_with fail
                go_quiet (fail)
                go_wp2_with fail
                go_ret2
                exact ⟨by rw [HRR.out]; rfl, below_drewN HU.out _⟩
              · have e1 : (P == nm) = false := beq_eq_false_iff_ne.2 hq
                have HQ := Lib.hid hq
                clear hq
                go_wp2_with fail
                go_quiet (fail)
                clear q0 q1
                have q0 := fun m => (HCC.out _ (below_drewN HU.out m)).1
                have q1 := fun m => (HCC.out _ (below_drewN HU.out m)).2
                cases hls : Op.bytesLess P nm
                · have HRR := Lib.hid (HT3.out HQ.out hls)
                  go_wp2_with fail
                  go_quiet (fail)
                  go_wp2_with fail
                  go_ret2
                  exact ⟨by rw [HRR.out]; rfl, by first | exact below_drewN HU.out _ | exact below_drewN (below_drewN HU.out _) _⟩
                · have HRR := Lib.hid (HT2.out HQ.out hls)
                  go_wp2_with fail
                  go_quiet (fail)
                  clear hls q0 q1 hkp hwp e1
                  go_wp2_with fail
                  go_roundw
                  case rel => exact ⟨k + 1, by omega, by go_num, by show _ = _; rw [HJ.out]; exact HRR.out, below_drewN HU.out _⟩
                  case measure => simp [intOf]; omega
          · have HRR := Lib.hid (S1.out hx0)
            have e1 : (x != 0) = true := by simpa using hx0
            clear hx0
            go_wp2_with fail
            go_ret2
            exact ⟨by rw [HRR.out]; rfl, HU.out⟩
      · obtain rfl : k = n := by omega
        have hI := HI.out
        rw [Nat.sub_self] at hI
        have HRR : Hid (R = (0, 0)) := hI.symm
        clear hI
        go_wp2_with fail
        go_ret2
        exact ⟨by rw [HRR.out]; rfl, HB.out⟩
set_option maxRecDepth 100000 in
set_option maxHeartbeats 1600000 in
theorem refGetLock_any (A : Option Addr) (n c : Nat) (l : List Ent) (nm : List UInt8) (w : World) (hn : l.length = n) (hr : ERow w A l) (hl : n ≤ 1000000) :
    Calls Tryz.prog 16 #[.slice A n c, .string ⟨nm.toArray⟩] w fun e w' => e = .returned (.tuple #[.string ⟨(getE l nm).1.toArray⟩, .bool (getE l nm).2]) ∧ w = w' := by
  obtain ⟨R, hR⟩ : ∃ R, getE l nm = R := ⟨_, rfl⟩
  have HI0 : Hid (getFrom (l.drop 0) nm = R) := by show _ = _; rw [List.drop_zero, ← getFrom_eq]; exact hR
  rw [hR]
  have HN := Lib.hid hn
  have HR := Lib.hid hr
  clear hR hn hr
  go_enter Tryz.func16, Tryz.ntmps16
  go_wp2_with fail
  go_loop [6] (fun i => ∃ k : Nat, k ≤ n ∧ i = .int .i64 k ∧ Hid (getFrom (l.drop k) nm = R)) (fun i => n - (intOf i).toNat)
  case atStart => exact ⟨0, Nat.zero_le _, rfl, HI0.out⟩
  case round =>
    obtain ⟨k, hk, rfl, HI⟩ := hrel
    by_cases hlt : k < n
    · have hkl : k < l.length := by rw [HN.out]; exact hlt
      obtain ⟨ad, rfl, hc⟩ := erow_at HR.out k hkl
      obtain ⟨c0, c1⟩ := hc _ (Below.refl _ _)
      obtain ⟨s1, s2⟩ := getE_at hkl HI.out
      obtain ⟨E, hE⟩ : ∃ E, l[k] = E := ⟨_, rfl⟩
      rw [hE] at c0 c1 s1 s2
      obtain ⟨x, v⟩ := E
      dsimp only at c0 c1 s1 s2
      have S1 := Lib.hid s1
      have S2 := Lib.hid s2
      clear hc hE s1 s2 HI
      by_cases hq : x = nm
      · have HRR := Lib.hid (S1.out hq)
        have e1 : (x == nm) = true := by simpa using hq
        clear hq
        go_wp2_with fail
        go_ret2
        exact ⟨by rw [HRR.out]; rfl, rfl⟩
      · have HRR := Lib.hid (S2.out hq)
        have e1 : (x == nm) = false := beq_eq_false_iff_ne.2 hq
        clear hq
        go_wp2_with fail
        go_round
        case rel => exact ⟨k + 1, by omega, by go_num, HRR⟩
        case measure => simp [intOf]; omega
    · obtain rfl : k = n := by omega
      have HRR : Hid (R = ([], false)) := by
        have := HI.out
        rw [List.drop_of_length_le (by rw [HN.out]; exact Nat.le_refl _)] at this
        exact this.symm
      go_wp2_with fail
      go_ret2
      exact ⟨by rw [HRR.out]; rfl, rfl⟩
theorem Lk.cat_to {a b c : List UInt8} (h : a ++ b = c) (hl : c.length ≤ 100000) : ∀ W : World, (Op.stringOp .add ⟨a.toArray⟩ ⟨b.toArray⟩).run Tryz.prog W = .ok (.string ⟨c.toArray⟩) W := fun W => by
  subst h
  rw [List.length_append] at hl
  rw [run_string_add_sum W ⟨a.toArray⟩ ⟨b.toArray⟩ (by show a.toArray.size + b.toArray.size ≤ _; rw [List.size_toArray, List.size_toArray]; omega), ByteArray.mk_append_mk]
set_option maxRecDepth 100000 in
set_option maxHeartbeats 3200000 in
theorem refWriteLock_any (A : Option Addr) (n c : Nat) (l : List Ent) (w : World) (hn : l.length = n) (hr : ERow w A l) (hf : EFew l) :
    Calls Tryz.prog 14 #[.slice A n c] w fun e w' => e = .returned (.tuple #[.string ⟨(wrT l).toArray⟩, .int .i64 (checkL l).2]) ∧ Below w.heap.size w w' := by
  have HK := Lib.hid (refCheckLock_any A n c l w hn hr hf)
  have HCL : Hid ((checkL l).2 = 0 → (entsT l).length ≤ 4224 ∧ l.length ≤ 64) := fun h => ⟨(write_len h).1, (check_ent h).1⟩
  have HWT : Hid ((checkL l).2 = 0 → wrT l = entsT l ++ sumLine (entsT l)) := fun h => by unfold wrT; rw [if_pos h]; rfl
  have HWN : Hid ((checkL l).2 ≠ 0 → wrT l = []) := fun h => by unfold wrT; rw [if_neg h]
  obtain ⟨X, hX⟩ : ∃ X, checkL l = X := ⟨_, rfl⟩
  rw [hX] at HK HCL HWT HWN ⊢
  obtain ⟨i, k⟩ := X
  dsimp only at HK HCL HWT HWN ⊢
  have HN := Lib.hid hn
  have HR := Lib.hid hr
  clear hX hn hr hf
  go_enter Tryz.func14, Tryz.ntmps14
  go_wp2_with fail
  refine HK.out.mono ?_
  rintro _ z ⟨rfl, hb⟩
  have HB := Lib.hid hb
  clear hb HK
  by_cases hk : k = 0
  · obtain ⟨t1, t2⟩ := HCL.out hk
    have HE := Lib.hid (HWT.out hk)
    have hn64 : n ≤ 64 := by rw [← HN.out]; exact t2
    subst hk
    have HT1 := Lib.hid t1
    clear t1 t2 HCL HWT HWN
    go_wp2_with fail
    go_loopw [6, 7] (fun s j wr => ∃ (q : Nat) (S : List UInt8), q ≤ n ∧ s = .string ⟨S.toArray⟩ ∧ j = .int .i64 q ∧ Hid (S = entsT (l.take q)) ∧ Hid (Below w.heap.size w wr)) (fun _ j _ => n - (intOf j).toNat)
    case atStart => exact ⟨0, [], Nat.zero_le _, rfl, rfl, rfl, HB.out⟩
    case round =>
      obtain ⟨q, S, hq, rfl, rfl, HS, HW⟩ := hrel
      by_cases hlt : q < n
      · have hkl : q < l.length := by rw [HN.out]; exact hlt
        obtain ⟨ad, rfl, hc⟩ := erow_at HR.out q hkl
        obtain ⟨c0, c1⟩ := hc _ HW.out
        have htk := entsT_take l q hkl
        have hle := Nat.le_trans (entsT_le l (q + 1)) HT1.out
        obtain ⟨E, hE⟩ : ∃ E, l[q] = E := ⟨_, rfl⟩
        rw [hE] at c0 c1 htk
        obtain ⟨nm, v⟩ := E
        dsimp only at c0 c1 htk
        rw [← HS.out] at htk
        obtain ⟨S1, h1⟩ : ∃ x, S ++ nm = x := ⟨_, rfl⟩
        obtain ⟨S2, h2⟩ : ∃ x, S1 ++ [32] = x := ⟨_, rfl⟩
        obtain ⟨S3, h3⟩ : ∃ x, S2 ++ v = x := ⟨_, rfl⟩
        obtain ⟨S4, h4⟩ : ∃ x, S3 ++ [10] = x := ⟨_, rfl⟩
        have e4 : entsT (l.take (q + 1)) = S4 := by rw [htk, ← h4, ← h3, ← h2, ← h1]; simp only [List.append_assoc]
        rw [e4] at hle
        have l4 := congrArg List.length h4
        have l3 := congrArg List.length h3
        have l2 := congrArg List.length h2
        have l1 := congrArg List.length h1
        simp only [List.length_append, List.length_cons, List.length_nil] at l1 l2 l3 l4
        have r1 := cat_to h1 (by omega)
        have r2 := cat_to h2 (by omega)
        have r3 := cat_to h3 (by omega)
        have r4 := cat_to h4 (by omega)
        have k0 : (0 : Int) ≤ (q : Int) := by omega
        have k1 : (q : Int) < (n : Int) := by omega
        have HE4 := Lib.hid e4.symm
        clear hc hE htk h1 h2 h3 h4 e4 l1 l2 l3 l4 hle
        go_wp2_with fail
        go_quiet (fail)
        clear r1 r2 r3 r4 c0 c1
        go_wp2_with fail
        go_roundw
        case rel => exact ⟨q + 1, S4, by omega, rfl, by go_num, HE4, below_drewN HW.out _⟩
        case measure => simp [intOf]; omega
      · obtain rfl : q = n := by omega
        have HSE : Hid (S = entsT l) := by
          have := HS.out
          rwa [List.take_of_length_le (by rw [HN.out]; exact Nat.le_refl _)] at this
        have hsl : S.length ≤ 4224 := by rw [HSE.out]; exact HT1.out
        have HSU : Hid (∀ W : World, Calls Tryz.prog 24 #[.string ⟨S.toArray⟩] W fun e w' => e = .returned (.int .u32 (sumL S : Nat)) ∧ W = w') := fun W => refSum_any S W (by omega)
        have HHX : Hid (∀ W : World, Calls Tryz.prog 35 #[.int .u32 (sumL S : Nat)] W fun e w' => e = .returned (.string ⟨(hexj 8 (sumL S)).toArray⟩) ∧ W = w') := fun W => refHex_any _ W (sumL_lt S)
        obtain ⟨x, hx⟩ : ∃ x, sumL S = x := ⟨_, rfl⟩
        have hW : wrT l = S ++ [115, 117, 109, 32] ++ hexj 8 x ++ [10] := by rw [HE.out, ← HSE.out, ← hx]; unfold sumLine; simp only [List.append_assoc]
        obtain ⟨hd, hh⟩ : ∃ h, hexj 8 x = h := ⟨_, rfl⟩
        have hhl : hd.length = 8 := by rw [← hh]; exact hexj_len 8 x
        rw [hx] at HSU HHX
        rw [hh] at HHX hW
        have HWW := Lib.hid hW
        clear hx hh hW
        go_wp2_with fail
        refine (HSU.out _).mono ?_
        rintro _ z1 ⟨rfl, rfl⟩
        go_wp2_with fail
        refine (HHX.out _).mono ?_
        rintro _ z1 ⟨rfl, rfl⟩
        go_wp2_with fail
        go_ret2
        refine ⟨?_, HW.out⟩
        rw [HWW.out]
        exact congrArg (fun x => Ending.returned (.tuple #[.string x, .int .i64 0])) (bcat4 S [115, 117, 109, 32] hd [10])
  · have HE := Lib.hid (HWN.out hk)
    have e1 : (k != 0) = true := by simpa using hk
    clear hk HCL HWT HWN
    go_wp2_with fail
    go_ret2
    exact ⟨by rw [HE.out]; rfl, HB.out⟩
end Go.Proofs.YtojhapnodjabdaaGreatDoor
