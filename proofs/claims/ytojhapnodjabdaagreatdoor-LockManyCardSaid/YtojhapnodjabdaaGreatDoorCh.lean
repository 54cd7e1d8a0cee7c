/- What is asked of a list of entries: walked. -/
import Derived.Test.YtojhapnodjabdaaGreatDoorCf
import Derived.BigQuiet
import Derived.Deep.RegionHeld3
import Derived.Deep.RegionWith
namespace Go.Proofs.YtojhapnodjabdaaGreatDoor
open Go.RowKit At Lk
attribute [local go_sem ↓] Go.wp_at_zero Go.wp_at_succ
theorem Lk.ends_at {P : Program} {G : Prop} {a : Act} {w : World} (h : wpAny P .any #[] (fun _ _ _ => G) 0 #[] a w) : G := h.2
/-- How a list is refused. -/
def Lk.okL (n : Nat) (R : Nat × Int) : Ending := if 64 < n then pan 4 else okAt R.1 R.2
set_option maxRecDepth 100000 in
set_option maxHeartbeats 1600000 in
theorem requireLock_any (A : Option Addr) (n c : Nat) (l : List Ent) (w : World) (hw : MaxOk w) (hn : l.length = n) (hr : ERow w A l) (hf : EFew l) :
    Calls Tryz.prog 28 #[.slice A n c] w fun e w' => e = okL n (firstE (errAt l) n 0) ∧ Below w.heap.size w w' := by
  have HM := Lib.hid hw
  have HN := Lib.hid hn
  have HR := Lib.hid hr
  have HF := Lib.hid hf
  clear hw hn hr hf
  by_cases h64 : 64 < n
  · have d : decide ((n : Int) ≤ 64) = false := decide_eq_false (by omega)
    have HE : Hid (okL n (firstE (errAt l) n 0) = pan 4) := if_pos h64
    clear h64
    go_enter Tryz.func28, Tryz.ntmps28
    go_wp2_with fail
    refine (require_no _).mono ?_
    rintro _ z ⟨rfl, rfl⟩
    go_wp2_with fail
    exact ⟨rfl, by rw [HE.out], Below.refl _ _⟩
  have hn64 : n ≤ 64 := by omega
  have d : decide ((n : Int) ≤ 64) = true := decide_eq_true (by omega)
  obtain ⟨R, hR⟩ : ∃ R, firstE (errAt l) n 0 = R := ⟨_, rfl⟩
  have HE : Hid (okL n R = okAt R.1 R.2) := if_neg h64
  rw [hR, HE.out]
  have HR0 := Lib.hid hR
  clear h64 hR HE
  go_enter Tryz.func28, Tryz.ntmps28
  go_wp2_with fail
  refine (require_yes _).mono ?_
  rintro _ z ⟨rfl, rfl⟩
  clear d
  go_wp2_with fail
  go_loopw [10] (fun i wr => ∃ k : Nat, k ≤ n ∧ i = .int .i64 k ∧ Hid (firstE (errAt l) (n - k) k = R) ∧ Hid (Below w.heap.size w wr)) (fun i _ => n - (intOf i).toNat)
  case atStart => exact ⟨0, Nat.zero_le _, rfl, HR0.out, Below.refl _ _⟩
  case round =>
    obtain ⟨k, hk, rfl, HI, HB⟩ := hrel
    by_cases hlt : k < n
    · have hkl : k < l.length := by rw [HN.out]; exact hlt
      obtain ⟨j, hj⟩ : ∃ j, n - k = j + 1 := ⟨n - k - 1, by omega⟩
      have HJ : Hid (n - (k + 1) = j) := by show _ = _; omega
      have hI := HI.out
      rw [hj] at hI
      obtain ⟨s1, s2, s3⟩ := first_at hkl hI
      obtain ⟨ad, rfl, hc⟩ := erow_at HR.out k hkl
      obtain ⟨c0, c1⟩ := hc _ HB.out
      obtain ⟨hm, _⟩ := efew_at HF.out k hkl
      obtain ⟨E, hE⟩ : ∃ E, l[k] = E := ⟨_, rfl⟩
      rw [hE] at c0 c1 hm s1 s2 s3
      obtain ⟨nm, v⟩ := E
      dsimp only at c0 c1 hm s1 s2 s3
      obtain ⟨V, hV⟩ : ∃ V, wr.alloc (.cells #[.string ⟨nm.toArray⟩, .string ⟨v.toArray⟩] 59) = V := ⟨_, rfl⟩
      have HV : Hid (Below wr.heap.size wr V) := alloc_low hV
      have HV2 := Lib.hid hV
      have HBV : Hid (Below w.heap.size w V) := HB.out.trans (HV.out.mono HB.out.size)
      have HC := Lib.hid (requireEntry_any nm v k V (maxOk_below HM.out HBV.out) hm)
      obtain ⟨x, hx⟩ : ∃ x, entE (nm, v) = x := ⟨_, rfl⟩
      rw [hx] at HC s1 s2 s3
      have S1 := Lib.hid s1
      have S2 := Lib.hid s2
      have S3 := Lib.hid s3
      have g0 := (cell_two hV (Below.refl _ _)).1
      have g1 := (cell_two hV (Below.refl _ _)).2.1
      clear hj hc hE hx s1 s2 s3 hI HI hm
      go_wp2_with fail
      clear hV c0 c1 g0 g1
      refine HC.out.mono ?_
      rintro _ u ⟨rfl, hb⟩
      have HBU : Hid (Below V.heap.size V u) := hb
      have HU : Hid (Below w.heap.size w u) := HBV.out.trans (hb.mono HBV.out.size)
      clear hb HC
      by_cases hx0 : x = 0
      · subst hx0
        rw [okAt_zero]
        by_cases hk0 : k = 0
        · have HI2 := Lib.hid (S2.out rfl hk0)
          have d0 : decide (0 < k) = false := decide_eq_false (by omega)
          clear hk0
          go_wp2_with fail
          go_roundw
          case rel => exact ⟨k + 1, by omega, by go_num, by show _ = _; rw [HJ.out]; exact HI2.out, HU⟩
          case measure => simp [intOf]; omega
        · obtain ⟨p, hp⟩ : ∃ p, p + 1 = k := ⟨k - 1, by omega⟩
          have hpl : p < l.length := by omega
          obtain ⟨t1, t2, t3⟩ := S3.out rfl p hpl hp
          obtain ⟨ad', e', hc⟩ := erow_at HR.out p hpl
          cases e'
          obtain ⟨P, hP⟩ : ∃ P, l[p].1 = P := ⟨_, rfl⟩
          rw [hP] at t1 t2 t3 hc
          have HCC : Hid (∀ u', Below V.heap.size V u' → u'.cell? (ad.add (p * 2)) = some (.string ⟨P.toArray⟩) ∧ u'.cell? ⟨wr.heap.size, 0, none⟩ = some (.string ⟨nm.toArray⟩)) :=
            fun u' hb => ⟨(hc _ (HBV.out.trans (hb.mono HBV.out.size))).1, (cell_two HV2.out hb).1⟩
          have hkp : (k : Int) - 1 = (p : Int) := by omega
          have hwp : IntKind.i64.wrap ((k : Int) - 1) = (p : Int) := by rw [hkp]; exact IntWalk.i64_in _ (by omega)
          have hpn : (p : Int) < (n : Int) := by omega
          have hp0 : (0 : Int) ≤ (p : Int) := by omega
          have hwq : IntKind.i64.wrap (p : Int) = (p : Int) := IntWalk.i64_in _ (by omega)
          have d0 : decide (0 < k) = true := decide_eq_true (by omega)
          have HD1 : Hid (Below V.heap.size V u.drew) := HBU.out.drew
          obtain ⟨q0, q1⟩ := HCC.out _ HBU.out
          have HT1 := Lib.hid t1
          have HT2 := Lib.hid t2
          have HT3 := Lib.hid t3
          clear t1 t2 t3 hc hP hp hk0 S1 S2 S3
          by_cases hq : P = nm
          · have HRR := Lib.hid (HT1.out hq)
            have e1 : (P == nm) = true := by simpa using hq
            clear hq
            go_wp2_with fail
            go_region_with (first
              | (go_at_call 45; refine (requireAt_no _).mono ?_; rintro _ z ⟨rfl, rfl⟩; refine ends_at (P := Tryz.prog) (a := { tmps := #[], defers := [] }) (w := w) ?_))
            all_goals exact ⟨rfl, by rw [HRR.out]; rfl, HU.out.drew⟩
          · have e1 : (P == nm) = false := beq_eq_false_iff_ne.2 hq
            have HQ := Lib.hid hq
            clear hq
            go_wp2_with fail
            go_region_held3 (fun w' => w'.cell? (ad.add (p * 2)) = some (.string ⟨P.toArray⟩) ∧ w'.cell? ⟨wr.heap.size, 0, none⟩ = some (.string ⟨nm.toArray⟩)) (with_reducible exact HCC.out _ HD1.out) ((go_at_call 45; refine (requireAt_yes _).mono ?_; rintro _ z ⟨rfl, rfl⟩))
            have HD2 : Hid (Below V.heap.size V u.drew.drew) := HBU.out.drew.drew
            clear e1 q0 q1
            obtain ⟨q0, q1⟩ := HCC.out _ HD1.out
            cases hls : Op.bytesLess P nm
            · have HRR := Lib.hid (HT3.out HQ.out hls)
              go_wp2_with fail
              go_region_with (first
                | (go_at_call 45; refine (requireAt_no _).mono ?_; rintro _ z ⟨rfl, rfl⟩; refine ends_at (P := Tryz.prog) (a := { tmps := #[], defers := [] }) (w := w) ?_))
              all_goals exact ⟨rfl, by rw [HRR.out]; rfl, HU.out.drew.drew⟩
            · have HRR := Lib.hid (HT2.out HQ.out hls)
              go_wp2_with fail
              go_region_held3 (fun w' => w'.cell? (ad.add (p * 2)) = some (.string ⟨P.toArray⟩) ∧ w'.cell? ⟨wr.heap.size, 0, none⟩ = some (.string ⟨nm.toArray⟩)) (with_reducible exact HCC.out _ HD2.out) ((go_at_call 45; refine (requireAt_yes _).mono ?_; rintro _ z ⟨rfl, rfl⟩))
              clear hls q0 q1 hkp hwp
              go_wp2_with fail
              go_roundw
              case rel => exact ⟨k + 1, by omega, by go_num, by show _ = _; rw [HJ.out]; exact HRR.out, HU.out.drew.drew⟩
              case measure => simp [intOf]; omega
      · have HRR := Lib.hid (S1.out hx0)
        rw [okAt_ne hx0]
        have HX := Lib.hid hx0
        clear hx0
        go_wp2_with fail
        exact ⟨rfl, by rw [HRR.out]; exact (okAt_ne HX.out).symm, HU.out⟩
    · obtain rfl : k = n := by omega
      have hI := HI.out
      rw [Nat.sub_self] at hI
      have HRR : Hid (R = (0, 0)) := hI.symm
      clear hI
      go_wp2_with fail
      go_end0
      exact ⟨by rw [HRR.out]; rfl, HB.out⟩
end Go.Proofs.YtojhapnodjabdaaGreatDoor
