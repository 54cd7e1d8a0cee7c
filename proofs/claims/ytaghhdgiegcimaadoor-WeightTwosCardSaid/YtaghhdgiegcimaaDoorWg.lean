/- Go's Frexp and Ldexp. -/
import Derived.Test.YtaghhdgiegcimaaDoorWf
namespace Go.Proofs.YtaghhdgiegcimaaDoor
open Go.RowKit

theorem ne_zero (n : Bool) {r : Nat} (h : Fin r) : (FloatKind.f64.format.order (Wm.word n r) 0 == some .eq) = false := by
  obtain ⟨g1, g2, g3, _⟩ := fin_word h n
  rw [Wm.ord_eq _ 0 g1 (by decide), g2, nan_zero, sk_zero, decide_eq_false g3]; rfl
set_option maxHeartbeats 800000 in
theorem frexp_in (n : Bool) (r : Nat) (h : Fin r) (w : World) :
    Calls Tryd.prog 111 #[.float .f64 (Wm.word n r)] w fun e w' => e = .returned (.tuple #[.float .f64 (Wm.word n (4602678819172646912 + Wm.fOf r)), .int .i64 (Wm.xOf r)]) ∧ w = w' := by
  have o1 := ne_zero n h
  obtain ⟨n1, n2⟩ := Wm.nrm_lo h.1 h.2
  have hfb := tb_run
  have hfb2 := fb_run
  have e1 := Wm.expB n (Wm.nrm r) (by omega)
  have e2 := Wm.clearB n (Wm.nrm r) (by omega)
  have e3 : bits .or .u64 (Wm.word n (Wm.nrm r % 4503599627370496) : Nat) 4602678819172646912 = (Wm.word n (4602678819172646912 + Wm.nrm r % 4503599627370496) : Nat) := Wm.setB n 1022 (Wm.nrm r % 4503599627370496) (by decide) (by omega)
  have hq : Wm.nrm r / 4503599627370496 < 2048 := by omega
  have HX : Hid (Wm.xOf r = nrmX r + ((Wm.nrm r / 4503599627370496 : Nat) - 1023 + 1)) := by
    show _ = _
    unfold Wm.xOf nrmX
    split <;> omega
  have HF : Hid (Wm.fOf r = Wm.nrm r % 4503599627370496) := rfl
  have hx0 : nrmX r = -52 ∨ nrmX r = 0 := by unfold nrmX; split <;> simp
  clear n1 n2
  generalize Wm.nrm r / 4503599627370496 = q at *
  go_enter Tryd.func111, Tryd.ntmps111
  go_wp2_with fail
  refine (isInf_no n r h _).mono ?_
  rintro e w' ⟨rfl, rfl⟩
  go_wp2_with fail
  refine (mIsNaN_any _ (fin_word h n).1 _).mono ?_
  rintro e w' ⟨rfl, rfl⟩
  rw [(fin_word h n).2.1]
  go_wp2_with fail
  refine (normalize_any n r h _).mono ?_
  rintro e w' ⟨rfl, rfl⟩
  go_wp2_with fail
  go_ret2
  exact ⟨by rw [HX.out, HF.out]; rfl, rfl⟩
set_option maxHeartbeats 800000 in
theorem frexp_any (n : Bool) (r : Nat) (h : Fin r) (w : World) :
    Calls Tryd.prog 87 #[.float .f64 (Wm.word n r)] w fun e w' => e = .returned (.tuple #[.float .f64 (Wm.word n (4602678819172646912 + Wm.fOf r)), .int .i64 (Wm.xOf r)]) ∧ w = w' := by
  go_enter Tryd.func87, Tryd.ntmps87
  go_wp2_with fail
  refine (frexp_in n r h _).mono ?_
  rintro e w' ⟨rfl, rfl⟩
  go_wp2_with fail
  go_ret2
  exact ⟨rfl, rfl⟩
set_option maxHeartbeats 800000 in
theorem copysign_any (b c : Nat) (hb : b < Wm.W) (hc : c < Wm.W) (w : World) :
    Calls Tryd.prog 56 #[.float .f64 b, .float .f64 c] w fun e w' => e = .returned (.float .f64 (Wm.word (Wm.neg c) (Wm.rung b))) ∧ w = w' := by
  have hfb := tb_run
  have hfb2 := fb_run
  have e1 := Wm.absB b hb
  have e2 := Wm.sgnB c hc
  have e3 := Wm.signB (Wm.rung b) (Wm.rung_lt b)
  have e4 : bits .or .u64 (Wm.rung b : Int) 0 = (Wm.rung b : Int) := by
    have h := u64_or_nat (Wm.rung b) 0 (by have := Wm.rung_lt b; omega) (by decide)
    rw [Nat.or_zero] at h
    exact h
  have HW : Hid (∀ g r, Wm.word g r = if g then 9223372036854775808 + r else r) := fun _ _ => rfl
  cases hg : Wm.neg c
  all_goals
    rw [hg] at e2
    go_enter Tryd.func56, Tryd.ntmps56
    go_wp2_with fail
    go_ret
    exact ⟨by rw [HW.out]; rfl, rfl⟩
set_option maxHeartbeats 2000000 in
theorem ldexp_in (n : Bool) (r : Nat) (e : Int) (h : Fin r) (hr : 4503599627370496 ≤ r) (he : -100000 ≤ e ∧ e ≤ 100000) (w : World) :
    Calls Tryd.prog 71 #[.float .f64 (Wm.word n r), .int .i64 e] w fun e' w' => e' = .returned (.float .f64 (Wm.ldx n r e)) ∧ w = w' := by
  have o1 := ne_zero n h
  have h2 := h.2
  have hfb := tb_run
  have hfb2 := fb_run
  have e1 := Wm.expI n r (by omega)
  have e2 := Wm.clearB n r (by omega)
  have hq : r / 4503599627370496 < 2048 := by omega
  have hnm : Wm.nrm r = r ∧ nrmX r = 0 := by unfold Wm.nrm nrmX; rw [if_neg (by omega), if_neg (by omega)]; exact ⟨rfl, rfl⟩
  have HL : Hid (Wm.ldx n r e = if Wm.ldE r e < -1075 then Wm.word n 0 else if 1023 < Wm.ldE r e then Wm.word n 9218868437227405312
    else if Wm.ldE r e < -1022 then Wm.deno n ((Wm.ldE r e + 1076).toNat * 4503599627370496 + r % 4503599627370496)
    else Wm.word n ((Wm.ldE r e + 1023).toNat * 4503599627370496 + r % 4503599627370496)) := rfl
  have HE : Hid (Wm.ldE r e = (r / 4503599627370496 : Nat) - 1023 + e) := rfl
  have hfr : r % 4503599627370496 < 4503599627370496 := by omega
  have hz0 : 0 ≤ (Wm.word n r : Int) / 4503599627370496 := by omega
  have hz1 : (Wm.word n r : Int) / 4503599627370496 ≤ 4095 := by have := (fin_word h n).1; unfold Wm.W at this; omega
  go_enter Tryd.func71, Tryd.ntmps71
  go_wp2_with fail
  refine (isInf_no n r h _).mono ?_
  rintro e' w' ⟨rfl, rfl⟩
  go_wp2_with fail
  refine (mIsNaN_any _ (fin_word h n).1 _).mono ?_
  rintro e' w' ⟨rfl, rfl⟩
  rw [(fin_word h n).2.1]
  go_wp2_with fail
  refine (normalize_any n r h _).mono ?_
  rintro e' w' ⟨rfl, rfl⟩
  rw [hnm.1, hnm.2]
  clear hnm hr h2
  generalize r / 4503599627370496 = q at *
  by_cases c1 : (q : Int) - 1023 + e < -1075
  · have HV : Hid (Wm.ldx n r e = Wm.word n 0) := by show _ = _; rw [HL.out, if_pos (by rw [HE.out]; exact c1)]
    clear HL HE
    go_wp2_with fail
    refine (copysign_any 0 (Wm.word n r) (by decide) (fin_word h n).1 _).mono ?_
    rintro e' w' ⟨rfl, rfl⟩
    rw [(Wm.rung_word n (r := r) (by have := h.2; omega)).2.1]
    go_wp2_with fail
    go_ret
    exact ⟨by rw [HV.out]; rfl, rfl⟩
  · by_cases c2 : 1023 < (q : Int) - 1023 + e
    · have HV : Hid (Wm.ldx n r e = Wm.word n 9218868437227405312) := by show _ = _; rw [HL.out, if_neg (by rw [HE.out]; exact c1), if_pos (by rw [HE.out]; exact c2)]
      clear HL HE
      have o2 := lt_zero _ (fin_word h n).1
      rw [(fin_word h n).2.1] at o2
      have hs : decide (Wm.sk (Wm.word n r) < 0) = n := by
        obtain ⟨a1, a2, a3⟩ := Wm.rung_word n (r := r) (by have := h.2; omega)
        have := h.1
        unfold Wm.sk; rw [a1, a2]; cases n <;> simp <;> omega
      rw [hs] at o2
      clear hs
      cases n
      all_goals
        simp only [Bool.not_false, Bool.true_and] at o2
        go_wp2_with fail
        refine (inf_any _ _).mono ?_
        rintro e' w' ⟨rfl, rfl⟩
        go_wp2_with fail
        go_ret
        exact ⟨by rw [HV.out]; rfl, rfl⟩
    · by_cases c3 : (q : Int) - 1023 + e < -1022
      · have HV : Hid (Wm.ldx n r e = Wm.deno n ((Wm.ldE r e + 1076).toNat * 4503599627370496 + r % 4503599627370496)) := by show _ = _; rw [HL.out, if_neg (by rw [HE.out]; exact c1), if_neg (by rw [HE.out]; exact c2), if_pos (by rw [HE.out]; exact c3)]
        clear HL
        obtain ⟨p, hp⟩ : ∃ p : Nat, (q : Int) - 1023 + e + 1076 = p := ⟨((q : Int) - 1023 + e + 1076).toNat, by omega⟩
        have HP : Hid ((Wm.ldE r e + 1076).toNat = p) := by show _ = _; rw [HE.out]; omega
        rw [HP.out] at HV
        have e3 : bits .or .u64 (Wm.word n (r % 4503599627370496) : Nat) ((e + ((q : Int) - 1023) + 53 + 1023) * 4503599627370496) = (Wm.word n (p * 4503599627370496 + r % 4503599627370496) : Nat) := by
          rw [show (e + ((q : Int) - 1023) + 53 + 1023) * 4503599627370496 = ((p * 4503599627370496 : Nat) : Int) from by omega]
          exact Wm.setB n p _ (by omega) hfr
        have hm := run_mul _ _ _ (Wm.mul_deno n (r := p * 4503599627370496 + r % 4503599627370496) (by omega)).1
        clear HP HE hp
        go_wp2_with fail
        go_ret
        exact ⟨by rw [HV.out]; rfl, rfl⟩
      · have HV : Hid (Wm.ldx n r e = Wm.word n ((Wm.ldE r e + 1023).toNat * 4503599627370496 + r % 4503599627370496)) := by show _ = _; rw [HL.out, if_neg (by rw [HE.out]; exact c1), if_neg (by rw [HE.out]; exact c2), if_neg (by rw [HE.out]; exact c3)]
        clear HL
        obtain ⟨p, hp⟩ : ∃ p : Nat, (q : Int) - 1023 + e + 1023 = p := ⟨((q : Int) - 1023 + e + 1023).toNat, by omega⟩
        have HP : Hid ((Wm.ldE r e + 1023).toNat = p) := by show _ = _; rw [HE.out]; omega
        rw [HP.out] at HV
        have e3 : bits .or .u64 (Wm.word n (r % 4503599627370496) : Nat) ((e + ((q : Int) - 1023) + 1023) * 4503599627370496) = (Wm.word n (p * 4503599627370496 + r % 4503599627370496) : Nat) := by
          rw [show (e + ((q : Int) - 1023) + 1023) * 4503599627370496 = ((p * 4503599627370496 : Nat) : Int) from by omega]
          exact Wm.setB n p _ (by omega) hfr
        have hm := run_mul _ _ _ (Wm.mul_one n (r := p * 4503599627370496 + r % 4503599627370496) (by omega) (by omega))
        clear HP HE hp
        go_wp2_with fail
        go_ret
        exact ⟨by rw [HV.out]; rfl, rfl⟩
set_option maxHeartbeats 800000 in
theorem ldexp_any (n : Bool) (r : Nat) (e : Int) (h : Fin r) (hr : 4503599627370496 ≤ r) (he : -100000 ≤ e ∧ e ≤ 100000) (w : World) :
    Calls Tryd.prog 41 #[.float .f64 (Wm.word n r), .int .i64 e] w fun e' w' => e' = .returned (.float .f64 (Wm.ldx n r e)) ∧ w = w' := by
  go_enter Tryd.func41, Tryd.ntmps41
  go_wp2_with fail
  refine (ldexp_in n r e h hr he _).mono ?_
  rintro e' w' ⟨rfl, rfl⟩
  go_wp2_with fail
  go_ret
  exact ⟨rfl, rfl⟩
end Go.Proofs.YtaghhdgiegcimaaDoor
