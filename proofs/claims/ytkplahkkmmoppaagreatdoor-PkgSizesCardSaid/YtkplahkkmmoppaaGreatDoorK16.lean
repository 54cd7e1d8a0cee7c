/- Part 16 of what the laws lean on. -/
import Derived.Test.YtkplahkkmmoppaaGreatDoorK15
import Derived.Lib.AppendIntMem
import Derived.Lib.ItoaLen
set_option maxHeartbeats 4000000
namespace Go.Proofs.YtkplahkkmmoppaaGreatDoor
open Go.RowKit
theorem ne_zero (n : Bool) {r : Nat} (h : Fin r) : (FloatKind.f64.format.order (Wm.word n r) 0 == some .eq) = false := by
 obtain ⟨g1, g2, g3, _⟩ := fin_word h n
 rw [Wm.ord_eq _ 0 g1 (by decide), g2, nan_zero, sk_zero, decide_eq_false g3]; rfl
theorem frexp_in (n : Bool) (r : Nat) (h : Fin r) (w : World) :
  Calls Tryz.prog 196 #[.float .f64 (Wm.word n r)] w fun e w' => e = .returned (.tuple #[.float .f64 (Wm.word n (4602678819172646912 + Wm.fOf r)), .int .i64 (Wm.xOf r)]) ∧ w = w' := by
 have o1 := ne_zero n h
 obtain ⟨n1, n2⟩ := Wm.nrm_lo h.1 h.2
 have hfb := tb_run
 have hfb2 := fb_run
 have e1 := Wm.expB n (Wm.nrm r) (by omega)
 have e2 := Wm.clearB n (Wm.nrm r) (by omega)
 have e3 : bits .or .u64 (Wm.word n (Wm.nrm r % 4503599627370496) : Nat) 4602678819172646912 = (Wm.word n (4602678819172646912 + Wm.nrm r % 4503599627370496) : Nat) := Wm.setB n 1022 (Wm.nrm r % 4503599627370496) (by decide) (by omega)
 have hq : Wm.nrm r / 4503599627370496 < 2048 := by omega
 have HX : Hid (Wm.xOf r = nrmX r + ((Wm.nrm r / 4503599627370496 : Nat) - 1023 + 1)) := by
  show _ = _
  unfold Wm.xOf nrmX
  split <;> omega
 have HF : Hid (Wm.fOf r = Wm.nrm r % 4503599627370496) := rfl
 have hx0 : nrmX r = -52 ∨ nrmX r = 0 := by unfold nrmX; split <;> simp
 clear n1 n2
 generalize Wm.nrm r / 4503599627370496 = q at *
 go_enter Tryz.func196, Tryz.ntmps196
 go_wp2_with fail
 refine (isInf_no n r h _).mono ?_
 rintro e w' ⟨rfl, rfl⟩
 go_wp2_with fail
 refine (mIsNaN_any _ (fin_word h n).1 _).mono ?_
 rintro e w' ⟨rfl, rfl⟩
 rw [(fin_word h n).2.1]
 go_wp2_with fail
 refine (normalize_any n r h _).mono ?_
 rintro e w' ⟨rfl, rfl⟩
 go_wp2_with fail
 go_ret2
 exact ⟨by rw [HX.out, HF.out]; rfl, rfl⟩
theorem frexp_any (n : Bool) (r : Nat) (h : Fin r) (w : World) :
  Calls Tryz.prog 147 #[.float .f64 (Wm.word n r)] w fun e w' => e = .returned (.tuple #[.float .f64 (Wm.word n (4602678819172646912 + Wm.fOf r)), .int .i64 (Wm.xOf r)]) ∧ w = w' := by
 go_enter Tryz.func147, Tryz.ntmps147
 go_wp2_with fail
 refine (frexp_in n r h _).mono ?_
 rintro e w' ⟨rfl, rfl⟩
 go_wp2_with fail
 go_ret2
 exact ⟨rfl, rfl⟩
theorem copysign_any (b c : Nat) (hb : b < Wm.W) (hc : c < Wm.W) (w : World) :
  Calls Tryz.prog 231 #[.float .f64 b, .float .f64 c] w fun e w' => e = .returned (.float .f64 (Wm.word (Wm.neg c) (Wm.rung b))) ∧ w = w' := by
 have hfb := tb_run
 have hfb2 := fb_run
 have e1 := Wm.absB b hb
 have e2 := Wm.sgnB c hc
 have e3 := Wm.signB (Wm.rung b) (Wm.rung_lt b)
 have e4 : bits .or .u64 (Wm.rung b : Int) 0 = (Wm.rung b : Int) := by
  have h := u64_or_nat (Wm.rung b) 0 (by have := Wm.rung_lt b; omega) (by decide)
  rw [Nat.or_zero] at h
  exact h
 have HW : Hid (∀ g r, Wm.word g r = if g then 9223372036854775808 + r else r) := fun _ _ => rfl
 cases hg : Wm.neg c
 all_goals
  rw [hg] at e2
  go_enter Tryz.func231, Tryz.ntmps231
  go_wp2_with fail
  go_ret
  exact ⟨by rw [HW.out]; rfl, rfl⟩
theorem ldexp_in (n : Bool) (r : Nat) (e : Int) (h : Fin r) (hr : 4503599627370496 ≤ r) (he : -100000 ≤ e ∧ e ≤ 100000) (w : World) :
  Calls Tryz.prog 198 #[.float .f64 (Wm.word n r), .int .i64 e] w fun e' w' => e' = .returned (.float .f64 (Wm.ldx n r e)) ∧ w = w' := by
 have o1 := ne_zero n h
 have h2 := h.2
 have hfb := tb_run
 have hfb2 := fb_run
 have e1 := Wm.expI n r (by omega)
 have e2 := Wm.clearB n r (by omega)
 have hq : r / 4503599627370496 < 2048 := by omega
 have hnm : Wm.nrm r = r ∧ nrmX r = 0 := by unfold Wm.nrm nrmX; rw [if_neg (by omega), if_neg (by omega)]; exact ⟨rfl, rfl⟩
 have HL : Hid (Wm.ldx n r e = if Wm.ldE r e < -1075 then Wm.word n 0 else if 1023 < Wm.ldE r e then Wm.word n 9218868437227405312
  else if Wm.ldE r e < -1022 then Wm.deno n ((Wm.ldE r e + 1076).toNat * 4503599627370496 + r % 4503599627370496)
  else Wm.word n ((Wm.ldE r e + 1023).toNat * 4503599627370496 + r % 4503599627370496)) := rfl
 have HE : Hid (Wm.ldE r e = (r / 4503599627370496 : Nat) - 1023 + e) := rfl
 have hfr : r % 4503599627370496 < 4503599627370496 := by omega
 have hz0 : 0 ≤ (Wm.word n r : Int) / 4503599627370496 := by omega
 have hz1 : (Wm.word n r : Int) / 4503599627370496 ≤ 4095 := by have := (fin_word h n).1; unfold Wm.W at this; omega
 go_enter Tryz.func198, Tryz.ntmps198
 go_wp2_with fail
 refine (isInf_no n r h _).mono ?_
 rintro e' w' ⟨rfl, rfl⟩
 go_wp2_with fail
 refine (mIsNaN_any _ (fin_word h n).1 _).mono ?_
 rintro e' w' ⟨rfl, rfl⟩
 rw [(fin_word h n).2.1]
 go_wp2_with fail
 refine (normalize_any n r h _).mono ?_
 rintro e' w' ⟨rfl, rfl⟩
 rw [hnm.1, hnm.2]
 clear hnm hr h2
 generalize r / 4503599627370496 = q at *
 by_cases c1 : (q : Int) - 1023 + e < -1075
 ·have HV : Hid (Wm.ldx n r e = Wm.word n 0) := by show _ = _; rw [HL.out, if_pos (by rw [HE.out]; exact c1)]
  clear HL HE
  go_wp2_with fail
  refine (copysign_any 0 (Wm.word n r) (by decide) (fin_word h n).1 _).mono ?_
  rintro e' w' ⟨rfl, rfl⟩
  rw [(Wm.rung_word n (r := r) (by have := h.2; omega)).2.1]
  go_wp2_with fail
  go_ret
  exact ⟨by rw [HV.out]; rfl, rfl⟩
 ·by_cases c2 : 1023 < (q : Int) - 1023 + e
  ·have HV : Hid (Wm.ldx n r e = Wm.word n 9218868437227405312) := by show _ = _; rw [HL.out, if_neg (by rw [HE.out]; exact c1), if_pos (by rw [HE.out]; exact c2)]
   clear HL HE
   have o2 := lt_zero _ (fin_word h n).1
   rw [(fin_word h n).2.1] at o2
   have hs : decide (Wm.sk (Wm.word n r) < 0) = n := by
    obtain ⟨a1, a2, a3⟩ := Wm.rung_word n (r := r) (by have := h.2; omega)
    have := h.1
    unfold Wm.sk; rw [a1, a2]; cases n <;> simp <;> omega
   rw [hs] at o2
   clear hs
   cases n
   all_goals
    simp only [Bool.not_false, Bool.true_and] at o2
    go_wp2_with fail
    refine (inf_any _ _).mono ?_
    rintro e' w' ⟨rfl, rfl⟩
    go_wp2_with fail
    go_ret
    exact ⟨by rw [HV.out]; rfl, rfl⟩
  ·by_cases c3 : (q : Int) - 1023 + e < -1022
   ·have HV : Hid (Wm.ldx n r e = Wm.deno n ((Wm.ldE r e + 1076).toNat * 4503599627370496 + r % 4503599627370496)) := by show _ = _; rw [HL.out, if_neg (by rw [HE.out]; exact c1), if_neg (by rw [HE.out]; exact c2), if_pos (by rw [HE.out]; exact c3)]
    clear HL
    obtain ⟨p, hp⟩ : ∃ p : Nat, (q : Int) - 1023 + e + 1076 = p := ⟨((q : Int) - 1023 + e + 1076).toNat, by omega⟩
    have HP : Hid ((Wm.ldE r e + 1076).toNat = p) := by show _ = _; rw [HE.out]; omega
    rw [HP.out] at HV
    have e3 : bits .or .u64 (Wm.word n (r % 4503599627370496) : Nat) ((e + ((q : Int) - 1023) + 53 + 1023) * 4503599627370496) = (Wm.word n (p * 4503599627370496 + r % 4503599627370496) : Nat) := by
     rw [show (e + ((q : Int) - 1023) + 53 + 1023) * 4503599627370496 = ((p * 4503599627370496 : Nat) : Int) from by omega]
     exact Wm.setB n p _ (by omega) hfr
    have hm := run_mul _ _ _ (Wm.mul_deno n (r := p * 4503599627370496 + r % 4503599627370496) (by omega)).1
    clear HP HE hp
    go_wp2_with fail
    go_ret
    exact ⟨by rw [HV.out]; rfl, rfl⟩
   ·have HV : Hid (Wm.ldx n r e = Wm.word n ((Wm.ldE r e + 1023).toNat * 4503599627370496 + r % 4503599627370496)) := by show _ = _; rw [HL.out, if_neg (by rw [HE.out]; exact c1), if_neg (by rw [HE.out]; exact c2), if_neg (by rw [HE.out]; exact c3)]
    clear HL
    obtain ⟨p, hp⟩ : ∃ p : Nat, (q : Int) - 1023 + e + 1023 = p := ⟨((q : Int) - 1023 + e + 1023).toNat, by omega⟩
    have HP : Hid ((Wm.ldE r e + 1023).toNat = p) := by show _ = _; rw [HE.out]; omega
    rw [HP.out] at HV
    have e3 : bits .or .u64 (Wm.word n (r % 4503599627370496) : Nat) ((e + ((q : Int) - 1023) + 1023) * 4503599627370496) = (Wm.word n (p * 4503599627370496 + r % 4503599627370496) : Nat) := by
     rw [show (e + ((q : Int) - 1023) + 1023) * 4503599627370496 = ((p * 4503599627370496 : Nat) : Int) from by omega]
     exact Wm.setB n p _ (by omega) hfr
    have hm := run_mul _ _ _ (Wm.mul_one n (r := p * 4503599627370496 + r % 4503599627370496) (by omega) (by omega))
    clear HP HE hp
    go_wp2_with fail
    go_ret
    exact ⟨by rw [HV.out]; rfl, rfl⟩
theorem ldexp_any (n : Bool) (r : Nat) (e : Int) (h : Fin r) (hr : 4503599627370496 ≤ r) (he : -100000 ≤ e ∧ e ≤ 100000) (w : World) :
  Calls Tryz.prog 148 #[.float .f64 (Wm.word n r), .int .i64 e] w fun e' w' => e' = .returned (.float .f64 (Wm.ldx n r e)) ∧ w = w' := by
 go_enter Tryz.func148, Tryz.ntmps148
 go_wp2_with fail
 refine (ldexp_in n r e h hr he _).mono ?_
 rintro e' w' ⟨rfl, rfl⟩
 go_wp2_with fail
 go_ret
 exact ⟨rfl, rfl⟩
end Go.Proofs.YtkplahkkmmoppaaGreatDoor
namespace Go.Proofs.YtkplahkkmmoppaaGreatDoor.Wm
open Go.Lib
theorem num_snoc (l : List UInt8) (c : UInt8) : Vm.num (l ++ [c]) = 10 * Vm.num l + (c.toNat - 48) := by
 unfold Vm.num; rw [List.foldl_append]; rfl
theorem dig_iff (c : UInt8) : Vm.dig c = true ↔ 48 ≤ c.toNat ∧ c.toNat ≤ 57 := by unfold Vm.dig; simp
theorem ofNat_toNat (n : Nat) (h : n < 256) : (UInt8.ofNat n).toNat = n := by rw [UInt8.toNat_ofNat']; omega
def plain (l : List UInt8) : Prop := l ≠ [] ∧ l.all Vm.dig = true ∧ (l.head? = some 48 → l = [48])
theorem dec_small {u : Nat} (h : u < 10) : decDigits u = [UInt8.ofNat (48 + u)] := by rw [decDigits, dif_pos h]
theorem dec_big {u : Nat} (h : ¬ u < 10) : decDigits u = decDigits (u / 10) ++ [UInt8.ofNat (48 + u % 10)] := by rw [decDigits, dif_neg h]
theorem dec_plain : ∀ (n u : Nat), u ≤ n → plain (decDigits u) ∧ Vm.num (decDigits u) = u ∧ (0 < u → (decDigits u).head? ≠ some 48)
 | 0, u, h => by
  obtain rfl : u = 0 := by omega
  rw [dec_small (by omega)]
  refine ⟨⟨by simp, by decide, fun _ => rfl⟩, by decide, fun h => by omega⟩
 | n + 1, u, h => by
  by_cases c : u < 10
  ·rw [dec_small c]
   have hd : (UInt8.ofNat (48 + u)).toNat = 48 + u := ofNat_toNat _ (by omega)
   refine ⟨⟨by simp, ?_, fun h => ?_⟩, ?_, fun h0 h => ?_⟩
   ·simp only [List.all_cons, List.all_nil, Bool.and_true]; rw [dig_iff, hd]; omega
   ·simp only [List.head?_cons, Option.some.injEq] at h; rw [h]
   ·have := num_snoc [] (UInt8.ofNat (48 + u)); rw [List.nil_append, hd] at this; rw [this]; simp [Vm.num]
   ·simp only [List.head?_cons, Option.some.injEq] at h
    rw [h] at hd; have : (48 : UInt8).toNat = 48 := rfl
    omega
  ·obtain ⟨⟨h1, h2, h3⟩, h4, h5⟩ := dec_plain n (u / 10) (by omega)
   have hd : (UInt8.ofNat (48 + u % 10)).toNat = 48 + u % 10 := ofNat_toNat _ (by omega)
   have h6 := h5 (by omega)
   rw [dec_big c]
   have hh : (decDigits (u / 10) ++ [UInt8.ofNat (48 + u % 10)]).head? = (decDigits (u / 10)).head? := by
    rw [List.head?_append]
    cases hx : (decDigits (u / 10)).head? with
    | none => rw [List.head?_eq_none_iff] at hx; exact absurd hx h1
    | some _ => rfl
   refine ⟨⟨by simp, ?_, fun h => ?_⟩, ?_, fun _ => ?_⟩
   ·rw [List.all_append, h2]; simp only [List.all_cons, List.all_nil, Bool.and_true, Bool.true_and]; rw [dig_iff, hd]; omega
   ·rw [hh] at h; exact absurd h h6
   ·rw [num_snoc, h4, hd]; omega
   ·rw [hh]; exact h6
theorem num_last (l : List UInt8) (h : l ≠ []) : Vm.num l % 2 = ((l.getLast h).toNat - 48) % 2 := by
 obtain ⟨m, c, rfl⟩ : ∃ m c, l = m ++ [c] := ⟨l.dropLast, l.getLast h, (List.dropLast_concat_getLast h).symm⟩
 rw [num_snoc, List.getLast_concat]; omega
theorem parseUintM_num : ∀ (l : List UInt8) (acc : Nat), l.all Vm.dig = true → acc ≤ 18446744073709551615 →
  parseUintM 18446744073709551615 acc l = if l.foldl (fun n c => 10 * n + (c.toNat - 48)) acc ≤ 18446744073709551615 then .ok (l.foldl (fun n c => 10 * n + (c.toNat - 48)) acc) else .range
 | [], acc, _, h => by simp [parseUintM, h]
 | c :: l, acc, h, ha => by
  simp only [List.all_cons, Bool.and_eq_true] at h
  have hc := (dig_iff c).1 h.1
  have mono : ∀ (l : List UInt8) (a : Nat), a ≤ l.foldl (fun n c => 10 * n + (c.toNat - 48)) a := fun l => by
   induction l with
   | nil => intro a; exact Nat.le_refl _
   | cons c l ih => intro a; rw [List.foldl_cons]; exact Nat.le_trans (by omega) (ih _)
  have hm := mono l (10 * acc + (c.toNat - 48))
  rw [List.foldl_cons]
  unfold parseUintM
  rw [if_pos hc, show acc * 10 + (c.toNat - 48) = 10 * acc + (c.toNat - 48) from by omega]
  by_cases c1 : 10 * acc + (c.toNat - 48) ≤ 18446744073709551615
  ·rw [if_neg (by omega), if_neg (by omega)]
   exact parseUintM_num l _ h.2 c1
  ·rw [if_neg (show ¬ l.foldl (fun n c => 10 * n + (c.toNat - 48)) (10 * acc + (c.toNat - 48)) ≤ 18446744073709551615 by omega)]
   split
   ·rfl
   ·rw [if_pos (by omega)]
def sgnd (l : List UInt8) : Bool := l.head? == some 45
def mgn (l : List UInt8) : List UInt8 := if sgnd l then l.drop 1 else l
def decOk (l : List UInt8) : Prop := plain (mgn l) ∧ (mgn l = [48] → sgnd l = false)
def nmb (l : List UInt8) : Int :=
 if sgnd l then (if Vm.num (mgn l) ≤ 9223372036854775808 then -(Vm.num (mgn l) : Int) else -9223372036854775808)
 else (if Vm.num (mgn l) < 9223372036854775808 then (Vm.num (mgn l) : Int) else 9223372036854775807)
theorem parse_nmb (l : List UInt8) (h : plain (mgn l)) : parseIntB 64 l = .ok (nmb l) ∨ (parseIntB 64 l = .range ∧ intSat 64 l = nmb l) := by
 obtain ⟨h1, h2, _⟩ := h
 have hu := parseUintM_num (mgn l) 0 h2 (by omega)
 have hB : parseUintB 64 (mgn l) = if Vm.num (mgn l) ≤ 18446744073709551615 then .ok (Vm.num (mgn l)) else .range := by
  unfold parseUintB; rw [if_neg h1]; exact hu
 clear hu
 unfold nmb
 cases l with
 | nil => exact absurd rfl h1
 | cons c r =>
  have h45 : (45 : UInt8).toNat = 45 := rfl
  by_cases hc : c = 45
  ·have hs : sgnd (c :: r) = true := by unfold sgnd; rw [hc]; rfl
   have hm : mgn (c :: r) = r := by unfold mgn; rw [hs]; rfl
   rw [hm] at hB ⊢
   rw [hs]
   unfold parseIntB intSat
   subst hc
   simp only [h45, or_true, if_true, hB]
   by_cases g1 : Vm.num r ≤ 18446744073709551615
   ·simp only [if_pos g1]
    by_cases g2 : Vm.num r ≤ 9223372036854775808
    ·left
     rw [if_neg (by simp), if_neg (by simp; omega)]
     simp [g2]
    ·right
     rw [if_neg (by simp), if_pos (by simp; omega)]
     simp [g2]
   ·right
    simp only [if_neg g1]
    simp; omega
  ·have hs : sgnd (c :: r) = false := by unfold sgnd; simp [hc]
   have hm : mgn (c :: r) = c :: r := by unfold mgn; rw [hs]; rfl
   rw [hm] at hB h2 ⊢
   rw [hs]
   have hd : Vm.dig c = true := by simp only [List.all_cons, Bool.and_eq_true] at h2; exact h2.1
   rw [dig_iff] at hd
   unfold parseIntB intSat
   simp only [List.head?_cons, Option.map_some, Option.some.injEq]
   rw [if_neg (show ¬ (c.toNat = 43 ∨ c.toNat = 45) by omega), hB, if_neg (show ¬ c.toNat = 45 by omega)]
   by_cases g1 : Vm.num (c :: r) ≤ 18446744073709551615
   ·simp only [if_pos g1]
    by_cases g2 : Vm.num (c :: r) < 9223372036854775808
    ·left
     rw [if_neg (by simp; omega), if_neg (by simp; omega), if_neg (show ¬ c.toNat = 45 by omega)]
     simp [g2]
    ·right
     rw [if_pos (by simp; omega)]
     simp [g2]
   ·right
    simp only [if_neg g1]
    simp; omega
theorem mgn_eq (l : List UInt8) : Lib.trimPrefix l [45] = mgn l := by
 unfold Lib.trimPrefix mgn sgnd Lib.hasPrefix
 cases l with
 | nil => rfl
 | cons c t =>
  by_cases hc : c = 45
  ·subst hc; rfl
  ·have h1 : (List.isPrefixOf [45] (c :: t)) = false := by simp [List.isPrefixOf]; exact fun h => hc h.symm
   rw [h1]; simp [hc]
theorem mgn_le (l : List UInt8) : (mgn l).length ≤ l.length := by
 unfold mgn; split
 ·rw [List.length_drop]; omega
 ·exact Nat.le_refl _
def decB (l : List UInt8) : Bool := if (mgn l).isEmpty || (mgn l).head? == some 48 then l == [48] else (Vm.undigs (mgn l)).isEmpty
theorem undigs_nil (l : List UInt8) : (Vm.undigs l).isEmpty = true ↔ l.all Vm.dig = true := by
 unfold Vm.undigs
 induction l with
 | nil => simp
 | cons c t ih =>
  rw [List.dropWhile_cons, List.all_cons]
  cases hc : Vm.dig c
  ·simp
  ·simp only [if_true, Bool.true_and]; exact ih
theorem decB_iff (l : List UInt8) : decB l = true ↔ decOk l := by
 unfold decB decOk plain
 constructor
 ·intro h
  split at h
  ·have : l = [48] := by simpa using h
   subst this
   refine ⟨⟨by decide, by decide, fun _ => rfl⟩, fun _ => rfl⟩
  ·rename_i h2
   simp only [Bool.or_eq_true, List.isEmpty_iff, beq_iff_eq, not_or] at h2
   refine ⟨⟨h2.1, (undigs_nil _).1 h, fun h3 => absurd h3 h2.2⟩, fun h3 => absurd (by rw [h3]; rfl) h2.2⟩
 ·rintro ⟨⟨h1, h2, h3⟩, h4⟩
  split
  ·rename_i h5
   simp only [Bool.or_eq_true, List.isEmpty_iff, beq_iff_eq] at h5
   rcases h5 with h5 | h5
   ·exact absurd h5 h1
   ·have h6 := h3 h5
    have h7 := h4 h6
    have : mgn l = l := by unfold mgn; rw [h7]; rfl
    rw [this] at h6
    rw [h6]; rfl
  ·exact (undigs_nil _).2 h2
end Go.Proofs.YtkplahkkmmoppaaGreatDoor.Wm
namespace Go.Proofs.YtkplahkkmmoppaaGreatDoor
open Go.RowKit
namespace Wm
theorem ctz_tz {x : Nat} (h0 : 0 < x) (h : x < 18446744073709551616) : Lib.ctz 64 x = tz x := by
 obtain ⟨m, e, _⟩ := Lib.ctzFrom_spec 64 x h0 h
 have : Lib.ctz 64 x = Lib.ctzFrom 64 x := by unfold Lib.ctz; rw [if_neg (by omega)]
 rw [this]
 generalize Lib.ctzFrom 64 x = t at *
 rw [e, Nat.mul_comm, tz_mul (by omega), tz_odd (by omega)]; omega
theorem tz_lt {m i : Nat} (h0 : 0 < m) (h : m < 2 ^ i) : tz m < i := by
 have e := (od_spec m m (Nat.le_refl _) h0).2
 have hp := od_pos h0
 rcases Nat.lt_or_ge (tz m) i with h1 | h1
 ·exact h1
 ·have : 2 ^ i ≤ 2 ^ tz m := Nat.pow_le_pow_right (by decide) h1
  have : 1 * 2 ^ tz m ≤ od m * 2 ^ tz m := Nat.mul_le_mul_right _ hp
  omega
theorem tz_neg {m : Nat} (h0 : 0 < m) (h : m < 2 ^ 53) : tz (18446744073709551616 - m) = tz m := by
 obtain ⟨ho, e⟩ := od_spec m m (Nat.le_refl _) h0
 have ht := tz_lt h0 h
 have hle := od_le m
 generalize od m = k at *
 generalize tz m = t at *
 have e2 : 18446744073709551616 - m = (2 ^ (64 - t) - k) * 2 ^ t := by
  rw [Nat.sub_mul, ← Nat.pow_add, show 64 - t + t = 64 from by omega, ← e]
 have h2 : 2 ^ (64 - t) = 2 * 2 ^ (63 - t) := by rw [show 64 - t = (63 - t) + 1 from by omega, Nat.pow_succ]; omega
 have h4 : k < 2 ^ (64 - t) := by
  have h5 : k * 2 ^ t < 2 ^ (64 - t) * 2 ^ t := by
   rw [← Nat.pow_add, show 64 - t + t = 64 from by omega, ← e]; omega
  exact Nat.lt_of_mul_lt_mul_right h5
 rw [e2, tz_mul (by omega), tz_odd (by omega)]; omega
def sg (n : Bool) (k : Nat) : Int := (if n then -1 else 1) * (k : Int)
theorem sg_nat (n : Bool) (k : Nat) : (sg n k).natAbs = k := by unfold sg; cases n <;> simp
def textF (n : Bool) (r : Nat) : List UInt8 := Lib.itoa (sg n (kOf r)) ++ 112 :: Lib.itoa (eOf r)
def signed (n : Bool) (l : List UInt8) : List UInt8 := if n then 45 :: l else l
def textW (b : Nat) : List UInt8 :=
 if nan b then [110, 97, 110] else if rung b = 9218868437227405312 then signed (neg b) [105, 110, 102] else if rung b = 0 then signed (neg b) [48] else textF (neg b) (rung b)
end Wm
def KOk (w : World) : Prop := MaxOk w ∧ Lib.TabIs Tryz.prog w "internal/strconv.uint64pow10" .u64 Lib.pow10Tab ∧ Lib.TabIs Tryz.prog w "math/bits.deBruijn64tab" .u8 (Lib.deBruijn64tab.map Int.ofNat) ∧ ∃ tp p, w.var? Tryz.prog "strconv.ErrRange" = some #[.iface tp p]
theorem var_lt {w : World} {n : String} {g : Nat} {cs : Array Value} (hg : Tryz.prog.globalNamed n = some g) (h : w.var? Tryz.prog n = some cs) : g < w.heap.size := by
 unfold World.var? at h
 simp only [hg, Option.bind_some] at h
 rcases Nat.lt_or_ge g w.heap.size with h1 | h1
 ·exact h1
 ·simp [Array.getElem?_eq_none h1] at h
theorem kOk_below {w w' : World} (h : KOk w) (hb : Below w.heap.size w w') : KOk w' := by
 obtain ⟨h1, h2, h3, tp, p, h4⟩ := h
 have g2 : Tryz.prog.globalNamed "internal/strconv.uint64pow10" = some 3 := by kernel_rfl
 have g3 : Tryz.prog.globalNamed "math/bits.deBruijn64tab" = some 1 := by kernel_rfl
 have g4 : Tryz.prog.globalNamed "strconv.ErrRange" = some 8 := by kernel_rfl
 exact ⟨maxOk_below h1 hb, var?_below hb g2 (var_lt g2 h2) h2, var?_below hb g3 (var_lt g3 h3) h3, tp, p, var?_below hb g4 (var_lt g4 h4) h4⟩
theorem kOk_tab {w : World} (h : KOk w) : TabAt 1 Lib.deBruijn64tab w := by
 intro j hj
 have := Lib.TabIs.cell h.2.2.1 (show Tryz.prog.globalNamed "math/bits.deBruijn64tab" = some 1 by kernel_rfl) j (by simpa using hj)
 rw [this]
 simp [List.getD, hj]
theorem product_any (n : Bool) (r : Nat) (h : Fin r) (w : World) (hk : KOk w) :
  Calls Tryz.prog 106 #[.float .f64 (Wm.word n r)] w fun e w' => e = .returned (.string ⟨(Wm.textF n r).toArray⟩) ∧ Below w.heap.size w w' := by
 have hf := Wm.fOf_lt r
 obtain ⟨x1, x2⟩ := Wm.fx_spec h.1
 have h53 := Wm.ldx_53 n (Wm.fOf r) hf
 have hti := Wm.toInt_word n (Wm.fOf r) hf
 obtain ⟨M, hM⟩ : ∃ M, 4503599627370496 + Wm.fOf r = M := ⟨_, rfl⟩
 rw [hM] at x1 x2 hti
 obtain ⟨F, hF⟩ : ∃ F : Int, (if n then -1 else 1) * (M : Int) = F := ⟨_, rfl⟩
 rw [hF] at hti
 have hcv : ∀ W : World, (convert 25 2 (.float .f64 (Wm.word n (4841369599423283200 + Wm.fOf r)))).run Tryz.prog W = .ok (.int .i64 F) W :=
  fun W => run_convert_float_int W 25 2 .f64 .i64 _ _ (by kernel_rfl) Tryz.underlying2 hti
 have hM0 : 0 < M := by omega
 have hM1 : M < 2 ^ 53 := by omega
 have hFb : -9007199254740992 ≤ F ∧ F ≤ 9007199254740992 := by rw [← hF]; cases n <;> simp <;> omega
 obtain ⟨U, hU⟩ : ∃ U : Nat, IntKind.u64.wrap F = (U : Int) ∧ 0 < U ∧ U < 18446744073709551616 ∧ Wm.tz U = Wm.tz M := by
  rw [← hF]
  cases n
  ·refine ⟨M, ?_, hM0, by omega, rfl⟩
   rw [IntKind.wrap_u64]; simp; omega
  ·refine ⟨18446744073709551616 - M, ?_, by omega, by omega, Wm.tz_neg hM0 hM1⟩
   rw [IntKind.wrap_u64]; simp; omega
 have hctz := Wm.ctz_tz hU.2.1 hU.2.2.1
 rw [hU.2.2.2] at hctz
 have hz := Wm.tz_lt hM0 hM1
 have hU1 := hU.1
 have hFr : Fin (4602678819172646912 + Wm.fOf r) := ⟨by omega, by omega⟩
 clear hti
 go_enter Tryz.func106, Tryz.ntmps106
 go_wp2_with fail
 refine (frexp_any n r h _).mono ?_
 rintro e' w' ⟨rfl, rfl⟩
 go_wp2_with fail
 refine (ldexp_any n (4602678819172646912 + Wm.fOf r) 53 hFr (by omega) (by omega) _).mono ?_
 rintro e' w' ⟨rfl, rfl⟩
 rw [h53]
 clear h53 hf hM hFr
 go_wp2_with fail
 refine (Tryz.bits_TrailingZeros64 U hU.2.2.1 _ (fun _ => kOk_tab hk)).mono ?_
 rintro e' w' ⟨rfl, rfl⟩
 rw [hctz]
 clear hctz hU hcv hU1
 have HD : F / 2 ^ Wm.tz M = Wm.sg n (Wm.kOf r) := by
  have e := (Wm.od_spec M M (Nat.le_refl _) hM0).2
  rw [x1] at e
  rw [← hF]
  have e3 : (if n then -1 else 1) * (M : Int) = Wm.sg n (Wm.kOf r) * (2 : Int) ^ Wm.tz M := by
   unfold Wm.sg
   conv => lhs; rw [e]
   rw [Int.natCast_mul, Int.mul_assoc, Int.natCast_pow]; rfl
  rw [e3, Int.mul_ediv_cancel _ (Int.ne_of_gt (Int.pow_pos (by decide)))]
 have hkb := (Wm.kOf_spec h.1 h.2).2.1
 have hsb : -9007199254740992 ≤ Wm.sg n (Wm.kOf r) ∧ Wm.sg n (Wm.kOf r) ≤ 9007199254740992 := by unfold Wm.sg; cases n <;> simp <;> omega
 have hxb : -2000 ≤ Wm.xOf r ∧ Wm.xOf r ≤ 2000 := by
  have := h.2
  have := (Wm.nrm_lo h.1 h.2).2
  unfold Wm.xOf; split <;> omega
 have HT : Hid (Wm.textF n r = Lib.itoa (Wm.sg n (Wm.kOf r)) ++ 112 :: Lib.itoa (Wm.eOf r)) := rfl
 have he0 : Wm.xOf r + ((Wm.tz M : Int) - 53) = Wm.eOf r := by omega
 clear x1 x2 hF hkb
 generalize Wm.tz M = z at *
 go_wp2_with fail
 refine (Tryz.strconv_FormatInt_10 _ (by omega) (by omega) _ hk.2.1).mono ?_
 rintro e' w1 ⟨g1, k1, os1, g2⟩; subst g1
 have HB1 := Lib.hid (g2 ▸ Lib.below_grow _ _ (Nat.le_refl _) k1 os1 : Below w'.heap.size w' w1)
 have hk1 := kOk_below hk HB1.out
 clear g2 hk
 have hl1 := Lib.itoa_length_le (Wm.sg n (Wm.kOf r)) (by omega) (by omega)
 have hl2 := Lib.itoa_length_le (Wm.eOf r) (by omega) (by omega)
 go_wp2_with fail
 refine (Tryz.strconv_Itoa _ (by omega) (by omega) _ hk1.2.1).mono ?_
 rintro e' w2 ⟨g1, k2, os2, g2⟩; subst g1
 have HB2 := Lib.hid (HB1.out.trans ((g2 ▸ Lib.below_grow _ _ (Nat.le_refl _) k2 os2 : Below w1.heap.size w1 w2).mono HB1.out.size))
 clear g2
 go_wp2_with fail
 go_ret
 refine ⟨?_, HB2.out⟩
 rw [HT.out]
 show Ending.returned (.string ((ByteArray.mk _ ++ ByteArray.mk #[112]) ++ ByteArray.mk _)) = _
 rw [show (#[112] : Array UInt8) = ([112] : List UInt8).toArray from rfl, ByteArray.mk_append_mk, ByteArray.mk_append_mk, List.append_assoc]
 rfl
end Go.Proofs.YtkplahkkmmoppaaGreatDoor
namespace Go.Proofs.YtkplahkkmmoppaaGreatDoor
open Go.RowKit
theorem kinds (b : Nat) (hb : b < Wm.W) : Wm.nan b = true ∨ (∃ n, b = Wm.word n 9218868437227405312) ∨ (∃ n r, Fin r ∧ b = Wm.word n r) ∨ (∃ n, b = Wm.word n 0) := by
 have e := Wm.word_of b hb
 cases hn : Wm.nan b
 ·right
  have hr : Wm.rung b ≤ 9218868437227405312 := by unfold Wm.nan at hn; simpa using hn
  by_cases h1 : Wm.rung b = 9218868437227405312
  ·left; exact ⟨Wm.neg b, by rw [← h1]; exact e⟩
  ·right
   by_cases h2 : Wm.rung b = 0
   ·right; exact ⟨Wm.neg b, by rw [← h2]; exact e⟩
   ·left; exact ⟨Wm.neg b, Wm.rung b, ⟨by omega, by omega⟩, e⟩
 ·left; rfl
theorem textW_fin (n : Bool) {r : Nat} (h : Fin r) : Wm.textW (Wm.word n r) = Wm.textF n r := by
 obtain ⟨_, g2, _⟩ := fin_word h n
 have h1 := h.1
 have h2 := h.2
 obtain ⟨a1, a2, _⟩ := Wm.rung_word n (r := r) (by omega)
 unfold Wm.textW
 rw [g2, a1, a2, if_neg Bool.false_ne_true, if_neg (by omega), if_neg (by omega)]
theorem text_pinf (w : World) :
  Calls Tryz.prog 58 #[.float .f64 9218868437227405312] w fun e w' => e = .returned (.string ⟨#[105, 110, 102]⟩) ∧ w = w' := by
 have o1 : (FloatKind.f64.format.order 9218868437227405312 9218868437227405311 == some .gt) = true := by decide +kernel
 have o2 : (FloatKind.f64.format.order 9218868437227405312 18442240474082181119 == some .lt) = false := by decide +kernel
 have o3 : (FloatKind.f64.format.order 9218868437227405312 0 != some .eq) = true := by decide +kernel
 have hfb := tb_run
 have hn : Wm.nan 9218868437227405312 = false := by decide +kernel
 go_enter Tryz.func58, Tryz.ntmps58
 go_wp2_with fail
 refine (isNaN_any 9218868437227405312 (by decide) _).mono ?_
 rintro e w' ⟨rfl, rfl⟩
 rw [hn]
 go_wp2_with fail
 go_ret
 exact ⟨rfl, rfl⟩
theorem text_ninf (w : World) :
  Calls Tryz.prog 58 #[.float .f64 18442240474082181120] w fun e w' => e = .returned (.string ⟨#[45, 105, 110, 102]⟩) ∧ w = w' := by
 have o1 : (FloatKind.f64.format.order 18442240474082181120 9218868437227405311 == some .gt) = false := by decide +kernel
 have o2 : (FloatKind.f64.format.order 18442240474082181120 18442240474082181119 == some .lt) = true := by decide +kernel
 have o3 : (FloatKind.f64.format.order 18442240474082181120 0 != some .eq) = true := by decide +kernel
 have hfb := tb_run
 have hn : Wm.nan 18442240474082181120 = false := by decide +kernel
 go_enter Tryz.func58, Tryz.ntmps58
 go_wp2_with fail
 refine (isNaN_any 18442240474082181120 (by decide) _).mono ?_
 rintro e w' ⟨rfl, rfl⟩
 rw [hn]
 go_wp2_with fail
 go_ret
 exact ⟨rfl, rfl⟩
theorem text_p0 (w : World) :
  Calls Tryz.prog 58 #[.float .f64 0] w fun e w' => e = .returned (.string ⟨#[48]⟩) ∧ w = w' := by
 have o1 : (FloatKind.f64.format.order 0 9218868437227405311 == some .gt) = false := by decide +kernel
 have o2 : (FloatKind.f64.format.order 0 18442240474082181119 == some .lt) = false := by decide +kernel
 have o3 : (FloatKind.f64.format.order 0 0 != some .eq) = false := by decide +kernel
 have hfb := tb_run
 have hn : Wm.nan 0 = false := by decide +kernel
 go_enter Tryz.func58, Tryz.ntmps58
 go_wp2_with fail
 refine (isNaN_any 0 (by decide) _).mono ?_
 rintro e w' ⟨rfl, rfl⟩
 rw [hn]
 go_wp2_with fail
 go_ret
 exact ⟨rfl, rfl⟩
theorem text_n0 (w : World) :
  Calls Tryz.prog 58 #[.float .f64 9223372036854775808] w fun e w' => e = .returned (.string ⟨#[45, 48]⟩) ∧ w = w' := by
 have o1 : (FloatKind.f64.format.order 9223372036854775808 9218868437227405311 == some .gt) = false := by decide +kernel
 have o2 : (FloatKind.f64.format.order 9223372036854775808 18442240474082181119 == some .lt) = false := by decide +kernel
 have o3 : (FloatKind.f64.format.order 9223372036854775808 0 != some .eq) = false := by decide +kernel
 have hfb := tb_run
 have hn : Wm.nan 9223372036854775808 = false := by decide +kernel
 go_enter Tryz.func58, Tryz.ntmps58
 go_wp2_with fail
 refine (isNaN_any 9223372036854775808 (by decide) _).mono ?_
 rintro e w' ⟨rfl, rfl⟩
 rw [hn]
 go_wp2_with fail
 go_ret
 exact ⟨rfl, rfl⟩
theorem text_w (b : Nat) (hb : b < Wm.W) (w : World) (hk : KOk w) :
  Calls Tryz.prog 58 #[.float .f64 b] w fun e w' => e = .returned (.string ⟨(Wm.textW b).toArray⟩) ∧ Below w.heap.size w w' := by
 have o1 := Wm.ord_gt b 9218868437227405311 hb (by decide)
 have o2 := Wm.ord_lt b 18442240474082181119 hb (by decide)
 have o3 := Wm.ord_ne b 0 hb (by decide)
 have hfb := tb_run
 rw [show Wm.nan 9218868437227405311 = false from rfl, show Wm.sk 9218868437227405311 = 9218868437227405311 from rfl] at o1
 rw [show Wm.nan 18442240474082181119 = false from rfl, show Wm.sk 18442240474082181119 = -9218868437227405311 from rfl] at o2
 rw [nan_zero, sk_zero] at o3
 rcases kinds b hb with hn | ⟨n, rfl⟩ | ⟨n, r, hf, rfl⟩ | ⟨n, rfl⟩
 ·have HV : Hid (Wm.textW b = [110, 97, 110]) := by show _ = _; rw [Wm.textW, hn]; rfl
  clear o1 o2 o3
  go_enter Tryz.func58, Tryz.ntmps58
  go_wp2_with fail
  refine (isNaN_any b hb _).mono ?_
  rintro e w' ⟨rfl, rfl⟩
  rw [hn]
  go_wp2_with fail
  go_ret
  exact ⟨by rw [HV.out]; rfl, Below.refl _ _⟩
 ·cases n
  ·refine (text_pinf w).mono ?_
   rintro e w' ⟨rfl, rfl⟩
   exact ⟨rfl, Below.refl _ _⟩
  ·refine (text_ninf w).mono ?_
   rintro e w' ⟨rfl, rfl⟩
   exact ⟨rfl, Below.refl _ _⟩
 ·have HV := Lib.hid (textW_fin n hf)
  obtain ⟨g1, g2, g3, g4, g5⟩ := fin_word hf n
  rw [decide_eq_false (by omega)] at o1 o2
  rw [decide_eq_true g3] at o3
  simp only [Bool.and_false, Bool.or_true] at o1 o2 o3
  clear g3 g4 g5
  go_enter Tryz.func58, Tryz.ntmps58
  go_wp2_with fail
  refine (isNaN_any _ hb _).mono ?_
  rintro e w' ⟨rfl, rfl⟩
  rw [g2]
  go_wp2_with fail
  refine (product_any n r hf _ hk).mono ?_
  rintro e w' ⟨g1, g2⟩; subst g1
  go_wp2_with fail
  go_ret
  exact ⟨by rw [HV.out]; rfl, g2⟩
 ·cases n
  ·refine (text_p0 w).mono ?_
   rintro e w' ⟨rfl, rfl⟩
   exact ⟨rfl, Below.refl _ _⟩
  ·refine (text_n0 w).mono ?_
   rintro e w' ⟨rfl, rfl⟩
   exact ⟨rfl, Below.refl _ _⟩
def lastOdd (l : List UInt8) : Bool := (((l.getLast?.getD 0).toNat : Int) - 48) % 2 == 1
theorem isOdd_any (l : List UInt8) (h : l ≠ []) (hl : l.length ≤ 1000) (w : World) :
  Calls Tryz.prog 302 #[.string ⟨l.toArray⟩] w fun e w' => e = .returned (.bool (lastOdd l)) ∧ w = w' := by
 have hpos : 0 < l.length := List.length_pos_iff.2 h
 obtain ⟨c, hc, hc'⟩ := byte_at l (l.length - 1) (by omega)
 have HL : Hid (lastOdd l = (((c.toNat : Int) - 48) % 2 == 1)) := by
  show _ = _
  rw [lastOdd, List.getLast?_eq_some_getLast h, List.getLast_eq_getElem, hc']; rfl
 clear hc'
 go_enter Tryz.func302, Tryz.ntmps302
 go_wp2_with fail
 go_ret
 exact ⟨by rw [HL.out]; rfl, rfl⟩
theorem isDecimal_any (l : List UInt8) (_hl : l.length ≤ 1000) (w : World) :
  Calls Tryz.prog 301 #[.string ⟨l.toArray⟩] w fun e w' => e = .returned (.bool (Wm.decB l)) ∧ Below w.heap.size w w' := by
 have HB : Hid (Wm.decB l = if (Wm.mgn l).isEmpty || (Wm.mgn l).head? == some 48 then l == [48] else (Vm.undigs (Wm.mgn l)).isEmpty) := rfl
 have hd := Wm.mgn_le l
 go_enter Tryz.func301, Tryz.ntmps301
 go_wp2_with fail
 refine (Tryz.strings_TrimPrefix _ _ _).mono ?_
 rintro e w' ⟨g1, g2⟩; subst g1 g2
 rw [show Lib.trimPrefix (ByteArray.data ⟨l.toArray⟩).toList (ByteArray.data ⟨#[45]⟩).toList = Wm.mgn l from Wm.mgn_eq l]
 generalize Wm.mgn l = d at *
 by_cases h0 : d = []
 ·subst h0
  have HV : Hid (Wm.decB l = (l == [48])) := by show _ = _; rw [HB.out]; rfl
  clear HB
  go_wp2_with fail
  go_ret
  exact ⟨by rw [HV.out]; rfl, Below.refl _ _⟩
 ·have hpos : 0 < d.length := List.length_pos_iff.2 h0
  have he : d.isEmpty = false := by cases d <;> simp at *
  obtain ⟨c, hc, hc'⟩ := byte_at d 0 hpos
  have hh : (d.head? == some 48) = ((c.toNat : Int) == 48) := by
   cases d with
   | nil => exact absurd rfl h0
   | cons x t =>
    have : x = c := hc'
    subst this
    rw [Bool.eq_iff_iff]
    simp only [List.head?_cons, beq_iff_eq, Option.some.injEq]
    exact ⟨fun h => by rw [h]; rfl, fun h => UInt8.toNat.inj (show x.toNat = 48 by omega)⟩
  rw [he, hh, Bool.false_or] at HB
  clear hc' hh h0
  cases h48 : ((c.toNat : Int) == 48)
  ·have HV : Hid (Wm.decB l = (Vm.undigs d).isEmpty) := by show _ = _; rw [HB.out, h48]; rfl
   clear HB
   go_wp2_with fail
   refine (trimDigits_any d _).mono ?_
   rintro e w1 ⟨g1, g2⟩; subst g1
   obtain ⟨u, hu⟩ : ∃ u, Vm.undigs d = u := ⟨_, rfl⟩
   rw [hu] at HV
   rw [hu]
   have HD := Lib.hid g2
   clear hu g2
   go_wp2_with fail
   go_ret
   exact ⟨by rw [HV.out]; rfl, HD.out⟩
  ·have HV : Hid (Wm.decB l = (l == [48])) := by show _ = _; rw [HB.out, h48]; rfl
   clear HB
   go_wp2_with fail
   go_ret
   exact ⟨by rw [HV.out]; rfl, Below.refl _ _⟩
theorem number_any (l : List UInt8) (hl : l.length ≤ 1000) (hp : Wm.plain (Wm.mgn l)) (w : World) (hk : KOk w) :
  Calls Tryz.prog 303 #[.string ⟨l.toArray⟩] w fun e w' => e = .returned (.int .i64 (Wm.nmb l)) ∧ Below w.heap.size w w' := by
 obtain ⟨tp, p, hv⟩ := hk.2.2.2
 have hpn := Wm.parse_nmb l hp
 generalize Wm.nmb l = v at *
 rcases hpn with h1 | ⟨h1, h2⟩
 ·go_enter Tryz.func303, Tryz.ntmps303
  go_wp2_with fail
  refine (Tryz.strconv_ParseInt_10_at64_ok ⟨l.toArray⟩ (by show l.toArray.size ≤ _; simp; omega) v h1 _).mono ?_
  rintro e w1 ⟨g1, g2⟩; subst g1
  go_wp2_with fail
  go_ret
  refine ⟨rfl, ?_⟩
  rcases g2 with rfl | ⟨t, rfl⟩
  ·exact Below.refl _ _
  ·exact Lib.bytesWorld_below _ _ _
 ·go_enter Tryz.func303, Tryz.ntmps303
  go_wp2_with fail
  refine (Tryz.strconv_ParseInt_10_at64_range_var ⟨l.toArray⟩ (by show l.toArray.size ≤ _; simp; omega) h1 tp p _ hv).mono ?_
  rintro e w1 ⟨N, g1, g2, g3, g4⟩; subst g1
  rw [show Lib.intSat 64 (ByteArray.data ⟨l.toArray⟩).toList = v from h2]
  go_wp2_with fail
  go_ret
  exact ⟨rfl, g4⟩
end Go.Proofs.YtkplahkkmmoppaaGreatDoor
namespace Go.Proofs.YtkplahkkmmoppaaGreatDoor
open Go.RowKit
namespace Wm
theorem bitLen_log {k : Nat} (h : 0 < k) (h2 : k < 2 ^ 53) : Lib.bitLen k = k.log2 + 1 := by
 obtain ⟨b1, b2, b3⟩ := Lib.bitLenAux_bounds 64 k (by omega) (by omega)
 unfold Lib.bitLen
 generalize Lib.bitLenAux 64 k = m at *
 have := log2_eq (l := m - 1) b2 (by rwa [show m - 1 + 1 = m from by omega])
 omega
def rangeOk (F P : Int) : Bool := decide (-9007199254740992 < F) && (decide (F < 9007199254740992) && (decide (-1074 ≤ P) && decide (P ≤ 1024 - ((F.natAbs.log2 + 1 : Nat) : Int))))
theorem rangeOk_lo {F P : Int} (h : F ≤ -9007199254740992) : rangeOk F P = false := by
 have : ¬ -9007199254740992 < F := by omega
 simp [rangeOk, this]
theorem rangeOk_hi {F P : Int} (h : 9007199254740992 ≤ F) : rangeOk F P = false := by
 have : ¬ F < 9007199254740992 := by omega
 simp [rangeOk, this]
theorem rangeOk_mid {F P : Int} (h : -9007199254740992 < F) (h2 : F < 9007199254740992) : rangeOk F P = (decide (-1074 ≤ P) && decide (P ≤ 1024 - ((F.natAbs.log2 + 1 : Nat) : Int))) := by
 simp [rangeOk, h, h2]
def prodVal (F P : Int) : Nat := word (decide (F < 0)) (rungOf F.natAbs P)
end Wm
def formOk (l : List UInt8) : Bool := Vm.has 112 l && (Wm.decB (Vm.fst 112 l) && (Wm.decB (Vm.snd 112 l) && lastOdd (Vm.fst 112 l)))
def prodErr (l : List UInt8) : Int := if formOk l then (if Wm.rangeOk (Wm.nmb (Vm.fst 112 l)) (Wm.nmb (Vm.snd 112 l)) then 0 else 8) else 2
def prodOf (l : List UInt8) : Nat := if prodErr l = 0 then Wm.prodVal (Wm.nmb (Vm.fst 112 l)) (Wm.nmb (Vm.snd 112 l)) else 0
def prodEnd (l : List UInt8) : Ending := if prodErr l = 0 then .returned (.float .f64 (prodOf l)) else pan (prodErr l)
theorem odd_ne (l : List UInt8) (hd : Wm.decB l = true) (ho : lastOdd l = true) : Wm.nmb l % 2 = 1 ∨ Wm.nmb l = -9223372036854775808 := by
 obtain ⟨⟨h1, h2, _⟩, _⟩ := (Wm.decB_iff l).1 hd
 have hm : Wm.mgn l = l ∨ Wm.mgn l = l.drop 1 := by unfold Wm.mgn; split <;> simp
 have hlast : l.getLast? = (Wm.mgn l).getLast? := by
  rcases hm with h | h
  ·rw [h]
  ·rw [h] at h1 ⊢
   cases l with
   | nil => rfl
   | cons c t =>
    cases t with
    | nil => exact absurd rfl h1
    | cons d t => rfl
 have e := Wm.num_last (Wm.mgn l) h1
 unfold lastOdd at ho
 rw [hlast, List.getLast?_eq_some_getLast h1] at ho
 have hdig : Vm.dig ((Wm.mgn l).getLast h1) = true := by rw [List.all_eq_true] at h2; exact h2 _ (List.getLast_mem h1)
 rw [Wm.dig_iff] at hdig
 have ho' : ((((Wm.mgn l).getLast h1).toNat : Int) - 48) % 2 = 1 := by simpa using ho
 unfold Wm.nmb
 split <;> split <;> omega
theorem nmb_bounds (l : List UInt8) : -9223372036854775808 ≤ Wm.nmb l ∧ Wm.nmb l ≤ 9223372036854775807 := by
 unfold Wm.nmb; split <;> split <;> omega
theorem fst_snd (l : List UInt8) (c : UInt8) : (Vm.fst c l).length ≤ l.length ∧ (Vm.snd c l).length ≤ l.length := ⟨fst_le l c, snd_le c l⟩
theorem parseProduct_any (l : List UInt8) (hl : l.length ≤ 1000) (w : World) (hk : KOk w) :
  Calls Tryz.prog 272 #[.string ⟨l.toArray⟩] w fun e w' => e = prodEnd l ∧ Below w.heap.size w w' := by
 have HE : Hid (prodEnd l = if prodErr l = 0 then .returned (.float .f64 (prodOf l)) else pan (prodErr l)) := rfl
 have HO : Hid (prodOf l = if prodErr l = 0 then Wm.prodVal (Wm.nmb (Vm.fst 112 l)) (Wm.nmb (Vm.snd 112 l)) else 0) := rfl
 have HR : Hid (prodErr l = if formOk l then (if Wm.rangeOk (Wm.nmb (Vm.fst 112 l)) (Wm.nmb (Vm.snd 112 l)) then 0 else 8) else 2) := rfl
 have HF : Hid (formOk l = (Vm.has 112 l && (Wm.decB (Vm.fst 112 l) && (Wm.decB (Vm.snd 112 l) && lastOdd (Vm.fst 112 l))))) := rfl
 have hbad : formOk l = false → prodEnd l = pan 2 := fun h => by rw [HE.out, HR.out, h]; rfl
 have HB := Lib.hid hbad
 clear hbad
 obtain ⟨la, lb⟩ := fst_snd l 112
 cases hh : Vm.has 112 l
 ·have HV : Hid (prodEnd l = pan 2) := HB.out (by rw [HF.out, hh]; rfl)
  go_enter Tryz.func272, Tryz.ntmps272
  go_wp2_with fail
  refine (cut_no l 112 _ hk.1 (by omega) hh).mono ?_
  rintro e w1 ⟨g1, g2⟩; subst g1
  have HD : Hid (Below w.heap.size w w1) := by obtain ⟨n, rfl⟩ := g2; exact below_drewN (Below.refl _ _) n
  clear g2 hh
  go_wp2_with fail
  refine (require_no _).mono ?_
  rintro e w2 ⟨g1, g2⟩; subst g2; subst g1
  go_wp2_with fail
  exact ⟨rfl, HV.out.symm, HD.out⟩
 ·have hcut := fun W h => cut_yes l 112 W h (by omega) hh
  rw [hh] at HF
  generalize Vm.fst 112 l = bf at *
  generalize Vm.snd 112 l = af at *
  clear hh
  go_enter Tryz.func272, Tryz.ntmps272
  go_wp2_with fail
  refine (hcut _ hk.1).mono ?_
  rintro e w1 ⟨g1, g2⟩; subst g1
  have HD : Hid (Below w.heap.size w w1) := by obtain ⟨n, rfl⟩ := g2; exact below_drewN (Below.refl _ _) n
  have hk1 := kOk_below hk HD.out
  clear g2 hk hcut
  go_wp2_with fail
  refine (isDecimal_any bf (by omega) _).mono ?_
  rintro e w2 ⟨g1, g2⟩; subst g1
  have HD2 := Lib.hid (HD.out.trans (g2.mono HD.out.size))
  have hk2 := kOk_below hk1 g2
  clear g2 hk1 HD
  cases hd1 : Wm.decB bf
  ·have HV : Hid (prodEnd l = pan 2) := HB.out (by rw [HF.out, hd1]; rfl)
   clear hd1
   go_wp2_with fail
   refine (require_no _).mono ?_
   rintro e w3 ⟨g1, g2⟩; subst g2; subst g1
   go_wp2_with fail
   exact ⟨rfl, HV.out.symm, HD2.out⟩
  ·go_wp2_with fail
   refine (isDecimal_any af (by omega) _).mono ?_
   rintro e w3 ⟨g1, g2⟩; subst g1
   have HD3 := Lib.hid (HD2.out.trans (g2.mono HD2.out.size))
   have hk3 := kOk_below hk2 g2
   clear g2 hk2 HD2
   cases hd2 : Wm.decB af
   ·have HV : Hid (prodEnd l = pan 2) := HB.out (by rw [HF.out, hd1, hd2]; rfl)
    clear hd1 hd2
    go_wp2_with fail
    refine (require_no _).mono ?_
    rintro e w4 ⟨g1, g2⟩; subst g2; subst g1
    go_wp2_with fail
    exact ⟨rfl, HV.out.symm, HD3.out⟩
   ·have hp1 := ((Wm.decB_iff bf).1 hd1).1
    have hp2 := ((Wm.decB_iff af).1 hd2).1
    have hne : bf ≠ [] := fun h => hp1.1 (by rw [h]; rfl)
    have HP1 := Lib.hid hp1
    have HP2 := Lib.hid hp2
    have HNE := Lib.hid hne
    clear hp1 hp2 hne
    go_wp2_with fail
    refine (isOdd_any bf HNE.out (by omega) _).mono ?_
    rintro e w4 ⟨g1, g2⟩; subst g2; subst g1
    cases ho : lastOdd bf
    ·have HV : Hid (prodEnd l = pan 2) := HB.out (by rw [HF.out, hd1, hd2, ho]; rfl)
     clear hd1 hd2 ho
     go_wp2_with fail
     refine (require_no _).mono ?_
     rintro e w4 ⟨g1, g2⟩; subst g2; subst g1
     go_wp2_with fail
     exact ⟨rfl, HV.out.symm, HD3.out⟩
    ·have HFO : Hid (formOk l = true) := by show _ = _; rw [HF.out, hd1, hd2, ho]; rfl
     rw [HFO.out] at HR
     have HOD := Lib.hid (odd_ne bf hd1 ho)
     clear hd1 hd2 ho HF HB
     go_wp2_with fail
     refine (require_yes _).mono ?_
     rintro e w4 ⟨g1, g2⟩; subst g2; subst g1
     go_wp2_with fail
     refine (number_any bf (by omega) HP1.out _ hk3).mono ?_
     rintro e w4 ⟨g1, g2⟩; subst g1
     have HD4 := Lib.hid (HD3.out.trans (g2.mono HD3.out.size))
     have hk4 := kOk_below hk3 g2
     clear g2 hk3 HD3
     go_wp2_with fail
     refine (number_any af (by omega) HP2.out _ hk4).mono ?_
     rintro e w5 ⟨g1, g2⟩; subst g1
     have HD5 := Lib.hid (HD4.out.trans (g2.mono HD4.out.size))
     clear g2 hk4 HD4 HP1 HP2 HNE
     have hF := nmb_bounds bf
     have hP := nmb_bounds af
     generalize Wm.nmb bf = F at *
     generalize Wm.nmb af = P at *
     have HRF : Hid (prodErr l = if Wm.rangeOk F P then 0 else 8) := by show _ = _; rw [HR.out]; rfl
     have HBR : Hid (Wm.rangeOk F P = false → prodEnd l = pan 8) := by
      show _ → _
      intro h
      rw [HE.out, HRF.out, h]; rfl
     clear HR
     by_cases c1 : F ≤ -9007199254740992
     ·have HV : Hid (prodEnd l = pan 8) := HBR.out (Wm.rangeOk_lo c1)
      go_wp2_with fail
      refine (require_no _).mono ?_
      rintro e w6 ⟨g1, g2⟩; subst g2; subst g1
      go_wp2_with fail
      exact ⟨rfl, HV.out.symm, HD5.out⟩
     by_cases c2 : 9007199254740992 ≤ F
     ·have HV : Hid (prodEnd l = pan 8) := HBR.out (Wm.rangeOk_hi c2)
      go_wp2_with fail
      rw [show decide (F < 9007199254740992) = false from decide_eq_false (by omega)]
      refine (require_no _).mono ?_
      rintro e w6 ⟨g1, g2⟩; subst g2; subst g1
      go_wp2_with fail
      exact ⟨rfl, HV.out.symm, HD5.out⟩
     have hodd : F % 2 = 1 := by rcases HOD.out with h | h <;> omega
     have hk0 : 0 < F.natAbs := by omega
     have hk53 : F.natAbs < 2 ^ 53 := by omega
     have HBL := Lib.hid (Wm.bitLen_log hk0 hk53)
     have hlg := Wm.log2_lt53 hk0 hk53
     have hmax : max F (-F) = ((F.natAbs : Nat) : Int) := by omega
     have HR2 : Hid (Wm.rangeOk F P = (decide (-1074 ≤ P) && decide (P ≤ 1024 - ((F.natAbs.log2 + 1 : Nat) : Int)))) := Wm.rangeOk_mid (by omega) (by omega)
     clear HOD
     have c1' : -9007199254740992 < F := by omega
     have c2' : F < 9007199254740992 := by omega
     clear c1 c2
     go_wp2_with fail
     refine (require_yes _).mono ?_
     rintro e w6 ⟨g1, g2⟩; subst g2; subst g1
     go_wp2_with fail
     refine (Tryz.bits_Len64 _ _ (by omega) (by omega)).mono ?_
     rintro e w6 ⟨g1, g2⟩; subst g2; subst g1
     rw [show ((F.natAbs : Nat) : Int).toNat = F.natAbs from rfl, HBL.out]
     clear hmax
     by_cases p1 : P < -1074
     ·have HV : Hid (prodEnd l = pan 8) := HBR.out (by rw [HR2.out, decide_eq_false (by omega)]; rfl)
      go_wp2_with fail
      refine (require_no _).mono ?_
      rintro e w7 ⟨g1, g2⟩; subst g2; subst g1
      go_wp2_with fail
      exact ⟨rfl, HV.out.symm, HD5.out⟩
     by_cases p2 : 1024 - ((F.natAbs.log2 + 1 : Nat) : Int) < P
     ·have HV : Hid (prodEnd l = pan 8) := HBR.out (by rw [HR2.out, decide_eq_false (show ¬ P ≤ 1024 - ((F.natAbs.log2 + 1 : Nat) : Int) by omega), Bool.and_false])
      go_wp2_with fail
      rw [show decide (P ≤ 1024 - ((F.natAbs.log2 : Int) + 1)) = false from decide_eq_false (by omega)]
      refine (require_no _).mono ?_
      rintro e w7 ⟨g1, g2⟩; subst g2; subst g1
      go_wp2_with fail
      exact ⟨rfl, HV.out.symm, HD5.out⟩
     have HZ : Hid (prodErr l = 0) := by show _ = _; rw [HRF.out, HR2.out, decide_eq_true (show -1074 ≤ P by omega), decide_eq_true (show P ≤ 1024 - ((F.natAbs.log2 + 1 : Nat) : Int) by omega)]; rfl
     have HV : Hid (prodEnd l = .returned (.float .f64 (Wm.prodVal F P))) := by show _ = _; rw [HE.out, HO.out, if_pos HZ.out, if_pos HZ.out]
     have hcv : FloatKind.f64.nearest F = Wm.word (decide (F < 0)) (Wm.rungOf F.natAbs 0) := Wm.ofInt_eq F (by omega) hk53
     have hr0 := Wm.rung0 hk0 hk53
     have hrl := Wm.rungOf_lt (e := 0) hk0 hk53 (by omega)
     have hx := Wm.ldx_exact (decide (F < 0)) hk0 hk53 (show -1074 ≤ P by omega) (by omega)
     have hfin : Fin (Wm.rungOf F.natAbs 0) := hrl
     go_wp2_with fail
     rw [show decide (P ≤ 1024 - ((F.natAbs.log2 : Int) + 1)) = true from decide_eq_true (by omega)]
     refine (require_yes _).mono ?_
     rintro e w7 ⟨g1, g2⟩; subst g2; subst g1
     go_wp2_with fail
     rw [show floatOfInt .f64 F = Wm.word (decide (F < 0)) (Wm.rungOf F.natAbs 0) from hcv]
     refine (ldexp_any (decide (F < 0)) (Wm.rungOf F.natAbs 0) P hfin hr0.2.2 (by omega) _).mono ?_
     rintro e w8 ⟨g1, g2⟩; subst g2; subst g1
     rw [hx]
     go_wp2_with fail
     go_ret
     exact ⟨by rw [HV.out]; rfl, HD5.out⟩
end Go.Proofs.YtkplahkkmmoppaaGreatDoor
namespace Go.Proofs.YtkplahkkmmoppaaGreatDoor
open Go.RowKit
def litW (l : List UInt8) : Option Nat :=
 if l = [105, 110, 102] then some 9218868437227405312 else if l = [45, 105, 110, 102] then some 18442240474082181120
 else if l = [110, 97, 110] then some 9221120237041090561 else if l = [48] then some 0 else if l = [45, 48] then some 9223372036854775808 else none
def errW (l : List UInt8) : Int := if (litW l).isSome then 0 else prodErr l
def valW (l : List UInt8) : Nat := (litW l).getD (prodOf l)
theorem lit_cases (l : List UInt8) : l = [105, 110, 102] ∨ l = [45, 105, 110, 102] ∨ l = [110, 97, 110] ∨ l = [48] ∨ l = [45, 48] ∨
  ((l == [105, 110, 102]) = false ∧ (l == [45, 105, 110, 102]) = false ∧ (l == [110, 97, 110]) = false ∧ (l == [48]) = false ∧ (l == [45, 48]) = false ∧ errW l = prodErr l ∧ valW l = prodOf l) := by
 by_cases h1 : l = [105, 110, 102]
 ·exact Or.inl h1
 by_cases h2 : l = [45, 105, 110, 102]
 ·exact Or.inr (Or.inl h2)
 by_cases h3 : l = [110, 97, 110]
 ·exact Or.inr (Or.inr (Or.inl h3))
 by_cases h4 : l = [48]
 ·exact Or.inr (Or.inr (Or.inr (Or.inl h4)))
 by_cases h5 : l = [45, 48]
 ·exact Or.inr (Or.inr (Or.inr (Or.inr (Or.inl h5))))
 have hl : litW l = none := by unfold litW; rw [if_neg h1, if_neg h2, if_neg h3, if_neg h4, if_neg h5]
 refine Or.inr (Or.inr (Or.inr (Or.inr (Or.inr ⟨?_, ?_, ?_, ?_, ?_, ?_, ?_⟩))))
 ·exact beq_eq_false_iff_ne.2 h1
 ·exact beq_eq_false_iff_ne.2 h2
 ·exact beq_eq_false_iff_ne.2 h3
 ·exact beq_eq_false_iff_ne.2 h4
 ·exact beq_eq_false_iff_ne.2 h5
 ·unfold errW; rw [hl]; rfl
 ·unfold valW; rw [hl]; rfl
def parseEnd (l : List UInt8) : Ending := if errW l = 0 then .returned (.float .f64 (valW l)) else pan (errW l)
theorem parseW_any (l : List UInt8) (hl : l.length ≤ 1000) (w : World) (hk : KOk w) :
  Calls Tryz.prog 241 #[.string ⟨l.toArray⟩] w fun e w' => e = parseEnd l ∧ Below w.heap.size w w' := by
 rcases lit_cases l with rfl | rfl | rfl | rfl | rfl | ⟨h1, h2, h3, h4, h5, he, hv⟩
 ·go_enter Tryz.func241, Tryz.ntmps241
  go_wp2_with fail
  refine (inf_any _ _).mono ?_
  rintro e w1 ⟨g1, g2⟩; subst g2; subst g1
  go_wp2_with fail
  go_ret
  exact ⟨rfl, Below.refl _ _⟩
 ·go_enter Tryz.func241, Tryz.ntmps241
  go_wp2_with fail
  refine (inf_any _ _).mono ?_
  rintro e w1 ⟨g1, g2⟩; subst g2; subst g1
  go_wp2_with fail
  go_ret
  exact ⟨rfl, Below.refl _ _⟩
 ·go_enter Tryz.func241, Tryz.ntmps241
  go_wp2_with fail
  refine (nan_any _).mono ?_
  rintro e w1 ⟨g1, g2⟩; subst g2; subst g1
  go_wp2_with fail
  go_ret
  exact ⟨rfl, Below.refl _ _⟩
 ·go_enter Tryz.func241, Tryz.ntmps241
  go_wp2_with fail
  go_ret
  exact ⟨rfl, Below.refl _ _⟩
 ·go_enter Tryz.func241, Tryz.ntmps241
  go_wp2_with fail
  refine (copysign_any _ _ (by decide) (by decide) _).mono ?_
  rintro e w1 ⟨g1, g2⟩; subst g2; subst g1
  go_wp2_with fail
  go_ret
  exact ⟨rfl, Below.refl _ _⟩
 ·have HV : Hid (parseEnd l = prodEnd l) := by show _ = _; unfold parseEnd prodEnd; rw [he, hv]
  clear he hv
  go_enter Tryz.func241, Tryz.ntmps241
  go_wp2_with fail
  refine (parseProduct_any l hl _ hk).mono ?_
  rintro e w1 ⟨g1, g2⟩; subst g1
  by_cases h0 : prodErr l = 0
  ·have e1 : prodEnd l = .returned (.float .f64 (prodOf l)) := if_pos h0
   rw [e1] at HV
   rw [e1]
   clear e1 h0
   go_wp2_with fail
   go_ret
   exact ⟨HV.out.symm, g2⟩
  ·have e1 : prodEnd l = pan (prodErr l) := if_neg h0
   rw [e1] at HV
   rw [e1]
   clear e1 h0
   go_wp2_with fail
   exact ⟨rfl, HV.out.symm, g2⟩
theorem parseW_yes (l : List UInt8) (hl : l.length ≤ 1000) (w : World) (hk : KOk w) (h : errW l = 0) :
  Calls Tryz.prog 241 #[.string ⟨l.toArray⟩] w fun e w' => e = .returned (.float .f64 (valW l)) ∧ Below w.heap.size w w' := by
 have := parseW_any l hl w hk
 unfold parseEnd at this
 rwa [if_pos h] at this
theorem parseW_no (l : List UInt8) (hl : l.length ≤ 1000) (w : World) (hk : KOk w) (h : errW l ≠ 0) :
  Calls Tryz.prog 241 #[.string ⟨l.toArray⟩] w fun e w' => e = pan (errW l) ∧ Below w.heap.size w w' := by
 have := parseW_any l hl w hk
 unfold parseEnd at this
 rwa [if_neg h] at this
theorem parse1_panic (p : Addr) (x : Int) (n : Int) (w : World) (hc : w.cell? p = some (.int .i64 x)) (hz : w.frozen? p = false) :
  CallsD Tryz.prog 240 #[.pointer (some p)] (.panicking [{ v := .iface 36 (.int .i64 n), recovered := false }]) w fun e u' w' =>
   e = .returned (.tuple #[]) ∧ u' = .panicking [{ v := .iface 36 (.int .i64 n), recovered := true }] ∧ w' = w.setCell p (.int .i64 n) := by
 refine callsD_of_wpS Tryz.func240 rfl fun c₀ cs hu => ?_
 apply wpS_region
 simp [wpOpsS, go_sem, recoverD, hu, Tryz.ntmps240]
 refine (raised_err n _).mono ?_
 rintro e w' ⟨rfl, rfl⟩
 simp [go_sem, hc, hz, bodyPostS, results, Tryz.results240]
theorem parse1_idle (p : Addr) (x : Int) (w : World) (hc : w.cell? p = some (.int .i64 x)) (hz : w.frozen? p = false) :
  CallsD Tryz.prog 240 #[.pointer (some p)] .returning w fun e u' w' => e = .returned (.tuple #[]) ∧ u' = .returning ∧ w' = w.setCell p (.int .i64 0) := by
 refine callsD_of_wpS Tryz.func240 rfl fun c₀ cs hu => ?_
 apply wpS_region
 simp [wpOpsS, go_sem, recoverD, hu, Tryz.ntmps240]
 refine (raised_nil _).mono ?_
 rintro e w' ⟨rfl, rfl⟩
 cases c₀
 simp_all [go_sem, bodyPostS, results, Tryz.results240]
def outW (l : List UInt8) : Nat := if errW l = 0 then valW l else 0
theorem parse_w (l : List UInt8) (hl : l.length ≤ 1000) (w : World) (hw : KOk w) :
  Calls Tryz.prog 206 #[.string ⟨l.toArray⟩] w fun e w' => e = .returned (.tuple #[.float .f64 (outW l), .int .i64 (errW l)]) ∧ Below w.heap.size w w' := by
 have hmf : ∀ (fn : Fn) (first cap : Array Value) (w : World), (Instr.makeFunc fn first cap).run Tryz.prog w = .ok (.func fn first cap) w := fun _ _ _ _ => rfl
 have hM : KOk (w.alloc (.cells #[.int .i64 0] 36)) := kOk_below hw ((Below.refl _ _).alloc (Nat.le_refl _) _)
 have HM := Lib.hid hM
 clear hw hM
 by_cases h : errW l = 0
 ·have H := Lib.hid h
  have HC : Hid (outW l = valW l) := by show _ = _; rw [outW, if_pos h]
  clear h
  go_enter_defers Tryz.func206, Tryz.ntmps206
  go_wp2_with fail
  refine (parseW_yes l hl _ HM.out H.out).mono ?_
  rintro e w2 ⟨rfl, hb⟩
  have hb2 : Below (w.heap.size + 1) (w.alloc (.cells #[.int .i64 0] 36)) w2 := by simpa using hb
  obtain ⟨hcell, hfro⟩ := cell_int w w2 _ _ hb2
  have HB2 := Lib.hid hb2
  clear hb hb2
  go_wp2_with fail
  refine leaves_cons (f := 240) (args := #[.pointer (some ⟨w.heap.size, 0, none⟩)]) (by simp) (by simp [go_sem]) ?_
  refine (parse1_idle ⟨w.heap.size, 0, none⟩ 0 _ ?_ ?_).mono ?_
  ·simp [go_sem, hcell]
  ·simp [go_sem, hfro]
  rintro e u' w3 ⟨rfl, rfl, rfl⟩
  simp [Leaves, settle, results, Tryz.results206, go_sem, hcell]
  exact ⟨⟨by rw [HC.out], H.out.symm⟩, ((below_new HB2.out).setCell (Nat.le_refl _) _).setCell (Nat.le_refl _) _⟩
 ·have H := Lib.hid h
  have HC : Hid (outW l = 0) := by show _ = _; rw [outW, if_neg h]
  clear h
  go_enter_defers Tryz.func206, Tryz.ntmps206
  go_wp2_with fail
  refine (parseW_no l hl _ HM.out H.out).mono ?_
  rintro e w1 ⟨rfl, hb⟩
  have hb1 : Below (w.heap.size + 1) (w.alloc (.cells #[.int .i64 0] 36)) w1 := by simpa using hb
  obtain ⟨hcell, hfro⟩ := cell_int w w1 _ _ hb1
  have HB := Lib.hid hb1
  clear hb hb1
  go_wp2_with fail
  refine leaves_cons (f := 240) (args := #[.pointer (some ⟨w.heap.size, 0, none⟩)]) (by simp) (by simp [go_sem]) ?_
  refine (parse1_panic ⟨w.heap.size, 0, none⟩ 0 _ _ ?_ ?_).mono ?_
  ·simp [go_sem, hcell]
  ·simp [go_sem, hfro]
  rintro e u' w2 ⟨rfl, rfl, rfl⟩
  simp [Leaves, settle, results, Tryz.results206, go_sem, hcell]
  exact ⟨by rw [HC.out], (below_new HB.out).setCell (Nat.le_refl _) _⟩
end Go.Proofs.YtkplahkkmmoppaaGreatDoor
