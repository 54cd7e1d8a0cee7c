/- Each step of a proof that is taken holds in each model of the clauses: the law walked over what the program must answer. -/
import Derived.Test.YtjkmdghlhodhiaaOp
import Derived.Test.YtjkmdghlhodhiaaOh
import Derived.Test.YtjkmdghlhodhiaaOi
namespace Go.Proofs.Ytjkmdghlhodhiaa.Up
open Go.RowKit Cl
/-- What a taken proof says of every model. -/
theorem true_all {N : Nat} {l p : List (List Int)} (h : (proofP N l p).2 = 0) : (∀ c ∈ p, checkC N c = 0) ∧ ∀ m : List Bool, m.length = N → (∀ c ∈ l, holdsC m c = true) → ∀ c ∈ p, holdsC m c = true := by
  obtain ⟨ha, ht, _⟩ := proof_taken h
  refine ⟨fun c hc => taken_lits ht c (by rw [List.take_length]; exact hc), fun m hm hl c hc => ?_⟩
  exact taken_holds hm ha hl p.length (Nat.le_refl _) ht c (by rw [List.take_length]; exact hc)
end Go.Proofs.Ytjkmdghlhodhiaa.Up
namespace Go.Proofs.Ytjkmdghlhodhiaa
open Go.RowKit Cl Up
attribute [local go_sem ↓] Go.wp_at_zero Go.wp_at_succ
set_option maxRecDepth 100000 in
set_option maxHeartbeats 12800000 in
theorem rupTrue_any (HKN : KnownC16) (HCK : RupCheckC) (n : Int) (A B : Option Addr) (ll kk c d : Nat) (l p : List (List Int)) (w : World) (hl : l.length = ll) (hg : GRow w A l) (hk : p.length = kk) (hp : GRow w B p) (hpc : ∀ c ∈ p, c.length ≤ 17592186044416) :
    Calls Try.prog 4 #[.int .i64 n, .slice A ll c, .slice B kk d] w fun e w' => e = .returned (.bool true) ∧ Below w.heap.size w w' := by
  have HK0 := Lib.hid (HKN w)
  have HS1 := Lib.hid fun (u : World) (hb : Below w.heap.size w u) => small15_any n 9 A ll c l u hl (Gr.row_below hg hb)
  obtain ⟨sb, hsb⟩ : ∃ b, smallB n 9 l = b := ⟨_, rfl⟩
  simp only [hsb] at HS1
  have HSB := Lib.hid hsb
  have HL := Lib.hid hl
  have HG := Lib.hid hg
  have HK := Lib.hid hk
  have HP := Lib.hid hp
  have HPC := Lib.hid hpc
  have HCKC := Lib.hid HCK
  clear hsb hl hg hk hp hpc HKN HCK
  go_enter Try.func4, Try.ntmps4
  go_wp2_with (go_at_call 8; refine HK0.out.mono ?_)
  rintro _ u0 ⟨rfl, hb, _⟩
  have HB0 := Lib.hid hb
  have HS2 := Lib.hid (HS1.out u0 hb)
  clear hb HK0 HS1
  go_wp2_with (go_at_call 15; refine HS2.out.mono ?_)
  rintro _ u1 ⟨rfl, hb⟩
  have HB1 := Lib.hid (HB0.out.trans (hb.mono HB0.out.size))
  clear hb HS2 HB0
  cases sb
  · go_wp2_with fail
    go_ret
    exact ⟨rfl, HB1.out⟩
  obtain ⟨n0, n1, n2, hll, hok, hlits, hlens⟩ := small_of HSB.out
  obtain ⟨N, rfl⟩ : ∃ N : Nat, n = (N : Int) := ⟨n.toNat, by omega⟩
  have HLENS := Lib.hid hlens
  have hN : N ≤ 9 := by omega
  have hll2 : ll ≤ 120 := by rw [← HL.out]; exact hll
  clear n0 n1 n2 hll hok hlits hlens
  by_cases e1 : 40 < kk
  · have d1 : decide ((40 : Int) < (kk : Int)) = true := decide_eq_true (by omega)
    go_wp2_with fail
    go_ret
    exact ⟨rfl, HB1.out⟩
  have d1 : decide ((40 : Int) < (kk : Int)) = false := decide_eq_false (by omega)
  have hk40 : kk ≤ 40 := by omega
  have HT1 := Lib.hid (to13c_any A ll c l u1 HL.out (Gr.row_below HG.out HB1.out) (by omega) (fun x hx => by have := HLENS.out x hx; omega))
  clear e1
  go_wp2_with (go_at_call 11; refine HT1.out.mono ?_)
  rintro _ u3 ⟨v3, rfl, ho3, hb3, hz3⟩
  obtain ⟨C3, d3, rfl, hr3⟩ := cown_row ho3
  rw [HL.out]
  have HG3 := Lib.hid hr3
  have HB3 := Lib.hid (HB1.out.trans (hb3.mono HB1.out.size))
  have HT2 := Lib.hid (to13c_any B kk d p u3 HK.out (Gr.row_below HP.out HB3.out) (by omega) HPC.out)
  clear ho3 hb3 hz3 hr3 HT1 d1
  go_wp2_with (go_at_call 11; refine HT2.out.mono ?_)
  rintro _ u4 ⟨v4, rfl, ho4, hb4, hz4⟩
  obtain ⟨C4, d4, rfl, hr4⟩ := cown_row ho4
  rw [HK.out]
  have HB4 := Lib.hid (HB3.out.trans (hb4.mono HB3.out.size))
  have HQ4 := Lib.hid (HCKC.out N C3 C4 ll kk d3 d4 l p u4 HL.out (crow_below HG3.out hb4) HK.out hr4 (by omega) (by omega) (fun y hy => by have := HLENS.out y hy; omega) HPC.out)
  obtain ⟨q, hq⟩ : ∃ q, proofP N l p = q := ⟨_, rfl⟩
  rw [hq] at HQ4
  have HQ := Lib.hid hq
  clear ho4 hb4 hz4 hr4 HT2 HG3 hq
  cases hq2 : q.2 == 0
  case false =>
    have hq3 : (q.2 != 0) = true := by show (!(q.2 == 0)) = true; rw [hq2]; rfl
    go_wp2_with (go_at_call 10; refine HQ4.out.mono ?_)
    rintro _ u5 ⟨rfl, hb5⟩
    have HB5 := Lib.hid (HB4.out.trans (hb5.mono HB4.out.size))
    clear hb5
    go_wp2_with fail
    go_ret
    exact ⟨rfl, HB5.out⟩
  have hq3 : (q.2 != 0) = false := by show (!(q.2 == 0)) = false; rw [hq2]; rfl
  have HTR := Lib.hid (true_all (N := N) (l := l) (p := p) (by rw [HQ.out]; simpa using hq2))
  have HPL : Hid (∀ c ∈ p, c.length ≤ 1000) := fun c hc => by have := (check_ok (HTR.out.1 c hc)).2.2.1; omega
  go_wp2_with (go_at_call 10; refine HQ4.out.mono ?_)
  rintro _ u5 ⟨rfl, hb5⟩
  have HB5 : Hid (Below w.heap.size w u5 ∧ w.heap.size ≤ u5.heap.size) := ⟨HB4.out.trans (hb5.mono HB4.out.size), (HB4.out.trans (hb5.mono HB4.out.size)).size⟩
  clear hb5 HQ4
  obtain ⟨P, hP⟩ : ∃ P, 2 ^ N = P := ⟨_, rfl⟩
  have hP1 : P ≤ 512 := by
    have h1 : 2 ^ N ≤ 2 ^ 9 := Nat.pow_le_pow_right (by decide) hN
    have h2 : (2 : Nat) ^ 9 = 512 := by decide
    omega
  have e0 : (2 : Int) ^ N = (P : Int) := by rw [← hP]; norm_cast
  have wP : IntKind.i64.wrap (P : Int) = (P : Int) := IntWalk.i64_in _ (by omega)
  have wN : IntKind.u64.wrap (N : Int) = (N : Int) := IntWalk.u64_in _ (by omega)
  have N0 : (0 : Int) ≤ (N : Int) := by omega
  have N1 : (N : Int) ≤ 64 := by omega
  clear hP
  go_wp2_with fail
  go_loopw [9, 10] (fun bb _ wr => ∃ b : Nat, b ≤ P ∧ bb = .int .i64 b ∧ Hid (Below u5.heap.size u5 wr ∧ u5.heap.size ≤ wr.heap.size)) (fun bb _ _ => P - (intOf bb).toNat)
  case atStart => exact ⟨0, Nat.zero_le _, rfl, Below.refl _ _, Nat.le_refl _⟩
  case round =>
    obtain ⟨b, hb, rfl, HB⟩ := hrel
    obtain ⟨z1, hz1⟩ : ∃ z1, z1 = wr := ⟨_, rfl⟩
    subst hz1
    have HBZ : Hid (Below w.heap.size w z1 ∧ w.heap.size ≤ z1.heap.size) := ⟨HB5.out.1.trans (HB.out.1.mono HB5.out.2), Nat.le_trans HB5.out.2 HB.out.2⟩
    by_cases hlt : b < P
    · have b1 : (b : Int) < (P : Int) := by omega
      have HQ := Lib.hid (refSetOf_any N b z1 (by omega) (by omega))
      go_wp2_with (go_at_call 20; refine HQ.out.mono ?_)
      rintro _ z2 ⟨v, rfl, ho, hb2, hz2⟩
      obtain ⟨C, q, rfl, hr⟩ := iown_row ho
      have hbl := bitL_le N b
      have HQ2 := Lib.hid (refModel_any C _ q N (bitL N b) z2 rfl hr (by omega) (by omega))
      have HB2 : Hid (Below z1.heap.size z1 z2 ∧ z1.heap.size ≤ z2.heap.size) := ⟨hb2, hz2⟩
      clear ho hb2 hz2 hr HQ hbl
      go_wp2_with (go_at_call 19; refine HQ2.out.mono ?_)
      rintro _ z3 ⟨v, rfl, ho, hb3, hz3⟩
      obtain ⟨D, q2, rfl, hrD, _, _⟩ := Rg.row_own fitsB ho
      have hml := modelL_len (bitL N b) N
      rw [hml]
      obtain ⟨m, hm⟩ : ∃ m, modelL (bitL N b) N = m := ⟨_, rfl⟩
      rw [hm] at hrD hml
      have HML := Lib.hid hml
      have HRD := Lib.hid hrD
      have HB3' : Hid (Below z1.heap.size z1 z3 ∧ z1.heap.size ≤ z3.heap.size) := ⟨HB2.out.1.trans (hb3.mono HB2.out.2), Nat.le_trans HB2.out.2 hz3⟩
      have HW3 : Hid (Below w.heap.size w z3 ∧ w.heap.size ≤ z3.heap.size) := ⟨HBZ.out.1.trans (HB3'.out.1.mono HBZ.out.2), Nat.le_trans HBZ.out.2 HB3'.out.2⟩
      have HQ3 := Lib.hid (refFirst_any A D ll N c q2 l m z3 HL.out hml (Gr.row_below HG.out HW3.out.1) hrD (by omega) (by omega) (fun x hx => by have := HLENS.out x hx; omega))
      obtain ⟨fi, hfi⟩ : ∃ f, firstH m 0 l = f := ⟨_, rfl⟩
      rw [hfi] at HQ3
      have HFI := Lib.hid hfi
      clear ho hb3 hz3 hrD hml hm hfi HQ2 HB2
      go_wp2_with (go_at_call 21; refine HQ3.out.mono ?_)
      rintro _ z4 ⟨rfl, hb4⟩
      have HB4' : Hid (Below z1.heap.size z1 z4 ∧ z1.heap.size ≤ z4.heap.size) := ⟨HB3'.out.1.trans (hb4.mono HB3'.out.2), Nat.le_trans HB3'.out.2 hb4.size⟩
      have HW4 : Hid (Below w.heap.size w z4) := HW3.out.1.trans (hb4.mono HW3.out.2)
      have HU4 : Hid (Below u5.heap.size u5 z4 ∧ u5.heap.size ≤ z4.heap.size) := ⟨HB.out.1.trans (HB4'.out.1.mono HB.out.2), Nat.le_trans HB.out.2 HB4'.out.2⟩
      have HRD4 := Lib.hid (Rg.row_below HRD.out hb4)
      clear hb4 HQ3 HB3' HW3 HRD
      have bw : IntKind.i64.wrap ((b : Int) + 1) = (b : Int) + 1 := IntWalk.i64_in _ (by omega)
      by_cases hfi0 : fi < 0
      · have HH := Lib.hid (HTR.out.2 m HML.out ((firstH_neg m l 0).1 (by rw [HFI.out]; exact hfi0)))
        have HQ5 := Lib.hid (refFirst_any B D kk N d q2 p m z4 HK.out HML.out (Gr.row_below HP.out HW4.out) HRD4.out (by omega) (by omega) (fun x hx => by have := HPL.out x hx; omega))
        obtain ⟨gi, hgi⟩ : ∃ f, firstH m 0 p = f := ⟨_, rfl⟩
        have hg0 : gi < 0 := by rw [← hgi]; exact (firstH_neg m p 0).2 HH.out
        rw [hgi] at HQ5
        clear hgi
        go_wp2_with (go_at_call 21; refine HQ5.out.mono ?_)
        rintro _ z5 ⟨rfl, hb5⟩
        have HU5 : Hid (Below u5.heap.size u5 z5 ∧ u5.heap.size ≤ z5.heap.size) := ⟨HU4.out.1.trans (hb5.mono HU4.out.2), Nat.le_trans HU4.out.2 hb5.size⟩
        have g1 : ¬ ((0 : Int) ≤ gi) := by omega
        clear hb5 HQ5
        go_wp2_with fail
        go_roundw
        case rel => exact ⟨b + 1, by omega, by go_num, HU5.out⟩
        case measure => simp [intOf]; omega
      · go_wp2_with fail
        go_roundw
        case rel => exact ⟨b + 1, by omega, by go_num, HU4.out⟩
        case measure => simp [intOf]; omega
    · have b1 : ¬ ((b : Int) < (P : Int)) := by omega
      go_wp2_with fail
      go_ret
      exact ⟨rfl, HBZ.out.1⟩
end Go.Proofs.Ytjkmdghlhodhiaa
