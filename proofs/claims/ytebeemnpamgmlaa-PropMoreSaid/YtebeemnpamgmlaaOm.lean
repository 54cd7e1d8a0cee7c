/- Each model that has the literals has what follows: the law walked. -/
import Derived.Test.YtebeemnpamgmlaaOk
namespace Go.Proofs.Ytebeemnpamgmlaa.Up
open Go.RowKit Cl
theorem iZ_run (V : Option Addr) (k vc i : Nat) (h : i < k) (h2 : k ≤ vc) (_hv : vc ≤ maxLen) : ∃ Y, V.map (fun x => x.add (i * 1)) = Y ∧ ∀ W : World, (Instr.sliceAt 23 (.slice V k vc) (some (.int .i64 (i : Int))) (some (.int .i64 ((i : Int) + 1))) none).run Try.prog W = .ok (.slice Y 1 (vc - i)) W := by
  refine ⟨_, rfl, fun W => ?_⟩
  have i0 : (0 : Int) ≤ (i : Int) := by omega
  have i1 : (i : Int) ≤ (i : Int) + 1 := by omega
  have i2 : (i : Int) + 1 ≤ (vc : Int) := by omega
  have i3 : ((i : Int) + 1).toNat = i + 1 := by omega
  have i4 : ¬ vc = i := by omega
  have i5 : (i : Int) + 1 - (i : Int) = 1 := by omega
  go_simp
theorem irow_one {w : World} {A Y : Option Addr} {l : List Int} {i : Nat} {x : Int} (h : IRow w A l) (hi : i < l.length) (hx : l[i] = x) (hY : A.map (fun a => a.add (i * 1)) = Y) : IRow w Y [x] := by
  have h1 := Rg.row_take (Rg.row_drop h i (A' := Y) (fun _ => hY.symm)) 1
  have e : (l.drop i).take 1 = [x] := by rw [List.drop_eq_getElem_cons hi, hx]; rfl
  rw [e] at h1; exact h1
theorem holds_one (m : List Bool) (x : Int) : holdsC m [x] = holdsL m x := by unfold holdsC; simp
end Go.Proofs.Ytebeemnpamgmlaa.Up
namespace Go.Proofs.Ytebeemnpamgmlaa
open Go.RowKit Cl Up
attribute [local go_sem ↓] Go.wp_at_zero Go.wp_at_succ
set_option maxRecDepth 100000 in
set_option maxHeartbeats 12800000 in
theorem propFollows_any (HKN : KnownC15) (HCL : CloseC) (n : Int) (A B : Option Addr) (ll kk c d : Nat) (l : List (List Int)) (s : List Int) (w : World) (hl : l.length = ll) (hg : GRow w A l) (hk : s.length = kk) (hs : IRow w B s) (hd : kk ≤ d) (hd2 : d ≤ maxLen) :
    Calls Try.prog 4 #[.int .i64 n, .slice A ll c, .slice B kk d] w fun e w' => e = .returned (.bool true) ∧ Below w.heap.size w w' := by
  have HK0 := Lib.hid (HKN w)
  have HS1 := Lib.hid fun (u : World) (hb : Below w.heap.size w u) => small15_any n 10 A ll c l u hl (Gr.row_below hg hb)
  have HL1 := Lib.hid fun (k : Nat) (u : World) (hk2 : k ≤ 2199023255552) (hb : Below w.heap.size w u) => lits15_any k B kk d s u hk (irow_below hs hb) hk2
  obtain ⟨sb, hsb⟩ : ∃ b, smallB n 10 l = b := ⟨_, rfl⟩
  simp only [hsb] at HS1
  have HSB := Lib.hid hsb
  have HL := Lib.hid hl
  have HG := Lib.hid hg
  have HK := Lib.hid hk
  have HS := Lib.hid hs
  have HD := Lib.hid hd
  have HD2 := Lib.hid hd2
  have HCLC := Lib.hid HCL
  clear hsb hl hg hk hs HKN HCL hd hd2
  go_enter Try.func4, Try.ntmps4
  go_wp2_with (go_at_call 7; refine HK0.out.mono ?_)
  rintro _ u0 ⟨rfl, hb, _⟩
  have HB0 := Lib.hid hb
  have HS2 := Lib.hid (HS1.out u0 hb)
  clear hb HK0 HS1
  go_wp2_with (go_at_call 8; refine HS2.out.mono ?_)
  rintro _ u1 ⟨rfl, hb⟩
  have HB1 := Lib.hid (HB0.out.trans (hb.mono HB0.out.size))
  clear hb HS2 HB0
  cases sb
  · go_wp2_with fail
    go_ret
    exact ⟨rfl, HB1.out⟩
  obtain ⟨n0, n1, n2, hll, hok, hlits, hlens⟩ := small_of HSB.out
  obtain ⟨N, rfl⟩ : ∃ N : Nat, n = (N : Int) := ⟨n.toNat, by omega⟩
  have HLITS : Hid (∀ c ∈ l, ∀ x ∈ c, LitOf N x) := hlits
  have HLENS := Lib.hid hlens
  have hN : N ≤ 10 := by omega
  have hll2 : ll ≤ 120 := by rw [← HL.out]; exact hll
  have HL2 := Lib.hid (HL1.out N u1 (by omega) HB1.out)
  obtain ⟨lb, hlb⟩ : ∃ b, litsB N s = b := ⟨_, rfl⟩
  rw [hlb] at HL2
  have HLB := Lib.hid hlb
  clear n0 n1 n2 hll hok hlits hlens hlb HL1
  go_wp2_with (go_at_call 9; refine HL2.out.mono ?_)
  rintro _ u2 ⟨rfl, rfl⟩
  cases lb
  · go_wp2_with fail
    go_ret
    exact ⟨rfl, HB1.out⟩
  obtain ⟨hk60, hslits⟩ := lits_nat HLB.out
  have HSL := Lib.hid hslits
  have hkk : kk ≤ 60 := by rw [← HK.out]; exact hk60
  clear hk60 hslits HL2
  have HTO := Lib.hid fun (u : World) (hb : Below w.heap.size w u) => to13c_any A ll c l u HL.out (Gr.row_below HG.out hb) (by omega) (fun x hx => by have := HLENS.out x hx; omega)
  have HT1 := Lib.hid (HTO.out u1 HB1.out)
  go_wp2_with (go_at_call 11; refine HT1.out.mono ?_)
  rintro _ u3 ⟨v3, rfl, ho3, hb3, hz3⟩
  obtain ⟨C3, d3, rfl, hr3⟩ := cown_row ho3
  rw [HL.out]
  have HB3 := Lib.hid (HB1.out.trans (hb3.mono HB1.out.size))
  have HQ3 := Lib.hid (HCLC.out N C3 B ll kk d3 d l s u3 HL.out hr3 HK.out (irow_below HS.out HB3.out) (by omega) HLITS.out HSL.out (by omega) (by omega) HLENS.out)
  clear ho3 hb3 hz3 hr3 HT1
  go_wp2_with (go_at_call 10; refine HQ3.out.mono ?_)
  rintro _ u4 ⟨v4, out4, bad4, rfl, hcl4, ho4, hb4, hz4⟩
  have HB4 : Hid (Below w.heap.size w u4 ∧ w.heap.size ≤ u4.heap.size) := ⟨HB3.out.trans (hb4.mono HB3.out.size), Nat.le_trans HB3.out.size hz4⟩
  have HCL4 := Lib.hid hcl4
  obtain ⟨C4, d4, rfl, hr4, hle4, hmx4⟩ := Rg.row_own fitsI ho4
  have HR4 := Lib.hid hr4
  have HOL := Lib.hid (close_lits HLITS.out HSL.out hcl4)
  obtain ⟨ol, hol⟩ : ∃ k, out4.length = k := ⟨_, rfl⟩
  rw [hol] at hle4
  rw [hol]
  have HOLN := Lib.hid hol
  have HLE4 := Lib.hid hle4
  have HMX4 := Lib.hid hmx4
  have hol2 : ol ≤ 10 := by rw [← hol]; have := HOL.out.2; omega
  clear hcl4 ho4 hb4 hz4 hr4 hle4 hmx4 hol HQ3
  obtain ⟨P, hP⟩ : ∃ P, 2 ^ N = P := ⟨_, rfl⟩
  have hP1 : P ≤ 1024 := by
    have h1 : 2 ^ N ≤ 2 ^ 10 := Nat.pow_le_pow_right (by decide) hN
    have h2 : (2 : Nat) ^ 10 = 1024 := by decide
    omega
  have e0 : (2 : Int) ^ N = (P : Int) := by rw [← hP]; norm_cast
  have wP : IntKind.i64.wrap (P : Int) = (P : Int) := IntWalk.i64_in _ (by omega)
  have wN : IntKind.u64.wrap (N : Int) = (N : Int) := IntWalk.u64_in _ (by omega)
  have N0 : (0 : Int) ≤ (N : Int) := by omega
  have N1 : (N : Int) ≤ 64 := by omega
  have HP := Lib.hid hP
  clear hP
  go_wp2_with fail
  go_loopw [9, 10, 11, 12, 13] (fun bb _ _ _ _ wr => ∃ b : Nat, b ≤ P ∧ bb = .int .i64 b ∧ Hid (Below u4.heap.size u4 wr ∧ u4.heap.size ≤ wr.heap.size)) (fun bb _ _ _ _ _ => P - (intOf bb).toNat)
  case atStart => exact ⟨0, Nat.zero_le _, rfl, Below.refl _ _, Nat.le_refl _⟩
  case round =>
    obtain ⟨b, hb, rfl, HB⟩ := hrel
    obtain ⟨z1, hz1⟩ : ∃ z1, z1 = wr := ⟨_, rfl⟩
    subst hz1
    have HBZ : Hid (Below w.heap.size w z1 ∧ w.heap.size ≤ z1.heap.size) := ⟨HB4.out.1.trans (HB.out.1.mono HB4.out.2), Nat.le_trans HB4.out.2 HB.out.2⟩
    by_cases hlt : b < P
    · have b1 : (b : Int) < (P : Int) := by omega
      have HQ := Lib.hid (refSetOf_any N b z1 (by omega) (by omega))
      go_wp2_with (go_at_call 17; refine HQ.out.mono ?_)
      rintro _ z2 ⟨v, rfl, ho, hb2, hz2⟩
      obtain ⟨C, q, rfl, hr⟩ := iown_row ho
      have hbl := bitL_le N b
      have HQ2 := Lib.hid (refModel_any C _ q N (bitL N b) z2 rfl hr (by omega) (by omega))
      have HB2 : Hid (Below z1.heap.size z1 z2 ∧ z1.heap.size ≤ z2.heap.size) := ⟨hb2, hz2⟩
      clear ho hb2 hz2 hr HQ hbl
      go_wp2_with (go_at_call 16; refine HQ2.out.mono ?_)
      rintro _ z3 ⟨v, rfl, ho, hb3, hz3⟩
      obtain ⟨D, q2, rfl, hrD, _, _⟩ := Rg.row_own fitsB ho
      have hml := modelL_len (bitL N b) N
      rw [hml]
      obtain ⟨m, hm⟩ : ∃ m, modelL (bitL N b) N = m := ⟨_, rfl⟩
      rw [hm] at hrD hml
      have HML := Lib.hid hml
      have HRD := Lib.hid hrD
      have HB3' : Hid (Below z1.heap.size z1 z3 ∧ z1.heap.size ≤ z3.heap.size) := ⟨HB2.out.1.trans (hb3.mono HB2.out.2), Nat.le_trans HB2.out.2 hz3⟩
      have HW3 : Hid (Below w.heap.size w z3 ∧ w.heap.size ≤ z3.heap.size) := ⟨HBZ.out.1.trans (HB3'.out.1.mono HBZ.out.2), Nat.le_trans HBZ.out.2 HB3'.out.2⟩
      have HQ3 := Lib.hid (refFirst_any A D ll N c q2 l m z3 HL.out hml (Gr.row_below HG.out HW3.out.1) hrD (by omega) (by omega) (fun x hx => by have := HLENS.out x hx; omega))
      obtain ⟨fi, hfi⟩ : ∃ f, firstH m 0 l = f := ⟨_, rfl⟩
      rw [hfi] at HQ3
      have HFI := Lib.hid hfi
      clear ho hb3 hz3 hrD hml hm hfi HQ2 HB2
      go_wp2_with (go_at_call 18; refine HQ3.out.mono ?_)
      rintro _ z4 ⟨rfl, hb4⟩
      have HB4' : Hid (Below z1.heap.size z1 z4 ∧ z1.heap.size ≤ z4.heap.size) := ⟨HB3'.out.1.trans (hb4.mono HB3'.out.2), Nat.le_trans HB3'.out.2 hb4.size⟩
      have HW4 : Hid (Below w.heap.size w z4 ∧ w.heap.size ≤ z4.heap.size) := ⟨HW3.out.1.trans (hb4.mono HW3.out.2), Nat.le_trans HW3.out.2 hb4.size⟩
      have HRD4 := Lib.hid (Rg.row_below HRD.out hb4)
      have HU4 : Hid (Below u4.heap.size u4 z4 ∧ u4.heap.size ≤ z4.heap.size) := ⟨HB.out.1.trans (HB4'.out.1.mono HB.out.2), Nat.le_trans HB.out.2 HB4'.out.2⟩
      clear hb4 HQ3 HB3' HW3 HRD
      obtain ⟨g0, hg0⟩ : ∃ g, decide (fi < 0) = g := ⟨_, rfl⟩
      have HG0 : Hid (g0 = true → ∀ c ∈ l, holdsC m c = true) := fun e => by
        rw [e] at hg0
        exact (firstH_neg m l 0).1 (by rw [HFI.out]; exact of_decide_eq_true hg0)
      go_wp2_with fail
      clear hg0
      go_loopw [11, 12] (fun okv i z5 => ∃ (j : Nat) (g : Bool), j ≤ kk ∧ okv = .bool g ∧ i = .int .i64 j ∧ Hid (g = true → (∀ c ∈ l, holdsC m c = true) ∧ ∀ x ∈ s.take j, holdsL m x = true) ∧ Hid (Below z4.heap.size z4 z5 ∧ z4.heap.size ≤ z5.heap.size)) (fun _ i _ => kk - (intOf i).toNat)
      case atStart => exact ⟨0, g0, Nat.zero_le _, rfl, rfl, fun e => ⟨HG0.out e, fun x h => absurd h (by simp)⟩, Below.refl _ _, Nat.le_refl _⟩
      case round =>
        obtain ⟨j, g, hj, rfl, rfl, HOK, HBI⟩ := hrel
        obtain ⟨z5, hz5⟩ : ∃ z, z = wr := ⟨_, rfl⟩
        subst hz5
        have HW5 : Hid (Below w.heap.size w z5 ∧ w.heap.size ≤ z5.heap.size) := ⟨HW4.out.1.trans (HBI.out.1.mono HW4.out.2), Nat.le_trans HW4.out.2 HBI.out.2⟩
        have HU5 : Hid (Below u4.heap.size u4 z5 ∧ u4.heap.size ≤ z5.heap.size) := ⟨HU4.out.1.trans (HBI.out.1.mono HU4.out.2), Nat.le_trans HU4.out.2 HBI.out.2⟩
        by_cases hgo : j < kk ∧ g = true
        · obtain ⟨hjk, rfl⟩ := hgo
          have hjl : j < s.length := by rw [HK.out]; exact hjk
          obtain ⟨x, hx⟩ : ∃ x, s[j] = x := ⟨_, rfl⟩
          obtain ⟨Y, hY, hrun⟩ := iZ_run B kk d j hjk HD.out HD2.out
          have HRX := Lib.hid (irow_one (irow_below HS.out HW5.out.1) hjl hx hY)
          have HQ5 := Lib.hid (refHolds_any Y D 1 N (d - j) q2 [x] m z5 rfl HML.out HRX.out (Rg.row_below HRD4.out HBI.out.1) (by decide) (by omega))
          rw [holds_one] at HQ5
          obtain ⟨r, hr⟩ : ∃ r, holdsL m x = r := ⟨_, rfl⟩
          rw [hr] at HQ5
          have HOK2 : Hid (r = true → (∀ c ∈ l, holdsC m c = true) ∧ ∀ y ∈ s.take (j + 1), holdsL m y = true) := fun e => by
            obtain ⟨h1, h2⟩ := HOK.out rfl
            refine ⟨h1, fun y hy => ?_⟩
            rcases (mem_take_more hjl hx).1 hy with hy | rfl
            · exact h2 y hy
            · rw [hr, e]
          have j0 : (j : Int) < (kk : Int) := by omega
          have jw : IntKind.i64.wrap ((j : Int) + 1) = (j : Int) + 1 := IntWalk.i64_in _ (by omega)
          clear hx hY hr hjl HOK
          go_wp2_with (go_at_call 19; refine HQ5.out.mono ?_)
          rintro _ z6 ⟨rfl, hb6⟩
          have HB6 : Hid (Below z4.heap.size z4 z6 ∧ z4.heap.size ≤ z6.heap.size) := ⟨HBI.out.1.trans (hb6.mono HBI.out.2), Nat.le_trans HBI.out.2 hb6.size⟩
          clear hb6
          go_wp2_with fail
          go_roundw
          case rel => exact ⟨j + 1, r, by omega, rfl, by go_num, HOK2.out, HB6.out⟩
          case measure => simp [intOf]; omega
        · have HJK : Hid (g = true → j = kk) := fun e => by
            by_cases h : j < kk
            · exact absurd ⟨h, e⟩ hgo
            · omega
          cases g
          · clear hgo
            by_cases hjk : j < kk
            · have j0 : (j : Int) < (kk : Int) := by omega
              go_wp2_with fail
              go_roundw
              case rel => exact ⟨b + 1, by omega, by go_num, HU5.out⟩
              case measure => simp [intOf]; omega
            · go_wp2_with fail
              go_roundw
              case rel => exact ⟨b + 1, by omega, by go_num, HU5.out⟩
              case measure => simp [intOf]; omega
          · have hjk : ¬ j < kk := fun h => hgo ⟨h, rfl⟩
            clear hgo
            obtain ⟨h1, h2⟩ := HOK.out rfl
            rw [HJK.out rfl, List.take_of_length_le (by rw [HK.out]; exact Nat.le_refl _)] at h2
            have HNC := Lib.hid (model_none HML.out HLITS.out HSL.out h1 h2)
            have hbad : bad4 = false := by
              rcases HCL4.out with ⟨_, _, hc⟩ | ⟨h, _⟩
              · exact absurd hc HNC.out
              · exact h
            have HALL : Hid (∀ x ∈ out4, holdsL m x = true) := fun x hx => by
              rcases HCL4.out with ⟨_, ho, _⟩ | ⟨_, _, _, hm⟩
              · rw [ho] at hx; exact absurd hx (by simp)
              · exact model_der HML.out HLITS.out h1 h2 ((hm x).1 hx)
            subst hbad
            clear h1 h2 HJK HOK
            go_wp2_with fail
            go_loopw [13] (fun i z7 => ∃ p : Nat, p ≤ ol ∧ i = .int .i64 p ∧ Hid (Below z5.heap.size z5 z7 ∧ z5.heap.size ≤ z7.heap.size)) (fun i _ => ol - (intOf i).toNat)
            case atStart => exact ⟨0, Nat.zero_le _, rfl, Below.refl _ _, Nat.le_refl _⟩
            case round =>
              obtain ⟨p, hp, rfl, HBP⟩ := hrel
              by_cases hpl : p < ol
              · have hpo : p < out4.length := by rw [HOLN.out]; exact hpl
                obtain ⟨x, hx⟩ : ∃ x, out4[p] = x := ⟨_, rfl⟩
                obtain ⟨Y, hY, hrun⟩ := iZ_run C4 ol d4 p hpl HLE4.out HMX4.out
                have HUP : Hid (Below u4.heap.size u4 wr) := HU5.out.1.trans (HBP.out.1.mono HU5.out.2)
                have HRX := Lib.hid (irow_one (irow_below HR4.out HUP.out) hpo hx hY)
                have HQ7 := Lib.hid (refHolds_any Y D 1 N (d4 - p) q2 [x] m wr rfl HML.out HRX.out (Rg.row_below (Rg.row_below HRD4.out HBI.out.1) HBP.out.1) (by decide) (by omega))
                rw [holds_one, HALL.out x (hx ▸ List.getElem_mem hpo)] at HQ7
                have p0 : (p : Int) < (ol : Int) := by omega
                have pw : IntKind.i64.wrap ((p : Int) + 1) = (p : Int) + 1 := IntWalk.i64_in _ (by omega)
                clear hx hY hpo
                go_wp2_with (go_at_call 19; refine HQ7.out.mono ?_)
                rintro _ z8 ⟨rfl, hb8⟩
                have HB8 : Hid (Below z5.heap.size z5 z8 ∧ z5.heap.size ≤ z8.heap.size) := ⟨HBP.out.1.trans (hb8.mono HBP.out.2), Nat.le_trans HBP.out.2 hb8.size⟩
                clear hb8
                go_wp2_with fail
                go_roundw
                case rel => exact ⟨p + 1, by omega, by go_num, HB8.out⟩
                case measure => simp [intOf]; omega
              · have HUE : Hid (Below u4.heap.size u4 wr ∧ u4.heap.size ≤ wr.heap.size) := ⟨HU5.out.1.trans (HBP.out.1.mono HU5.out.2), Nat.le_trans HU5.out.2 HBP.out.2⟩
                go_wp2_with fail
                go_roundw
                case rel => exact ⟨b + 1, by omega, by go_num, HUE.out⟩
                case measure => simp [intOf]; omega
    · have b1 : decide ((b : Int) < (P : Int)) = false := decide_eq_false (by omega)
      cases bad4
      · have HAG := Lib.hid (close_again HCL4.out)
        have HT5 := Lib.hid (HTO.out z1 HBZ.out.1)
        have HR5 := Lib.hid (irow_below HR4.out HB.out.1)
        go_wp2_with (go_at_call 11; refine HT5.out.mono ?_)
        rintro _ y1 ⟨v5, rfl, ho5, hb5, hz5⟩
        obtain ⟨C5, d5, rfl, hr5⟩ := cown_row ho5
        rw [HL.out]
        have HBY : Hid (Below w.heap.size w y1) := HBZ.out.1.trans (hb5.mono HBZ.out.2)
        have HR6 := Lib.hid (irow_below HR5.out hb5)
        have HQ6 := Lib.hid (HCLC.out N C5 C4 ll ol d5 d4 l out4 y1 HL.out hr5 HOLN.out HR6.out (by omega) HLITS.out HOL.out.1 (by omega) (by omega) HLENS.out)
        clear ho5 hb5 hz5 hr5 HT5
        go_wp2_with (go_at_call 10; refine HQ6.out.mono ?_)
        rintro _ y2 ⟨v6, out6, bad6, rfl, hcl6, ho6, hb6, hz6⟩
        obtain ⟨e1, e2⟩ := close_one hcl6 HAG.out
        subst e1
        subst e2
        obtain ⟨C6, d6, rfl, hr6⟩ := iown_row ho6
        rw [HOLN.out]
        have HBY2 := Lib.hid (HBY.out.trans (hb6.mono HBY.out.size))
        have HQ7 := Lib.hid (ints7_any C4 C6 ol ol d4 d6 out6 out6 y2 HOLN.out HOLN.out (irow_below HR6.out hb6) hr6 (by omega))
        clear hcl6 ho6 hb6 hz6 hr6 HQ6
        go_wp2_with (go_at_call 13; refine HQ7.out.mono ?_)
        rintro _ y3 ⟨rfl, hb⟩
        have HBY3 := Lib.hid (HBY2.out.trans (hb.mono HBY2.out.size))
        clear hb HQ7
        go_wp2_with fail
        go_ret
        exact ⟨by simp, HBY3.out⟩
      · have hol0 : ((ol : Int) == 0) = true := by
          rcases HCL4.out with ⟨_, ho, _⟩ | ⟨h, _⟩
          · have := HOLN.out
            rw [ho] at this
            have : ol = 0 := this.symm
            rw [this]; rfl
          · exact absurd h (by decide)
        go_wp2_with fail
        go_ret
        exact ⟨rfl, HBZ.out.1⟩
end Go.Proofs.Ytebeemnpamgmlaa
