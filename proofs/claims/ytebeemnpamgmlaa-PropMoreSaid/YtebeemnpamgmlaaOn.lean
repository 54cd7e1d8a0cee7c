/- From more literals more follows: the law walked. -/
import Derived.Test.YtebeemnpamgmlaaOm
namespace Go.Proofs.Ytebeemnpamgmlaa.Up
open Go.RowKit Cl
theorem iT_run (V : Option Addr) (k vc m : Nat) (h : m ≤ k) (h2 : k ≤ vc) (_hv : vc ≤ maxLen) : ∀ W : World, (Instr.sliceAt 23 (.slice V k vc) none (some (.int .i64 m)) none).run Try.prog W = .ok (.slice V m vc) W := by
  intro W
  have i0 : (0 : Int) ≤ (m : Int) := by omega
  have i1 : (m : Int) ≤ (k : Int) := by omega
  have i2 : (m : Int) ≤ (vc : Int) := by omega
  go_simp
theorem up_lt {b : List Int} (h : Up b) : ∀ {p q : Nat} (hp : p < b.length) (hq : q < b.length), b[p].natAbs < b[q].natAbs → p < q := fun {p q} hp hq hlt => by
  by_cases e : p < q
  · exact e
  · by_cases e2 : p = q
    · subst e2; exact absurd hlt (Nat.lt_irrefl _)
    · have := List.pairwise_iff_getElem.1 h q p hq hp (by omega)
      omega
/-- Where the rest of a row lies in another one. -/
def Ahd (a b : List Int) (i t : Nat) : Prop := ∀ j (hj : j < a.length), i ≤ j → ∃ p, ∃ hp : p < b.length, t ≤ p ∧ b[p] = a[j]
theorem ahd_start {a b : List Int} (h : ∀ x ∈ a, x ∈ b) : Ahd a b 0 0 := fun j hj _ => by
  obtain ⟨p, hp, e⟩ := List.mem_iff_getElem.1 (h _ (List.getElem_mem hj))
  exact ⟨p, hp, Nat.zero_le _, e⟩
theorem ahd_next {a b : List Int} {i t : Nat} (h : Ahd a b i t) : Ahd a b (i + 1) t := fun j hj hi => h j hj (by omega)
theorem ahd_step {a b : List Int} {i t : Nat} (ha : Up a) (hb : Up b) (h : Ahd a b i t) (hi : i < a.length) (ht : t < b.length) (hne : b[t] ≠ a[i]) : Ahd a b i (t + 1) := fun j hj hij => by
  obtain ⟨p, hp, htp, e⟩ := h i hi (Nat.le_refl _)
  have hp1 : t + 1 ≤ p := by
    by_cases e2 : p = t
    · subst e2; exact absurd e hne
    · omega
  by_cases e3 : j = i
  · subst e3; exact ⟨p, hp, hp1, e⟩
  · obtain ⟨q, hq, _, e4⟩ := h j hj hij
    have hlt := List.pairwise_iff_getElem.1 ha i j hi hj (by omega)
    rw [← e, ← e4] at hlt
    have := up_lt hb hp hq hlt
    exact ⟨q, hq, by omega, e4⟩
theorem ahd_lt {a b : List Int} {i t : Nat} (h : Ahd a b i t) (hi : i < a.length) : t < b.length := by
  obtain ⟨p, hp, htp, _⟩ := h i hi (Nat.le_refl _)
  omega
theorem close_up {l : List (List Int)} {s out : List Int} (h : IsClose l s out false) : Up out := by
  rcases h with ⟨e, _⟩ | ⟨_, _, hu, _⟩
  · exact absurd e (by decide)
  · exact hu
theorem close_nil {l : List (List Int)} {s out : List Int} (h : IsClose l s out true) : out = [] := by
  rcases h with ⟨_, o, _⟩ | ⟨e, _⟩
  · exact o
  · exact absurd e (by decide)
end Go.Proofs.Ytebeemnpamgmlaa.Up
namespace Go.Proofs.Ytebeemnpamgmlaa
open Go.RowKit Cl Up
attribute [local go_sem ↓] Go.wp_at_zero Go.wp_at_succ
set_option maxRecDepth 100000 in
set_option maxHeartbeats 12800000 in
theorem propMore_any (HKN : KnownC15) (HCL : CloseC) (n : Int) (A B : Option Addr) (ll kk c d : Nat) (l : List (List Int)) (s : List Int) (cut : Nat) (w : World) (hl : l.length = ll) (hg : GRow w A l) (hk : s.length = kk) (hs : IRow w B s) (hd : kk ≤ d) (hd2 : d ≤ maxLen) (hcut : cut ≤ 255) :
    Calls Try.prog 6 #[.int .i64 n, .slice A ll c, .slice B kk d, .int .u8 cut] w fun e w' => e = .returned (.bool true) ∧ Below w.heap.size w w' := by
  have HK0 := Lib.hid (HKN w)
  have HS1 := Lib.hid fun (u : World) (hb : Below w.heap.size w u) => small15_any n 40 A ll c l u hl (Gr.row_below hg hb)
  have HL1 := Lib.hid fun (k : Nat) (u : World) (hk2 : k ≤ 2199023255552) (hb : Below w.heap.size w u) => lits15_any k B kk d s u hk (irow_below hs hb) hk2
  obtain ⟨sb, hsb⟩ : ∃ b, smallB n 40 l = b := ⟨_, rfl⟩
  simp only [hsb] at HS1
  have HSB := Lib.hid hsb
  have HL := Lib.hid hl
  have HG := Lib.hid hg
  have HK := Lib.hid hk
  have HS := Lib.hid hs
  have HD := Lib.hid hd
  have HD2 := Lib.hid hd2
  have HCLC := Lib.hid HCL
  clear hsb hl hg hk hs HKN HCL hd hd2
  go_enter Try.func6, Try.ntmps6
  go_wp2_with (go_at_call 7; refine HK0.out.mono ?_)
  rintro _ u0 ⟨rfl, hb, _⟩
  have HB0 := Lib.hid hb
  have HS2 := Lib.hid (HS1.out u0 hb)
  clear hb HK0 HS1
  go_wp2_with (go_at_call 8; refine HS2.out.mono ?_)
  rintro _ u1 ⟨rfl, hb⟩
  have HB1 := Lib.hid (HB0.out.trans (hb.mono HB0.out.size))
  clear hb HS2 HB0
  cases sb
  · go_wp2_with fail
    go_ret
    exact ⟨rfl, HB1.out⟩
  obtain ⟨n0, n1, n2, hll, hok, hlits, hlens⟩ := small_of HSB.out
  obtain ⟨N, rfl⟩ : ∃ N : Nat, n = (N : Int) := ⟨n.toNat, by omega⟩
  have HLITS : Hid (∀ c ∈ l, ∀ x ∈ c, LitOf N x) := hlits
  have HLENS := Lib.hid hlens
  have hN : N ≤ 40 := by omega
  have hll2 : ll ≤ 120 := by rw [← HL.out]; exact hll
  have HL2 := Lib.hid (HL1.out N u1 (by omega) HB1.out)
  obtain ⟨lb, hlb⟩ : ∃ b, litsB N s = b := ⟨_, rfl⟩
  rw [hlb] at HL2
  have HLB := Lib.hid hlb
  clear n0 n1 n2 hll hok hlits hlens hlb HL1
  go_wp2_with (go_at_call 9; refine HL2.out.mono ?_)
  rintro _ u2 ⟨rfl, rfl⟩
  cases lb
  · go_wp2_with fail
    go_ret
    exact ⟨rfl, HB1.out⟩
  obtain ⟨hk60, hslits⟩ := lits_nat HLB.out
  have HSL := Lib.hid hslits
  have hkk : kk ≤ 60 := by rw [← HK.out]; exact hk60
  clear hk60 hslits HL2
  have HTO := Lib.hid fun (u : World) (hb : Below w.heap.size w u) => to13c_any A ll c l u HL.out (Gr.row_below HG.out hb) (by omega) (fun x hx => by have := HLENS.out x hx; omega)
  obtain ⟨r, hr⟩ : ∃ r, cut % (kk + 1) = r := ⟨_, rfl⟩
  have hrk : r ≤ kk := by have := Nat.mod_lt cut (show 0 < kk + 1 by omega); omega
  have wcut : IntKind.i64.wrap (cut : Int) = (cut : Int) := IntWalk.i64_in _ (by omega)
  have wkk : IntKind.i64.wrap ((kk : Int) + 1) = (kk : Int) + 1 := IntWalk.i64_in _ (by omega)
  have er : (cut : Int) % ((kk : Int) + 1) = (r : Int) := by rw [← hr]; norm_cast
  have er2 : Int.tmod (cut : Int) ((kk : Int) + 1) = (r : Int) := by rw [Int.tmod_eq_emod_of_nonneg (by omega)]; exact er
  have wr1 : IntKind.i64.wrap (r : Int) = (r : Int) := IntWalk.i64_in _ (by omega)
  have hz0 : ¬ ((kk : Int) + 1 = 0) := by omega
  have hrun := iT_run B kk d r hrk HD.out HD2.out
  have HT1 := Lib.hid fun (u : World) (hb : Below w.heap.size w u) => HTO.out u hb
  clear hr
  go_wp2_with fail
  have HRB := Lib.hid (Rg.row_take HS.out r)
  have HRL : Hid ((s.take r).length = r) := by show _ = _; rw [List.length_take, HK.out]; omega
  have HRS : Hid (∀ x ∈ s.take r, LitOf N x) := fun x hx => HSL.out x (List.mem_of_mem_take hx)
  clear wcut wkk er er2 wr1 hz0
  go_region_with (first
    | (go_at_call 10; refine (HCLC.out N C3 B ll r d3 d l (s.take r) z1 HL.out HG3.out HRL.out (irow_below HRB.out HB3.out) (by omega) HLITS.out HRS.out (by omega) (by omega) HLENS.out).mono ?_; rintro _ z2 ⟨v4, out4, bad4, rfl, hcl4, ho4, hb4, hz4⟩; obtain ⟨C4, d4, rfl, hr4⟩ := iown_row ho4; have HCL4 := Lib.hid hcl4; have HR4 := Lib.hid hr4; have HB4 := Lib.hid (HB3.out.trans (hb4.mono HB3.out.size)); clear hcl4 ho4 hb4 hz4 hr4)
    | (go_at_call 11; refine (HT1.out _ HB1.out.drew).mono ?_; rintro _ z1 ⟨v3, rfl, ho3, hb3, hz3⟩; obtain ⟨C3, d3, rfl, hr3⟩ := cown_row ho3; rw [HL.out]; have HG3 := Lib.hid hr3; have HB3 : Hid (Below w.heap.size w z1) := HB1.out.drew.trans (hb3.mono HB1.out.drew.size); clear ho3 hb3 hz3 hr3))
  obtain ⟨al, hal⟩ : ∃ k, out4.length = k := ⟨_, rfl⟩
  have HAL := Lib.hid hal
  rw [hal]
  have hal2 : al ≤ 40 := by rw [← hal]; have := (close_lits HLITS.out HRS.out HCL4.out).2; omega
  have HT5 := Lib.hid (HTO.out z2 HB4.out)
  clear hal HB3 HG3 hrun
  go_wp2_with (go_at_call 11; refine HT5.out.mono ?_)
  rintro _ u5 ⟨v5, rfl, ho5, hb5, hz5⟩
  obtain ⟨C5, d5, rfl, hr5⟩ := cown_row ho5
  rw [HL.out]
  have HB5 := Lib.hid (HB4.out.trans (hb5.mono HB4.out.size))
  have HR5 := Lib.hid (irow_below HR4.out hb5)
  have HQ5 := Lib.hid (HCLC.out N C5 B ll kk d5 d l s u5 HL.out hr5 HK.out (irow_below HS.out HB5.out) (by omega) HLITS.out HSL.out (by omega) (by omega) HLENS.out)
  clear ho5 hb5 hz5 hr5 HT5
  go_wp2_with (go_at_call 10; refine HQ5.out.mono ?_)
  rintro _ u6 ⟨v6, out6, bad6, rfl, hcl6, ho6, hb6, hz6⟩
  obtain ⟨C6, d6, rfl, hr6⟩ := iown_row ho6
  have HB6 := Lib.hid (HB5.out.trans (hb6.mono HB5.out.size))
  have HR6A := Lib.hid (irow_below HR5.out hb6)
  have HR6 := Lib.hid hr6
  have HCL6 := Lib.hid hcl6
  have HMORE := Lib.hid (close_more (fun x hx => List.mem_of_mem_take hx) HCL4.out hcl6)
  obtain ⟨bl, hbl⟩ : ∃ k, out6.length = k := ⟨_, rfl⟩
  have HBL := Lib.hid hbl
  rw [hbl]
  have hbl2 : bl ≤ 40 := by rw [← hbl]; have := (close_lits HLITS.out HSL.out hcl6).2; omega
  clear hcl6 ho6 hb6 hz6 hr6 HQ5 hbl
  cases bad4
  · cases bad6
    · have HSUB := Lib.hid (HMORE.out.2 rfl)
      have HUA := Lib.hid (close_up HCL4.out)
      have HUB := Lib.hid (close_up HCL6.out)
      go_wp2_with fail
      go_loopw [14, 15] (fun at_ i wr => ∃ p t : Nat, p ≤ al ∧ t ≤ bl ∧ i = .int .i64 p ∧ at_ = .int .i64 t ∧ Hid (Ahd out4 out6 p t) ∧ Hid (Below u6.heap.size u6 wr)) (fun _ i _ => al - (intOf i).toNat)
      case atStart => exact ⟨0, 0, Nat.zero_le _, Nat.zero_le _, rfl, rfl, ahd_start HSUB.out, Below.refl _ _⟩
      case round =>
        obtain ⟨p, t0, hp, ht0, rfl, rfl, HA0, HW0⟩ := hrel
        obtain ⟨z3, hz3⟩ : ∃ z, z = wr := ⟨_, rfl⟩
        subst hz3
        by_cases hlt : p < al
        · have hpl : p < out4.length := by rw [HAL.out]; exact hlt
          obtain ⟨ad, x, rfl, hx, hxb, hxc⟩ := irow_at (irow_below HR6A.out HW0.out) p hpl
          have HXC : Hid (∀ u, Below z3.heap.size z3 u → u.cell? (ad.add p) = some (.int .i64 x)) := fun u hu => cell_below hxc hxb hu
          have HX := Lib.hid hx
          have p0 : (0 : Int) ≤ (p : Int) := by omega
          have p1 : (p : Int) < (al : Int) := by omega
          clear hx hxb hxc
          go_wp2_with fail
          go_loopw [14] (fun at_ w7 => ∃ t : Nat, t ≤ bl ∧ at_ = .int .i64 t ∧ Hid (Ahd out4 out6 p t) ∧ Hid (Below z3.heap.size z3 w7)) (fun at_ _ => bl - (intOf at_).toNat)
          case atStart => exact ⟨t0, ht0, rfl, HA0, Below.refl _ _⟩
          case round =>
            obtain ⟨t, ht, rfl, HA, HW⟩ := hrel
            have htl : t < out6.length := ahd_lt HA.out hpl
            have htb : t < bl := by rw [← HBL.out]; exact htl
            obtain ⟨bd, y, rfl, hy, hyb, hyc⟩ := irow_at (irow_below (irow_below HR6.out HW0.out) HW.out) t htl
            have cx := HXC.out _ HW.out
            have t1 : (0 : Int) ≤ (t : Int) := by omega
            have t2 : (t : Int) < (bl : Int) := by omega
            have t3 : decide ((t : Int) < (bl : Int)) = true := decide_eq_true t2
            cases hyx : y == x
            · have hne : (y != x) = true := by show (!(y == x)) = true; rw [hyx]; rfl
              have HA2 := Lib.hid (ahd_step HUA.out HUB.out HA.out hpl htl (by rw [hy, HX.out]; simpa using hyx))
              clear hy hyb htl
              go_wp2_with fail
              first | (go_quiet (fail)) | fail
              go_wp2_with fail
              go_roundw
              case rel => exact ⟨t + 1, by omega, by go_num, HA2.out, below_drewN HW.out _⟩
              case measure => simp [intOf]; omega
            · have hne : (y != x) = false := by show (!(y == x)) = false; rw [hyx]; rfl
              have HA2 := Lib.hid (ahd_next HA.out)
              have t4 : ((t : Int) == (bl : Int)) = false := by simp; omega
              clear hy hyb htl
              go_wp2_with fail
              first | (go_quiet (fail)) | fail
              go_wp2_with fail
              go_roundw
              case rel => exact ⟨p + 1, t, by omega, ht, by go_num, rfl, HA2.out, below_drewN (HW0.out.trans (HW.out.mono HW0.out.size)) _⟩
              case measure => simp [intOf]; omega
        · have HQ8 := Lib.hid (ints7_any C6 C6 bl bl d6 d6 out6 out6 z3 HBL.out HBL.out (irow_below HR6.out HW0.out) (irow_below HR6.out HW0.out) (by omega))
          go_wp2_with (go_at_call 13; refine HQ8.out.mono ?_)
          rintro _ z9 rfl hq9
          have HB9 := Lib.hid (HB6.out.trans ((HW0.out.trans (hq9.mono HW0.out.size)).mono HB6.out.size))
          clear hq9 HQ8
          go_wp2_with fail
          go_ret
          exact ⟨by simp, HB9.out⟩
    · go_wp2_with fail
      go_ret
      exact ⟨rfl, HB6.out⟩
  · have hy := HMORE.out.1 rfl
    subst hy
    have ha0 : al = 0 := by rw [← HAL.out, close_nil HCL4.out]; rfl
    have hb0 : bl = 0 := by rw [← HBL.out, close_nil HCL6.out]; rfl
    subst ha0
    subst hb0
    go_wp2_with fail
    go_ret
    exact ⟨rfl, HB6.out⟩
end Go.Proofs.Ytebeemnpamgmlaa
