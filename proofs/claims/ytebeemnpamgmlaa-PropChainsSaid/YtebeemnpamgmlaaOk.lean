/- What the laws of unit propagation ask of the program; any clauses, any literals: the law walked. -/
import Derived.Test.YtebeemnpamgmlaaOh
import Derived.Test.YtebeemnpamgmlaaOg
import Derived.Test.YtebeemnpamgmlaaEl
namespace Go.Proofs.Ytebeemnpamgmlaa.Up
open Go.RowKit Cl
/-- What the program's Close must answer. -/
def CloseC : Prop := ∀ (n : Nat) (A B : Option Addr) (ll kk c d : Nat) (l : List (List Int)) (s : List Int) (w : World), l.length = ll → CRow w A l → s.length = kk → IRow w B s → n ≤ 256 → (∀ c ∈ l, ∀ x ∈ c, LitOf n x) → (∀ x ∈ s, LitOf n x) → ll ≤ 1000 → kk ≤ 1000 → (∀ c ∈ l, c.length ≤ 256) →
  Calls Try.prog 10 #[.int .i64 n, .slice A ll c, .slice B kk d] w (CloseRet w l s)
def UnitsC : Prop := ∀ (A : Option Addr) (ll c : Nat) (l : List (List Int)) (w : World), l.length = ll → GRow w A l → ll ≤ 1000 → Calls Try.prog 14 #[.slice A ll c] w (IRet w (unitsL l))
def KnownC15 : Prop := ∀ w : World, Calls Try.prog 7 #[] w fun e w' => e = .returned (.bool true) ∧ Below w.heap.size w w' ∧ w.heap.size ≤ w'.heap.size
/-- A grid that a function made reads as it should. -/
theorem gown_row {w : World} {B : Nat} {TI : TypeId} {v : Value} {t : List (List Int)} (h : Gr.Own encI 1 w B TI v t) : ∃ C d, v = .slice C t.length d ∧ GRow w C t := Gr.row_own h
theorem iown_row {w : World} {B : Nat} {T : TypeId} {v : Value} {t : List Int} (h : Rg.Own encI 1 w B T v t) : ∃ C d, v = .slice C t.length d ∧ IRow w C t := by
  obtain ⟨C, d, e, hr, _⟩ := Rg.row_own fitsI h
  exact ⟨C, d, e, hr⟩
theorem lits_nat {k : Nat} {l : List Int} (h : litsB k l = true) : l.length ≤ 60 ∧ ∀ x ∈ l, LitOf k x := by
  obtain ⟨h1, h2⟩ := lits_of h
  exact ⟨h1, fun x hx => by obtain ⟨p, q, r⟩ := h2 x hx; exact ⟨p, q, r⟩⟩
end Go.Proofs.Ytebeemnpamgmlaa.Up
namespace Go.Proofs.Ytebeemnpamgmlaa
open Go.RowKit Cl Up
attribute [local go_sem ↓] Go.wp_at_zero Go.wp_at_succ
set_option maxRecDepth 100000 in
set_option maxHeartbeats 6400000 in
theorem propAny_any (HKN : KnownC15) (HCL : CloseC) (HUN : UnitsC) (n : Int) (A B : Option Addr) (ll kk c d : Nat) (l : List (List Int)) (s : List Int) (w : World) (hl : l.length = ll) (hg : GRow w A l) (hk : s.length = kk) (hs : IRow w B s) :
    Calls Try.prog 3 #[.int .i64 n, .slice A ll c, .slice B kk d] w fun e w' => e = .returned (.bool true) ∧ Below w.heap.size w w' := by
  have HK0 := Lib.hid (HKN w)
  have HS1 := Lib.hid fun (u : World) (hb : Below w.heap.size w u) => small15_any n 256 A ll c l u hl (Gr.row_below hg hb)
  have HL1 := Lib.hid fun (k : Nat) (u : World) (hk2 : k ≤ 2199023255552) (hb : Below w.heap.size w u) => lits15_any k B kk d s u hk (irow_below hs hb) hk2
  obtain ⟨sb, hsb⟩ : ∃ b, smallB n 256 l = b := ⟨_, rfl⟩
  simp only [hsb] at HS1
  have HSB := Lib.hid hsb
  have HL := Lib.hid hl
  have HG := Lib.hid hg
  have HK := Lib.hid hk
  have HS := Lib.hid hs
  have HCLC := Lib.hid HCL
  have HUNC := Lib.hid HUN
  clear hsb hl hg hk hs HKN HCL HUN
  go_enter Try.func3, Try.ntmps3
  go_wp2_with (go_at_call 7; refine HK0.out.mono ?_)
  rintro _ u0 ⟨rfl, hb, _⟩
  have HB0 := Lib.hid hb
  have HS2 := Lib.hid (HS1.out u0 hb)
  clear hb HK0 HS1
  go_wp2_with (go_at_call 8; refine HS2.out.mono ?_)
  rintro _ u1 ⟨rfl, hb⟩
  have HB1 := Lib.hid (HB0.out.trans (hb.mono HB0.out.size))
  clear hb HS2 HB0
  cases sb
  · go_wp2_with fail
    go_ret
    exact ⟨rfl, HB1.out⟩
  obtain ⟨n0, n1, n2, hll, hok, hlits, hlens⟩ := small_of HSB.out
  obtain ⟨N, rfl⟩ : ∃ N : Nat, n = (N : Int) := ⟨n.toNat, by omega⟩
  have HLITS : Hid (∀ c ∈ l, ∀ x ∈ c, LitOf N x) := hlits
  have HLENS := Lib.hid hlens
  have hN : N ≤ 256 := by omega
  have hll2 : ll ≤ 120 := by rw [← HL.out]; exact hll
  have HL2 := Lib.hid (HL1.out N u1 (by omega) HB1.out)
  obtain ⟨lb, hlb⟩ : ∃ b, litsB N s = b := ⟨_, rfl⟩
  rw [hlb] at HL2
  have HLB := Lib.hid hlb
  clear n0 n1 n2 hll hok hlits hlens hlb HL1
  go_wp2_with (go_at_call 9; refine HL2.out.mono ?_)
  rintro _ u2 ⟨rfl, rfl⟩
  cases lb
  · go_wp2_with fail
    go_ret
    exact ⟨rfl, HB1.out⟩
  obtain ⟨hk60, hslits⟩ := lits_nat HLB.out
  have HSL := Lib.hid hslits
  have hkk : kk ≤ 60 := by rw [← HK.out]; exact hk60
  clear hk60 hslits HL2
  have HTO := Lib.hid fun (u : World) (hb : Below w.heap.size w u) => to13c_any A ll c l u HL.out (Gr.row_below HG.out hb) (by omega) (fun x hx => by have := HLENS.out x hx; omega)
  have HT1 := Lib.hid (HTO.out u1 HB1.out)
  go_wp2_with (go_at_call 11; refine HT1.out.mono ?_)
  rintro _ u3 ⟨v3, rfl, ho3, hb3, hz3⟩
  obtain ⟨C3, d3, rfl, hr3⟩ := cown_row ho3
  rw [HL.out]
  have HB3 := Lib.hid (HB1.out.trans (hb3.mono HB1.out.size))
  have HQ3 := Lib.hid (HCLC.out N C3 B ll kk d3 d l s u3 HL.out hr3 HK.out (irow_below HS.out HB3.out) hN HLITS.out HSL.out (by omega) (by omega) HLENS.out)
  clear ho3 hb3 hz3 hr3 HT1
  go_wp2_with (go_at_call 10; refine HQ3.out.mono ?_)
  rintro _ u4 ⟨v4, out4, bad4, rfl, hcl4, ho4, hb4, hz4⟩
  have HB4 := Lib.hid (HB3.out.trans (hb4.mono HB3.out.size))
  have HCL4 := Lib.hid hcl4
  have HO4 := Lib.hid ho4
  have HQ4 := Lib.hid (refClose_any N A B ll kk c d l s u4 HL.out (Gr.row_below HG.out HB4.out) HK.out (irow_below HS.out HB4.out) (by omega) HLITS.out HSL.out (by omega) (by omega) (fun x hx => by have := HLENS.out x hx; omega))
  clear hcl4 ho4 hb4 hz4 HQ3
  go_wp2_with (go_at_call 12; refine HQ4.out.mono ?_)
  rintro _ u5 ⟨v5, out5, bad5, rfl, hcl5, ho5, hb5, hz5⟩
  obtain ⟨e1, e2⟩ := close_one HCL4.out hcl5
  subst e1
  subst e2
  have HB5 := Lib.hid (HB4.out.trans (hb5.mono HB4.out.size))
  obtain ⟨C4, d4, rfl, hr4⟩ := iown_row (Rg.own_below HO4.out hb5)
  obtain ⟨C5, d5, rfl, hr5⟩ := iown_row ho5
  have hol : out4.length ≤ 256 := by have := (close_lits HLITS.out HSL.out HCL4.out).2; omega
  have HQ5 := Lib.hid (ints7_any C4 C5 out4.length out4.length d4 d5 out4 out4 u5 rfl rfl hr4 hr5 (by omega))
  clear hcl5 ho5 hb5 hz5 hr4 hr5 HQ4
  have hbb : (bad4 == bad4) = true := by simp
  go_wp2_with (go_at_call 13; refine HQ5.out.mono ?_)
  rintro _ u6 ⟨rfl, hb⟩
  have HB6 := Lib.hid (HB5.out.trans (hb.mono HB5.out.size))
  have HT6 := Lib.hid (HTO.out u6 HB6.out)
  clear hb HQ5
  go_wp2_with (go_at_call 11; refine HT6.out.mono ?_)
  rintro _ u7 ⟨v7, rfl, ho7, hb7, hz7⟩
  obtain ⟨C7, d7, rfl, hr7⟩ := cown_row ho7
  rw [HL.out]
  have HB7 := Lib.hid (HB6.out.trans (hb7.mono HB6.out.size))
  have HQ7 := Lib.hid (HUNC.out C7 ll d7 l u7 HL.out (crow_grow hr7) (by omega))
  clear ho7 hb7 hz7 hr7 HT6
  go_wp2_with (go_at_call 14; refine HQ7.out.mono ?_)
  rintro _ u8 ⟨v8, rfl, ho8, hb8, hz8⟩
  have HB8 := Lib.hid (HB7.out.trans (hb8.mono HB7.out.size))
  have HO8 := Lib.hid ho8
  have HQ8 := Lib.hid (refUnits_any A ll c l u8 HL.out (Gr.row_below HG.out HB8.out) (by omega))
  clear ho8 hb8 hz8 HQ7
  go_wp2_with (go_at_call 15; refine HQ8.out.mono ?_)
  rintro _ u9 ⟨v9, rfl, ho9, hb9, hz9⟩
  have HB9 := Lib.hid (HB8.out.trans (hb9.mono HB8.out.size))
  obtain ⟨C8, d8, rfl, hr8⟩ := iown_row (Rg.own_below HO8.out hb9)
  obtain ⟨C9, d9, rfl, hr9⟩ := iown_row ho9
  have hul := unitsL_le l
  rw [HL.out] at hul
  have HQ9 := Lib.hid (ints7_any C8 C9 _ _ d8 d9 (unitsL l) (unitsL l) u9 rfl rfl hr8 hr9 (by omega))
  clear ho9 hb9 hz9 hr8 hr9 HQ8 hul
  go_wp2_with (go_at_call 13; refine HQ9.out.mono ?_)
  rintro _ u10 ⟨rfl, hb⟩
  have HB10 := Lib.hid (HB9.out.trans (hb.mono HB9.out.size))
  clear hb HQ9
  go_wp2_with fail
  go_ret
  exact ⟨by simp, HB10.out⟩
end Go.Proofs.Ytebeemnpamgmlaa
