/- Each of the clauses follows: the law walked over what the program must answer. -/
import Derived.Test.YtjkmdghlhodhiaaOq
namespace Go.Proofs.Ytjkmdghlhodhiaa.Up
open Go.RowKit Cl
theorem fol_none {x : Int} (h : x ≠ 0) : ¬ Fol [] [x] := (closed_all (l := []) (s := neg [x]) (T := fun y => y = -x) (fun y hy => by simpa [neg] using hy) (fun y hy hy2 => by have h1 : y = -x := hy; have h2 : -y = -x := hy2; omega) (fun c hc => absurd hc (by simp))).2
theorem ends_own {n : Nat} {l : List (List Int)} {c : List Int} {x : Int} (ha : (checkAll n l).2 = 0) (hc : c ∈ l) (hx : LitOf n x) (hn : n ≤ 256) (hl : c.length ≤ 200) : endsB n l [c ++ [x], c] c = true := by
  have hc0 := (all_ok ha).2.2.2.2 c hc
  have hci := check_ok hc0
  have h1 : checkC n (c ++ [x]) = 0 := check_of (by omega) (by omega) (by rw [List.length_append]; simp only [List.length_cons, List.length_nil]; omega) fun y hy => by
    rcases List.mem_append.1 hy with hy | hy
    · exact hci.2.2.2 y hy
    · rw [List.mem_singleton.1 hy]; exact hx
  have f1 : Fol (l ++ ([c ++ [x], c] : List (List Int)).take 0) (c ++ [x]) := fol_mono (fun d hd => List.mem_append_left _ hd) (fun y hy => List.mem_append_left _ hy) (fol_own hc)
  have f2 : Fol (l ++ ([c ++ [x], c] : List (List Int)).take 1) c := fol_own (List.mem_append_left _ hc)
  have t0 : Taken n l [c ++ [x], c] 0 := fun q hq h => absurd h (by omega)
  have t1 := taken_more (c := c ++ [x]) t0 (by simp) rfl h1 f1
  have t2 := taken_more (c := c) t1 (by simp) rfl hc0 f2
  unfold endsB
  rw [proof_ok ha t2]
  simp
end Go.Proofs.Ytjkmdghlhodhiaa.Up
namespace Go.Proofs.Ytjkmdghlhodhiaa
open Go.RowKit Cl Up
attribute [local go_sem ↓] Go.wp_at_zero Go.wp_at_succ
set_option maxRecDepth 100000 in
set_option maxHeartbeats 12800000 in
theorem rupOwn_any (HKN : KnownC16) (HEN : RupEndsC) (HFO : RupFollowsC) (n lit : Int) (s : Nat) (A : Option Addr) (ll c : Nat) (l : List (List Int)) (w : World) (hl : l.length = ll) (hgc : CRow w A l) (hs : s ≤ 255) :
    Calls Try.prog 6 #[.int .i64 n, .slice A ll c, .int .u8 s, .int .i64 lit] w fun e w' => e = .returned (.bool true) ∧ Below w.heap.size w w' := by
  have hg := crow_grow hgc
  have HK0 := Lib.hid (HKN w)
  have HGC := Lib.hid hgc
  clear hgc
  have HS1 := Lib.hid fun (u : World) (hb : Below w.heap.size w u) => small15_any n 30 A ll c l u hl (Gr.row_below hg hb)
  obtain ⟨sb, hsb⟩ : ∃ b, smallB n 30 l = b := ⟨_, rfl⟩
  simp only [hsb] at HS1
  have HSB := Lib.hid hsb
  have HL := Lib.hid hl
  have HG := Lib.hid hg
  have HENC := Lib.hid HEN
  have HFOC := Lib.hid HFO
  clear hsb hl hg HKN HEN HFO
  go_enter Try.func6, Try.ntmps6
  go_wp2_with (go_at_call 8; refine HK0.out.mono ?_)
  rintro _ u0 ⟨rfl, hb, _⟩
  have HB0 := Lib.hid hb
  have HS2 := Lib.hid (HS1.out u0 hb)
  clear hb HK0 HS1
  go_wp2_with (go_at_call 15; refine HS2.out.mono ?_)
  rintro _ u1 ⟨rfl, hb⟩
  have HB1 := Lib.hid (HB0.out.trans (hb.mono HB0.out.size))
  clear hb HS2 HB0
  cases sb
  · go_wp2_with fail
    go_ret
    exact ⟨rfl, HB1.out⟩
  obtain ⟨n0, n1, n2, hll, hok, hlits, hlens⟩ := small_of HSB.out
  obtain ⟨N, rfl⟩ : ∃ N : Nat, n = (N : Int) := ⟨n.toNat, by omega⟩
  have HLITS : Hid (∀ c ∈ l, ∀ x ∈ c, LitOf N x) := hlits
  have HLENS := Lib.hid hlens
  have HOK := Lib.hid hok
  have hN : N ≤ 256 := by omega
  have hll2 : ll ≤ 120 := by rw [← HL.out]; exact hll
  clear n0 n1 n2 hll hok hlits hlens
  by_cases h0 : ll = 0
  · subst h0
    go_wp2_with fail
    go_ret
    exact ⟨rfl, HB1.out⟩
  have h00 : ¬ ((ll : Int) = 0) := by omega
  obtain ⟨b2, hb2⟩ : ∃ b, u1.heap.size = b := ⟨_, rfl⟩
  obtain ⟨W2, hW2⟩ : ∃ W, u1.alloc (.cells #[.int .i64 lit] 3) = W := ⟨_, rfl⟩
  have HR2 : Hid (IRow W2 (some ⟨b2, 0, none⟩) [lit]) := by show IRow _ _ _; rw [← hW2, ← hb2]; exact irow_new _ _ _ _ rfl
  have HBB : Hid (Below u1.heap.size u1 W2) := by rw [← hW2]; exact (Below.refl _ _).alloc (Nat.le_refl _) _
  have HB2 := Lib.hid (HB1.out.trans (HBB.out.mono HB1.out.size))
  have HL2 := Lib.hid (lits15_any N (some ⟨b2, 0, none⟩) 1 1 [lit] W2 rfl HR2.out (by omega))
  obtain ⟨lb, hlb⟩ : ∃ b, litsB N [lit] = b := ⟨_, rfl⟩
  rw [hlb] at HL2
  have HLB := Lib.hid hlb
  clear hlb HBB
  go_wp2_with (go_at_call 22; refine HL2.out.mono ?_)
  first | rintro _ _ rfl rfl | rintro _ _ ⟨rfl, rfl⟩
  clear hb2 hW2 HL2 HR2
  cases lb
  · go_wp2_with fail
    go_ret
    exact ⟨rfl, HB2.out⟩
  have HLIT : Hid (LitOf N lit) := (lits_nat HLB.out).2 lit (by simp)
  obtain ⟨r, hr⟩ : ∃ r, s % ll = r := ⟨_, rfl⟩
  have hrn : r < ll := by rw [← hr]; exact Nat.mod_lt _ (by omega)
  have hrl : r < l.length := by rw [HL.out]; exact hrn
  obtain ⟨ad, C, k, cc, x, rfl, hbx, hcx, hx, hxl, hxr, hkc⟩ := crow_at HGC.out r hrl
  have HKC := Lib.hid hkc
  clear hkc HGC
  have hcell := cell_below hcx hbx HB2.out
  have HXM : Hid (x ∈ l) := by show _ ∈ _; rw [← hx]; exact List.getElem_mem hrl
  have hk256 : k ≤ 256 := by rw [← hxl]; exact HLENS.out x HXM.out
  have HXL := Lib.hid hxl
  have HXR := Lib.hid fun (u : World) (h : Below w.heap.size w u) => irow_below hxr h
  have ws : IntKind.i64.wrap (s : Int) = (s : Int) := IntWalk.i64_in _ (by omega)
  have er : (s : Int) % (ll : Int) = (r : Int) := by rw [← hr]; norm_cast
  have er2 : Int.tmod (s : Int) (ll : Int) = (r : Int) := by rw [Int.tmod_eq_emod_of_nonneg (by omega)]; exact er
  have wr1 : IntKind.i64.wrap (r : Int) = (r : Int) := IntWalk.i64_in _ (by omega)
  have r0 : (0 : Int) ≤ (r : Int) := by omega
  have r1 : (r : Int) < (ll : Int) := by omega
  clear hbx hcx hx hxl hxr hrl hr
  by_cases hk200 : 200 < k
  · have hk201 : (200 : Int) < (k : Int) := by omega
    go_wp2_with fail
    go_ret
    exact ⟨rfl, HB2.out⟩
  have hk201 : ¬ ((200 : Int) < (k : Int)) := by omega
  have HAL : Hid (Rg.Own encI 1 (W2.alloc (.cells #[] 3)) W2.heap.size 3 (.slice (some ⟨W2.heap.size, 0, none⟩) 0 0) []) := Rg.own_made W2 fitsI (Nat.le_refl _)
  have HBA : Hid (Below w.heap.size w (W2.alloc (.cells #[] 3))) := HB2.out.alloc HB2.out.size _
  go_wp2_with (at_builtin; refine wpList_appX (TX := 23) sliceC (by kernel_rfl) rfl (.tmp 40) (.tmp 41) rfl W2.heap.size _ [] x rfl HAL.out C k cc HXL.out rfl (HXR.out _ HBA.out) ?s1 ?b1 ?_)
  case s1 => rw [HXL.out]; show 0 + k ≤ _; omega
  case b1 => simp
  intro v5 W5 ho5 hg5 hz5
  have HB5a : Hid (Below W2.heap.size W2 W5) := ((Below.refl _ _).alloc (Nat.le_refl _) _).trans (Rg.grown_below HAL.out (by simp) hg5)
  have HB5 : Hid (Below w.heap.size w W5 ∧ w.heap.size ≤ W5.heap.size) := ⟨HB2.out.trans (HB5a.out.mono HB2.out.size), (HB2.out.trans (HB5a.out.mono HB2.out.size)).size⟩
  have HO5 : Hid (Rg.Own encI 1 W5 w.heap.size 3 v5 x) := Rg.own_weak HB2.out.size (by simpa using ho5)
  have HSL : Hid (x.length + 1 ≤ 1000000) := by show _ ≤ _; rw [HXL.out]; omega
  clear ho5 hg5 hz5 HAL HBA HB5a hcell
  go_wp2_with (at_builtin; refine Rg.wpList_app sliceC rfl (.tmp 42) (.tmp 44) rfl w.heap.size _ x [lit] rfl (Rg.own_below HO5.out ((Below.refl _ _).alloc (Nat.le_refl _) _)) _ _ rfl (Rg.news_new W5 _ _ _ (by rfl)) (Nat.zero_lt_succ _) HSL.out ?b2 ?_)
  case b2 => have := HB5.out.2; simp; omega
  intro v6 W6 ho6 hg6 hz6
  have HB6 := app_doneI HB5 HO5 hg6
  obtain ⟨D, e6, rfl, hr6, hle6, _⟩ := Rg.row_own fitsI ho6
  have hlen6 : (x ++ [lit]).length = k + 1 := by rw [List.length_append, HXL.out]; rfl
  rw [hlen6]
  have HR6 := Lib.hid fun (u : World) (h : Below W6.heap.size W6 u) => irow_below hr6 h
  have HLE : Hid (k + 1 ≤ e6) := by show _ ≤ _; rw [← hlen6]; exact hle6
  have HMORE := Lib.hid hlen6
  obtain ⟨mr, hmr⟩ : ∃ m, x ++ [lit] = m := ⟨_, rfl⟩
  have HML : Hid (∀ y ∈ mr, LitOf N y) := fun y hy => by
    rw [← hmr] at hy
    rcases List.mem_append.1 hy with hy | hy
    · exact HLITS.out x HXM.out y hy
    · rw [List.mem_singleton.1 hy]; exact HLIT.out
  have HF1 : Hid (Fol l x) := fol_own HXM.out
  have HF2 : Hid (Fol l mr) := by rw [← hmr]; exact fol_mono (fun d hd => hd) (fun y hy => List.mem_append_left _ hy) (fol_own HXM.out)
  have HEO : Hid (endsB N l [mr, x] x = true) := by rw [← hmr]; exact ends_own HOK.out HXM.out HLIT.out hN (by rw [HXL.out]; omega)
  rw [hmr] at HR6 HMORE
  clear ho6 hg6 hz6 hr6 hle6 hlen6 hmr HO5 HB5 HSL
  have HTO := Lib.hid fun (u : World) (hb : Below w.heap.size w u) => to13c_any (some ad) ll c l u HL.out (Gr.row_below HG.out hb) (by omega) (fun x hx => by have := HLENS.out x hx; omega)
  have HT6 := Lib.hid (HTO.out W6 HB6.out.1)
  go_wp2_with (go_at_call 11; refine HT6.out.mono ?_)
  rintro _ u7 ⟨v7, rfl, ho7, hb7, hz7⟩
  obtain ⟨C7, d7, rfl, hr7⟩ := cown_row ho7
  rw [HL.out]
  have HU7 := Lib.hid hb7
  have HB7 := Lib.hid (HB6.out.1.trans (hb7.mono HB6.out.2))
  have HQ7 := Lib.hid (HFOC.out N C7 C ll k d7 cc l x u7 HL.out hr7 (HL.out ▸ cown_cap ho7) HXL.out (HXR.out u7 HB7.out) hN HLITS.out (HLITS.out x HXM.out) (by omega) (by omega) HLENS.out)
  clear ho7 hb7 hz7 hr7 HT6
  go_wp2_with (go_at_call 17; refine HQ7.out.mono ?_)
  rintro _ u8 ⟨f1, rfl, hf1, hb8, hz8⟩
  obtain rfl : f1 = true := hf1.2 HF1.out
  have HU8 := Lib.hid (HU7.out.trans (hb8.mono HU7.out.size))
  have HB8 := Lib.hid (HB7.out.trans (hb8.mono HB7.out.size))
  have HT8 := Lib.hid (HTO.out u8 HB8.out)
  clear hf1 hb8 hz8 HQ7
  go_wp2_with (go_at_call 11; refine HT8.out.mono ?_)
  rintro _ u9 ⟨v9, rfl, ho9, hb9, hz9⟩
  obtain ⟨C9, d9, rfl, hr9⟩ := cown_row ho9
  rw [HL.out]
  have HU9 := Lib.hid (HU8.out.trans (hb9.mono HU8.out.size))
  have HB9 := Lib.hid (HB8.out.trans (hb9.mono HB8.out.size))
  have HQ9 := Lib.hid (HFOC.out N C9 D ll (k + 1) d9 e6 l mr u9 HL.out hr9 (HL.out ▸ cown_cap ho9) HMORE.out (HR6.out u9 HU9.out) hN HLITS.out HML.out (by omega) (by omega) HLENS.out)
  clear ho9 hb9 hz9 hr9 HT8
  go_wp2_with (go_at_call 17; refine HQ9.out.mono ?_)
  rintro _ u10 ⟨f2, rfl, hf2, hb10, hz10⟩
  obtain rfl : f2 = true := hf2.2 HF2.out
  have HU10 := Lib.hid (HU9.out.trans (hb10.mono HU9.out.size))
  have HB10 := Lib.hid (HB9.out.trans (hb10.mono HB9.out.size))
  clear hf2 hb10 hz10 HQ9
  have hlit := HLIT.out
  have wl1 : IntKind.i64.wrap (-lit) = -lit := IntWalk.i64_in _ (by have := hlit.2; omega)
  have wl2 : IntKind.i64.wrap (0 - lit) = -lit := by rw [Int.zero_sub]; exact wl1
  obtain ⟨b11, hb11⟩ : ∃ b, u10.heap.size = b := ⟨_, rfl⟩
  obtain ⟨W11, hW11⟩ : ∃ W, u10.alloc (.cells #[.int .i64 lit, .int .i64 (-lit)] 3) = W := ⟨_, rfl⟩
  have HR11 : Hid (IRow W11 (some ⟨b11, 0, none⟩) [lit, -lit]) := by show IRow _ _ _; rw [← hW11, ← hb11]; exact irow_new _ _ _ _ rfl
  have HBB : Hid (Below u10.heap.size u10 W11) := by rw [← hW11]; exact (Below.refl _ _).alloc (Nat.le_refl _) _
  have HU11 := Lib.hid (HU10.out.trans (HBB.out.mono HU10.out.size))
  have HB11 := Lib.hid (HB10.out.trans (HBB.out.mono HB10.out.size))
  have HQ11 := Lib.hid (HFOC.out N none (some ⟨b11, 0, none⟩) 0 2 0 2 [] [lit, -lit] W11 rfl (crow_nil _ _) (by decide) rfl HR11.out hN (fun c hc => absurd hc (by simp)) (fun y hy => by
    rcases List.mem_cons.1 hy with rfl | hy
    · exact HLIT.out
    · rw [List.mem_singleton.1 hy]; exact lit_neg HLIT.out) (by omega) (by omega) (fun c hc => absurd hc (by simp)))
  clear hlit
  go_wp2_with (go_at_call 17; refine HQ11.out.mono ?_)
  rintro _ u12 ⟨f3, rfl, hf3, hb12, hz12⟩
  obtain rfl : f3 = true := hf3.2 fol_both
  have HU12 := Lib.hid (HU11.out.trans (hb12.mono HU11.out.size))
  have HB12 := Lib.hid (HB11.out.trans (hb12.mono HB11.out.size))
  clear hf3 hb12 hz12 HQ11 hb11 hW11 HR11 HBB wl1 wl2
  obtain ⟨b13, hb13⟩ : ∃ b, u12.heap.size = b := ⟨_, rfl⟩
  obtain ⟨W13, hW13⟩ : ∃ W, u12.alloc (.cells #[.int .i64 lit] 3) = W := ⟨_, rfl⟩
  have HR13 : Hid (IRow W13 (some ⟨b13, 0, none⟩) [lit]) := by show IRow _ _ _; rw [← hW13, ← hb13]; exact irow_new _ _ _ _ rfl
  have HBB : Hid (Below u12.heap.size u12 W13) := by rw [← hW13]; exact (Below.refl _ _).alloc (Nat.le_refl _) _
  have HU13 := Lib.hid (HU12.out.trans (HBB.out.mono HU12.out.size))
  have HB13 := Lib.hid (HB12.out.trans (HBB.out.mono HB12.out.size))
  have HQ13 := Lib.hid (HFOC.out N none (some ⟨b13, 0, none⟩) 0 1 0 1 [] [lit] W13 rfl (crow_nil _ _) (by decide) rfl HR13.out hN (fun c hc => absurd hc (by simp)) (fun y hy => by
    rw [List.mem_singleton.1 hy]; exact HLIT.out) (by omega) (by omega) (fun c hc => absurd hc (by simp)))
  go_wp2_with (go_at_call 17; refine HQ13.out.mono ?_)
  rintro _ u14 ⟨f4, rfl, hf4, hb14, hz14⟩
  obtain rfl : f4 = false := by
    cases f4
    · rfl
    · exact absurd (hf4.1 rfl) (fol_none HLIT.out.1)
  have HU14 := Lib.hid (HU13.out.trans (hb14.mono HU13.out.size))
  have HB14 := Lib.hid (HB13.out.trans (hb14.mono HB13.out.size))
  have HT14 := Lib.hid (HTO.out u14 HB14.out)
  clear hf4 hb14 hz14 HQ13 hb13 hW13 HR13 HBB
  go_wp2_with (go_at_call 11; refine HT14.out.mono ?_)
  rintro _ u15 ⟨v15, rfl, ho15, hb15, hz15⟩
  obtain ⟨C15, d15, rfl, hr15⟩ := cown_row ho15
  rw [HL.out]
  have HU15 := Lib.hid (HU14.out.trans (hb15.mono HU14.out.size))
  have HB15 := Lib.hid (HB14.out.trans (hb15.mono HB14.out.size))
  obtain ⟨b16, hb16⟩ : ∃ b, u15.heap.size = b := ⟨_, rfl⟩
  obtain ⟨W16, hW16⟩ : ∃ W, u15.alloc (.cells #[.slice D (k + 1) e6, .slice C k cc] 47) = W := ⟨_, rfl⟩
  have HBB : Hid (Below u15.heap.size u15 W16) := by rw [← hW16]; exact (Below.refl _ _).alloc (Nat.le_refl _) _
  have HU16 := Lib.hid (HU15.out.trans (HBB.out.mono HU15.out.size))
  have HB16 := Lib.hid (HB15.out.trans (HBB.out.mono HB15.out.size))
  have HD16 : Hid (Rg.Row encO 1 W16 (some ⟨b16, 0, none⟩) [(D, k + 1, e6), (C, k, cc)]) := by show Rg.Row _ _ _ _ _; rw [← hW16, ← hb16]; exact drow_new _ _ _ _ rfl
  have HG16 : Hid (CRow W16 (some ⟨b16, 0, none⟩) [mr, x]) := crow_of HD16.out rfl (in_cons HMORE.out.symm (HR6.out W16 HU16.out) (in_cons HXL.out.symm (HXR.out W16 HB16.out) (in_nil _))) (caps_cons HLE.out (caps_cons HKC.out caps_nil))
  have HE16 := Lib.hid (HENC.out N C15 (some ⟨b16, 0, none⟩) C ll 2 k d15 2 cc l [mr, x] x W16 HL.out (crow_below hr15 HBB.out) rfl HG16.out (by decide) HXL.out (HXR.out W16 HB16.out) (by omega) (by omega) (by omega) (fun y hy => by have := HLENS.out y hy; omega) (fun y hy => by
    rcases List.mem_cons.1 hy with rfl | hy
    · rw [HMORE.out]; omega
    · rw [List.mem_singleton.1 hy, HXL.out]; omega))
  rw [HEO.out] at HE16
  clear ho15 hb15 hz15 hr15 HT14 HD16 HG16
  go_wp2_with (go_at_call 13; refine HE16.out.mono ?_)
  first | rintro _ u17 rfl hb17 | rintro _ u17 ⟨rfl, hb17⟩
  have HB17 := Lib.hid (HB16.out.trans (hb17.mono HB16.out.size))
  clear hb17 HE16
  go_wp2_with fail
  go_ret
  exact ⟨by simp, HB17.out⟩
end Go.Proofs.Ytjkmdghlhodhiaa
