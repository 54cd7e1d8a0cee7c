/- A chain of clauses: the law walked over what the program must answer. -/
import Derived.Test.YtebeemnpamgmlaaOs
namespace Go.Proofs.Ytebeemnpamgmlaa
open Go.RowKit Cl Up
attribute [local go_sem ↓] Go.wp_at_zero Go.wp_at_succ
set_option maxRecDepth 100000 in
set_option maxHeartbeats 12800000 in
theorem propChains_any (HKN : KnownC15) (HCL : CloseC) (n t f0 : Nat) (w : World) (hn : n ≤ 255) (ht : t ≤ 255) (hf0 : f0 ≤ 255) :
    Calls Try.prog 5 #[.int .u8 n, .int .u8 t, .int .u8 f0] w fun e w' => e = .returned (.bool true) ∧ Below w.heap.size w w' := by
  have HK0 := Lib.hid (HKN w)
  have HCLC := Lib.hid HCL
  obtain ⟨r0, hr0⟩ : ∃ r, n % 200 = r := ⟨_, rfl⟩
  have hr200 : r0 < 200 := by omega
  obtain ⟨K, hK⟩ : ∃ K, r0 + 1 = K := ⟨_, rfl⟩
  obtain ⟨k, hk⟩ : ∃ k, K + 1 = k := ⟨_, rfl⟩
  have er0 : (n : Int) % 200 = (r0 : Int) := by rw [← hr0]; norm_cast
  have er1 : Int.tmod (n : Int) 200 = (r0 : Int) := by rw [Int.tmod_eq_emod_of_nonneg (by omega)]; exact er0
  have wr8 : IntKind.u8.wrap (r0 : Int) = (r0 : Int) := IntWalk.u8_in _ (by omega)
  have wr64 : IntKind.i64.wrap (r0 : Int) = (r0 : Int) := IntWalk.i64_in _ (by omega)
  have wk : IntKind.i64.wrap ((2 : Int) + (r0 : Int)) = (k : Int) := (IntWalk.i64_in _ (by omega)).trans (by omega)
  have wt : IntKind.i64.wrap (t : Int) = (t : Int) := IntWalk.i64_in _ (by omega)
  have wf0 : IntKind.i64.wrap (f0 : Int) = (f0 : Int) := IntWalk.i64_in _ (by omega)
  have wk1 : IntKind.i64.wrap ((k : Int) - 1) = (K : Int) := (IntWalk.i64_in _ (by omega)).trans (by omega)
  have hK0 : 0 < K := by omega
  have hK2 : K ≤ 200 := by omega
  have HKK := Lib.hid hk
  have hz : ¬ ((K : Int) = 0) := by omega
  clear hr0 hr200 hK hk HKN HCL
  go_enter Try.func5, Try.ntmps5
  go_wp2_with (go_at_call 7; refine HK0.out.mono ?_)
  rintro _ u0 ⟨rfl, hb, hzz⟩
  have HB0 : Hid (Below w.heap.size w u0 ∧ w.heap.size ≤ u0.heap.size) := ⟨hb, hzz⟩
  clear hb hzz HK0
  go_wp2_with fail
  clear er0 er1 wr8 wr64 wk
  go_loopw [8, 9, 10] (fun v i _ wr => ∃ m : Nat, m ≤ K ∧ i = .int .i64 m ∧ Hid (COwn wr w.heap.size 42 v (chL t K m)) ∧ Hid (Below w.heap.size w wr ∧ w.heap.size ≤ wr.heap.size)) (fun _ i _ _ => K - (intOf i).toNat)
  case atStart => exact ⟨0, Nat.zero_le _, rfl, cown_nil _ _ _, HB0.out⟩
  case round =>
    obtain ⟨m, hm, rfl, HO, HB⟩ := hrel
    have hkk := HKK.out
    obtain ⟨m1, hm1⟩ : ∃ x, m + 1 = x := ⟨_, rfl⟩
    have wm1 : IntKind.i64.wrap ((m : Int) + 1) = (m1 : Int) := (IntWalk.i64_in _ (by omega)).trans (by omega)
    have HM1 := Lib.hid hm1
    by_cases hlt : m1 < k
    · have hlt2 : (m1 : Int) < (k : Int) := by omega
      obtain ⟨a, ha⟩ : ∃ x, m + t = x := ⟨_, rfl⟩
      obtain ⟨r, hr⟩ : ∃ x, a % K = x := ⟨_, rfl⟩
      have hrK : r < K := by rw [← hr]; exact Nat.mod_lt _ hK0
      obtain ⟨r1, hr1⟩ : ∃ x, r + 1 = x := ⟨_, rfl⟩
      obtain ⟨r2, hr2⟩ : ∃ x, r + 2 = x := ⟨_, rfl⟩
      have wa : IntKind.i64.wrap ((m : Int) + (t : Int)) = (a : Int) := (IntWalk.i64_in _ (by omega)).trans (by omega)
      have er : (a : Int) % (K : Int) = (r : Int) := by rw [← hr]; norm_cast
      have er2 : Int.tmod (a : Int) (K : Int) = (r : Int) := by rw [Int.tmod_eq_emod_of_nonneg (by omega)]; exact er
      have wr0 : IntKind.i64.wrap (r : Int) = (r : Int) := IntWalk.i64_in _ (by omega)
      have w1 : IntKind.i64.wrap ((r : Int) + 1) = (r1 : Int) := (IntWalk.i64_in _ (by omega)).trans (by omega)
      have w2 : IntKind.i64.wrap ((r : Int) + 2) = (r2 : Int) := (IntWalk.i64_in _ (by omega)).trans (by omega)
      have w3 : IntKind.i64.wrap (-(r1 : Int)) = -(r1 : Int) := IntWalk.i64_in _ (by omega)
      have w4 : IntKind.i64.wrap (0 - (r1 : Int)) = -(r1 : Int) := by rw [Int.zero_sub]; exact w3
      have HCH : Hid (chL t K m1 = chL t K m ++ [[-(r1 : Int), (r2 : Int)]]) := by
        show _ = _
        rw [← hm1, chL_more, ha, hr]
        unfold chC
        rw [hr1, show (r1 : Int) + 1 = (r2 : Int) by omega]
      have HSL : Hid ((chL t K m).length + 1 ≤ 1000000) := by show _ ≤ _; rw [chL_len]; omega
      have HFR := Lib.hid (Gr.fresh (C := some ⟨wr.heap.size, 0, none⟩) (cown_gown HO.out) (Nat.le_refl _) (fun a ha => by cases ha; exact Nat.le_refl _) [-(r1 : Int), (r2 : Int)])
      obtain ⟨b5, hb5⟩ : ∃ b, wr.heap.size = b := ⟨_, rfl⟩
      obtain ⟨u5, hu5⟩ : ∃ u, wr.alloc (.cells #[.int .i64 (-(r1 : Int)), .int .i64 (r2 : Int)] 3) = u := ⟨_, rfl⟩
      have HB5 : Hid (Below wr.heap.size wr u5 ∧ wr.heap.size ≤ u5.heap.size) := by rw [← hu5]; exact ⟨(Below.refl _ _).alloc (Nat.le_refl _) _, by simp⟩
      have HR5 : Hid (IRow u5 (some ⟨b5, 0, none⟩) [-(r1 : Int), (r2 : Int)]) := by show IRow _ _ _; rw [← hu5, ← hb5]; exact irow_new _ _ _ _ rfl
      rw [hb5] at HFR
      clear hm1 ha hr hr1 hr2 hrK hkk
      go_wp2_with (at_builtin; refine wpList_capp sliceCC rfl (.tmp 38) (.tmp 45) rfl w.heap.size _ (chL t K m) [-(r1 : Int), (r2 : Int)] (some ⟨b5, 0, none⟩) 2 2 rfl rfl (cown_below HO.out HB5.out.1) rfl (by decide) HR5.out HFR.out HSL.out (Nat.le_trans HB.out.2 HB5.out.2) ?_)
      intro v6 W6 ho6 hb6 hz6
      have HO6 := Lib.hid ho6
      rw [← HCH.out] at HO6
      have HB6 : Hid (Below w.heap.size w W6 ∧ w.heap.size ≤ W6.heap.size) := ⟨(HB.out.1.trans (HB5.out.1.mono HB.out.2)).trans hb6, Nat.le_trans (Nat.le_trans HB.out.2 HB5.out.2) hz6⟩
      clear ho6 hb6 hz6 hu5 hb5 HFR HR5 HB5 HSL HO HCH w1 w2 w3 w4 wr0 er er2 wa
      go_wp2_with fail
      go_roundw
      case rel => exact ⟨m1, by have := HM1.out; have := HKK.out; omega, rfl, HO6.out, HB6.out⟩
      case measure => have h1 := HM1.out; have h2 := HKK.out; simp [intOf]; omega
    · have hmK : m = K := by omega
      have hlt2 : ¬ ((m1 : Int) < (k : Int)) := by omega
      rw [hmK] at HO
      obtain ⟨g, hg⟩ : ∃ g, f0 % k = g := ⟨_, rfl⟩
      have hgk : g < k := by rw [← hg]; exact Nat.mod_lt _ (by omega)
      obtain ⟨f, hf⟩ : ∃ x, g + 1 = x := ⟨_, rfl⟩
      have eg : (f0 : Int) % (k : Int) = (g : Int) := by rw [← hg]; norm_cast
      have eg2 : Int.tmod (f0 : Int) (k : Int) = (g : Int) := by rw [Int.tmod_eq_emod_of_nonneg (by omega)]; exact eg
      have wg : IntKind.i64.wrap (g : Int) = (g : Int) := IntWalk.i64_in _ (by omega)
      have wf : IntKind.i64.wrap ((1 : Int) + (g : Int)) = (f : Int) := (IntWalk.i64_in _ (by omega)).trans (by omega)
      have hkz : ¬ ((k : Int) = 0) := by omega
      obtain ⟨L, hL⟩ : ∃ x, K + 2 - f = x := ⟨_, rfl⟩
      obtain ⟨d, hd⟩ : ∃ x, k - f = x := ⟨_, rfl⟩
      have wd : IntKind.i64.wrap ((k : Int) - (f : Int)) = (d : Int) := (IntWalk.i64_in _ (by omega)).trans (by omega)
      have wL : IntKind.i64.wrap ((d : Int) + 1) = (L : Int) := (IntWalk.i64_in _ (by omega)).trans (by omega)
      have wn1 : IntKind.i64.wrap (-(k : Int)) = -(k : Int) := IntWalk.i64_in _ (by omega)
      have wn2 : IntKind.i64.wrap (0 - (k : Int)) = -(k : Int) := by rw [Int.zero_sub]; exact wn1
      have hf1 : 1 ≤ f := by omega
      have hfk : f ≤ K + 1 := by omega
      have hk201 : k ≤ 201 := by omega
      have hLk : L ≤ 201 := by omega
      have HLITS : Hid (∀ c ∈ chL t K K, ∀ x ∈ c, LitOf k x) := by rw [← hkk]; exact chL_lits hK0
      have HLENS : Hid (∀ c ∈ chL t K K, c.length ≤ 256) := fun c hc => by
        obtain ⟨j, _, _, rfl⟩ := (chL_mem hK0 c).1 hc
        show 2 ≤ 256; decide
      have HSF : Hid (∀ x ∈ ([(f : Int)] : List Int), LitOf k x) := fun x hx => by
        rw [List.mem_singleton.1 hx]; unfold LitOf; omega
      have HSK : Hid (∀ x ∈ ([-(k : Int)] : List Int), LitOf k x) := fun x hx => by
        rw [List.mem_singleton.1 hx]; unfold LitOf; omega
      have HA : Hid (∀ {out : List Int} {bad : Bool}, IsClose (chL t K K) [(f : Int)] out bad → bad = false ∧ out = from' f L) := fun h => by rw [← hL]; exact chain_a hK0 hf1 hfk h
      have HBD : Hid (∀ {out : List Int} {bad : Bool}, IsClose (chL t K K ++ [[-(k : Int)]]) [(f : Int)] out bad → bad = true ∧ out = []) := fun h => by
        have e : ((K + 1 : Nat) : Int) = (k : Int) := by rw [hkk]
        exact chain_b (t := t) hK0 hf1 hfk (fun c hc => List.mem_append_left _ hc) (by rw [e]; simp) h
      have HCD : Hid (∀ {out : List Int} {bad : Bool}, IsClose (chL t K K) [-(k : Int)] out bad → bad = false ∧ out = downL k) := fun h => by
        have e : ((K + 1 : Nat) : Int) = (k : Int) := by rw [hkk]
        rw [← e] at h
        rw [← hkk]; exact chain_c hK0 h
      have hcl := chL_len t K K
      obtain ⟨C, cc, rfl, hr⟩ := cown_row HO.out
      simp only [hcl]
      have HRW := Lib.hid fun (u : World) (h : Below wr.heap.size wr u) => crow_below hr h
      clear hg hgk hf hL hd hr hm1 HO
      obtain ⟨b1, hb1⟩ : ∃ b, wr.heap.size = b := ⟨_, rfl⟩
      obtain ⟨W1, hW1⟩ : ∃ u, wr.alloc (.cells #[.int .i64 (f : Int)] 3) = u := ⟨_, rfl⟩
      have HU1 : Hid (Below wr.heap.size wr W1) := by rw [← hW1]; exact (Below.refl _ _).alloc (Nat.le_refl _) _
      have HR1 : Hid (IRow W1 (some ⟨b1, 0, none⟩) [(f : Int)]) := by show IRow _ _ _; rw [← hW1, ← hb1]; exact irow_new _ _ _ _ rfl
      have HQ1 := Lib.hid (HCLC.out k C (some ⟨b1, 0, none⟩) K 1 cc 1 (chL t K K) [(f : Int)] W1 hcl (HRW.out W1 HU1.out) rfl HR1.out (by omega) HLITS.out HSF.out (by omega) (by decide) HLENS.out)
      go_wp2_with (go_at_call 10; refine HQ1.out.mono ?_)
      rintro _ u2 ⟨v2, out2, bad2, rfl, hc2, ho2, hb2, hz2⟩
      obtain ⟨rfl, rfl⟩ := HA.out hc2
      obtain ⟨C2, d2, rfl, hr2⟩ := iown_row ho2
      have hfl := from_len (f : Int) L
      simp only [hfl]
      have HU2 := Lib.hid (HU1.out.trans (hb2.mono HU1.out.size))
      have HR2 := Lib.hid fun (u : World) (h : Below u2.heap.size u2 u) => irow_below hr2 h
      clear hc2 ho2 hb2 hz2 hr2 HQ1 hb1 hW1 HR1
      go_wp2_with fail
      have HRW2 := Lib.hid fun (u : World) (h : Below u2.heap.size u2 u) => HRW.out u (HU2.out.trans (h.mono HU2.out.size))
      have HBW2 : Hid (Below w.heap.size w u2) := HB.out.1.trans (HU2.out.mono HB.out.2)
      clear HRW HU1 HU2
      go_loopw [14] (fun i wr3 => ∃ j : Nat, j ≤ L ∧ i = .int .i64 j ∧ Hid (Below u2.heap.size u2 wr3)) (fun i _ => L - (intOf i).toNat)
      case atStart => exact ⟨0, Nat.zero_le _, rfl, Below.refl _ _⟩
      case round =>
        obtain ⟨j, hj, rfl, HW⟩ := hrel
        by_cases hjL : j < L
        · have hjl : j < (from' (f : Int) L).length := by rw [hfl]; exact hjL
          obtain ⟨ad, x, rfl, hx, hbx, hc⟩ := irow_at (HR2.out _ HW.out) j hjl
          rw [from_at] at hx
          subst hx
          have j0 : (0 : Int) ≤ (j : Int) := by omega
          have j1 : (j : Int) < (L : Int) := by omega
          have wfj : IntKind.i64.wrap ((f : Int) + (j : Int)) = (f : Int) + (j : Int) := IntWalk.i64_in _ (by omega)
          clear hbx hjl
          go_wp2_with fail
          go_roundw
          case rel => exact ⟨j + 1, by omega, by go_num, HW.out⟩
          case measure => simp [intOf]; omega
        · have j1 : ¬ ((j : Int) < (L : Int)) := by omega
          obtain ⟨v3, hv3⟩ : ∃ u, wr = u := ⟨_, rfl⟩
          rw [hv3] at HW ⊢
          clear hv3
          have HB3 := Lib.hid (HBW2.out.trans (HW.out.mono HBW2.out.size))
          obtain ⟨ds, hds, hin, hcaps⟩ := HRW2.out v3 HW.out
          have hdl : ds.length = K := hin.1.trans hcl
          have HDS := Lib.hid hds
          have HIN := Lib.hid hin
          have HCAPS := Lib.hid hcaps
          have HDL := Lib.hid hdl
          have HAL : Hid (Rg.Own encO 1 (v3.alloc (.cells #[] 42)) v3.heap.size 42 (.slice (some ⟨v3.heap.size, 0, none⟩) 0 0) []) := Rg.own_made v3 fitsO (Nat.le_refl _)
          clear hds hin hdl hcaps
          go_wp2_with (at_builtin; refine Rg.wpList_appS sliceCC rfl (.tmp 86) (.tmp 87) rfl v3.heap.size _ [] ds rfl HAL.out C K cc HDL.out rfl ?qr ?qs ?qb ?_)
          case qr => exact Rg.row_below HDS.out ((Below.refl _ _).alloc (Nat.le_refl _) _)
          case qs => rw [HDL.out]; first | omega | (show 0 + _ ≤ _; omega)
          intro v5 W5 ho5 hg5 hz5
          have hb5 : Below v3.heap.size v3 W5 := ((Below.refl _ _).alloc (Nat.le_refl _) _).trans (Rg.grown_below HAL.out (by simp) hg5)
          have HO5 : Hid (COwn W5 v3.heap.size 42 v5 (chL t K K)) := cgrid_copy HIN.out HCAPS.out hb5 (by simpa using ho5) (Nat.le_refl _)
          have HB5 : Hid (Below v3.heap.size v3 W5 ∧ v3.heap.size ≤ W5.heap.size) := ⟨hb5, hb5.size⟩
          clear ho5 hg5 hz5 hb5 HAL HDS HIN HCAPS HDL
          have HSL : Hid ((chL t K K).length + 1 ≤ 1000000) := by show _ ≤ _; rw [hcl]; omega
          have HFR := Lib.hid (Gr.fresh (C := some ⟨W5.heap.size, 0, none⟩) (cown_gown HO5.out) (Nat.le_refl _) (fun a ha => by cases ha; exact Nat.le_refl _) [-(k : Int)])
          obtain ⟨b6, hb6⟩ : ∃ b, W5.heap.size = b := ⟨_, rfl⟩
          obtain ⟨W6, hW6⟩ : ∃ u, W5.alloc (.cells #[.int .i64 (-(k : Int))] 3) = u := ⟨_, rfl⟩
          have HB6 : Hid (Below W5.heap.size W5 W6 ∧ W5.heap.size ≤ W6.heap.size) := by rw [← hW6]; exact ⟨(Below.refl _ _).alloc (Nat.le_refl _) _, by simp⟩
          have HR6 : Hid (IRow W6 (some ⟨b6, 0, none⟩) [-(k : Int)]) := by show IRow _ _ _; rw [← hW6, ← hb6]; exact irow_new _ _ _ _ rfl
          rw [hb6] at HFR
          go_wp2_with (at_builtin; refine wpList_capp sliceCC rfl (.tmp 88) (.tmp 92) rfl v3.heap.size _ (chL t K K) [-(k : Int)] (some ⟨b6, 0, none⟩) 1 1 rfl rfl (cown_below HO5.out HB6.out.1) rfl (by decide) HR6.out HFR.out HSL.out (Nat.le_trans HB5.out.2 HB6.out.2) ?_)
          intro v7 W7 ho7 hb7 hz7
          obtain ⟨C7, d7, rfl, hr7⟩ := cown_row ho7
          have hl7 : (chL t K K ++ [[-(k : Int)]]).length = k := by rw [List.length_append, hcl]; exact hkk
          simp only [hl7]
          have HB7 : Hid (Below v3.heap.size v3 W7) := (HB5.out.1.trans (HB6.out.1.mono HB5.out.2)).trans hb7
          have HR7 := Lib.hid fun (u : World) (h : Below W7.heap.size W7 u) => crow_below hr7 h
          clear ho7 hb7 hz7 hr7 hb6 hW6 HFR HR6 HB6 HB5 HO5 HSL
          have HL7 : Hid (∀ c ∈ chL t K K ++ [[-(k : Int)]], ∀ x ∈ c, LitOf k x) := fun c hc => by
            rcases List.mem_append.1 hc with hc | hc
            · exact HLITS.out c hc
            · rw [List.mem_singleton.1 hc]; exact HSK.out
          have HN7 : Hid (∀ c ∈ chL t K K ++ [[-(k : Int)]], c.length ≤ 256) := fun c hc => by
            rcases List.mem_append.1 hc with hc | hc
            · exact HLENS.out c hc
            · rw [List.mem_singleton.1 hc]; show 1 ≤ 256; decide
          obtain ⟨b8, hb8⟩ : ∃ b, W7.heap.size = b := ⟨_, rfl⟩
          obtain ⟨W8, hW8⟩ : ∃ u, W7.alloc (.cells #[.int .i64 (f : Int)] 3) = u := ⟨_, rfl⟩
          have HU8 : Hid (Below W7.heap.size W7 W8) := by rw [← hW8]; exact (Below.refl _ _).alloc (Nat.le_refl _) _
          have HR8 : Hid (IRow W8 (some ⟨b8, 0, none⟩) [(f : Int)]) := by show IRow _ _ _; rw [← hW8, ← hb8]; exact irow_new _ _ _ _ rfl
          have HQ8 := Lib.hid (HCLC.out k C7 (some ⟨b8, 0, none⟩) k 1 d7 1 (chL t K K ++ [[-(k : Int)]]) [(f : Int)] W8 hl7 (HR7.out W8 HU8.out) rfl HR8.out (by omega) HL7.out HSF.out (by omega) (by decide) HN7.out)
          go_wp2_with (go_at_call 10; refine HQ8.out.mono ?_)
          rintro _ u9 ⟨v9, out9, bad9, rfl, hc9, ho9, hb9, hz9⟩
          obtain ⟨rfl, rfl⟩ := HBD.out hc9
          obtain ⟨C9, d9, rfl, hr9⟩ := iown_row ho9
          have hn0 : ([] : List Int).length = 0 := rfl
          simp only [hn0]
          have HB8 := Lib.hid (HB7.out.trans (HU8.out.mono HB7.out.size))
          have HB9 := Lib.hid (HB8.out.trans (hb9.mono HB8.out.size))
          have HG9 := Lib.hid (HRW2.out u9 (HW.out.trans (HB9.out.mono HW.out.size)))
          have HT9 := Lib.hid (HB3.out.trans (HB9.out.mono HB3.out.size))
          clear hc9 ho9 hb9 hz9 hr9 HQ8 hb8 hW8 HR8 HU8 HL7 HN7 HR7
          obtain ⟨b10, hb10⟩ : ∃ b, u9.heap.size = b := ⟨_, rfl⟩
          obtain ⟨W10, hW10⟩ : ∃ u, u9.alloc (.cells #[.int .i64 (-(k : Int))] 3) = u := ⟨_, rfl⟩
          have HU10 : Hid (Below u9.heap.size u9 W10) := by rw [← hW10]; exact (Below.refl _ _).alloc (Nat.le_refl _) _
          have HR10 : Hid (IRow W10 (some ⟨b10, 0, none⟩) [-(k : Int)]) := by show IRow _ _ _; rw [← hW10, ← hb10]; exact irow_new _ _ _ _ rfl
          have HQ10 := Lib.hid (HCLC.out k C (some ⟨b10, 0, none⟩) K 1 cc 1 (chL t K K) [-(k : Int)] W10 hcl (crow_below HG9.out HU10.out) rfl HR10.out (by omega) HLITS.out HSK.out (by omega) (by decide) HLENS.out)
          go_wp2_with (go_at_call 10; refine HQ10.out.mono ?_)
          rintro _ u11 ⟨v11, out11, bad11, rfl, hc11, ho11, hb11, hz11⟩
          obtain ⟨rfl, rfl⟩ := HCD.out hc11
          obtain ⟨C11, d11, rfl, hr11⟩ := iown_row ho11
          have hdn := down_len k
          simp only [hdn]
          have h0k : 0 < (downL k).length := by rw [hdn]; omega
          obtain ⟨ae, y, rfl, hy, _, hcy⟩ := irow_at hr11 0 h0k
          rw [down_at] at hy
          have hy1 : y = -1 := by rw [← hy]; rfl
          subst hy1
          rw [Rg.add_zero] at hcy
          have k0 : (0 : Int) < (k : Int) := by omega
          have HB10 := Lib.hid (HT9.out.trans (HU10.out.mono HT9.out.size))
          have HB11 := Lib.hid (HB10.out.trans (hb11.mono HB10.out.size))
          clear hc11 ho11 hb11 hz11 hr11 HQ10 hb10 hW10 HR10 HU10 hy h0k
          go_wp2_with fail
          go_ret
          exact ⟨by simp, HB11.out⟩
end Go.Proofs.Ytebeemnpamgmlaa
