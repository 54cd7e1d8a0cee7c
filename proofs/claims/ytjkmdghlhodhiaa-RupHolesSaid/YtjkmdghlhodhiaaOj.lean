/- The reference's check of a proof, and whether it ends in a clause: walked. -/
import Derived.Test.YtjkmdghlhodhiaaOi
import Derived.Test.YtjkmdghlhodhiaaOf
import Derived.Test.YtjkmdghlhodhiaaEl
namespace Go.Proofs.Ytjkmdghlhodhiaa.Up
open Go.RowKit Cl
/-- A row of rows copied onto an empty one of one's own. -/
theorem ggrid_copy {w u' : World} {B : Nat} {T : TypeId} {v' : Value} {t : List (List Int)} {ds : List Desc} (hI : Gr.In encI 1 w ds t) (hwu : Below w.heap.size w u') (hO : Rg.Own encO 1 u' B T v' ds) (hB : w.heap.size ≤ B) : Gr.Own encI 1 u' B T v' t := by
  refine ⟨ds, hO, Gr.in_below hI hwu, fun i d l h1 h2 h0 a ha e => ?_⟩
  obtain ⟨a', ha', hb, _⟩ := (hI.2 i d l h1 h2).2 h0
  obtain rfl := Option.some.inj (ha.symm.trans ha')
  have := (Rg.own_lt hO _ e).1
  omega
end Go.Proofs.Ytjkmdghlhodhiaa.Up
namespace Go.Proofs.Ytjkmdghlhodhiaa
open Go.RowKit Cl Up
attribute [local go_sem ↓] Go.wp_at_zero Go.wp_at_succ
set_option maxRecDepth 100000 in
set_option maxHeartbeats 6400000 in
theorem refProof_any (n : Int) (A B : Option Addr) (ll kk c d : Nat) (l p : List (List Int)) (w : World) (hl : l.length = ll) (hg : GRow w A l) (hk : p.length = kk) (hs : GRow w B p) (hl1 : ll ≤ 400000) (hk1 : kk ≤ 400000) (hlc : ∀ c ∈ l, c.length ≤ 500000) (hpc : ∀ c ∈ p, c.length ≤ 500000) :
    Calls Try.prog 12 #[.int .i64 n, .slice A ll c, .slice B kk d] w fun e w' => e = .returned (.tuple #[.int .i64 ((proofP n l p).1 : Int), .int .i64 (proofP n l p).2]) ∧ Below w.heap.size w w' := by
  obtain ⟨X, hX⟩ : ∃ X, proofP n l p = X := ⟨_, rfl⟩
  rw [hX]
  have HX := Lib.hid hX
  have HL := Lib.hid hl
  have HG := Lib.hid hg
  have HK := Lib.hid hk
  have HS := Lib.hid hs
  have HLC := Lib.hid hlc
  have HPC := Lib.hid hpc
  have HCA := Lib.hid (refCheckAll_any n A ll c l w hl hg)
  obtain ⟨q, hq⟩ : ∃ q, checkAll n l = q := ⟨_, rfl⟩
  rw [hq] at HCA
  clear hX hl hg hk hs hlc hpc
  cases hz : q.2 == 0
  · have hz1 : (q.2 != 0) = true := by show (!(q.2 == 0)) = true; rw [hz]; rfl
    have HZ : Hid (X = (0, q.2)) := by
      show _ = _
      rw [← HX.out]; unfold proofP
      rw [hq, if_neg (fun e => by rw [e] at hz; exact absurd hz (by decide))]
    clear hq
    go_enter Try.func12, Try.ntmps12
    go_wp2_with (go_at_call 29; refine HCA.out.mono ?_)
    rintro _ w1 ⟨rfl, hb⟩
    have HB := Lib.hid hb
    clear hb
    go_wp2_with fail
    go_ret2
    exact ⟨by rw [HZ.out]; rfl, HB.out⟩
  · have hz1 : (q.2 != 0) = false := by show (!(q.2 == 0)) = false; rw [hz]; rfl
    have HA : Hid ((checkAll n l).2 = 0) := by show _ = _; rw [hq]; simpa using hz
    obtain ⟨n0, n1, _⟩ := all_ok HA.out
    obtain ⟨N, rfl⟩ : ∃ N : Nat, n = (N : Int) := ⟨n.toNat, by omega⟩
    have hN : N ≤ 256 := by omega
    clear hq n0 n1
    go_enter Try.func12, Try.ntmps12
    go_wp2_with (go_at_call 29; refine HCA.out.mono ?_)
    rintro _ w1 ⟨rfl, hb⟩
    have HB1 := Lib.hid hb
    clear hb HCA
    obtain ⟨ds, hds, hin⟩ := Gr.row_below HG.out HB1.out
    have hdl : ds.length = ll := hin.1.trans HL.out
    have HDS := Lib.hid hds
    have HIN := Lib.hid hin
    have HDL := Lib.hid hdl
    have HAL : Hid (Rg.Own encO 1 (w1.alloc (.cells #[] 23)) w1.heap.size 23 (.slice (some ⟨w1.heap.size, 0, none⟩) 0 0) []) := Rg.own_made w1 fitsO (Nat.le_refl _)
    clear hds hin hdl
    go_wp2_with (at_builtin; refine Rg.wpList_appS sliceIJ rfl (.tmp 21) (.tmp 22) rfl w1.heap.size _ [] ds rfl HAL.out A ll c HDL.out rfl ?r1 ?s1 ?b1 ?_)
    case r1 => exact Rg.row_below HDS.out ((Below.refl _ _).alloc (Nat.le_refl _) _)
    case s1 => rw [HDL.out]; show 0 + _ ≤ _; omega
    case b1 => simp
    intro v5 W5 ho5 hg5 hz5
    have hb5 : Below w1.heap.size w1 W5 := ((Below.refl _ _).alloc (Nat.le_refl _) _).trans (Rg.grown_below HAL.out (by simp) hg5)
    have HO5 : Hid (Gr.Own encI 1 W5 w1.heap.size 23 v5 l) := ggrid_copy HIN.out hb5 (by simpa using ho5) (Nat.le_refl _)
    have HB5 : Hid (Below w1.heap.size w1 W5 ∧ w1.heap.size ≤ W5.heap.size) := ⟨hb5, by have := hg5.size; simp at this; omega⟩
    clear ho5 hg5 hz5 hb5 HAL HDS HIN HDL
    go_wp2_with fail
    clear hz hz1
    go_loopw [9, 10, 11] (fun _ v i wr => ∃ (j : Nat) (S : List (List Int)), j ≤ kk ∧ i = .int .i64 j ∧ Hid (Taken N l p j) ∧ Hid (S = l ++ p.take j) ∧ Hid (Gr.Own encI 1 wr w1.heap.size 23 v S) ∧ Hid (Below w1.heap.size w1 wr ∧ w1.heap.size ≤ wr.heap.size)) (fun _ _ i _ => kk - (intOf i).toNat)
    case atStart => exact ⟨0, l, Nat.zero_le _, rfl, fun q hq h => absurd h (by omega), by show _ = _; simp, HO5, HB5⟩
    case round =>
      obtain ⟨j, S, hj, rfl, HT, HSE, HO, HB⟩ := hrel
      by_cases hlt : j < kk
      · have hjl : j < p.length := by rw [HK.out]; exact hlt
        obtain ⟨ad, C, k, cc, x, rfl, hbx, hc, hx, hxl, hxr⟩ := grow_at (Gr.row_below HS.out HB1.out) j hjl
        have HC : Hid (∀ u, Below w1.heap.size w1 u → u.cell? (ad.add j) = some (.slice C k cc)) := fun u hu => cell_below hc hbx hu
        have HXR := Lib.hid hxr
        have HXL := Lib.hid hxl
        have hk2 : k ≤ 500000 := by rw [← hxl, ← hx]; exact HPC.out _ (List.getElem_mem hjl)
        have j0 : (0 : Int) ≤ (j : Int) := by omega
        have j1 : (j : Int) < (kk : Int) := by omega
        have HCC := Lib.hid (refCheckClause_any N C k cc x wr hxl (irow_below hxr HB.out.1))
        obtain ⟨y, hy⟩ : ∃ y, checkC N x = y := ⟨_, rfl⟩
        rw [hy] at HCC
        have HERR : Hid (y ≠ 0 → X = (j, y)) := fun e => by
          rw [← HX.out, proof_err HA.out HT.out hjl hx (by rw [hy]; exact e), hy]
        have HNOT : Hid (y = 0 → ¬ Fol S x → X = (j, 13)) := fun e h => by
          rw [← HX.out, proof_not HA.out HT.out hjl hx (hy.trans e) (by rw [← HSE.out]; exact h)]
        have HMORE : Hid (y = 0 → Fol S x → Taken N l p (j + 1)) := fun e h => taken_more HT.out hjl hx (hy.trans e) (by rw [← HSE.out]; exact h)
        have HSE2 : Hid (S ++ [x] = l ++ p.take (j + 1)) := by
          show _ = _
          rw [List.take_succ_eq_append_getElem hjl, hx, ← List.append_assoc, ← HSE.out]
        have HSL : Hid (S.length = ll + j) := by
          show _ = _
          rw [HSE.out, List.length_append, List.length_take, HL.out]; omega
        have HLITS : Hid (y = 0 → ∀ z ∈ x, LitOf N z) := fun e => (check_ok (hy.trans e)).2.2.2
        have HALL : Hid (∀ c ∈ S, ∀ z ∈ c, LitOf N z) := fun c hcm z hzm => by
          rw [HSE.out] at hcm
          rcases List.mem_append.1 hcm with hcm | hcm
          · exact all_lits HA.out c hcm z hzm
          · exact (check_ok (taken_lits HT.out c hcm)).2.2.2 z hzm
        have HLEN : Hid (∀ c ∈ S, c.length ≤ 1000000) := fun c hcm => by
          rw [HSE.out] at hcm
          rcases List.mem_append.1 hcm with hcm | hcm
          · have := HLC.out c hcm; omega
          · have := HPC.out c (List.mem_of_mem_take hcm); omega
        have c0 := HC.out wr HB.out.1
        clear hc hbx hx hxl hxr hjl hy
        go_wp2_with (go_at_call 16; refine HCC.out.mono ?_)
        rintro _ w2 ⟨rfl, hb2⟩
        have HW2 := Lib.hid hb2
        have HB2 : Hid (Below w1.heap.size w1 w2 ∧ w1.heap.size ≤ w2.heap.size) := ⟨HB.out.1.trans (hb2.mono HB.out.2), Nat.le_trans HB.out.2 hb2.size⟩
        clear hb2 c0
        cases hy0 : y == 0
        · have hy1 : (y != 0) = true := by show (!(y == 0)) = true; rw [hy0]; rfl
          have HZ := Lib.hid (HERR.out (by intro e; rw [e] at hy0; exact absurd hy0 (by decide)))
          clear HERR HNOT HMORE HLITS
          go_wp2_with fail
          go_ret2
          exact ⟨by rw [HZ.out]; rfl, HB1.out.trans (HB2.out.1.mono HB1.out.size)⟩
        · have hy1 : (y != 0) = false := by show (!(y == 0)) = false; rw [hy0]; rfl
          have hyz : y = 0 := by simpa using hy0
          obtain ⟨V, vc, rfl, hvr⟩ := Gr.row_own (Gr.own_below HO.out HW2.out)
          rw [HSL.out]
          have HO2 := Gr.own_below HO.out HW2.out
          rw [HSL.out] at HO2
          have HO3 := Lib.hid HO2
          have HF := Lib.hid (refFollows_any N V C (ll + j) k vc cc S x w2 HSL.out hvr HXL.out (irow_below (irow_below HXR.out HB.out.1) HW2.out) (by omega) HALL.out (HLITS.out hyz) (by omega) hk2 HLEN.out)
          have HN2 := Lib.hid (HNOT.out hyz)
          have HM2 := Lib.hid (HMORE.out hyz)
          have c1 := HC.out w2 HB2.out.1
          clear HO2 hvr hyz HERR HNOT HMORE HLITS HALL HLEN HO
          go_wp2_with (go_at_call 18; refine HF.out.mono ?_)
          rintro _ w3 ⟨b, rfl, hbf, hb3, hz3⟩
          have HBF := Lib.hid hbf
          have HW3 := Lib.hid hb3
          have HB3 : Hid (Below w1.heap.size w1 w3 ∧ w1.heap.size ≤ w3.heap.size) := ⟨HB2.out.1.trans (hb3.mono HB2.out.2), Nat.le_trans HB2.out.2 hz3⟩
          clear hbf hb3 hz3 c1
          cases b
          · have HZ := Lib.hid (HN2.out (fun h => absurd (HBF.out.2 h) (by decide)))
            clear HN2 HM2
            go_wp2_with fail
            go_ret2
            exact ⟨by rw [HZ.out]; rfl, HB1.out.trans (HB3.out.1.mono HB1.out.size)⟩
          · have HT2 := Lib.hid (HM2.out (HBF.out.1 rfl))
            have HO4 := Lib.hid (Gr.own_below HO3.out HW3.out)
            have HFR := Lib.hid (old_row HO4.out HXR.out (Nat.le_refl _))
            have HXR3 := Lib.hid (irow_below HXR.out HB3.out.1)
            have c2 := HC.out w3 HB3.out.1
            clear HN2 HM2 HO3
            go_wp2_with (at_builtin; refine Gr.wpList_gapp sliceIJ rfl (.tmp 49) (.tmp 54) rfl w1.heap.size _ S x C k cc rfl rfl HO4.out HXL.out HXR3.out HFR.out (by rw [HSL.out]; omega) HB3.out.2 ?_)
            intro v6 W6 ho6 hb6 hz6
            have HO6 := Lib.hid ho6
            have HB6 : Hid (Below w1.heap.size w1 W6 ∧ w1.heap.size ≤ W6.heap.size) := ⟨HB3.out.1.trans hb6, Nat.le_trans HB3.out.2 hz6⟩
            clear ho6 hb6 hz6 c2
            go_wp2_with fail
            go_roundw
            case rel => exact ⟨j + 1, S ++ [x], by omega, by go_num, HT2.out, HSE2.out, HO6.out, HB6.out⟩
            case measure => simp [intOf]; omega
      · have HZ : Hid (X = (0, 0)) := by
          show _ = _
          rw [← HX.out]
          exact proof_ok HA.out (by rw [HK.out, show kk = j by omega]; exact HT.out)
        go_wp2_with fail
        go_ret2
        exact ⟨by rw [HZ.out]; rfl, HB1.out.trans (HB.out.1.mono HB1.out.size)⟩
noncomputable def Up.endsB (n : Int) (l p : List (List Int)) (c : List Int) : Bool := (proofP n l p).2 == 0 && (decide (0 < p.length) && decide (p.getLastD [] = c))
set_option maxRecDepth 100000 in
set_option maxHeartbeats 3200000 in
theorem refEnds_any (n : Int) (A B E : Option Addr) (ll kk ee c d f : Nat) (l p : List (List Int)) (x : List Int) (w : World) (hl : l.length = ll) (hg : GRow w A l) (hk : p.length = kk) (hs : GRow w B p) (he : x.length = ee) (hx : IRow w E x) (hl1 : ll ≤ 400000) (hk1 : kk ≤ 400000) (hlc : ∀ c ∈ l, c.length ≤ 500000) (hpc : ∀ c ∈ p, c.length ≤ 500000) :
    Calls Try.prog 14 #[.int .i64 n, .slice A ll c, .slice B kk d, .slice E ee f] w fun e w' => e = .returned (.bool (endsB n l p x)) ∧ Below w.heap.size w w' := by
  obtain ⟨X, hX⟩ : ∃ X, endsB n l p x = X := ⟨_, rfl⟩
  rw [hX]
  have HP := Lib.hid (refProof_any n A B ll kk c d l p w hl hg hk hs hl1 hk1 hlc hpc)
  obtain ⟨q, hq⟩ : ∃ q, proofP n l p = q := ⟨_, rfl⟩
  rw [hq] at HP
  have HX : Hid (X = (q.2 == 0 && (decide (0 < kk) && decide (p.getLastD [] = x)))) := by show _ = _; rw [← hX, ← hq, ← hk]; rfl
  have HK := Lib.hid hk
  have HS := Lib.hid hs
  have HE := Lib.hid he
  have HXR := Lib.hid hx
  have HPC := Lib.hid hpc
  clear hX hq hl hg hk hs he hx hlc hpc
  cases hz : q.2 == 0
  · have HZ : Hid (X = false) := by show _ = _; rw [HX.out, hz]; rfl
    go_enter Try.func14, Try.ntmps14
    go_wp2_with (go_at_call 12; refine HP.out.mono ?_)
    rintro _ w1 ⟨rfl, hb⟩
    have HB := Lib.hid hb
    clear hb
    go_wp2_with fail
    go_ret
    exact ⟨by rw [HZ.out]; rfl, HB.out⟩
  · by_cases h0 : 0 < kk
    · have d0 : decide ((0 : Int) < (kk : Int)) = true := decide_eq_true (by omega)
      obtain ⟨r, hr⟩ : ∃ r, kk = r + 1 := ⟨kk - 1, by omega⟩
      have hrl : r < p.length := by rw [HK.out]; omega
      obtain ⟨be, C, k, cc, y, rfl, hby, hc, hy, hyl, hyr⟩ := grow_at HS.out r hrl
      have hlast : p.getLastD [] = y := by
        rw [List.getLastD_eq_getLast?, List.getLast?_eq_getElem?, HK.out, hr, Nat.add_sub_cancel, List.getElem?_eq_getElem hrl, hy]; rfl
      have hky : k ≤ 1000000 := by have := HPC.out y (hy ▸ List.getElem_mem hrl); omega
      have HCC : Hid (∀ u, Below w.heap.size w u → u.cell? (be.add r) = some (.slice C k cc)) := fun u hu => cell_below hc hby hu
      have HSM := Lib.hid fun (u : World) (hu : Below w.heap.size w u) => refSameClause_any C E k ee cc f y x u hyl HE.out (irow_below hyr hu) (irow_below HXR.out hu) hky
      obtain ⟨b, hbq⟩ : ∃ b, decide (y = x) = b := ⟨_, rfl⟩
      simp only [hbq] at HSM
      have HZ : Hid (X = b) := by
        show _ = _
        rw [HX.out, hz, decide_eq_true h0, hlast, hbq]; rfl
      have wr1 : IntKind.i64.wrap ((kk : Int) - 1) = (r : Int) := (IntWalk.i64_in _ (by omega)).trans (by omega)
      have r0 : (0 : Int) ≤ (r : Int) := by omega
      have r1 : (r : Int) < (kk : Int) := by omega
      clear hr hrl hby hc hy hyl hyr hlast hky hbq h0
      go_enter Try.func14, Try.ntmps14
      go_wp2_with (go_at_call 12; refine HP.out.mono ?_)
      rintro _ w1 ⟨rfl, hb⟩
      have HB := Lib.hid hb
      have c1 := HCC.out w1 hb
      have HS1 := Lib.hid (HSM.out w1 hb)
      clear hb
      go_wp2_with (go_at_call 31; refine HS1.out.mono ?_)
      rintro _ w2 ⟨rfl, hb2⟩
      have HB2 := Lib.hid (HB.out.trans (hb2.mono HB.out.size))
      clear hb2
      go_wp2_with fail
      go_ret
      exact ⟨by rw [HZ.out]; rfl, HB2.out⟩
    · have d0 : decide ((0 : Int) < (kk : Int)) = false := decide_eq_false (by omega)
      have HZ : Hid (X = false) := by show _ = _; rw [HX.out, hz, decide_eq_false h0]; rfl
      go_enter Try.func14, Try.ntmps14
      go_wp2_with (go_at_call 12; refine HP.out.mono ?_)
      rintro _ w1 ⟨rfl, hb⟩
      have HB := Lib.hid hb
      clear hb
      go_wp2_with fail
      go_ret
      exact ⟨by rw [HZ.out]; rfl, HB.out⟩
end Go.Proofs.Ytjkmdghlhodhiaa
