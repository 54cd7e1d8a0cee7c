/- rup: a step that is asked for; Check; Ends: walked. -/
import Derived.Test.YtjkmdghlhodhiaaOyd
import Derived.Test.YtjkmdghlhodhiaaOye
import Derived.Test.YtjkmdghlhodhiaaEx
import Derived.Test.YtjkmdghlhodhiaaEz
import Derived.Test.YtjkmdghlhodhiaaEu
import Derived.Test.YtjkmdghlhodhiaaOp
import Derived.Test.YtjkmdghlhodhiaaOq
namespace Go.Proofs.Ytjkmdghlhodhiaa.Up
open Go.RowKit Cl
theorem take_in {w : World} {ds : List Desc} {t : List (List Int)} (h : Gr.In encI 1 w ds t) (k : Nat) : Gr.In encI 1 w (ds.take k) (t.take k) := by
  refine ⟨by rw [List.length_take, List.length_take, h.1], fun i d l h1 h2 => h.2 i d l ?_ ?_⟩
  · rw [List.getElem?_take] at h1; split at h1
    · exact h1
    · cases h1
  · rw [List.getElem?_take] at h2; split at h2
    · exact h2
    · cases h2
theorem crow_take {w : World} {A : Option Addr} {t : List (List Int)} (h : CRow w A t) (k : Nat) : CRow w A (t.take k) := by
  obtain ⟨ds, h1, h2, h3⟩ := h
  exact ⟨ds.take k, Rg.row_take h1 k, take_in h2 k, fun d hd => h3 d (List.mem_of_mem_take hd)⟩
open Classical in
/-- What a step is refused for. -/
noncomputable def stepE (n : Int) (S : List (List Int)) (x : List Int) : Int := if checkC n x = 0 then (if Fol S x then 0 else 13) else checkC n x
theorem stepE_err {n : Int} {S : List (List Int)} {x : List Int} (h : checkC n x ≠ 0) : stepE n S x = checkC n x := if_neg h
theorem stepE_ok {n : Int} {S : List (List Int)} {x : List Int} (h : checkC n x = 0) (h2 : Fol S x) : stepE n S x = 0 := by unfold stepE; rw [if_pos h, if_pos h2]
theorem stepE_no {n : Int} {S : List (List Int)} {x : List Int} (h : checkC n x = 0) (h2 : ¬ Fol S x) : stepE n S x = 13 := by unfold stepE; rw [if_pos h, if_neg h2]
theorem stepE_zero {n : Int} {S : List (List Int)} {x : List Int} (h : stepE n S x = 0) : checkC n x = 0 ∧ Fol S x := by
  unfold stepE at h
  split at h
  · rename_i h1
    split at h
    · rename_i h2; exact ⟨h1, h2⟩
    · exact absurd h (by decide)
  · rename_i h1; exact absurd h h1
theorem stepE_bad {n : Int} {l p : List (List Int)} {j : Nat} {c : List Int} (ha : (checkAll n l).2 = 0) (h : Taken n l p j) (hj : j < p.length) (hx : p[j] = c) (h1 : stepE n (l ++ p.take j) c ≠ 0) : proofP n l p = (j, stepE n (l ++ p.take j) c) := by
  by_cases h2 : checkC n c = 0
  · by_cases h3 : Fol (l ++ p.take j) c
    · exact absurd (stepE_ok h2 h3) h1
    · rw [stepE_no h2 h3]; exact proof_not ha h hj hx h2 h3
  · rw [stepE_err h2]; exact proof_err ha h hj hx h2
theorem cE_run (V : Option Addr) (k vc m : Nat) (h2 : m ≤ vc) (h : m ≤ k) : ∀ W : World, (Instr.sliceAt 29 (.slice V k vc) none (some (.int .i64 m)) none).run Try.prog W = .ok (.slice V m vc) W := by
  intro W
  have i0 : (0 : Int) ≤ (m : Int) := by omega
  have i1 : (m : Int) ≤ (k : Int) := by omega
  have i2 : (m : Int) ≤ (vc : Int) := by omega
  go_simp
end Go.Proofs.Ytjkmdghlhodhiaa.Up
namespace Go.Proofs.Ytjkmdghlhodhiaa
open Go.RowKit Cl Up
attribute [local go_sem ↓] Go.wp_at_zero Go.wp_at_succ
set_option maxRecDepth 100000 in
set_option maxHeartbeats 1600000 in
theorem reqStep_any (n : Nat) (V C : Option Addr) (k m vc cc i : Nat) (S : List (List Int)) (x : List Int) (w : World) (hk : S.length = k) (hg : CRow w V S) (hcap : k ≤ vc) (hm : x.length = m) (hx : IRow w C x) (hn : n ≤ 256) (hln : ∀ c ∈ S, ∀ y ∈ c, LitOf n y) (hl1 : k ≤ 1000) (hlc : ∀ c ∈ S, c.length ≤ 256) :
    Calls Try.prog 28 #[.int .i64 n, .slice V k vc, .slice C m cc, .int .i64 i] w fun e w' => e = cOk i (stepE n S x) ∧ Below w.heap.size w w' := by
  have HCH := Lib.hid (pCheck_any n C m cc x w hm hx)
  obtain ⟨y, hy⟩ : ∃ y, checkC (n : Int) x = y := ⟨_, rfl⟩
  rw [hy] at HCH
  cases hy0 : y == 0
  · have hne : y ≠ 0 := fun e => by rw [e] at hy0; exact absurd hy0 (by decide)
    have HE : Hid (stepE n S x = y) := by show _ = _; rw [stepE_err (by rw [hy]; exact hne), hy]
    have HNE := Lib.hid hne
    clear hk hg hcap hm hx hn hln hl1 hlc hy hne
    go_enter Try.func28, Try.ntmps28
    go_wp2_with (go_at_call 32; refine HCH.out.mono ?_)
    rintro _ u ⟨rfl, hb⟩
    have HB := Lib.hid hb
    clear hb HCH
    go_wp2_with fail
    refine (cReq_no _).mono ?_
    rintro _ z ⟨rfl, rfl⟩
    go_wp2_with fail
    exact ⟨rfl, by rw [HE.out]; exact (cOk_ne HNE.out).symm, HB.out⟩
  · obtain rfl : y = 0 := by simpa using hy0
    obtain ⟨_, _, hm2, hlit⟩ := check_ok hy
    have HF := Lib.hid fun (u : World) (hb : Below w.heap.size w u) => rupFollows_any n V C k m vc cc S x u hk (crow_below hg hb) hcap hm (irow_below hx hb) hn hln hlit hl1 (by omega) hlc
    have HY := Lib.hid hy
    clear hk hg hcap hm hx hn hln hl1 hlc hy hm2 hlit hy0
    go_enter Try.func28, Try.ntmps28
    go_wp2_with (go_at_call 32; refine HCH.out.mono ?_)
    rintro _ u ⟨rfl, hb⟩
    have HB := Lib.hid hb
    have HF1 := Lib.hid (HF.out u hb)
    clear hb HCH HF
    go_wp2_with fail
    refine (cReq_yes _).mono ?_
    rintro _ z ⟨rfl, rfl⟩
    go_wp2_with (go_at_call 17; refine HF1.out.mono ?_)
    rintro _ u2 ⟨b, rfl, hbf, hb2, hz2⟩
    have HB2 : Hid (Below w.heap.size w u2) := HB.out.trans (hb2.mono HB.out.size)
    have HBF := Lib.hid hbf
    clear hbf hb2 hz2 HF1
    cases b
    · have HE : Hid (stepE n S x = 13) := stepE_no HY.out fun h => absurd (HBF.out.2 h) (by decide)
      go_wp2_with fail
      refine (cReq_no _).mono ?_
      rintro _ z ⟨rfl, rfl⟩
      go_wp2_with fail
      exact ⟨rfl, by rw [HE.out]; exact (cOk_ne (by decide)).symm, HB2.out⟩
    · have HE : Hid (stepE n S x = 0) := stepE_ok HY.out (HBF.out.1 rfl)
      go_wp2_with fail
      refine (cReq_yes _).mono ?_
      rintro _ z ⟨rfl, rfl⟩
      go_wp2_with fail
      go_end0
      exact ⟨by rw [HE.out]; rfl, HB2.out⟩
theorem chkR_panic (p q : Addr) (x y n : Int) (w : World) (hc : w.cell? p = some (.int .i64 x)) (hz : w.frozen? p = false) (hc2 : (w.setCell p (.int .i64 0)).cell? q = some (.int .i64 y)) (hz2 : (w.setCell p (.int .i64 0)).frozen? q = false) :
    CallsD Try.prog 23 #[.pointer (some p), .pointer (some q)] (.panicking [{ v := .iface 26 (.int .i64 n), recovered := false }]) w fun e u' w' =>
      e = .returned (.tuple #[]) ∧ u' = .panicking [{ v := .iface 26 (.int .i64 n), recovered := true }] ∧ w' = (w.setCell p (.int .i64 0)).setCell q (.int .i64 n) := by
  refine callsD_of_wpS Try.func23 rfl fun c₀ cs hu => ?_
  apply wpS_region
  simp [wpOpsS, go_sem, recoverD, hu, Try.ntmps23]
  refine (raisedAt_err n _).mono ?_
  rintro e w' ⟨rfl, rfl⟩
  simp [go_sem, hc, hz, hc2, hz2, bodyPostS, results, Try.results23]
theorem chkR_placed (p q : Addr) (x y k n : Int) (w : World) (hc : ∀ u, Below w.heap.size w u → u.cell? p = some (.int .i64 x)) (hz : ∀ u, Below w.heap.size w u → u.frozen? p = false) (hc2 : ∀ u, Below w.heap.size w u → (u.setCell p (.int .i64 k)).cell? q = some (.int .i64 y)) (hz2 : ∀ u, Below w.heap.size w u → (u.setCell p (.int .i64 k)).frozen? q = false) :
    CallsD Try.prog 23 #[.pointer (some p), .pointer (some q)] (.panicking [{ v := .iface 66 (.agg #[.int .i64 k, .int .i64 n]), recovered := false }]) w fun e u' w' =>
      e = .returned (.tuple #[]) ∧ u' = .panicking [{ v := .iface 66 (.agg #[.int .i64 k, .int .i64 n]), recovered := true }] ∧ ∃ u, Below w.heap.size w u ∧ w' = (u.setCell p (.int .i64 k)).setCell q (.int .i64 n) := by
  refine callsD_of_wpS Try.func23 rfl fun c₀ cs hu => ?_
  apply wpS_region
  simp [wpOpsS, go_sem, recoverD, hu, Try.ntmps23]
  refine (cRaisedAt k n _).mono ?_
  rintro e w' ⟨rfl, hb⟩
  simp [go_sem, hc _ hb, hz _ hb, hc2 _ hb, hz2 _ hb, bodyPostS, results, Try.results23]
  exact ⟨w', hb, rfl⟩
theorem chkR_idle (p q : Addr) (x y : Int) (w : World) (hc : w.cell? p = some (.int .i64 x)) (hz : w.frozen? p = false) (hc2 : (w.setCell p (.int .i64 0)).cell? q = some (.int .i64 y)) (hz2 : (w.setCell p (.int .i64 0)).frozen? q = false) :
    CallsD Try.prog 23 #[.pointer (some p), .pointer (some q)] .returning w fun e u' w' => e = .returned (.tuple #[]) ∧ u' = .returning ∧ w' = (w.setCell p (.int .i64 0)).setCell q (.int .i64 0) := by
  refine callsD_of_wpS Try.func23 rfl fun c₀ cs hu => ?_
  apply wpS_region
  simp [wpOpsS, go_sem, recoverD, hu, Try.ntmps23]
  refine (raisedAt_nil _).mono ?_
  rintro e w' ⟨rfl, rfl⟩
  cases c₀
  simp_all [go_sem, bodyPostS, results, Try.results23]
set_option maxRecDepth 100000 in
set_option maxHeartbeats 6400000 in
theorem pRupCheck_any : RupCheckC := fun n A B ll kk c d l p w hl hg hk hs hl1 hk1 hlc hpc => by
  have hmf : ∀ (fn : Fn) (first cap : Array Value) (w : World), (Instr.makeFunc fn first cap).run Try.prog w = .ok (.func fn first cap) w := fun _ _ _ _ => rfl
  obtain ⟨⟨x, y⟩, hX⟩ : ∃ X, proofP n l p = X := ⟨_, rfl⟩
  rw [hX]
  obtain ⟨W1, hW1⟩ : ∃ W, w.alloc (.cells #[.int .i64 0] 3) = W := ⟨_, rfl⟩
  obtain ⟨W2, hW2⟩ : ∃ W, W1.alloc (.cells #[.int .i64 0] 26) = W := ⟨_, rfl⟩
  have HPC : Hid (∀ u, Below W2.heap.size W2 u → R2 w.heap.size u) := fun u hb => r2_of hW1 hW2 hb
  have hs1 : W1.heap.size = w.heap.size + 1 := by rw [← hW1]; simp
  have HBW : Hid (Below w.heap.size w W2) := (alloc_low hW1).trans ((alloc_low hW2).mono (alloc_low hW1).size)
  have HCA := Lib.hid (pCheckAll_any n A ll c l W2 hl (crow_grow (crow_below hg HBW.out)))
  have HG := Lib.hid (crow_below hg HBW.out)
  have HS := Lib.hid (crow_below hs HBW.out)
  have HL := Lib.hid hl
  have HK := Lib.hid hk
  have HPCL := Lib.hid hpc
  obtain ⟨⟨qa, qb⟩, hq⟩ : ∃ q, checkAll n l = q := ⟨_, rfl⟩
  rw [hq] at HCA
  cases hz : qb == 0
  · have hne : qb ≠ 0 := fun e => by rw [e] at hz; exact absurd hz (by decide)
    have hxy : (x, y) = (0, qb) := by rw [← hX]; unfold proofP; rw [hq, if_neg hne]
    obtain ⟨hx0, hy0⟩ := Prod.mk.inj hxy
    subst hx0
    subst hy0
    clear hX hl hg hk hs hlc hpc hq hxy hne HG HS HPCL HL HK
    go_enter_defers Try.func10, Try.ntmps10
    go_wp2_with fail
    clear hW1 hW2
    refine HCA.out.mono ?_
    rintro _ z1 ⟨rfl, hb⟩
    have HB := Lib.hid hb
    clear hb HCA
    go_wp2_with fail
    refine (require_no _).mono ?_
    rintro _ z ⟨rfl, rfl⟩
    obtain ⟨c0, f0, c1, f1⟩ := r2_cells (HPC.out _ HB.out)
    obtain ⟨d0, g0, d1, g1⟩ := r2_after (HPC.out _ HB.out) (.int .i64 0)
    obtain ⟨q0, q1⟩ := r2_both (HPC.out _ HB.out) (.int .i64 0) (.int .i64 y)
    go_wp2_with fail
    refine leaves_cons (f := 23) (args := #[.pointer (some ⟨w.heap.size, 0, none⟩), .pointer (some ⟨w.heap.size + 1, 0, none⟩)]) (by simp) (by simp [go_sem]) ?_
    refine (chkR_panic ⟨w.heap.size, 0, none⟩ ⟨w.heap.size + 1, 0, none⟩ 0 0 y _ c0 f0 d1 g1).mono ?_
    rintro e u' w3 ⟨rfl, rfl, rfl⟩
    simp [Leaves, settle, results, Try.results10, go_sem, q0, q1]
    exact ((HBW.out.trans (HB.out.mono HBW.out.size)).setCell (Nat.le_refl _) _).setCell (Nat.le_succ _) _
  · have hz0 : qb = 0 := by simpa using hz
    subst hz0
    have HA : Hid ((checkAll n l).2 = 0) := by show _ = _; rw [hq]
    obtain ⟨n0, n1, _⟩ := all_ok HA.out
    obtain ⟨N, rfl⟩ : ∃ N : Nat, n = (N : Int) := ⟨n.toNat, by omega⟩
    have hN : N ≤ 256 := by omega
    have HN := Lib.hid hN
    have HX := Lib.hid hX
    have HLLEN : Hid (∀ c ∈ l, c.length ≤ 256) := fun c hc => (check_ok ((all_ok HA.out).2.2.2.2 c hc)).2.2.1
    have HCN := Lib.hid fun (u u' : World) (hu : Below W2.heap.size W2 u) (he : u.alloc (.cells #[.slice A ll c, .slice B kk d] 29) = u') =>
      concat_any u.heap.size A B ll kk c d l p u' HL.out (crow_below HG.out (hu.trans ((alloc_low he).mono hu.size))) HK.out (crow_below HS.out (hu.trans ((alloc_low he).mono hu.size))) (by omega) (by omega) (by rw [← he]; simp) (cell_two he (Below.refl _ _)).1 (cell_two he (Below.refl _ _)).2.1
    clear hX hl hg hk hs hlc hpc hq n0 n1 hN hz
    go_enter_defers Try.func10, Try.ntmps10
    go_wp2_with fail
    clear hW1 hW2
    refine HCA.out.mono ?_
    rintro _ z1 ⟨rfl, hb⟩
    have HB := Lib.hid hb
    clear hb HCA
    go_wp2_with fail
    refine (require_yes _).mono ?_
    rintro _ z ⟨rfl, rfl⟩
    obtain ⟨z2, hz2⟩ : ∃ u, z1.alloc (.cells #[.slice A ll c, .slice B kk d] 29) = u := ⟨_, rfl⟩
    have HZ2 := Lib.hid (HB.out.trans ((alloc_low hz2).mono HB.out.size))
    have HCC := Lib.hid (HCN.out z1 z2 HB.out hz2)
    clear HCN
    go_wp2_with fail
    refine HCC.out.mono ?_
    rintro _ u2 ⟨V, q, rfl, hrv, hvq, hb2, _⟩
    have HRV := Lib.hid hrv
    have HBU : Hid (Below W2.heap.size W2 u2) := HZ2.out.trans (hb2.mono HZ2.out.size)
    have HVQ := Lib.hid hvq
    clear hrv hvq hb2 HCC hz2
    go_wp2_with fail
    go_loopw [30] (fun i wr => ∃ j : Nat, j ≤ kk ∧ i = .int .i64 j ∧ Hid (Taken N l p j) ∧ Hid (Below u2.heap.size u2 wr)) (fun i _ => kk - (intOf i).toNat)
    case atStart => exact ⟨0, Nat.zero_le _, rfl, fun q hq h => absurd h (by omega), Below.refl _ _⟩
    case round =>
      obtain ⟨j, hj, rfl, HT, HB3⟩ := hrel
      have HBW3 : Hid (Below W2.heap.size W2 wr) := HBU.out.trans (HB3.out.mono HBU.out.size)
      by_cases hlt : j < kk
      · have hjl : j < p.length := by rw [HK.out]; exact hlt
        obtain ⟨ad, C, m, cc, xs, rfl, hbx, hc, hxs, hxl, hxr⟩ := grow_at (crow_grow (crow_below HS.out HBW3.out)) j hjl
        have hS : (l ++ p).take (ll + j) = l ++ p.take j := by
          rw [List.take_append, List.take_of_length_le (by rw [HL.out]; omega), HL.out, Nat.add_sub_cancel_left]
        have hSl : (l ++ p.take j).length = ll + j := by rw [List.length_append, List.length_take, HL.out, HK.out]; omega
        obtain ⟨S, hSS⟩ : ∃ S, l ++ p.take j = S := ⟨_, rfl⟩
        rw [hSS] at hS hSl
        have hrow : CRow wr V S := by rw [← hS]; exact crow_take (crow_below HRV.out HB3.out) _
        have hln : ∀ c ∈ S, ∀ z ∈ c, LitOf N z := fun c hcm z hzm => by
          rw [← hSS] at hcm
          rcases List.mem_append.1 hcm with hcm | hcm
          · exact all_lits HA.out c hcm z hzm
          · exact (check_ok (taken_lits HT.out c hcm)).2.2.2 z hzm
        have hlen : ∀ c ∈ S, c.length ≤ 256 := fun c hcm => by
          rw [← hSS] at hcm
          rcases List.mem_append.1 hcm with hcm | hcm
          · exact HLLEN.out c hcm
          · exact (check_ok (taken_lits HT.out c hcm)).2.2.1
        have HRS := Lib.hid (reqStep_any N V C (ll + j) m q cc j S xs wr hSl hrow (by have := HVQ.out; omega) hxl hxr HN.out hln (by omega) hlen)
        have hsr := cE_run V (ll + kk) q (ll + j) (by have := HVQ.out; omega) (by omega)
        have hwr : IntKind.i64.wrap ((ll : Int) + (j : Int)) = ((ll + j : Nat) : Int) := (IntWalk.i64_in _ (by omega)).trans (by omega)
        have HBAD : Hid (stepE N S xs ≠ 0 → (x, y) = (j, stepE N S xs)) := fun h => by
          rw [← HX.out, ← hSS]
          exact stepE_bad HA.out HT.out hjl hxs (by rw [hSS]; exact h)
        have HGOOD : Hid (stepE N S xs = 0 → Taken N l p (j + 1)) := fun h => by
          obtain ⟨e1, e2⟩ := stepE_zero h
          exact taken_more HT.out hjl hxs e1 (by rw [hSS]; exact e2)
        obtain ⟨E, hE⟩ : ∃ E, stepE N S xs = E := ⟨_, rfl⟩
        rw [hE] at HRS HBAD HGOOD
        have j0 : (0 : Int) ≤ (j : Int) := by omega
        have j1 : (j : Int) < (kk : Int) := by omega
        obtain ⟨lj, hlj⟩ : ∃ q, ll + j = q := ⟨_, rfl⟩
        rw [hlj] at HRS hsr hwr
        clear hbx hxs hxl hxr hS hSl hSS hrow hln hlen hjl hE hlj
        go_wp2_with fail
        refine HRS.out.mono ?_
        rintro _ u3 ⟨rfl, hb3⟩
        have HB4 : Hid (Below u2.heap.size u2 u3) := HB3.out.trans (hb3.mono HB3.out.size)
        clear hb3 HRS hsr hwr hc
        by_cases hE : E = 0
        · rw [hE, cOk_zero]
          have HT2 := Lib.hid (HGOOD.out hE)
          clear hE HBAD HGOOD
          go_wp2_with fail
          go_roundw
          case rel => exact ⟨j + 1, by omega, by go_num, HT2.out, HB4.out⟩
          case measure => simp [intOf]; omega
        · rw [cOk_ne hE]
          obtain ⟨hx0, hy0⟩ := Prod.mk.inj (HBAD.out hE)
          have HBZ : Hid (Below W2.heap.size W2 u3) := HBU.out.trans (HB4.out.mono HBU.out.size)
          clear hE HBAD HGOOD HX
          subst hx0
          subst hy0
          go_wp2_with fail
          refine leaves_cons (f := 23) (args := #[.pointer (some ⟨w.heap.size, 0, none⟩), .pointer (some ⟨w.heap.size + 1, 0, none⟩)]) (by simp) (by simp [go_sem]) ?_
          refine (chkR_placed ⟨w.heap.size, 0, none⟩ ⟨w.heap.size + 1, 0, none⟩ 0 0 x y _ (fun u hb => (r2_cells (HPC.out _ (HBZ.out.trans (hb.mono HBZ.out.size)))).1) (fun u hb => (r2_cells (HPC.out _ (HBZ.out.trans (hb.mono HBZ.out.size)))).2.1) (fun u hb => (r2_after (HPC.out _ (HBZ.out.trans (hb.mono HBZ.out.size))) _).2.2.1) (fun u hb => (r2_after (HPC.out _ (HBZ.out.trans (hb.mono HBZ.out.size))) _).2.2.2)).mono ?_
          rintro e u' w3 ⟨rfl, rfl, u, hb, rfl⟩
          have HBX := Lib.hid (HBZ.out.trans (hb.mono HBZ.out.size))
          obtain ⟨q0, q1⟩ := r2_both (HPC.out _ HBX.out) (.int .i64 x) (.int .i64 y)
          simp [Leaves, settle, results, Try.results10, go_sem, q0, q1]
          exact ((HBW.out.trans (HBX.out.mono HBW.out.size)).setCell (Nat.le_refl _) _).setCell (Nat.le_succ _) _
      · obtain rfl : j = kk := by omega
        obtain ⟨hx0, hy0⟩ := Prod.mk.inj (HX.out.symm.trans (proof_ok HA.out (by rw [HK.out]; exact HT.out)))
        clear HX
        subst hx0
        subst hy0
        obtain ⟨c0, f0, c1, f1⟩ := r2_cells (HPC.out _ HBW3.out)
        obtain ⟨d0, g0, d1, g1⟩ := r2_after (HPC.out _ HBW3.out) (.int .i64 0)
        have HP2 := Lib.hid (r2_again (HPC.out _ HBW3.out))
        have HBV : Hid (Below w.heap.size w ((wr.setCell ⟨w.heap.size, 0, none⟩ (.int .i64 0)).setCell ⟨w.heap.size + 1, 0, none⟩ (.int .i64 0))) := ((HBW.out.trans (HBW3.out.mono HBW.out.size)).setCell (Nat.le_refl _) _).setCell (Nat.le_succ _) _
        go_wp2_with fail
        generalize (wr.setCell ⟨w.heap.size, 0, none⟩ (.int .i64 0)).setCell ⟨w.heap.size + 1, 0, none⟩ (.int .i64 0) = Z at *
        obtain ⟨k0, m0, k1, m1⟩ := r2_cells HP2.out
        obtain ⟨l0, o0, l1, o1⟩ := r2_after HP2.out (.int .i64 0)
        obtain ⟨q0, q1⟩ := r2_both HP2.out (.int .i64 0) (.int .i64 0)
        refine leaves_cons (f := 23) (args := #[.pointer (some ⟨w.heap.size, 0, none⟩), .pointer (some ⟨w.heap.size + 1, 0, none⟩)]) (by simp) (by simp [go_sem]) ?_
        refine (chkR_idle ⟨w.heap.size, 0, none⟩ ⟨w.heap.size + 1, 0, none⟩ 0 0 _ k0 m0 l1 o1).mono ?_
        rintro e u' w3 ⟨rfl, rfl, rfl⟩
        simp [Leaves, settle, results, Try.results10, go_sem, q0, q1]
        exact (HBV.out.setCell (Nat.le_refl _) _).setCell (Nat.le_succ _) _
theorem Up.cF_run (ad : Addr) (k vc m : Nat) (h : m < k) (h2 : k ≤ vc) : ∀ W : World, (Instr.sliceAt 29 (.slice (some ad) k vc) (some (.int .i64 m)) none none).run Try.prog W = .ok (.slice (some (ad.add (m * 1))) (k - m) (vc - m)) W := by
  intro W
  have i0 : (0 : Int) ≤ (m : Int) := by omega
  have i1 : (m : Int) ≤ (k : Int) := by omega
  have i2 : (m : Int) ≤ (vc : Int) := by omega
  have i4 : ¬ vc = m := by omega
  go_simp
theorem Up.grow_last {w : World} {B : Addr} {t : List (List Int)} (h : GRow w (some B) t) {r : Nat} (hr : r < t.length) {x : List Int} (hx : t[r] = x) : GRow w (some (B.add r)) [x] := by
  obtain ⟨ds, h1, h2⟩ := h
  have hd : r < ds.length := by rw [h2.1]; exact hr
  have h3 := Rg.row_take (Rg.row_drop h1 r (A' := some (B.add (r * 1))) (fun _ => rfl)) 1
  have e : (ds.drop r).take 1 = [ds[r]] := by rw [List.drop_eq_getElem_cons hd]; rfl
  rw [e, Nat.mul_one] at h3
  refine ⟨[ds[r]], h3, rfl, fun i d l e1 e2 => ?_⟩
  match i with
  | 0 =>
    cases e1; cases e2
    exact h2.2 r _ _ (List.getElem?_eq_getElem hd) (by rw [List.getElem?_eq_getElem hr, hx])
  | i + 1 => cases e1
set_option maxRecDepth 100000 in
set_option maxHeartbeats 3200000 in
theorem pRupEnds_any : RupEndsC := fun n A B E ll kk ee c d f l p x w hl hg hk hs hkd he hx hl1 hk1 he1 hlc hpc => by
  obtain ⟨X, hX⟩ : ∃ X, endsB n l p x = X := ⟨_, rfl⟩
  rw [hX]
  have HP := Lib.hid fun (u : World) (hu : Below w.heap.size w u) => pRupCheck_any n A B ll kk c d l p u hl (crow_below hg hu) hk (crow_below hs hu) hl1 hk1 hlc (fun c hc => Nat.le_trans (hpc c hc) (by decide))
  obtain ⟨⟨qa, qb⟩, hq⟩ : ∃ q, proofP n l p = q := ⟨_, rfl⟩
  simp only [hq] at HP
  have HX : Hid (X = (qb == 0 && (decide (0 < kk) && decide (p.getLastD [] = x)))) := by show _ = _; rw [← hX, ← hk]; unfold endsB; rw [hq]
  have HK := Lib.hid hk
  clear hX hq
  by_cases h0 : 0 < kk
  · obtain ⟨r, hr⟩ : ∃ r, kk = r + 1 := ⟨kk - 1, by omega⟩
    have hrl : r < p.length := by rw [HK.out]; omega
    obtain ⟨be, C, k, cc, y, rfl, hby, hc, hy, hyl, hyr⟩ := grow_at (crow_grow hs) r hrl
    have hlast : p.getLastD [] = y := by
      rw [List.getLastD_eq_getLast?, List.getLast?_eq_getElem?, HK.out, hr, Nat.add_sub_cancel, List.getElem?_eq_getElem hrl, hy]; rfl
    have hky : y.length ≤ 1000000 := by have := hpc y (hy ▸ List.getElem_mem hrl); omega
    have HSM := Lib.hid fun (u u' : World) (hu : Below w.heap.size w u) (hw : u.alloc (.cells #[.slice E ee f] 47) = u') => pSame_any (some (be.add r)) (some ⟨u.heap.size, 0, none⟩) 1 1 (d - r) 1 [y] [x] u' rfl rfl
      (Gr.row_below (grow_last (crow_grow hs) hrl hy) (hu.trans ((alloc_low hw).mono hu.size)))
      (by
        refine grid_of (ds := [(E, ee, f)]) (by rw [← hw]; exact drow_new _ _ _ _ rfl) rfl ?_
        exact in_cons he.symm (irow_below hx (hu.trans ((alloc_low hw).mono hu.size))) (in_nil _))
      (by decide) (fun z hz => by rw [List.mem_singleton.1 hz]; exact hky)
    have hbq : decide ([y] = [x]) = decide (y = x) := by simp
    obtain ⟨b, hb⟩ : ∃ b, decide (y = x) = b := ⟨_, rfl⟩
    rw [hb] at hbq
    simp only [hbq] at HSM
    have HZ : Hid (X = (qb == 0 && b)) := by
      show _ = _
      rw [HX.out, decide_eq_true h0, hlast, hb]; rfl
    have hsl := cF_run be kk d r (by omega) hkd
    have hkr : kk - r = 1 := by omega
    rw [hkr] at hsl
    have z0 : ((kk : Int) == 0) = false := by rw [beq_eq_false_iff_ne]; omega
    have wr1 : IntKind.i64.wrap ((kk : Int) - 1) = (r : Int) := (IntWalk.i64_in _ (by omega)).trans (by omega)
    clear hl hg hk hs he hx hl1 hk1 he1 hlc hpc hr hrl hby hc hy hyl hyr hlast hky hbq hb h0 hkr HX hkd
    obtain ⟨w0, hw0⟩ : ∃ u, w.alloc (.cells #[.slice E ee f] 47) = u := ⟨_, rfl⟩
    have HS0 := Lib.hid (HSM.out w w0 (Below.refl _ _) hw0)
    have HB0 := Lib.hid (alloc_low hw0)
    clear HSM
    go_enter Try.func13, Try.ntmps13
    go_wp2_with fail
    refine HS0.out.mono ?_
    rintro _ u1 ⟨rfl, hb1⟩
    have HB1 := Lib.hid (HB0.out.trans (hb1.mono HB0.out.size))
    have HP1 := Lib.hid (HP.out u1 HB1.out)
    clear hb1 HS0 HP hw0
    cases b
    · have HZ2 : Hid (X = false) := by show _ = _; rw [HZ.out, Bool.and_false]
      go_wp2_with fail
      go_ret
      exact ⟨by rw [HZ2.out]; rfl, HB1.out⟩
    · obtain ⟨bb, hbb⟩ : ∃ b, (qb == 0) = b := ⟨_, rfl⟩
      have HZ2 : Hid (X = bb) := by show _ = _; rw [HZ.out, Bool.and_true, hbb]
      go_wp2_with fail
      refine HP1.out.mono ?_
      rintro _ u2 ⟨rfl, hb2⟩
      have HB2 := Lib.hid (HB1.out.trans (hb2.mono HB1.out.size))
      clear hb2 HP1
      go_wp2_with fail
      go_ret
      exact ⟨by rw [HZ2.out]; rfl, HB2.out⟩
  · obtain rfl : kk = 0 := by omega
    have HZ : Hid (X = false) := by show _ = _; rw [HX.out]; simp
    clear hl hg hk hs he hx hl1 hk1 he1 hlc hpc h0 HX hkd HP
    go_enter Try.func13, Try.ntmps13
    go_wp2_with fail
    go_ret
    exact ⟨by rw [HZ.out]; rfl, Below.refl _ _⟩
theorem rupCheck_any : RupCheckC := pRupCheck_any
theorem rupEnds_any : RupEndsC := pRupEnds_any
theorem rupFollowsC_any : RupFollowsC := fun n A B ll kk c d l s w hl hg hc hk hs hn hln hsn hl1 hk1 hlc => rupFollows_any n A B ll kk c d l s w hl hg hc hk hs hn hln hsn hl1 hk1 hlc
theorem known16 : KnownC16 := known16_any rupCheck_any rupEnds_any rupFollowsC_any
end Go.Proofs.Ytjkmdghlhodhiaa
