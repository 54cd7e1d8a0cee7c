/- Clauses: what is asked of all of them; CheckAll: walked. -/
import Derived.Test.YtjkmdghlhodhiaaEw
namespace Go.Proofs.Ytjkmdghlhodhiaa.Cl
open Go.RowKit Up
/-- How a row of clauses is refused, the first one's place being f. -/
def allE (n f : Int) (t : List (List Int)) : Ending := if nBad n = true then pan 1 else if 131072 < t.length then pan 4 else cOk (f + (firstC n 0 t).1) (firstC n 0 t).2
theorem allE_vars {n f : Int} {t : List (List Int)} (h : nBad n = true) : allE n f t = pan 1 := if_pos h
theorem allE_long {n f : Int} {t : List (List Int)} (h : nBad n = false) (h2 : 131072 < t.length) : allE n f t = pan 4 := by unfold allE; rw [h, if_neg (by decide), if_pos h2]
theorem allE_each {n f : Int} {t : List (List Int)} (h : nBad n = false) (h2 : ¬ 131072 < t.length) : allE n f t = cOk (f + (firstC n 0 t).1) (firstC n 0 t).2 := by unfold allE; rw [h, if_neg (by decide), if_neg h2]
attribute [local go_sem ↓] Go.wp_at_zero Go.wp_at_succ
set_option maxRecDepth 100000 in
set_option maxHeartbeats 1600000 in
theorem reqAll_any (n : Int) (A : Option Addr) (m c : Nat) (t : List (List Int)) (f : Int) (hf0 : 0 ≤ f) (hf1 : f ≤ 1000) (w : World) (hm : t.length = m) (hr : GRow w A t) :
    Calls Try.prog 39 #[.int .i64 n, .slice A m c, .int .i64 f] w fun e w' => e = allE n f t ∧ Below w.heap.size w w' := by
  have HV := Lib.hid (reqVars_any n w)
  have HR := Lib.hid hr
  have HM := Lib.hid hm
  by_cases hn : nBad n = true
  · have HX : Hid (allE n f t = pan 1) := allE_vars hn
    have HV2 : Hid (Calls Try.prog 46 #[.int .i64 n] w fun e w' => e = pan 1 ∧ w = w') := HV.out.mono fun _ _ h => ⟨by rw [h.1, hn]; rfl, h.2⟩
    clear hn hm hr HV
    go_enter Try.func39, Try.ntmps39
    go_wp2_with fail
    refine HV2.out.mono ?_
    rintro _ z ⟨rfl, rfl⟩
    go_wp2_with fail
    exact ⟨rfl, HX.out.symm, Below.refl _ _⟩
  have hn' : nBad n = false := by simpa using hn
  have HNB := Lib.hid hn'
  have HV2 : Hid (Calls Try.prog 46 #[.int .i64 n] w fun e w' => e = .returned (.tuple #[]) ∧ w = w') := HV.out.mono fun _ _ h => ⟨by rw [h.1, hn']; rfl, h.2⟩
  by_cases hl : 131072 < m
  · have HX : Hid (allE n f t = pan 4) := allE_long hn' (by rw [hm]; exact hl)
    have d : decide ((m : Int) ≤ 131072) = false := decide_eq_false (by omega)
    clear hn hn' hm hr HV hl HNB
    go_enter Try.func39, Try.ntmps39
    go_wp2_with fail
    refine HV2.out.mono ?_
    rintro _ z ⟨rfl, rfl⟩
    go_wp2_with fail
    refine (require_no _).mono ?_
    rintro _ z ⟨rfl, rfl⟩
    go_wp2_with fail
    exact ⟨rfl, HX.out.symm, Below.refl _ _⟩
  have HX : Hid (allE n f t = cOk (f + (firstC n 0 t).1) (firstC n 0 t).2) := allE_each hn' (by rw [hm]; exact hl)
  have d : decide ((m : Int) ≤ 131072) = true := decide_eq_true (by omega)
  have HML : Hid (m ≤ 131072) := by show _ ≤ _; omega
  have hml := HML.out
  have HF : Hid (0 ≤ f ∧ f ≤ 1000) := ⟨hf0, hf1⟩
  rw [HX.out]
  clear hn hn' hm hr HV hl HX hf0 hf1
  go_enter Try.func39, Try.ntmps39
  go_wp2_with fail
  refine HV2.out.mono ?_
  rintro _ z ⟨rfl, rfl⟩
  go_wp2_with fail
  refine (require_yes _).mono ?_
  rintro _ z ⟨rfl, rfl⟩
  clear d
  go_wp2_with fail
  go_loopw [16] (fun i wr => ∃ k : Nat, k ≤ m ∧ i = .int .i64 k ∧ Hid (∀ c ∈ t.take k, checkC n c = 0) ∧ Hid (Below w.heap.size w wr)) (fun i _ => m - (intOf i).toNat)
  case atStart => exact ⟨0, Nat.zero_le _, rfl, (fun x h => absurd h (by simp)), Below.refl _ _⟩
  case round =>
    obtain ⟨k, hk, rfl, HT, HB⟩ := hrel
    by_cases hlt : k < m
    · have HKL := Lib.hid hlt
      have hkl : k < t.length := by rw [HM.out]; exact hlt
      obtain ⟨ad, C, q, qc, x, rfl, hb, hc, hx, hxl, hxr⟩ := grow_at (Gr.row_below HR.out HB.out) k hkl
      have HC := Lib.hid (reqClause_any n HNB.out C q qc x (f + k) wr hxl hxr)
      have HY : Hid (clE n x = 0 → ∀ c ∈ t.take (k + 1), checkC n c = 0) := fun h c hc => by
        rw [List.take_succ_eq_append_getElem hkl] at hc
        rcases List.mem_append.1 hc with h1 | h1
        · exact HT.out c h1
        · rw [List.mem_singleton.1 h1, hx, clE_check HNB.out]; exact h
      have HNo : Hid (clE n x ≠ 0 → firstC n 0 t = (k, clE n x)) := fun h => by
        rw [firstC_bad n t 0 k hkl HT.out (by rw [hx, clE_check HNB.out]; exact h), hx, clE_check HNB.out, Nat.zero_add]
      have hwr : IntKind.i64.wrap (f + (k : Int)) = f + (k : Int) := IntWalk.i64_in _ (by have := HF.out; have := HML.out; omega)
      obtain ⟨E, hE⟩ : ∃ E, clE n x = E := ⟨_, rfl⟩
      rw [hE] at HC HY HNo
      clear hb hkl hx hxl hxr hE
      go_wp2_with fail
      refine HC.out.mono ?_
      rintro _ u ⟨rfl, hb⟩
      have HBU : Hid (Below w.heap.size w u) := HB.out.trans (hb.mono HB.out.size)
      clear hb HC hc
      by_cases hE : E = 0
      · rw [hE, cOk_zero]
        have HT2 := Lib.hid (HY.out hE)
        clear hE HY HNo
        go_wp2_with fail
        go_roundw
        case rel => exact ⟨k + 1, (by have := HKL.out; omega), by go_num, HT2.out, HBU.out⟩
        case measure => have := HKL.out; simp [intOf]; omega
      · rw [cOk_ne hE]
        have HFF := Lib.hid (HNo.out hE)
        have HE := Lib.hid hE
        clear hE HY HNo
        go_wp2_with fail
        exact ⟨rfl, by rw [HFF.out]; exact (cOk_ne HE.out).symm, HBU.out⟩
    · obtain rfl : k = m := by omega
      have HFF : Hid (firstC n 0 t = (0, 0)) := firstC_ok n t 0 fun c h => HT.out c (by rw [List.take_of_length_le (by rw [HM.out]; exact Nat.le_refl _)]; exact h)
      go_wp2_with fail
      go_end0
      exact ⟨by rw [HFF.out]; rfl, HB.out⟩
/-! CheckAll. -/
theorem chkA_panic (p q : Addr) (x y n : Int) (w : World) (hc : w.cell? p = some (.int .i64 x)) (hz : w.frozen? p = false) (hc2 : (w.setCell p (.int .i64 0)).cell? q = some (.int .i64 y)) (hz2 : (w.setCell p (.int .i64 0)).frozen? q = false) :
    CallsD Try.prog 38 #[.pointer (some p), .pointer (some q)] (.panicking [{ v := .iface 26 (.int .i64 n), recovered := false }]) w fun e u' w' =>
      e = .returned (.tuple #[]) ∧ u' = .panicking [{ v := .iface 26 (.int .i64 n), recovered := true }] ∧ w' = (w.setCell p (.int .i64 0)).setCell q (.int .i64 n) := by
  refine callsD_of_wpS Try.func38 rfl fun c₀ cs hu => ?_
  apply wpS_region
  simp [wpOpsS, go_sem, recoverD, hu, Try.ntmps38]
  refine (raisedAt_err n _).mono ?_
  rintro e w' ⟨rfl, rfl⟩
  simp [go_sem, hc, hz, hc2, hz2, bodyPostS, results, Try.results38]
theorem chkA_placed (p q : Addr) (x y k n : Int) (w : World) (hc : ∀ u, Below w.heap.size w u → u.cell? p = some (.int .i64 x)) (hz : ∀ u, Below w.heap.size w u → u.frozen? p = false) (hc2 : ∀ u, Below w.heap.size w u → (u.setCell p (.int .i64 k)).cell? q = some (.int .i64 y)) (hz2 : ∀ u, Below w.heap.size w u → (u.setCell p (.int .i64 k)).frozen? q = false) :
    CallsD Try.prog 38 #[.pointer (some p), .pointer (some q)] (.panicking [{ v := .iface 66 (.agg #[.int .i64 k, .int .i64 n]), recovered := false }]) w fun e u' w' =>
      e = .returned (.tuple #[]) ∧ u' = .panicking [{ v := .iface 66 (.agg #[.int .i64 k, .int .i64 n]), recovered := true }] ∧ ∃ u, Below w.heap.size w u ∧ w' = (u.setCell p (.int .i64 k)).setCell q (.int .i64 n) := by
  refine callsD_of_wpS Try.func38 rfl fun c₀ cs hu => ?_
  apply wpS_region
  simp [wpOpsS, go_sem, recoverD, hu, Try.ntmps38]
  refine (cRaisedAt k n _).mono ?_
  rintro e w' ⟨rfl, hb⟩
  simp [go_sem, hc _ hb, hz _ hb, hc2 _ hb, hz2 _ hb, bodyPostS, results, Try.results38]
  exact ⟨w', hb, rfl⟩
theorem chkA_idle (p q : Addr) (x y : Int) (w : World) (hc : w.cell? p = some (.int .i64 x)) (hz : w.frozen? p = false) (hc2 : (w.setCell p (.int .i64 0)).cell? q = some (.int .i64 y)) (hz2 : (w.setCell p (.int .i64 0)).frozen? q = false) :
    CallsD Try.prog 38 #[.pointer (some p), .pointer (some q)] .returning w fun e u' w' => e = .returned (.tuple #[]) ∧ u' = .returning ∧ w' = (w.setCell p (.int .i64 0)).setCell q (.int .i64 0) := by
  refine callsD_of_wpS Try.func38 rfl fun c₀ cs hu => ?_
  apply wpS_region
  simp [wpOpsS, go_sem, recoverD, hu, Try.ntmps38]
  refine (raisedAt_nil _).mono ?_
  rintro e w' ⟨rfl, rfl⟩
  cases c₀
  simp_all [go_sem, bodyPostS, results, Try.results38]
theorem firstC_zero (n : Int) (t : List (List Int)) (h : (firstC n 0 t).2 = 0) : (firstC n 0 t).1 = 0 := by rw [(firstC_all n t 0 h).1]
set_option maxRecDepth 100000 in
set_option maxHeartbeats 1600000 in
theorem pCheckAll_any (n : Int) (A : Option Addr) (m c : Nat) (t : List (List Int)) (w : World) (hm : t.length = m) (hr : GRow w A t) :
    Calls Try.prog 25 #[.int .i64 n, .slice A m c] w fun e w' => e = .returned (.tuple #[.int .i64 ((checkAll n t).1 : Int), .int .i64 (checkAll n t).2]) ∧ Below w.heap.size w w' := by
  have hmf : ∀ (fn : Fn) (first cap : Array Value) (w : World), (Instr.makeFunc fn first cap).run Try.prog w = .ok (.func fn first cap) w := fun _ _ _ _ => rfl
  obtain ⟨⟨x, y⟩, hX⟩ : ∃ X, checkAll n t = X := ⟨_, rfl⟩
  rw [hX]
  obtain ⟨W1, hW1⟩ : ∃ W, w.alloc (.cells #[.int .i64 0] 3) = W := ⟨_, rfl⟩
  obtain ⟨W2, hW2⟩ : ∃ W, W1.alloc (.cells #[.int .i64 0] 26) = W := ⟨_, rfl⟩
  have HPC : Hid (∀ u, Below W2.heap.size W2 u → R2 w.heap.size u) := fun u hb => r2_of hW1 hW2 hb
  have hs1 : W1.heap.size = w.heap.size + 1 := by rw [← hW1]; simp
  have HBW : Hid (Below w.heap.size w W2) := (alloc_low hW1).trans ((alloc_low hW2).mono (alloc_low hW1).size)
  have HQ := Lib.hid (reqAll_any n A m c t 0 (by decide) (by decide) W2 hm (Gr.row_below hr HBW.out))
  -- how it ends
  have HEnd : Hid ((∃ k, allE n 0 t = pan k ∧ x = 0 ∧ y = k) ∨ (allE n 0 t = cOk x y ∧ (y = 0 → x = 0))) := by
    show _ ∨ _
    unfold checkAll at hX
    unfold allE
    by_cases h1 : nBad n = true
    · rw [if_pos h1] at hX; cases hX
      exact .inl ⟨1, if_pos h1, rfl, rfl⟩
    · rw [if_neg h1] at hX ⊢
      by_cases h2 : 131072 < t.length
      · rw [if_pos h2] at hX; cases hX
        exact .inl ⟨4, if_pos h2, rfl, rfl⟩
      · rw [if_neg h2] at hX ⊢
        refine .inr ⟨by rw [hX, Int.zero_add], fun h => ?_⟩
        have := firstC_zero n t (by rw [hX]; exact h)
        rw [hX] at this; exact this
  clear hm hr hX
  obtain ⟨E, hE⟩ : ∃ E, allE n 0 t = E := ⟨_, rfl⟩
  rw [hE] at HQ HEnd
  clear hE
  rcases HEnd.out with ⟨k, rfl, rfl, rfl⟩ | ⟨rfl, h0⟩
  · clear HEnd
    go_enter_defers Try.func25, Try.ntmps25
    go_wp2_with fail
    clear hW1 hW2
    refine HQ.out.mono ?_
    rintro _ z1 ⟨rfl, hb⟩
    have HB := Lib.hid hb
    clear hb
    obtain ⟨c0, f0, c1, f1⟩ := r2_cells (HPC.out _ HB.out)
    obtain ⟨d0, g0, d1, g1⟩ := r2_after (HPC.out _ HB.out) (.int .i64 0)
    obtain ⟨q0, q1⟩ := r2_both (HPC.out _ HB.out) (.int .i64 0) (.int .i64 y)
    go_wp2_with fail
    refine leaves_cons (f := 38) (args := #[.pointer (some ⟨w.heap.size, 0, none⟩), .pointer (some ⟨w.heap.size + 1, 0, none⟩)]) (by simp) (by simp [go_sem]) ?_
    refine (chkA_panic ⟨w.heap.size, 0, none⟩ ⟨w.heap.size + 1, 0, none⟩ 0 0 y _ c0 f0 d1 g1).mono ?_
    rintro e u' w3 ⟨rfl, rfl, rfl⟩
    simp [Leaves, settle, results, Try.results25, go_sem, q0, q1]
    exact ((HBW.out.trans (HB.out.mono HBW.out.size)).setCell (Nat.le_refl _) _).setCell (Nat.le_succ _) _
  · clear HEnd
    have HN0 := Lib.hid h0
    clear h0
    go_enter_defers Try.func25, Try.ntmps25
    go_wp2_with fail
    clear hW1 hW2
    refine HQ.out.mono ?_
    rintro _ z1 ⟨rfl, hb⟩
    have HB := Lib.hid hb
    clear hb
    by_cases hy : y = 0
    · subst hy
      obtain rfl := HN0.out rfl
      rw [cOk_zero]
      obtain ⟨c0, f0, c1, f1⟩ := r2_cells (HPC.out _ HB.out)
      obtain ⟨d0, g0, d1, g1⟩ := r2_after (HPC.out _ HB.out) (.int .i64 0)
      have HP2 := Lib.hid (r2_again (HPC.out _ HB.out))
      have HBV : Hid (Below w.heap.size w ((z1.setCell ⟨w.heap.size, 0, none⟩ (.int .i64 0)).setCell ⟨w.heap.size + 1, 0, none⟩ (.int .i64 0))) := ((HBW.out.trans (HB.out.mono HBW.out.size)).setCell (Nat.le_refl _) _).setCell (Nat.le_succ _) _
      go_wp2_with fail
      generalize (z1.setCell ⟨w.heap.size, 0, none⟩ (.int .i64 0)).setCell ⟨w.heap.size + 1, 0, none⟩ (.int .i64 0) = V at *
      obtain ⟨k0, m0, k1, m1⟩ := r2_cells HP2.out
      obtain ⟨l0, o0, l1, o1⟩ := r2_after HP2.out (.int .i64 0)
      obtain ⟨q0, q1⟩ := r2_both HP2.out (.int .i64 0) (.int .i64 0)
      refine leaves_cons (f := 38) (args := #[.pointer (some ⟨w.heap.size, 0, none⟩), .pointer (some ⟨w.heap.size + 1, 0, none⟩)]) (by simp) (by simp [go_sem]) ?_
      refine (chkA_idle ⟨w.heap.size, 0, none⟩ ⟨w.heap.size + 1, 0, none⟩ 0 0 _ k0 m0 l1 o1).mono ?_
      rintro e u' w3 ⟨rfl, rfl, rfl⟩
      simp [Leaves, settle, results, Try.results25, go_sem, q0, q1]
      exact (HBV.out.setCell (Nat.le_refl _) _).setCell (Nat.le_succ _) _
    · rw [cOk_ne hy]
      clear hy
      go_wp2_with fail
      refine leaves_cons (f := 38) (args := #[.pointer (some ⟨w.heap.size, 0, none⟩), .pointer (some ⟨w.heap.size + 1, 0, none⟩)]) (by simp) (by simp [go_sem]) ?_
      refine (chkA_placed ⟨w.heap.size, 0, none⟩ ⟨w.heap.size + 1, 0, none⟩ 0 0 x y _ (fun u hb => (r2_cells (HPC.out _ (HB.out.trans (hb.mono HB.out.size)))).1) (fun u hb => (r2_cells (HPC.out _ (HB.out.trans (hb.mono HB.out.size)))).2.1) (fun u hb => (r2_after (HPC.out _ (HB.out.trans (hb.mono HB.out.size))) _).2.2.1) (fun u hb => (r2_after (HPC.out _ (HB.out.trans (hb.mono HB.out.size))) _).2.2.2)).mono ?_
      rintro e u' w3 ⟨rfl, rfl, u, hb, rfl⟩
      have HBU := Lib.hid (HB.out.trans (hb.mono HB.out.size))
      obtain ⟨q0, q1⟩ := r2_both (HPC.out _ HBU.out) (.int .i64 x) (.int .i64 y)
      simp [Leaves, settle, results, Try.results25, go_sem, q0, q1]
      exact ((HBW.out.trans (HBU.out.mono HBW.out.size)).setCell (Nat.le_refl _) _).setCell (Nat.le_succ _) _
theorem checkAllC_any (Q : World → Prop) : CheckAllC Q := fun n A m c t w hm hr _ _ _ => pCheckAll_any n A m c t w hm hr
end Go.Proofs.Ytjkmdghlhodhiaa.Cl
