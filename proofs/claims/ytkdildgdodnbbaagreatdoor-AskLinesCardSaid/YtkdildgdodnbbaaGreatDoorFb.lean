/- What is asked of an ask; Check: the program's, walked. What the reference asks of an ask: walked. Asks compared: the program's same, EqualFunc, Same, walked. Rows of asks compared, as the reference does: walked. -/
import Derived.Test.YtkdildgdodnbbaaGreatDoorFa
import Derived.Defers
namespace Go.Proofs.YtkdildgdodnbbaaGreatDoor
open Go.RowKit Rs At Pg Ak
theorem raised_placed (k n : Int) {o : Int} (w : World) :
    Calls Tryz.prog 27 #[.iface 95 (.agg #[.int .i64 k, .int .i64 n]), .int .i64 o] w fun e w' => e = .returned (.int .i64 n) ∧ Below w.heap.size w w' := by
  go_enter Tryz.func27, Tryz.ntmps27
  go_wp2_with fail
  refine (raisedAt_placed k n _).mono ?_
  rintro _ w' ⟨rfl, hb⟩
  have HB := Lib.hid hb
  clear hb
  go_wp2_with fail
  go_ret
  exact ⟨rfl, HB.out⟩
theorem qCheck_panic (p : Addr) (x : Int) (n : Int) (w : World) (hc : w.cell? p = some (.int .i64 x)) (hz : w.frozen? p = false) :
    CallsD Tryz.prog 26 #[.pointer (some p)] (.panicking [{ v := .iface 27 (.int .i64 n), recovered := false }]) w fun e u' w' =>
      e = .returned (.tuple #[]) ∧ u' = .panicking [{ v := .iface 27 (.int .i64 n), recovered := true }] ∧ w' = w.setCell p (.int .i64 n) := by
  refine callsD_of_wpS Tryz.func26 rfl fun c₀ cs hu => ?_
  apply wpS_region
  simp [wpOpsS, go_sem, recoverD, hu, Tryz.ntmps26]
  refine (raised_err n _).mono ?_
  rintro e w' ⟨rfl, rfl⟩
  simp [go_sem, hc, hz, bodyPostS, results, Tryz.results26]
theorem qCheck_placed (p : Addr) (x : Int) (k n : Int) (w : World) (hc : ∀ u, Below w.heap.size w u → u.cell? p = some (.int .i64 x)) (hz : ∀ u, Below w.heap.size w u → u.frozen? p = false) :
    CallsD Tryz.prog 26 #[.pointer (some p)] (.panicking [{ v := .iface 95 (.agg #[.int .i64 k, .int .i64 n]), recovered := false }]) w fun e u' w' =>
      e = .returned (.tuple #[]) ∧ u' = .panicking [{ v := .iface 95 (.agg #[.int .i64 k, .int .i64 n]), recovered := true }] ∧ ∃ u, Below w.heap.size w u ∧ w' = u.setCell p (.int .i64 n) := by
  refine callsD_of_wpS Tryz.func26 rfl fun c₀ cs hu => ?_
  apply wpS_region
  simp [wpOpsS, go_sem, recoverD, hu, Tryz.ntmps26]
  refine (raised_placed k n _).mono ?_
  rintro e w' ⟨rfl, hb⟩
  simp [go_sem, hc _ hb, hz _ hb, bodyPostS, results, Tryz.results26]
  exact ⟨w', hb, rfl⟩
theorem qCheck_idle (p : Addr) (x : Int) (w : World) (hc : w.cell? p = some (.int .i64 x)) (hz : w.frozen? p = false) :
    CallsD Tryz.prog 26 #[.pointer (some p)] .returning w fun e u' w' => e = .returned (.tuple #[]) ∧ u' = .returning ∧ w' = w.setCell p (.int .i64 0) := by
  refine callsD_of_wpS Tryz.func26 rfl fun c₀ cs hu => ?_
  apply wpS_region
  simp [wpOpsS, go_sem, recoverD, hu, Tryz.ntmps26]
  refine (raised_nil _).mono ?_
  rintro e w' ⟨rfl, rfl⟩
  cases c₀
  simp_all [go_sem, bodyPostS, results, Tryz.results26]
attribute [local go_sem ↓] Go.wp_at_zero Go.wp_at_succ
set_option maxHeartbeats 400000 in
theorem isKind_any (k : Int) (w : World) :
    Calls Tryz.prog 52 #[.int .i64 k] w fun e w' => e = .returned (.bool (decide (1 ≤ k) && decide (k ≤ 4))) ∧ w = w' := by
  obtain ⟨R, hR⟩ : ∃ R, (decide (1 ≤ k) && decide (k ≤ 4)) = R := ⟨_, rfl⟩
  rw [hR]
  by_cases h1 : 1 ≤ k
  · have d1 : decide ((1 : Int) ≤ k) = true := decide_eq_true h1
    obtain ⟨b, hb⟩ : ∃ b, decide (k ≤ 4) = b := ⟨_, rfl⟩
    have HR : Hid (b = R) := by rw [d1, hb] at hR; exact hR
    clear hR h1
    go_enter Tryz.func52, Tryz.ntmps52
    go_wp2_with fail
    go_ret
    exact ⟨by rw [HR.out]; rfl, rfl⟩
  · have d1 : decide ((1 : Int) ≤ k) = false := decide_eq_false h1
    have HR : Hid (false = R) := by rw [d1] at hR; exact hR
    clear hR h1
    go_enter Tryz.func52, Tryz.ntmps52
    go_wp2_with fail
    go_ret
    exact ⟨by rw [HR.out]; rfl, rfl⟩
set_option maxHeartbeats 400000 in
theorem takes_any (k : Int) (w : World) :
    Calls Tryz.prog 54 #[.int .i64 k] w fun e w' => e = .returned (.bool (!(k == 2) && !(k == 3))) ∧ w = w' := by
  obtain ⟨R, hR⟩ : ∃ R, (!(k == 2) && !(k == 3)) = R := ⟨_, rfl⟩
  rw [hR]
  cases h2 : k == 2
  · rw [h2] at hR
    have h2' : (k != 2) = true := by show (!(k == 2)) = true; rw [h2]; rfl
    cases h3 : k == 3
    · have h3' : (k != 3) = true := by show (!(k == 3)) = true; rw [h3]; rfl
      have HR : Hid (true = R) := by rw [h3] at hR; exact hR
      clear hR
      go_enter Tryz.func54, Tryz.ntmps54
      go_wp2_with fail
      go_ret
      exact ⟨by rw [← HR.out]; rfl, rfl⟩
    · have h3' : (k != 3) = false := by show (!(k == 3)) = false; rw [h3]; rfl
      have HR : Hid (false = R) := by rw [h3] at hR; exact hR
      clear hR
      go_enter Tryz.func54, Tryz.ntmps54
      go_wp2_with fail
      go_ret
      exact ⟨by rw [← HR.out]; rfl, rfl⟩
  · rw [h2] at hR
    have h2' : (k != 2) = false := by show (!(k == 2)) = false; rw [h2]; rfl
    have HR : Hid (false = R) := hR
    clear hR
    go_enter Tryz.func54, Tryz.ntmps54
    go_wp2_with fail
    go_ret
    exact ⟨by rw [← HR.out]; rfl, rfl⟩
/-- An ask's own block. -/
def Ak.QBk (b : Nat) (k : Int) (nm : List UInt8) (A : Option Addr) (n c : Nat) (u : World) : Prop := u.cell? ⟨b, 0, none⟩ = some (.int .i64 k) ∧ u.cell? ⟨b, 1, none⟩ = some (.string ⟨nm.toArray⟩) ∧ u.cell? ⟨b, 2, none⟩ = some (.slice A n c)
theorem Ak.qbk_of {w W1 u : World} {k : Int} {nm : List UInt8} {A : Option Addr} {n c : Nat} {T : TypeId} (h : w.alloc (.cells #[.int .i64 k, .string ⟨nm.toArray⟩, .slice A n c] T) = W1) (hb : Below W1.heap.size W1 u) : QBk w.heap.size k nm A n c u := by
  have e1 : u.heap[w.heap.size]? = some (.cells #[.int .i64 k, .string ⟨nm.toArray⟩, .slice A n c] T (0, 0)) := (hb.block _ (by rw [← h]; simp)).trans (by rw [← h]; exact heap_alloc_new w _)
  refine ⟨?_, ?_, ?_⟩ <;> simp [World.cell?, e1]
theorem Ak.checkQ_kind {a : Rq} (h : (decide (1 ≤ a.kind) && decide (a.kind ≤ 4)) = false) : checkQ a = 1 := by
  unfold checkQ
  refine if_pos ?_
  rw [Bool.and_eq_false_iff] at h
  rcases h with h | h
  · exact Or.inl (by have := of_decide_eq_false h; omega)
  · exact Or.inr (by have := of_decide_eq_false h; omega)
theorem Ak.checkQ_atm {a : Rq} (h : (decide (1 ≤ a.kind) && decide (a.kind ≤ 4)) = true) : checkQ a = if checkA a.atm = 0 then (if (a.kind = 2 ∨ a.kind = 3) ∧ a.atm.rng ≠ allS then 1 else 0) else checkA a.atm := by
  unfold checkQ
  rw [Bool.and_eq_true] at h
  have h1 := of_decide_eq_true h.1
  have h2 := of_decide_eq_true h.2
  exact if_neg (by omega)
theorem Ak.checkQ_takes {a : Rq} (h : (decide (1 ≤ a.kind) && decide (a.kind ≤ 4)) = true) (h0 : checkA a.atm = 0) : ((!(a.kind == 2) && !(a.kind == 3)) = true → checkQ a = 0) ∧ ((!(a.kind == 2) && !(a.kind == 3)) = false → checkQ a = if decide (a.atm.rng = allS) = true then 0 else 1) := by
  rw [checkQ_atm h, if_pos h0]
  constructor
  · intro h1
    rw [Bool.and_eq_true] at h1
    refine if_neg fun h2 => ?_
    rcases h2.1 with e | e
    · rw [e] at h1; exact absurd h1.1 (by decide)
    · rw [e] at h1; exact absurd h1.2 (by decide)
  · intro h1
    have h2 : a.kind = 2 ∨ a.kind = 3 := by
      rw [Bool.and_eq_false_iff] at h1
      rcases h1 with e | e
      · exact Or.inl (by simpa using e)
      · exact Or.inr (by simpa using e)
    by_cases h3 : a.atm.rng = allS
    · rw [if_neg (fun h => h.2 h3), decide_eq_true h3, if_pos rfl]
    · rw [if_pos ⟨h2, h3⟩, decide_eq_false h3, if_neg (by decide)]
set_option maxRecDepth 100000 in
set_option maxHeartbeats 1600000 in
theorem requireAsk_any (k : Int) (nm : List UInt8) (A : Option Addr) (n c : Nat) (l : List Sp) (i : Nat) (w : World) (hw : MaxOk w) (hm : nm.length ≤ maxLen) (hn : l.length = n) (hr : SRow w A l) (hl : n ≤ 1000) :
    Calls Tryz.prog 28 #[.agg #[.int .i64 k, .string ⟨nm.toArray⟩, .slice A n c], .int .i64 i] w fun e w' => e = okAt i (checkQ ⟨k, ⟨nm, l⟩⟩) ∧ Below w.heap.size w w' := by
  obtain ⟨R, hR⟩ : ∃ R, checkQ ⟨k, ⟨nm, l⟩⟩ = R := ⟨_, rfl⟩
  rw [hR]
  obtain ⟨W1, hW1⟩ : ∃ W, w.alloc (.cells #[.int .i64 k, .string ⟨nm.toArray⟩, .slice A n c] 34) = W := ⟨_, rfl⟩
  have HB1 : Hid (Below w.heap.size w W1) := alloc_low hW1
  have HQ : Hid (∀ u, Below W1.heap.size W1 u → QBk w.heap.size k nm A n c u) := fun u hb => qbk_of hW1 hb
  have HS1 : Hid (St W1 W1 [⟨A, n, l⟩]) := ⟨maxOk_below hw HB1.out, Below.refl _ _, fun x hx => by
    rw [List.mem_singleton.1 hx]; exact ⟨srow_below hr HB1.out, hn⟩⟩
  have HK := Lib.hid (isKind_any k W1)
  have HKB := Lib.hid (@Ak.checkQ_kind ⟨k, ⟨nm, l⟩⟩)
  have HKA := Lib.hid (@Ak.checkQ_atm ⟨k, ⟨nm, l⟩⟩)
  have HKT := Lib.hid (@Ak.checkQ_takes ⟨k, ⟨nm, l⟩⟩)
  rw [hR] at HKB HKA HKT
  dsimp only at HKB HKA HKT
  obtain ⟨q0, q1, q2⟩ := HQ.out _ (Below.refl _ _)
  obtain ⟨K, hK⟩ : ∃ K, (decide (1 ≤ k) && decide (k ≤ 4)) = K := ⟨_, rfl⟩
  rw [hK] at HK HKB HKA HKT
  obtain ⟨C, hC⟩ : ∃ C, checkA ⟨nm, l⟩ = C := ⟨_, rfl⟩
  rw [hC] at HKA HKT
  have HC := Lib.hid (s4_check HS1.out 0 rfl hl c nm hm C hC)
  clear hR hK hC hw hr hn
  cases K
  · have HR : Hid (R = 1) := HKB.out rfl
    clear HKB HKA HKT HC
    go_enter Tryz.func28, Tryz.ntmps28
    go_wp2_with fail
    clear hW1
    refine HK.out.mono ?_
    rintro _ z ⟨rfl, rfl⟩
    go_wp2_with fail
    refine (requireAt_no _).mono ?_
    rintro _ z ⟨rfl, rfl⟩
    go_wp2_with fail
    exact ⟨rfl, by rw [HR.out]; rfl, HB1.out⟩
  have HA := Lib.hid (HKA.out rfl)
  have HT := Lib.hid (HKT.out rfl)
  clear HKB HKA HKT
  by_cases h0 : C = 0
  case neg =>
    have HR : Hid (R = C) := by show _ = _; rw [HA.out, if_neg h0]
    have HN : Hid (okAt i C = panAt i C) := okAt_ne h0
    have d0 : (C == 0) = false := beq_eq_false_iff_ne.2 h0
    clear HA HT h0
    go_enter Tryz.func28, Tryz.ntmps28
    go_wp2_with fail
    clear hW1
    refine HK.out.mono ?_
    rintro _ z ⟨rfl, rfl⟩
    go_wp2_with fail
    refine (requireAt_yes _).mono ?_
    rintro _ z ⟨rfl, rfl⟩
    go_wp2_with fail
    refine HC.out.mono ?_
    rintro _ u ⟨rfl, hs⟩
    have HB2 : Hid (Below w.heap.size w u) := HB1.out.trans (hs.2.1.mono HB1.out.size)
    clear hs q0 q1 q2
    go_wp2_with fail
    refine (requireAt_no _).mono ?_
    rintro _ z ⟨rfl, rfl⟩
    go_wp2_with fail
    exact ⟨rfl, by rw [HR.out, HN.out], HB2.out⟩
  subst h0
  obtain ⟨t1, t2⟩ := HT.out rfl
  have HT1 := Lib.hid t1
  have HT2 := Lib.hid t2
  have HTK := Lib.hid (takes_any k)
  obtain ⟨Z, hZ⟩ : ∃ Z, (!(k == 2) && !(k == 3)) = Z := ⟨_, rfl⟩
  rw [hZ] at HT1 HT2 HTK
  clear HA HT t1 t2 hZ
  cases Z
  · have HR := Lib.hid (HT2.out rfl)
    clear HT1 HT2
    go_enter Tryz.func28, Tryz.ntmps28
    go_wp2_with fail
    clear hW1
    refine HK.out.mono ?_
    rintro _ z ⟨rfl, rfl⟩
    go_wp2_with fail
    refine (requireAt_yes _).mono ?_
    rintro _ z ⟨rfl, rfl⟩
    go_wp2_with fail
    refine HC.out.mono ?_
    rintro _ u ⟨rfl, hs⟩
    have HS2 := Lib.hid hs
    have HU : Hid (Below W1.heap.size W1 u) := hs.2.1
    clear hs q0 q1 q2 HC
    obtain ⟨b, hb⟩ : ∃ b, decide (l = allS) = b := ⟨_, rfl⟩
    rw [hb] at HR
    have HBB := Lib.hid hb
    have HB2 : Hid (Below w.heap.size w u) := HB1.out.trans (HU.out.mono HB1.out.size)
    obtain ⟨q0, q1, q2⟩ := HQ.out _ HU.out
    clear hb q1
    go_wp2_with fail
    refine (requireAt_yes _).mono ?_
    rintro _ z ⟨rfl, rfl⟩
    go_wp2_with fail
    have HSD : Hid (St W1 u.drew [⟨A, n, l⟩]) := st_step HS2.out (Below.refl _ _).drew
    obtain ⟨d0, _, d2⟩ := HQ.out _ HSD.out.2.1
    cases b
    · have HRR : Hid (R = 1) := HR.out
      go_region_with (first
        | (go_at_call 54; refine (HTK.out _).mono ?_; rintro _ z2 ⟨rfl, rfl⟩)
        | (go_at_call 51; refine (requireAt_no _).mono ?_; rintro _ z ⟨rfl, rfl⟩; refine ends_at (P := Tryz.prog) (a := { tmps := #[], defers := [] }) (w := w) ?_)
        | (go_at_call 47; refine (s_same HS3.out 1 0 rfl rfl hl (by rw [show n3 = 1 from (st_row HS3.out 0 rfl).2.symm]; decide) _ _ false HBB.out).mono ?_; rintro _ u4 ⟨rfl, hs⟩; have HS4 := Lib.hid hs; clear hs)
        | (go_at_call 22; refine (s_all HSD.out allR rfl).mono ?_; rintro _ u3 ⟨C3, n3, e3, rfl, hs⟩; have HS3 := Lib.hid hs; clear hs; obtain ⟨f0, _, f2⟩ := HQ.out _ HS3.out.2.1))
      all_goals exact ⟨rfl, by rw [HRR.out]; rfl, HB1.out.trans (HS4.out.2.1.mono HB1.out.size)⟩
    · have HRR : Hid (R = 0) := HR.out
      go_region_held3 (fun w' => w'.cell? ⟨w.heap.size, 0, none⟩ = some (.int .i64 k) ∧ w'.cell? ⟨w.heap.size, 2, none⟩ = some (.slice A n c))
        (first
          | exact ⟨d0, d2⟩
          | exact ⟨(HQ.out _ HS3.out.2.1).1, (HQ.out _ HS3.out.2.1).2.2⟩
          | exact ⟨(HQ.out _ HS4.out.2.1).1, (HQ.out _ HS4.out.2.1).2.2⟩)
        (first
        | (go_at_call 54; refine (HTK.out _).mono ?_; rintro _ z2 ⟨rfl, rfl⟩)
        | (go_at_call 51; refine (requireAt_yes _).mono ?_; rintro _ z ⟨rfl, rfl⟩)
        | (go_at_call 47; refine (s_same HS3.out 1 0 rfl rfl hl (by rw [show n3 = 1 from (st_row HS3.out 0 rfl).2.symm]; decide) _ _ true HBB.out).mono ?_; rintro _ u4 ⟨rfl, hs⟩; have HS4 := Lib.hid hs; clear hs)
        | (go_at_call 22; refine (s_all HSD.out allR rfl).mono ?_; rintro _ u3 ⟨C3, n3, e3, rfl, hs⟩; have HS3 := Lib.hid hs; clear hs))
      have HB4 : Hid (Below w.heap.size w u4) := HB1.out.trans (HS4.out.2.1.mono HB1.out.size)
      go_wp2_with fail
      go_end0
      exact ⟨by rw [HRR.out]; rfl, HB4.out⟩
  · have HR := Lib.hid (HT1.out rfl)
    clear HT1 HT2
    go_enter Tryz.func28, Tryz.ntmps28
    go_wp2_with fail
    clear hW1
    refine HK.out.mono ?_
    rintro _ z ⟨rfl, rfl⟩
    go_wp2_with fail
    refine (requireAt_yes _).mono ?_
    rintro _ z ⟨rfl, rfl⟩
    go_wp2_with fail
    refine HC.out.mono ?_
    rintro _ u ⟨rfl, hs⟩
    have HU : Hid (Below W1.heap.size W1 u) := hs.2.1
    clear hs q0 q1 q2 HC
    have HB2 : Hid (Below w.heap.size w u) := HB1.out.trans (HU.out.mono HB1.out.size)
    obtain ⟨q0, q1, q2⟩ := HQ.out _ HU.out
    clear q1
    go_wp2_with fail
    refine (requireAt_yes _).mono ?_
    rintro _ z ⟨rfl, rfl⟩
    go_wp2_with fail
    first | (go_region_with (first
        | (go_at_call 54; refine (HTK.out _).mono ?_; rintro _ z2 ⟨rfl, rfl⟩)
        | (go_at_call 51; refine (requireAt_yes _).mono ?_; rintro _ z ⟨rfl, rfl⟩))) | fail
    all_goals go_wp2_with fail
    all_goals go_end0
    all_goals exact ⟨by rw [HR.out]; rfl, HB2.out.drew⟩
set_option maxRecDepth 100000 in
set_option maxHeartbeats 1600000 in
theorem askCheck_any (k : Int) (nm : List UInt8) (A : Option Addr) (n c : Nat) (l : List Sp) (w : World) (hw : MaxOk w) (hm : nm.length ≤ maxLen) (hn : l.length = n) (hr : SRow w A l) (hl : n ≤ 1000) :
    Calls Tryz.prog 10 #[.agg #[.int .i64 k, .string ⟨nm.toArray⟩, .slice A n c]] w fun e w' => e = .returned (.int .i64 (checkQ ⟨k, ⟨nm, l⟩⟩)) ∧ Below w.heap.size w w' := by
  have hmf : ∀ (fn : Fn) (first cap : Array Value) (w : World), (Instr.makeFunc fn first cap).run Tryz.prog w = .ok (.func fn first cap) w := fun _ _ _ _ => rfl
  obtain ⟨R, hR⟩ : ∃ R, checkQ ⟨k, ⟨nm, l⟩⟩ = R := ⟨_, rfl⟩
  rw [hR]
  obtain ⟨V, hV⟩ : ∃ V, w.alloc (.cells #[.int .i64 k, .string ⟨nm.toArray⟩, .slice A n c] 34) = V := ⟨_, rfl⟩
  obtain ⟨W1, hW1⟩ : ∃ W, V.alloc (.cells #[.int .i64 0] 27) = W := ⟨_, rfl⟩
  have HBV : Hid (Below w.heap.size w V) := alloc_low hV
  have HBW : Hid (Below w.heap.size w W1) := HBV.out.trans ((alloc_low hW1).mono HBV.out.size)
  have HLE : Hid (w.heap.size ≤ V.heap.size) := HBV.out.size
  have HCI : Hid (∀ u, Below W1.heap.size W1 u → u.cell? ⟨V.heap.size, 0, none⟩ = some (.int .i64 0) ∧ u.frozen? ⟨V.heap.size, 0, none⟩ = false) := fun u hb => by
    have hs : W1.heap.size = V.heap.size + 1 := by rw [← hW1]; simp
    rw [hs, ← hW1] at hb
    exact cell_int V u _ _ hb
  obtain ⟨q0, q1, q2⟩ := qbk_of hV (alloc_low hW1)
  have HQ : Hid (Calls Tryz.prog 28 #[.agg #[.int .i64 k, .string ⟨nm.toArray⟩, .slice A n c], .int .i64 0] W1 fun e w' => e = okAt 0 R ∧ Below W1.heap.size W1 w') := by
    rw [← hR]; exact requireAsk_any k nm A n c l 0 W1 (maxOk_below hw HBW.out) hm hn (srow_below hr HBW.out) hl
  clear hR hw hm hn hr hl
  go_enter_defers Tryz.func10, Tryz.ntmps10
  go_wp2_with fail
  clear hV hW1
  refine HQ.out.mono ?_
  rintro _ z1 ⟨rfl, hb⟩
  have HB := Lib.hid hb
  clear hb HQ q0 q1 q2
  by_cases h0 : R = 0
  · subst h0
    rw [okAt_zero]
    obtain ⟨c0, f0⟩ := HCI.out _ HB.out
    go_wp2_with fail
    refine leaves_cons (f := 26) (args := #[.pointer (some ⟨V.heap.size, 0, none⟩)]) (by simp) (by simp [go_sem]) ?_
    refine (qCheck_idle ⟨V.heap.size, 0, none⟩ 0 _ ?_ ?_).mono ?_
    · simp [go_sem, c0]
    · simp [go_sem, f0]
    rintro e u' w3 ⟨rfl, rfl, rfl⟩
    simp [Leaves, settle, results, Tryz.results10, go_sem, c0]
    exact ((HBW.out.trans (HB.out.mono HBW.out.size)).setCell HLE.out _).setCell HLE.out _
  · rw [okAt_ne h0]
    clear h0
    go_wp2_with fail
    refine leaves_cons (f := 26) (args := #[.pointer (some ⟨V.heap.size, 0, none⟩)]) (by simp) (by simp [go_sem]) ?_
    refine (qCheck_placed ⟨V.heap.size, 0, none⟩ 0 0 _ _ (fun u hb => (HCI.out _ (HB.out.trans (hb.mono HB.out.size))).1) (fun u hb => (HCI.out _ (HB.out.trans (hb.mono HB.out.size))).2)).mono ?_
    rintro e u' w2 ⟨rfl, rfl, u, hb, rfl⟩
    have HBU := Lib.hid (HB.out.trans (hb.mono HB.out.size))
    obtain ⟨c0, f0⟩ := HCI.out _ HBU.out
    simp [Leaves, settle, results, Tryz.results10, go_sem, c0]
    exact (HBW.out.trans (HBU.out.mono HBW.out.size)).setCell HLE.out _
end Go.Proofs.YtkdildgdodnbbaaGreatDoor
namespace Go.Proofs.YtkdildgdodnbbaaGreatDoor
open Go.RowKit Rs At Pg Ak
attribute [local go_sem ↓] Go.wp_at_zero Go.wp_at_succ
set_option maxRecDepth 100000 in
set_option maxHeartbeats 1600000 in
theorem refCheckAsk_any (k : Int) (nm : List UInt8) (A : Option Addr) (n c : Nat) (l : List Sp) (w : World) (hw : MaxOk w) (hm : nm.length ≤ maxLen) (hn : l.length = n) (hr : SRow w A l) (hl : n ≤ 1000) :
    Calls Tryz.prog 11 #[.agg #[.int .i64 k, .string ⟨nm.toArray⟩, .slice A n c]] w fun e w' => e = .returned (.int .i64 (checkQ ⟨k, ⟨nm, l⟩⟩)) ∧ Below w.heap.size w w' := by
  obtain ⟨R, hR⟩ : ∃ R, checkQ ⟨k, ⟨nm, l⟩⟩ = R := ⟨_, rfl⟩
  rw [hR]
  obtain ⟨W1, hW1⟩ : ∃ W, w.alloc (.cells #[.int .i64 k, .string ⟨nm.toArray⟩, .slice A n c] 40) = W := ⟨_, rfl⟩
  have HB1 : Hid (Below w.heap.size w W1) := alloc_low hW1
  have HQ : Hid (∀ u, Below W1.heap.size W1 u → QBk w.heap.size k nm A n c u) := fun u hb => qbk_of hW1 hb
  have HS1 : Hid (St W1 W1 [⟨A, n, l⟩]) := ⟨maxOk_below hw HB1.out, Below.refl _ _, fun x hx => by
    rw [List.mem_singleton.1 hx]; exact ⟨srow_below hr HB1.out, hn⟩⟩
  obtain ⟨q0, q1, q2⟩ := HQ.out _ (Below.refl _ _)
  have hK0 := @Ak.checkQ_kind ⟨k, ⟨nm, l⟩⟩
  have hK1 := @Ak.checkQ_atm ⟨k, ⟨nm, l⟩⟩
  rw [hR] at hK0 hK1
  dsimp only at hK0 hK1
  by_cases h1 : k < 1
  · have d1 : decide (k < 1) = true := decide_eq_true h1
    have HR : Hid (R = 1) := hK0 (by rw [decide_eq_false (show ¬ 1 ≤ k by omega)]; rfl)
    clear hK0 hK1 hR h1 hw hr hn
    go_enter Tryz.func11, Tryz.ntmps11
    go_wp2_with fail
    go_ret
    exact ⟨by rw [HR.out]; rfl, HB1.out⟩
  have d1 : decide (k < 1) = false := decide_eq_false h1
  by_cases h4 : 4 < k
  · have d4 : decide (4 < k) = true := decide_eq_true h4
    have HR : Hid (R = 1) := hK0 (by rw [decide_eq_false (show ¬ k ≤ 4 by omega), Bool.and_false])
    clear hK0 hK1 hR h1 h4 hw hr hn
    go_enter Tryz.func11, Tryz.ntmps11
    go_wp2_with fail
    go_ret
    exact ⟨by rw [HR.out]; rfl, HB1.out⟩
  have d4 : decide (4 < k) = false := decide_eq_false h4
  have HA := Lib.hid (hK1 (by rw [decide_eq_true (show 1 ≤ k by omega), decide_eq_true (show k ≤ 4 by omega)]; rfl))
  obtain ⟨C, hC⟩ : ∃ C, checkA ⟨nm, l⟩ = C := ⟨_, rfl⟩
  rw [hC] at HA
  have HC := Lib.hid (s4_refCheck HS1.out 0 rfl hl c nm hm C hC)
  clear hK0 hK1 hR h1 h4 hC hw hr hn
  by_cases h0 : C = 0
  case neg =>
    have HR : Hid (R = C) := by show _ = _; rw [HA.out, if_neg h0]
    have d0 : (C != 0) = true := by simpa using h0
    clear HA h0
    go_enter Tryz.func11, Tryz.ntmps11
    go_wp2_with fail
    clear hW1
    refine HC.out.mono ?_
    rintro _ u ⟨rfl, hs⟩
    have HB2 : Hid (Below w.heap.size w u) := HB1.out.trans (hs.2.1.mono HB1.out.size)
    clear hs q0 q1 q2
    go_wp2_with fail
    go_ret
    exact ⟨by rw [HR.out]; rfl, HB2.out⟩
  subst h0
  have HR := Lib.hid (HA.out.trans (if_pos rfl))
  clear HA
  go_enter Tryz.func11, Tryz.ntmps11
  go_wp2_with fail
  clear hW1 d1 d4
  refine HC.out.mono ?_
  rintro _ u ⟨rfl, hs⟩
  have HS2 := Lib.hid hs
  have HB2 : Hid (Below w.heap.size w u) := HB1.out.trans (hs.2.1.mono HB1.out.size)
  clear hs q0 q1 q2 HC
  obtain ⟨b, hb⟩ : ∃ b, decide (l = allS) = b := ⟨_, rfl⟩
  have HBB := Lib.hid hb
  have HNE : Hid (l ≠ allS ↔ b = false) := by
    show _ ↔ _
    rw [← hb]; simp
  clear hb
  have HSD : Hid (St W1 u.drew [⟨A, n, l⟩]) := st_step HS2.out (Below.refl _ _).drew
  obtain ⟨q0, _, q2⟩ := HQ.out _ HS2.out.2.1
  obtain ⟨d0, _, d2⟩ := HQ.out _ HSD.out.2.1
  by_cases hk2 : k = 2
  · subst hk2
    have HR2 : Hid (R = if b = false then 1 else 0) := by
      show _ = _
      rw [HR.out]
      by_cases hh : b = false
      · rw [if_pos hh, if_pos ⟨Or.inl rfl, HNE.out.2 hh⟩]
      · rw [if_neg hh, if_neg (fun q => hh (HNE.out.1 q.2))]
    clear HR HNE
    go_wp2_with fail
    first | (go_region_with (first
        | (go_at_call 24; refine (s_sameRange HS3.out 1 0 rfl rfl hl (by rw [show n3 = 1 from (st_row HS3.out 0 rfl).2.symm]; decide) _ _ b HBB.out).mono ?_; rintro _ u4 ⟨rfl, hs⟩; have HS4 := Lib.hid hs; clear hs)
        | (go_at_call 25; refine (s_refAll HSD.out).mono ?_; rintro _ u3 ⟨C3, n3, e3, rfl, hs⟩; have HS3 := Lib.hid hs; clear hs; obtain ⟨f0, _, f2⟩ := HQ.out _ HS3.out.2.1))) | fail
    all_goals
      have HB4 := Lib.hid (HB1.out.trans (HS4.out.2.1.mono HB1.out.size))
      cases b
      · go_wp2_with fail
        go_ret
        exact ⟨by rw [HR2.out]; rfl, HB4.out⟩
      · go_wp2_with fail
        go_ret
        exact ⟨by rw [HR2.out]; rfl, HB4.out⟩
  have e2 : (k == 2) = false := beq_eq_false_iff_ne.2 hk2
  by_cases hk3 : k = 3
  · subst hk3
    have HR2 : Hid (R = if b = false then 1 else 0) := by
      show _ = _
      rw [HR.out]
      by_cases hh : b = false
      · rw [if_pos hh, if_pos ⟨Or.inr rfl, HNE.out.2 hh⟩]
      · rw [if_neg hh, if_neg (fun q => hh (HNE.out.1 q.2))]
    clear HR HNE hk2
    go_wp2_with fail
    go_region_held3 (fun w' => w'.cell? ⟨w.heap.size, 0, none⟩ = some (.int .i64 3) ∧ w'.cell? ⟨w.heap.size, 2, none⟩ = some (.slice A n c))
      (first
        | exact ⟨d0, d2⟩
        | exact ⟨(HQ.out _ HS3.out.2.1).1, (HQ.out _ HS3.out.2.1).2.2⟩
        | exact ⟨(HQ.out _ HS4.out.2.1).1, (HQ.out _ HS4.out.2.1).2.2⟩)
      (first
        | (go_at_call 24; refine (s_sameRange HS3.out 1 0 rfl rfl hl (by rw [show n3 = 1 from (st_row HS3.out 0 rfl).2.symm]; decide) _ _ b HBB.out).mono ?_; rintro _ u4 ⟨rfl, hs⟩; have HS4 := Lib.hid hs; clear hs)
        | (go_at_call 25; refine (s_refAll HSD.out).mono ?_; rintro _ u3 ⟨C3, n3, e3, rfl, hs⟩; have HS3 := Lib.hid hs; clear hs))
    have HB4 := Lib.hid (HB1.out.trans (HS4.out.2.1.mono HB1.out.size))
    cases b
    · go_wp2_with fail
      go_ret
      exact ⟨by rw [HR2.out]; rfl, HB4.out⟩
    · go_wp2_with fail
      go_ret
      exact ⟨by rw [HR2.out]; rfl, HB4.out⟩
  have e3 : (k == 3) = false := beq_eq_false_iff_ne.2 hk3
  have HR2 : Hid (R = 0) := by
    show _ = _
    rw [HR.out, if_neg]
    rintro ⟨q, _⟩
    rcases q with q | q
    · exact hk2 q
    · exact hk3 q
  clear HR HNE hk2 hk3
  go_wp2_with fail
  first | (go_quiet (fail)) | fail
  go_wp2_with fail
  go_ret
  exact ⟨by rw [HR2.out]; rfl, below_drewN HB2.out _⟩
end Go.Proofs.YtkdildgdodnbbaaGreatDoor
namespace Go.Proofs.YtkdildgdodnbbaaGreatDoor
open Go.RowKit Rs At Pg Ak
attribute [local go_sem ↓] Go.wp_at_zero Go.wp_at_succ
theorem Ak.dec_kind {ka kb : Int} {a b : Atm} (h : (ka == kb) = false) : decide ((⟨ka, a⟩ : Rq) = ⟨kb, b⟩) = false := decide_eq_false fun e => by
  injection e with h1 _
  rw [h1] at h; simp at h
theorem Ak.dec_atm {ka kb : Int} {a b : Atm} (h : (ka == kb) = true) : decide ((⟨ka, a⟩ : Rq) = ⟨kb, b⟩) = decide (a = b) := by
  obtain rfl : ka = kb := by simpa using h
  by_cases e : a = b
  · rw [e]; simp
  · rw [decide_eq_false e]; exact decide_eq_false fun e2 => e (by injection e2)
set_option maxRecDepth 100000 in
set_option maxHeartbeats 800000 in
theorem askSame1_any (ka kb : Int) (na nb : List UInt8) (A B : Option Addr) (n m c d : Nat) (l k : List Sp) (w : World) (hn : l.length = n) (hm : k.length = m) (hr : SRow w A l) (hq : SRow w B k) (hl : n ≤ 1000) (hk : m ≤ 1000) :
    Calls Tryz.prog 34 #[.agg #[.int .i64 ka, .string ⟨na.toArray⟩, .slice A n c], .agg #[.int .i64 kb, .string ⟨nb.toArray⟩, .slice B m d]] w fun e w' => e = .returned (.bool (decide ((⟨ka, ⟨na, l⟩⟩ : Rq) = ⟨kb, ⟨nb, k⟩⟩))) ∧ Below w.heap.size w w' := by
  obtain ⟨R, hR⟩ : ∃ R, decide ((⟨ka, ⟨na, l⟩⟩ : Rq) = ⟨kb, ⟨nb, k⟩⟩) = R := ⟨_, rfl⟩
  rw [hR]
  obtain ⟨V, hV⟩ : ∃ V, w.alloc (.cells #[.int .i64 ka, .string ⟨na.toArray⟩, .slice A n c] 34) = V := ⟨_, rfl⟩
  obtain ⟨U, hU⟩ : ∃ U, V.alloc (.cells #[.int .i64 kb, .string ⟨nb.toArray⟩, .slice B m d] 34) = U := ⟨_, rfl⟩
  have HBV : Hid (Below w.heap.size w V) := alloc_low hV
  have HBU : Hid (Below w.heap.size w U) := HBV.out.trans ((alloc_low hU).mono HBV.out.size)
  obtain ⟨u0, u1, u2⟩ := qbk_of hV (alloc_low hU)
  obtain ⟨v0, v1, v2⟩ := qbk_of hU (Below.refl _ _)
  have HS := Lib.hid (atomSame_any na nb A B n m c d l k U hn hm (srow_below hr HBU.out) (srow_below hq HBU.out) hl hk)
  cases hkk : ka == kb
  · have HR : Hid (R = false) := by show _ = _; rw [← hR]; exact dec_kind hkk
    clear hR hr hq hn hm HS
    go_enter Tryz.func34, Tryz.ntmps34
    go_wp2_with fail
    go_ret
    exact ⟨by rw [HR.out]; rfl, HBU.out⟩
  · obtain ⟨b, hb⟩ : ∃ b, decide ((⟨na, l⟩ : Atm) = ⟨nb, k⟩) = b := ⟨_, rfl⟩
    have HR : Hid (R = b) := by show _ = _; rw [← hR, ← hb]; exact dec_atm hkk
    rw [hb] at HS
    clear hR hr hq hn hm hb
    go_enter Tryz.func34, Tryz.ntmps34
    go_wp2_with fail
    clear hV hU
    refine HS.out.mono ?_
    rintro _ u ⟨rfl, hb⟩
    have HB := Lib.hid (HBU.out.trans (hb.mono HBU.out.size))
    clear hb u0 u1 u2 v0 v1 v2
    go_wp2_with fail
    go_ret
    exact ⟨by rw [HR.out]; rfl, HB.out⟩
set_option maxRecDepth 100000 in
set_option maxHeartbeats 1600000 in
theorem eqAsks_any (A B : Option Addr) (n m c d : Nat) (l k : List Rq) (w : World) (hn : l.length = n) (hm : k.length = m) (hr : QRow w A l) (hq : QRow w B k) (hl : n ≤ 1000000) (hf : QFew l) (hg : QFew k) :
    Calls Tryz.prog 33 #[.slice A n c, .slice B m d, .func (.func 34) #[] #[]] w fun e w' => e = .returned (.bool (decide (l = k))) ∧ Below w.heap.size w w' := by
  obtain ⟨X, hX⟩ : ∃ X, decide (l = k) = X := ⟨_, rfl⟩
  rw [hX]
  have HX := Lib.hid hX
  have HR := Lib.hid hr
  have HQ := Lib.hid hq
  have HN := Lib.hid hn
  have HM := Lib.hid hm
  have HF := Lib.hid hf
  have HG := Lib.hid hg
  clear hX hr hq hn hm hf hg
  by_cases hlen : n = m
  · have hd : ((n : Int) != m) = false := by rw [hlen]; simp
    have HL := Lib.hid hlen
    clear hlen
    go_enter Tryz.func33, Tryz.ntmps33
    go_wp2_with fail
    clear hd
    go_loopw [17] (fun i wr => ∃ j : Nat, j ≤ n ∧ i = .int .i64 j ∧ Hid (l.take j = k.take j) ∧ Hid (Below w.heap.size w wr)) (fun i _ => n - (intOf i).toNat)
    case atStart => exact ⟨0, Nat.zero_le _, rfl, rfl, Below.refl _ _⟩
    case round =>
      obtain ⟨j, hj, rfl, HT, HW⟩ := hrel
      by_cases hlt : j < n
      · have hlt2 : j < m := by have := HL.out; omega
        have h1 : j < l.length := by rw [HN.out]; exact hlt
        have h2 : j < k.length := by rw [HM.out]; exact hlt2
        obtain ⟨ad, C, x, cx, rfl, hx, hs, hc⟩ := qrow_at HR.out j h1
        obtain ⟨ae, C', y, cy, rfl, hy, ht, he⟩ := qrow_at HQ.out j h2
        obtain ⟨f1, f2⟩ := qfew_at HF.out j h1
        obtain ⟨g1, g2⟩ := qfew_at HG.out j h2
        have HT2 : Hid (l[j] = k[j] → l.take (j + 1) = k.take (j + 1)) := fun q => by
          rw [List.take_succ_eq_append_getElem h1, List.take_succ_eq_append_getElem h2, HT.out, q]
        have HNE : Hid (l[j] ≠ k[j] → X = false) := fun q => by
          rw [← HX.out]; exact decide_eq_false fun h => q (by subst h; rfl)
        obtain ⟨a, ha⟩ : ∃ a, l[j] = a := ⟨_, rfl⟩
        obtain ⟨b, hb⟩ : ∃ b, k[j] = b := ⟨_, rfl⟩
        rw [ha] at hx hs f2
        rw [hb] at hy ht g2
        rw [ha, hb] at HT2 HNE
        obtain ⟨c0, c1, c2⟩ := hc _ HW.out
        rw [ha] at c0 c1
        obtain ⟨ka, na, ra⟩ := a
        obtain ⟨kb, nb, rb⟩ := b
        dsimp only at hx hs f2 hy ht g2 c0 c1
        obtain ⟨V, hV⟩ : ∃ V, wr.alloc (.cells #[.int .i64 ka, .string ⟨na.toArray⟩, .slice C x cx] 34) = V := ⟨_, rfl⟩
        have HBV : Hid (Below w.heap.size w V) := HW.out.trans ((alloc_low hV).mono HW.out.size)
        obtain ⟨e0, e1, e2⟩ := he _ HBV.out
        rw [hb] at e0 e1
        dsimp only at e0 e1
        obtain ⟨U, hU⟩ : ∃ U, V.alloc (.cells #[.int .i64 kb, .string ⟨nb.toArray⟩, .slice C' y cy] 34) = U := ⟨_, rfl⟩
        have HBU : Hid (Below w.heap.size w U) := HBV.out.trans ((alloc_low hU).mono HBV.out.size)
        obtain ⟨u0, u1, u2⟩ := qbk_of hV (alloc_low hU)
        obtain ⟨v0, v1, v2⟩ := qbk_of hU (Below.refl _ _)
        have HS := Lib.hid (askSame1_any ka kb na nb C C' x y cx cy ra rb U hx hy (srow_below hs HBU.out) (srow_below ht HBU.out) (by omega) (by omega))
        clear hc he ha hb hx hs f1 f2 hy ht g1 g2 h1 h2
        go_wp2_with fail
        clear hV hU
        refine HS.out.mono ?_
        rintro _ u ⟨rfl, hb⟩
        have HU : Hid (Below w.heap.size w u) := HBU.out.trans (hb.mono HBU.out.size)
        clear hb HS c0 c1 c2 e0 e1 e2 u0 u1 u2 v0 v1 v2
        by_cases hq : (⟨ka, na, ra⟩ : Rq) = ⟨kb, nb, rb⟩
        · rw [decide_eq_true hq]
          have HT3 := Lib.hid (HT2.out hq)
          clear HT2 HNE hq
          go_wp2_with fail
          go_roundw
          case rel => exact ⟨j + 1, by omega, by go_num, HT3.out, HU.out⟩
          case measure => simp [intOf]; omega
        · rw [decide_eq_false hq]
          have HFF := Lib.hid (HNE.out hq)
          clear HT2 HNE hq
          go_wp2_with fail
          go_ret
          exact ⟨by rw [HFF.out]; rfl, HU.out⟩
      · obtain rfl : j = n := by omega
        have HFT : Hid (X = true) := by
          show _ = _
          have := HT.out
          rw [List.take_of_length_le (by rw [HN.out]; exact Nat.le_refl _), List.take_of_length_le (by rw [HM.out, HL.out]; exact Nat.le_refl _)] at this
          rw [← HX.out]; exact decide_eq_true this
        clear HT
        go_wp2_with fail
        go_ret
        exact ⟨by rw [HFT.out]; rfl, HW.out⟩
  · have hd : ((n : Int) != m) = true := by simp; omega
    have HFF : Hid (X = false) := by show _ = _; rw [← HX.out]; exact decide_eq_false fun h => hlen (by rw [← HN.out, ← HM.out, h])
    go_enter Tryz.func33, Tryz.ntmps33
    go_wp2_with fail
    go_ret
    exact ⟨by rw [HFF.out]; rfl, Below.refl _ _⟩
set_option maxHeartbeats 400000 in
theorem askSame_any (A B : Option Addr) (n m c d : Nat) (l k : List Rq) (w : World) (hn : l.length = n) (hm : k.length = m) (hr : QRow w A l) (hq : QRow w B k) (hl : n ≤ 1000000) (hf : QFew l) (hg : QFew k) :
    Calls Tryz.prog 14 #[.slice A n c, .slice B m d] w fun e w' => e = .returned (.bool (decide (l = k))) ∧ Below w.heap.size w w' := by
  have HC := Lib.hid (eqAsks_any A B n m c d l k w hn hm hr hq hl hf hg)
  clear hn hm hr hq hf hg
  go_enter Tryz.func14, Tryz.ntmps14
  go_wp2_with fail
  refine HC.out.mono ?_
  rintro _ u ⟨rfl, hb⟩
  have HB := Lib.hid hb
  clear hb
  go_wp2_with fail
  go_ret
  exact ⟨rfl, HB.out⟩
end Go.Proofs.YtkdildgdodnbbaaGreatDoor
namespace Go.Proofs.YtkdildgdodnbbaaGreatDoor
open Go.RowKit Rs At Pg Ak
attribute [local go_sem ↓] Go.wp_at_zero Go.wp_at_succ
set_option maxRecDepth 100000 in
set_option maxHeartbeats 3200000 in
theorem refSameAsks_any (A B : Option Addr) (n m c d : Nat) (l k : List Rq) (w : World) (hn : l.length = n) (hm : k.length = m) (hr : QRow w A l) (hq : QRow w B k) (hl : n ≤ 1000000) (hf : QFew l) (hg : QFew k) :
    Calls Tryz.prog 15 #[.slice A n c, .slice B m d] w fun e w' => e = .returned (.bool (decide (l = k))) ∧ Below w.heap.size w w' := by
  obtain ⟨X, hX⟩ : ∃ X, decide (l = k) = X := ⟨_, rfl⟩
  rw [hX]
  have HX := Lib.hid hX
  have HR := Lib.hid hr
  have HQ := Lib.hid hq
  have HN := Lib.hid hn
  have HM := Lib.hid hm
  have HF := Lib.hid hf
  have HG := Lib.hid hg
  clear hX hr hq hn hm hf hg
  by_cases hlen : n = m
  · have hd : ((n : Int) != m) = false := by rw [hlen]; simp
    have HL := Lib.hid hlen
    clear hlen
    go_enter Tryz.func15, Tryz.ntmps15
    go_wp2_with fail
    clear hd
    go_loopw [5] (fun i wr => ∃ j : Nat, j ≤ n ∧ i = .int .i64 j ∧ Hid (l.take j = k.take j) ∧ Hid (Below w.heap.size w wr)) (fun i _ => n - (intOf i).toNat)
    case atStart => exact ⟨0, Nat.zero_le _, rfl, rfl, Below.refl _ _⟩
    case round =>
      obtain ⟨j, hj, rfl, HT, HW⟩ := hrel
      by_cases hlt : j < n
      · have hlt2 : j < m := by have := HL.out; omega
        have h1 : j < l.length := by rw [HN.out]; exact hlt
        have h2 : j < k.length := by rw [HM.out]; exact hlt2
        obtain ⟨ad, C, x, cx, rfl, hx, hs, hc⟩ := qrow_at HR.out j h1
        obtain ⟨ae, C', y, cy, rfl, hy, ht, he⟩ := qrow_at HQ.out j h2
        obtain ⟨f1, f2⟩ := qfew_at HF.out j h1
        obtain ⟨g1, g2⟩ := qfew_at HG.out j h2
        have HT2 : Hid (l[j] = k[j] → l.take (j + 1) = k.take (j + 1)) := fun q => by
          rw [List.take_succ_eq_append_getElem h1, List.take_succ_eq_append_getElem h2, HT.out, q]
        have HNE : Hid (l[j] ≠ k[j] → X = false) := fun q => by
          rw [← HX.out]; exact decide_eq_false fun h => q (by subst h; rfl)
        obtain ⟨a, ha⟩ : ∃ a, l[j] = a := ⟨_, rfl⟩
        obtain ⟨b, hb⟩ : ∃ b, k[j] = b := ⟨_, rfl⟩
        rw [ha] at hx hs f2
        rw [hb] at hy ht g2
        rw [ha, hb] at HT2 HNE
        rw [ha] at hc
        rw [hb] at he
        obtain ⟨ka, na, ra⟩ := a
        obtain ⟨kb, nb, rb⟩ := b
        dsimp only at hx hs f2 hy ht g2 hc he
        have HC : Hid (∀ u, Below wr.heap.size wr u → (u.cell? (ad.add (j * 3)) = some (.int .i64 ka) ∧ u.cell? ⟨(ad.add (j * 3)).block, (ad.add (j * 3)).off + 1, none⟩ = some (.string ⟨na.toArray⟩) ∧ u.cell? ⟨(ad.add (j * 3)).block, (ad.add (j * 3)).off + 2, none⟩ = some (.slice C x cx)) ∧ (u.cell? (ae.add (j * 3)) = some (.int .i64 kb) ∧ u.cell? ⟨(ae.add (j * 3)).block, (ae.add (j * 3)).off + 1, none⟩ = some (.string ⟨nb.toArray⟩) ∧ u.cell? ⟨(ae.add (j * 3)).block, (ae.add (j * 3)).off + 2, none⟩ = some (.slice C' y cy))) := fun u hb => ⟨hc _ (HW.out.trans (hb.mono HW.out.size)), he _ (HW.out.trans (hb.mono HW.out.size))⟩
        have HD : Hid (Below wr.heap.size wr wr.drew) := (Below.refl _ _).drew
        have HS := Lib.hid (refSameAtom_any na nb C C' x y cx cy ra rb wr.drew hx hy (srow_below hs (HW.out.drew)) (srow_below ht (HW.out.drew)) (by omega) (by omega))
        have j0 : (0 : Int) ≤ (j : Int) := by omega
        have j1 : (j : Int) < (n : Int) := by omega
        have j2 : (j : Int) < (m : Int) := by omega
        obtain ⟨⟨c0, c1, c2⟩, e0, e1, e2⟩ := HC.out _ (Below.refl _ _)
        obtain ⟨⟨s0, s1, s2⟩, t0, t1, t2⟩ := HC.out _ HD.out
        clear hc he ha hb hx hs f1 f2 hy ht g1 g2 h1 h2
        cases hkk : ka == kb
        · have hkn : (ka != kb) = true := by show (!(ka == kb)) = true; rw [hkk]; rfl
          have HFF : Hid (X = false) := HNE.out fun q => by injection q with q1 _; rw [q1] at hkk; simp at hkk
          clear HT2 HNE HS
          go_wp2_with fail
          first | (go_quiet (fail)) | fail
          go_wp2_with fail
          go_ret
          exact ⟨by rw [HFF.out]; rfl, below_drewN HW.out _⟩
        · have hkn : (ka != kb) = false := by show (!(ka == kb)) = false; rw [hkk]; rfl
          obtain ⟨q, hq⟩ : ∃ q, decide ((⟨na, ra⟩ : Atm) = ⟨nb, rb⟩) = q := ⟨_, rfl⟩
          rw [hq] at HS
          have HQT : Hid (q = true → l.take (j + 1) = k.take (j + 1)) := fun e => HT2.out (by
            rw [e] at hq
            have h1 := of_decide_eq_true hq
            have h2 : ka = kb := by simpa using hkk
            rw [h2, h1])
          have HQF : Hid (q = false → X = false) := fun e => HNE.out (fun h => by
            rw [e] at hq
            have h1 := of_decide_eq_false hq
            injection h with _ h3
            exact h1 h3)
          clear HT2 HNE hq
          go_wp2_with fail
          go_region_held3 (fun u => (u.cell? (ad.add (j * 3)) = some (.int .i64 ka) ∧ u.cell? ⟨(ad.add (j * 3)).block, (ad.add (j * 3)).off + 1, none⟩ = some (.string ⟨na.toArray⟩) ∧ u.cell? ⟨(ad.add (j * 3)).block, (ad.add (j * 3)).off + 2, none⟩ = some (.slice C x cx)) ∧ (u.cell? (ae.add (j * 3)) = some (.int .i64 kb) ∧ u.cell? ⟨(ae.add (j * 3)).block, (ae.add (j * 3)).off + 1, none⟩ = some (.string ⟨nb.toArray⟩) ∧ u.cell? ⟨(ae.add (j * 3)).block, (ae.add (j * 3)).off + 2, none⟩ = some (.slice C' y cy)))
            (first
              | exact HC.out _ HD.out
              | exact HC.out _ HZ.out)
            (first
              | (go_at_call 35; refine HS.out.mono ?_; rintro _ z ⟨rfl, hb⟩; have HZ : Hid (Below wr.heap.size wr z) := HD.out.trans hb; clear hb))
          have HWZ := Lib.hid (HW.out.trans (HZ.out.mono HW.out.size))
          clear c0 c1 c2 e0 e1 e2 s0 s1 s2 t0 t1 t2 HS
          cases q
          · have HFF := Lib.hid (HQF.out rfl)
            go_wp2_with fail
            go_ret
            exact ⟨by rw [HFF.out]; rfl, HWZ.out⟩
          · have HT3 := Lib.hid (HQT.out rfl)
            go_wp2_with fail
            go_roundw
            case rel => exact ⟨j + 1, by omega, by go_num, HT3.out, HWZ.out⟩
            case measure => simp [intOf]; omega
      · obtain rfl : j = n := by omega
        have HFT : Hid (X = true) := by
          show _ = _
          have := HT.out
          rw [List.take_of_length_le (by rw [HN.out]; exact Nat.le_refl _), List.take_of_length_le (by rw [HM.out, HL.out]; exact Nat.le_refl _)] at this
          rw [← HX.out]; exact decide_eq_true this
        clear HT
        go_wp2_with fail
        go_ret
        exact ⟨by rw [HFT.out]; rfl, HW.out⟩
  · have hd : ((n : Int) != m) = true := by simp; omega
    have HFF : Hid (X = false) := by show _ = _; rw [← HX.out]; exact decide_eq_false fun h => hlen (by rw [← HN.out, ← HM.out, h])
    go_enter Tryz.func15, Tryz.ntmps15
    go_wp2_with fail
    go_ret
    exact ⟨by rw [HFF.out]; rfl, Below.refl _ _⟩
end Go.Proofs.YtkdildgdodnbbaaGreatDoor
