/- Write, Read: the program's, walked. -/
import Derived.Test.YtojhapnodjabdaaGreatDoorCo
import Derived.Defers
namespace Go.Proofs.YtojhapnodjabdaaGreatDoor
open Go.RowKit Lk At
set_option maxRecDepth 100000 in
theorem raised_placed (k n : Int) {o : Int} (w : World) :
    Calls Tryz.prog 32 #[.iface 75 (.agg #[.int .i64 k, .int .i64 n]), .int .i64 o] w fun e w' => e = .returned (.int .i64 n) ∧ Below w.heap.size w w' := by
  go_enter Tryz.func32, Tryz.ntmps32
  go_wp2_with fail
  refine (raisedAt_placed k n _).mono ?_
  rintro _ w' ⟨rfl, hb⟩
  have HB := Lib.hid hb
  clear hb
  go_wp2_with fail
  go_ret
  exact ⟨rfl, HB.out⟩
theorem wr1_panic (p : Addr) (x : Int) (n : Int) (w : World) (hc : w.cell? p = some (.int .i64 x)) (hz : w.frozen? p = false) :
    CallsD Tryz.prog 31 #[.pointer (some p)] (.panicking [{ v := .iface 28 (.int .i64 n), recovered := false }]) w fun e u' w' =>
      e = .returned (.tuple #[]) ∧ u' = .panicking [{ v := .iface 28 (.int .i64 n), recovered := true }] ∧ w' = w.setCell p (.int .i64 n) := by
  refine callsD_of_wpS Tryz.func31 rfl fun c₀ cs hu => ?_
  apply wpS_region
  simp [wpOpsS, go_sem, recoverD, hu, Tryz.ntmps31]
  refine (raised_err n _).mono ?_
  rintro e w' ⟨rfl, rfl⟩
  simp [go_sem, hc, hz, bodyPostS, results, Tryz.results31]
theorem wr1_placed (p : Addr) (x : Int) (k n : Int) (w : World) (hc : ∀ u, Below w.heap.size w u → u.cell? p = some (.int .i64 x)) (hz : ∀ u, Below w.heap.size w u → u.frozen? p = false) :
    CallsD Tryz.prog 31 #[.pointer (some p)] (.panicking [{ v := .iface 75 (.agg #[.int .i64 k, .int .i64 n]), recovered := false }]) w fun e u' w' =>
      e = .returned (.tuple #[]) ∧ u' = .panicking [{ v := .iface 75 (.agg #[.int .i64 k, .int .i64 n]), recovered := true }] ∧ ∃ u, Below w.heap.size w u ∧ w' = u.setCell p (.int .i64 n) := by
  refine callsD_of_wpS Tryz.func31 rfl fun c₀ cs hu => ?_
  apply wpS_region
  simp [wpOpsS, go_sem, recoverD, hu, Tryz.ntmps31]
  refine (raised_placed k n _).mono ?_
  rintro e w' ⟨rfl, hb⟩
  simp [go_sem, hc _ hb, hz _ hb, bodyPostS, results, Tryz.results31]
  exact ⟨w', hb, rfl⟩
theorem wr1_idle (p : Addr) (x : Int) (w : World) (hc : w.cell? p = some (.int .i64 x)) (hz : w.frozen? p = false) :
    CallsD Tryz.prog 31 #[.pointer (some p)] .returning w fun e u' w' => e = .returned (.tuple #[]) ∧ u' = .returning ∧ w' = w.setCell p (.int .i64 0) := by
  refine callsD_of_wpS Tryz.func31 rfl fun c₀ cs hu => ?_
  apply wpS_region
  simp [wpOpsS, go_sem, recoverD, hu, Tryz.ntmps31]
  refine (raised_nil _).mono ?_
  rintro e w' ⟨rfl, rfl⟩
  cases c₀
  simp_all [go_sem, bodyPostS, results, Tryz.results31]
theorem lRead_panic (p q : Addr) (x y n : Int) (w : World) (hc : w.cell? p = some (.int .i64 x)) (hz : w.frozen? p = false) (hc2 : (w.setCell p (.int .i64 0)).cell? q = some (.int .i64 y)) (hz2 : (w.setCell p (.int .i64 0)).frozen? q = false) :
    CallsD Tryz.prog 38 #[.pointer (some p), .pointer (some q)] (.panicking [{ v := .iface 28 (.int .i64 n), recovered := false }]) w fun e u' w' =>
      e = .returned (.tuple #[]) ∧ u' = .panicking [{ v := .iface 28 (.int .i64 n), recovered := true }] ∧ w' = (w.setCell p (.int .i64 0)).setCell q (.int .i64 n) := by
  refine callsD_of_wpS Tryz.func38 rfl fun c₀ cs hu => ?_
  apply wpS_region
  simp [wpOpsS, go_sem, recoverD, hu, Tryz.ntmps38]
  refine (raisedAt_err n _).mono ?_
  rintro e w' ⟨rfl, rfl⟩
  simp [go_sem, hc, hz, hc2, hz2, bodyPostS, results, Tryz.results38]
theorem lRead_placed (p q : Addr) (x y k n : Int) (w : World) (hc : ∀ u, Below w.heap.size w u → u.cell? p = some (.int .i64 x)) (hz : ∀ u, Below w.heap.size w u → u.frozen? p = false) (hc2 : ∀ u, Below w.heap.size w u → (u.setCell p (.int .i64 k)).cell? q = some (.int .i64 y)) (hz2 : ∀ u, Below w.heap.size w u → (u.setCell p (.int .i64 k)).frozen? q = false) :
    CallsD Tryz.prog 38 #[.pointer (some p), .pointer (some q)] (.panicking [{ v := .iface 75 (.agg #[.int .i64 k, .int .i64 n]), recovered := false }]) w fun e u' w' =>
      e = .returned (.tuple #[]) ∧ u' = .panicking [{ v := .iface 75 (.agg #[.int .i64 k, .int .i64 n]), recovered := true }] ∧ ∃ u, Below w.heap.size w u ∧ w' = (u.setCell p (.int .i64 k)).setCell q (.int .i64 n) := by
  refine callsD_of_wpS Tryz.func38 rfl fun c₀ cs hu => ?_
  apply wpS_region
  simp [wpOpsS, go_sem, recoverD, hu, Tryz.ntmps38]
  refine (raisedAt_placed k n _).mono ?_
  rintro e w' ⟨rfl, hb⟩
  simp [go_sem, hc _ hb, hz _ hb, hc2 _ hb, hz2 _ hb, bodyPostS, results, Tryz.results38]
  exact ⟨w', hb, rfl⟩
theorem lRead_idle (p q : Addr) (x y : Int) (w : World) (hc : w.cell? p = some (.int .i64 x)) (hz : w.frozen? p = false) (hc2 : (w.setCell p (.int .i64 0)).cell? q = some (.int .i64 y)) (hz2 : (w.setCell p (.int .i64 0)).frozen? q = false) :
    CallsD Tryz.prog 38 #[.pointer (some p), .pointer (some q)] .returning w fun e u' w' => e = .returned (.tuple #[]) ∧ u' = .returning ∧ w' = (w.setCell p (.int .i64 0)).setCell q (.int .i64 0) := by
  refine callsD_of_wpS Tryz.func38 rfl fun c₀ cs hu => ?_
  apply wpS_region
  simp [wpOpsS, go_sem, recoverD, hu, Tryz.ntmps38]
  refine (raisedAt_nil _).mono ?_
  rintro e w' ⟨rfl, rfl⟩
  cases c₀
  simp_all [go_sem, bodyPostS, results, Tryz.results38]
attribute [local go_sem ↓] Go.wp_at_zero Go.wp_at_succ
/-- What Write hands back. -/
def Lk.wrT (l : List Ent) : List UInt8 := if (checkL l).2 = 0 then writeT l else []
theorem Lk.okL_cases {l : List Ent} {n : Nat} (hn : l.length = n) : (checkL l).2 = 0 ∧ okL n (firstE (errAt l) n 0) = .returned (.tuple #[]) ∨ (∃ k, k ≠ 0 ∧ (checkL l).2 = k ∧ okL n (firstE (errAt l) n 0) = pan k) ∨ (∃ (i : Nat) (k : Int), k ≠ 0 ∧ (checkL l).2 = k ∧ okL n (firstE (errAt l) n 0) = panAt i k) := by
  rcases okL_end hn with h | ⟨k, h0, h1, h2⟩ | ⟨i, k, h0, h1, h2⟩
  · exact Or.inl h
  · exact Or.inr (Or.inl ⟨k, h0, by rw [h1], h2⟩)
  · exact Or.inr (Or.inr ⟨i, k, h0, by rw [h1], h2⟩)
set_option maxRecDepth 100000 in
set_option maxHeartbeats 3200000 in
theorem lockWrite_any (A : Option Addr) (n c : Nat) (l : List Ent) (w : World) (hw : WOk w) (hn : l.length = n) (hr : ERow w A l) (hf : EFew l) :
    Calls Tryz.prog 13 #[.slice A n c] w fun e w' => e = .returned (.tuple #[.string ⟨(wrT l).toArray⟩, .int .i64 (checkL l).2]) ∧ Below w.heap.size w w' := by
  have hmf : ∀ (fn : Fn) (first cap : Array Value) (w : World), (Instr.makeFunc fn first cap).run Tryz.prog w = .ok (.func fn first cap) w := fun _ _ _ _ => rfl
  obtain ⟨W1, hW1⟩ : ∃ W, w.alloc (.cells #[.int .i64 0] 28) = W := ⟨_, rfl⟩
  have HBW : Hid (Below w.heap.size w W1) := alloc_low hW1
  have HCI : Hid (∀ u, Below W1.heap.size W1 u → u.cell? ⟨w.heap.size, 0, none⟩ = some (.int .i64 0) ∧ u.frozen? ⟨w.heap.size, 0, none⟩ = false) := fun u hb => by
    have hs : W1.heap.size = w.heap.size + 1 := by rw [← hW1]; simp
    rw [hs, ← hW1] at hb
    exact cell_int w u _ _ hb
  have HQ := Lib.hid (requireLock_any A n c l W1 (maxOk_below hw.1 HBW.out) hn (Rg.row_below hr HBW.out) hf)
  have HOK := Lib.hid (okL_cases hn)
  have HW := Lib.hid hw
  have HR := Lib.hid hr
  have HN := Lib.hid hn
  have HCL : Hid ((checkL l).2 = 0 → (entsT l).length ≤ 4224 ∧ l.length ≤ 64) := fun h => ⟨(write_len h).1, (check_ent h).1⟩
  have HWT : Hid ((checkL l).2 = 0 → wrT l = entsT l ++ sumLine (entsT l)) := fun h => by unfold wrT; rw [if_pos h]; rfl
  have HWN : Hid ((checkL l).2 ≠ 0 → wrT l = []) := fun h => by unfold wrT; rw [if_neg h]
  obtain ⟨X, hX⟩ : ∃ X, (checkL l).2 = X := ⟨_, rfl⟩
  rw [hX] at HOK HCL HWT HWN ⊢
  clear hw hr hf hX hn
  go_enter_defers Tryz.func13, Tryz.ntmps13
  go_wp2_with fail
  clear hW1
  refine HQ.out.mono ?_
  rintro _ z1 ⟨rfl, hb⟩
  have HB := Lib.hid hb
  clear hb HQ
  rcases HOK.out with ⟨k0, e0⟩ | ⟨k, k0, k1, e0⟩ | ⟨i, k, k0, k1, e0⟩
  · rw [e0]
    obtain ⟨t1, t2⟩ := HCL.out k0
    have HE := Lib.hid (HWT.out k0)
    have hn64 : n ≤ 64 := by rw [← HN.out]; exact t2
    have HBZ := Lib.hid (HBW.out.trans (HB.out.mono HBW.out.size))
    have HEL := Lib.hid (entryLines_any A n c l z1 HN.out (Rg.row_below HR.out HBZ.out) (by omega) (by omega))
    obtain ⟨T, hT⟩ : ∃ T, entsT l = T := ⟨_, rfl⟩
    rw [hT] at HEL HE t1
    have HSL : Hid (∀ W, Below w.heap.size w W → Calls Tryz.prog 34 #[.string ⟨T.toArray⟩] W fun e w' => e = .returned (.string ⟨(sumLine T).toArray⟩) ∧ Below W.heap.size W w') := fun W hb => sumLine_any T W (wok_below HW.out hb) (by omega)
    obtain ⟨G, hG⟩ : ∃ G, sumLine T = G := ⟨_, rfl⟩
    have hgl : G.length = 13 := by rw [← hG]; exact sumLine_len T
    rw [hG] at HSL HE
    have hcat := ByteArray.mk_append_mk T G
    obtain ⟨O, hO⟩ : ∃ O, T ++ G = O := ⟨_, rfl⟩
    rw [hO] at HE hcat
    subst k0
    clear e0 t2 hT hG hO HOK
    go_wp2_with fail
    refine HEL.out.mono ?_
    rintro _ z2 ⟨rfl, hb⟩
    have HB2 := Lib.hid (HB.out.trans (hb.mono HB.out.size))
    have HBZ2 := Lib.hid (HBZ.out.trans (hb.mono HBZ.out.size))
    clear hb HEL
    go_wp2_with fail
    refine (HSL.out _ HBZ2.out).mono ?_
    rintro _ z3 ⟨rfl, hb⟩
    have HB3 := Lib.hid (HB2.out.trans (hb.mono HB2.out.size))
    have HBZ3 := Lib.hid (HBZ2.out.trans (hb.mono HBZ2.out.size))
    obtain ⟨c0, f0⟩ := HCI.out _ HB3.out
    clear hb HSL
    go_wp2_with fail
    refine leaves_cons (f := 31) (args := #[.pointer (some ⟨w.heap.size, 0, none⟩)]) (by simp) (by simp [go_sem]) ?_
    refine (wr1_idle ⟨w.heap.size, 0, none⟩ 0 _ ?_ ?_).mono ?_
    · simp [go_sem, c0]
    · simp [go_sem, f0]
    rintro e u' w3 ⟨rfl, rfl, rfl⟩
    simp [Leaves, settle, results, Tryz.results13, go_sem, c0]
    exact ⟨by rw [HE.out], (HBZ3.out.setCell (Nat.le_refl _) _).setCell (Nat.le_refl _) _⟩
  · rw [e0]
    have HE := Lib.hid (HWN.out (by rw [k1]; exact k0))
    subst k1
    obtain ⟨c0, f0⟩ := HCI.out _ HB.out
    clear e0 k0 HOK
    go_wp2_with fail
    refine leaves_cons (f := 31) (args := #[.pointer (some ⟨w.heap.size, 0, none⟩)]) (by simp) (by simp [go_sem]) ?_
    refine (wr1_panic ⟨w.heap.size, 0, none⟩ 0 _ _ ?_ ?_).mono ?_
    · simp [go_sem, c0]
    · simp [go_sem, f0]
    rintro e u' w2 ⟨rfl, rfl, rfl⟩
    simp [Leaves, settle, results, Tryz.results13, go_sem, c0]
    exact ⟨by rw [HE.out], (HBW.out.trans (HB.out.mono HBW.out.size)).setCell (Nat.le_refl _) _⟩
  · rw [e0]
    have HE := Lib.hid (HWN.out (by rw [k1]; exact k0))
    subst k1
    clear e0 k0 HOK
    go_wp2_with fail
    refine leaves_cons (f := 31) (args := #[.pointer (some ⟨w.heap.size, 0, none⟩)]) (by simp) (by simp [go_sem]) ?_
    refine (wr1_placed ⟨w.heap.size, 0, none⟩ 0 i _ _ (fun u hb => (HCI.out _ (HB.out.trans (hb.mono HB.out.size))).1) (fun u hb => (HCI.out _ (HB.out.trans (hb.mono HB.out.size))).2)).mono ?_
    rintro e u' w2 ⟨rfl, rfl, u, hb, rfl⟩
    have HBU := Lib.hid (HB.out.trans (hb.mono HB.out.size))
    obtain ⟨c0, f0⟩ := HCI.out _ HBU.out
    simp [Leaves, settle, results, Tryz.results13, go_sem, c0]
    exact ⟨by rw [HE.out], (HBW.out.trans (HBU.out.mono HBW.out.size)).setCell (Nat.le_refl _) _⟩
/-- A row of entries keeps off a block of one number. -/
theorem Lk.erow_set {z : World} {A : Option Addr} {l : List Ent} {b : Nat} {x : Int} {T : TypeId} {fr : Nat × Nat} (h : ERow z A l) (hb : z.heap[b]? = some (.cells #[.int .i64 x] T fr)) (v : Value) : ERow (z.setCell ⟨b, 0, none⟩ v) A l := fun h0 => by
  obtain ⟨a, e, hlt, hc⟩ := h h0
  have hne : b ≠ a.block := fun he => by
    have h1 := hc 0 h0 0 _ rfl
    rw [if_pos rfl, Nat.zero_mul, Rg.add_zero] at h1
    obtain ⟨ab, ao, ar⟩ := a
    subst he
    cases ar <;> rcases ao with _ | k <;> simp [World.cell?, hb] at h1
  refine ⟨a, e, by simp [go_sem]; exact hlt, fun i hi j u hu => ?_⟩
  rw [World.cell?_setCell_far _ _ _ _ (by split <;> (rw [Rs.add_block]; exact hne))]
  exact hc i hi j u hu
theorem Lk.erow_p2 {z : World} {A : Option Addr} {l : List Ent} {b : Nat} (h : ERow z A l) (hp : P2 b z) (x y : Value) : ERow ((z.setCell ⟨b, 0, none⟩ x).setCell ⟨b + 1, 0, none⟩ y) A l := by
  obtain ⟨h1, h2⟩ := hp
  have g2 : (z.setCell ⟨b, 0, none⟩ x).heap[b + 1]? = some (.cells #[.int .i64 0] 28 (0, 0)) := by simp [World.setCell, Array.getElem?_modify, h2]
  exact erow_set (erow_set h h1 x) g2 y
/-- What Read hands back. -/
def Lk.ReadR (w : World) (s : List UInt8) (e : Ending) (w' : World) : Prop := Below w.heap.size w w' ∧ ∃ A n c, e = .returned (.tuple #[.slice A n c, .int .i64 (readL s).1, .int .i64 (readL s).2.1]) ∧ (readL s).2.2.length = n ∧ ERow w' A (readL s).2.2
theorem Lk.readR_of {w w' : World} {s : List UInt8} {i : Nat} {k : Int} {l : List Ent} {A : Option Addr} {n c : Nat} (h : readL s = (i, k, l)) (hb : Below w.heap.size w w') (hn : l.length = n) (hr : ERow w' A l) : ReadR w s (.returned (.tuple #[.slice A n c, .int .i64 i, .int .i64 k])) w' := by
  refine ⟨hb, A, n, c, ?_, ?_, ?_⟩ <;> rw [h]
  · exact hn
  · exact hr
set_option maxRecDepth 100000 in
set_option maxHeartbeats 3200000 in
theorem lockRead_any (s : List UInt8) (w : World) (hw : WOk w) (hs : s.length ≤ 100000) :
    Calls Tryz.prog 19 #[.string ⟨s.toArray⟩] w (ReadR w s) := by
  have hmf : ∀ (fn : Fn) (first cap : Array Value) (w : World), (Instr.makeFunc fn first cap).run Tryz.prog w = .ok (.func fn first cap) w := fun _ _ _ _ => rfl
  obtain ⟨W1, hW1⟩ : ∃ W, w.alloc (.cells #[.int .i64 0] 3) = W := ⟨_, rfl⟩
  obtain ⟨W2, hW2⟩ : ∃ W, W1.alloc (.cells #[.int .i64 0] 28) = W := ⟨_, rfl⟩
  have HPC : Hid (∀ u, Below W2.heap.size W2 u → P2 w.heap.size u) := fun u hb => p2_of hW1 hW2 hb
  have hs1 : W1.heap.size = w.heap.size + 1 := by rw [← hW1]; simp
  have HBW : Hid (Below w.heap.size w W2) := (alloc_low hW1).trans ((alloc_low hW2).mono (alloc_low hW1).size)
  have HQ := Lib.hid (lockread_any s W2 (wok_below hw HBW.out) hs)
  have HS := Lib.hid hs
  clear hw hs
  go_enter_defers Tryz.func19, Tryz.ntmps19
  go_wp2_with fail
  clear hW1 hW2
  refine HQ.out.mono ?_
  rintro e z1 ⟨hb, hcs⟩
  have HB := Lib.hid hb
  clear hb HQ
  rcases hcs with ⟨C, n, c, l, rfl, hn, hrow, hrd⟩ | ⟨k, rfl, hrd, hk⟩ | ⟨i, k, rfl, hrd, hk⟩
  · obtain ⟨c0, f0, c1, f1⟩ := p2_cells (HPC.out _ HB.out)
    obtain ⟨d0, g0, d1, g1⟩ := p2_after (HPC.out _ HB.out) (.int .i64 0)
    have HP2 := Lib.hid (p2_again (HPC.out _ HB.out))
    have HBV : Hid (Below w.heap.size w ((z1.setCell ⟨w.heap.size, 0, none⟩ (.int .i64 0)).setCell ⟨w.heap.size + 1, 0, none⟩ (.int .i64 0))) := ((HBW.out.trans (HB.out.mono HBW.out.size)).setCell (Nat.le_refl _) _).setCell (Nat.le_succ _) _
    have HRR := Lib.hid hrd
    have HN := Lib.hid hn
    have HROW := Lib.hid hrow
    clear hn hrow hrd
    have HR2 : Hid (ERow ((z1.setCell ⟨w.heap.size, 0, none⟩ (.int .i64 0)).setCell ⟨w.heap.size + 1, 0, none⟩ (.int .i64 0)) C l) := erow_p2 HROW.out (HPC.out _ HB.out) _ _
    go_wp2_with fail
    generalize (z1.setCell ⟨w.heap.size, 0, none⟩ (.int .i64 0)).setCell ⟨w.heap.size + 1, 0, none⟩ (.int .i64 0) = V at *
    obtain ⟨k0, m0, k1, m1⟩ := p2_cells HP2.out
    obtain ⟨l0, o0, l1, o1⟩ := p2_after HP2.out (.int .i64 0)
    obtain ⟨q0, q1⟩ := p2_both HP2.out (.int .i64 0) (.int .i64 0)
    refine leaves_cons (f := 38) (args := #[.pointer (some ⟨w.heap.size, 0, none⟩), .pointer (some ⟨w.heap.size + 1, 0, none⟩)]) (by simp) (by simp [go_sem]) ?_
    refine (lRead_idle ⟨w.heap.size, 0, none⟩ ⟨w.heap.size + 1, 0, none⟩ 0 0 _ k0 m0 l1 o1).mono ?_
    rintro e u' w3 ⟨rfl, rfl, rfl⟩
    simp [Leaves, settle, results, Tryz.results19, go_sem, q0, q1]
    exact readR_of HRR.out ((HBV.out.setCell (Nat.le_refl _) _).setCell (Nat.le_succ _) _) HN.out (erow_p2 HR2.out HP2.out _ _)
  · have HRR := Lib.hid hrd
    clear hrd hk
    obtain ⟨c0, f0, c1, f1⟩ := p2_cells (HPC.out _ HB.out)
    obtain ⟨d0, g0, d1, g1⟩ := p2_after (HPC.out _ HB.out) (.int .i64 0)
    obtain ⟨q0, q1⟩ := p2_both (HPC.out _ HB.out) (.int .i64 0) (.int .i64 k)
    go_wp2_with fail
    refine leaves_cons (f := 38) (args := #[.pointer (some ⟨w.heap.size, 0, none⟩), .pointer (some ⟨w.heap.size + 1, 0, none⟩)]) (by simp) (by simp [go_sem]) ?_
    refine (lRead_panic ⟨w.heap.size, 0, none⟩ ⟨w.heap.size + 1, 0, none⟩ 0 0 k _ c0 f0 d1 g1).mono ?_
    rintro e u' w3 ⟨rfl, rfl, rfl⟩
    simp [Leaves, settle, results, Tryz.results19, go_sem, q0, q1]
    exact readR_of HRR.out (((HBW.out.trans (HB.out.mono HBW.out.size)).setCell (Nat.le_refl _) _).setCell (Nat.le_succ _) _) rfl (Rg.row_nil _ _)
  · have HRR := Lib.hid hrd
    clear hrd hk
    go_wp2_with fail
    refine leaves_cons (f := 38) (args := #[.pointer (some ⟨w.heap.size, 0, none⟩), .pointer (some ⟨w.heap.size + 1, 0, none⟩)]) (by simp) (by simp [go_sem]) ?_
    refine (lRead_placed ⟨w.heap.size, 0, none⟩ ⟨w.heap.size + 1, 0, none⟩ 0 0 i k _ (fun u hb => (p2_cells (HPC.out _ (HB.out.trans (hb.mono HB.out.size)))).1) (fun u hb => (p2_cells (HPC.out _ (HB.out.trans (hb.mono HB.out.size)))).2.1) (fun u hb => (p2_after (HPC.out _ (HB.out.trans (hb.mono HB.out.size))) _).2.2.1) (fun u hb => (p2_after (HPC.out _ (HB.out.trans (hb.mono HB.out.size))) _).2.2.2)).mono ?_
    rintro e u' w3 ⟨rfl, rfl, u, hb, rfl⟩
    have HBU := Lib.hid (HB.out.trans (hb.mono HB.out.size))
    obtain ⟨q0, q1⟩ := p2_both (HPC.out _ HBU.out) (.int .i64 i) (.int .i64 k)
    simp [Leaves, settle, results, Tryz.results19, go_sem, q0, q1]
    exact readR_of HRR.out (((HBW.out.trans (HBU.out.mono HBW.out.size)).setCell (Nat.le_refl _) _).setCell (Nat.le_succ _) _) rfl (Rg.row_nil _ _)
end Go.Proofs.YtojhapnodjabdaaGreatDoor
