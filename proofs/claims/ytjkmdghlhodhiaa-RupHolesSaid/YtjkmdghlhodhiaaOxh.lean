/- Close: walked. -/
import Derived.Test.YtjkmdghlhodhiaaOxg
namespace Go.Proofs.Ytjkmdghlhodhiaa.Up
open Go.RowKit Cl
theorem set_grown (w : World) (a : Addr) (v : Value) : w.grownBy (w.setCell a v) (some a.block) := ⟨rfl, rfl, rfl, by simp [World.setCell], fun k _ hk => Below.heap_setCell _ _ _ _ (fun e => hk (by simp [e]))⟩
theorem mk_known (k : Nat) (w : World) (B : Nat) (hB : B ≤ w.heap.size) (hk : k ≤ 1000000) : ∃ w', (Instr.makeSlice 85 (.int .i64 (k : Int)) (.int .i64 (k : Int))).run Try.prog w = .ok (.slice (some ⟨w.heap.size, 0, none⟩) k k) w' ∧ Rg.Own encI 1 w' B 3 (.slice (some ⟨w.heap.size, 0, none⟩) k k) (List.replicate k 0) ∧ w.grownBy w' none := by
  obtain ⟨i, hi, hz0, hz1, hz2⟩ := info_parts (P := Try.prog) (e := 3) (z := .int .i64 0) (size := 1) (bytes := 8) (by kernel_rfl)
  obtain ⟨w', h1, h2, h3⟩ := run_makeSlice_full (w := w) B 85 3 i (.int .i64 0) 1 Try.underlying85 hi hz0 hz1 .i64 .i64 k (by omega) (by rw [hz2]; omega) (by unfold maxLen; omega) hB
  refine ⟨w', h1, ?_, h3⟩
  unfold Rg.Own
  have e : (madeCells (Value.int .i64 0).cells (k * 1)).toList = Rg.flat encI (List.replicate k 0) := by
    rw [Nat.mul_one]
    have h1 : (madeCells (Value.int .i64 0).cells k).toList = List.replicate k (.int .i64 0) := by
      refine List.eq_replicate_iff.2 ⟨by simp [madeCells], fun b hb => ?_⟩
      unfold madeCells at hb
      rw [Array.toList_map] at hb
      obtain ⟨i, _, rfl⟩ := List.mem_map.1 hb
      have : (Value.int .i64 0).cells = #[.int .i64 0] := rfl
      rw [this]
      have e : i % (#[Value.int .i64 0] : Array Value).size = 0 := Nat.mod_one i
      rw [e]; rfl
    have h2 : ∀ k : Nat, Rg.flat encI (List.replicate k 0) = List.replicate k (.int .i64 0) := fun k => by
      induction k with
      | zero => rfl
      | succ k ih => rw [List.replicate_succ, List.replicate_succ, ← ih]; rfl
    rw [h1, h2]
  rw [← e, List.length_replicate]
  exact h2
theorem kL_new (k : Nat) : kL (List.replicate k 0) = List.replicate k 0 := by
  apply List.ext_getElem?
  intro i
  unfold kL
  rw [List.getElem?_mapIdx, List.getElem?_replicate]
  split <;> simp
/-- The result cell. -/
def RB (b : Nat) (u : World) : Prop := u.heap[b]? = some (.cells #[.bool false] 4 (0, 0))
theorem rb_of {w W u : World} (h1 : w.alloc (.cells #[.bool false] 4) = W) (hb : Below W.heap.size W u) : RB w.heap.size u := by
  have hs1 : W.heap.size = w.heap.size + 1 := by rw [← h1]; simp
  refine (hb.block _ (by omega)).trans ?_
  rw [← h1]; exact heap_alloc_new w _
theorem rb_cell {b : Nat} {u : World} (h : RB b u) : u.cell? ⟨b, 0, none⟩ = some (.bool false) ∧ u.frozen? ⟨b, 0, none⟩ = false := by
  unfold RB at h
  refine ⟨?_, ?_⟩ <;> simp [World.cell?, World.frozen?, h]
theorem rb_after {b : Nat} {u : World} (h : RB b u) (x : Value) : (u.setCell ⟨b, 0, none⟩ x).cell? ⟨b, 0, none⟩ = some x ∧ (u.setCell ⟨b, 0, none⟩ x).frozen? ⟨b, 0, none⟩ = false := by
  obtain ⟨h1, h2⟩ := rb_cell h
  exact ⟨by simp [go_sem, h1], by simp [go_sem, h2]⟩
end Go.Proofs.Ytjkmdghlhodhiaa.Up
namespace Go.Proofs.Ytjkmdghlhodhiaa
open Go.RowKit Cl Up
attribute [local go_sem ↓] Go.wp_at_zero Go.wp_at_succ
theorem Up.cl_panic (p : Addr) (x : Value) (w : World) (hc : w.cell? p = some x) (hz : w.frozen? p = false) :
    CallsD Try.prog 53 #[.pointer (some p)] (.panicking [{ v := .iface 82 (.agg #[]), recovered := false }]) w fun e u' w' =>
      e = .returned (.tuple #[]) ∧ u' = .panicking [{ v := .iface 82 (.agg #[]), recovered := true }] ∧ w' = w.setCell p (.bool true) := by
  have hta : ∀ W : World, (Instr.typeAssert (.iface 82 (.agg #[])) 20 82 true).run Try.prog W = .ok (.tuple #[.agg #[], .bool true]) W := fun _ => by kernel_rfl
  refine callsD_of_wpS Try.func53 rfl fun c₀ cs hu => ?_
  apply wpS_region
  simp [wpOpsS, go_sem, recoverD, hu, hta, hc, hz, bodyPostS, results, Try.results53, Try.ntmps53]
theorem Up.cl_idle (p : Addr) (x : Value) (w : World) (hc : w.cell? p = some x) (hz : w.frozen? p = false) :
    CallsD Try.prog 53 #[.pointer (some p)] .returning w fun e u' w' => e = .returned (.tuple #[]) ∧ u' = .returning ∧ w' = w.setCell p (.bool false) := by
  have hta : ∀ W : World, (Instr.typeAssert Value.nilIface 20 82 true).run Try.prog W = .ok (.tuple #[.agg #[], .bool false]) W := fun _ => by kernel_rfl
  refine callsD_of_wpS Try.func53 rfl fun c₀ cs hu => ?_
  apply wpS_region
  simp [wpOpsS, go_sem, recoverD, hu, hta, hc, hz, bodyPostS, results, Try.results53, Try.ntmps53]
  cases c₀
  simp_all
/-- The literals that are there, laid one after another. -/
def Up.AddAll (n b N : Nat) (w : World) (l : List (List Int)) (s : List Int) (j : Nat) (u : World) : Prop := ∃ m, MOk n m ∧ Sound l s m ∧ (∀ y ∈ s.take j, valL m y = 1) ∧ MRow w u b N (kL m)
set_option maxRecDepth 100000 in
set_option maxHeartbeats 6400000 in
theorem pClose_any : CloseC := fun n A B ll kk c d l s w hl hg hk hs hn hln hsn hl1 hk1 hlc => by
  have hmf : ∀ (fn : Fn) (first cap : Array Value) (w : World), (Instr.makeFunc fn first cap).run Try.prog w = .ok (.func fn first cap) w := fun _ _ _ _ => rfl
  obtain ⟨W1, hW1⟩ : ∃ W, w.alloc (.cells #[.bool false] 4) = W := ⟨_, rfl⟩
  have HPC : Hid (∀ u, Below W1.heap.size W1 u → RB w.heap.size u) := fun u hb => rb_of hW1 hb
  have hs1 : W1.heap.size = w.heap.size + 1 := by rw [← hW1]; simp
  have HS1 := Lib.hid hs1
  have HBW : Hid (Below w.heap.size w W1) := alloc_low hW1
  have HG := Lib.hid (crow_below hg HBW.out)
  have HS := Lib.hid (irow_below hs HBW.out)
  have HACC := Lib.hid (pAccept_any n A B ll kk c d l s W1 hl (crow_grow HG.out) hk HS.out hn hln hsn hl1 hk1 hlc)
  have HL := Lib.hid hl
  have HK := Lib.hid hk
  have HLN := Lib.hid hln
  have HSN := Lib.hid hsn
  have HLC := Lib.hid hlc
  obtain ⟨N, hN⟩ : ∃ N, N = n + 1 := ⟨_, rfl⟩
  have HN := Lib.hid hN
  have wN : IntKind.i64.wrap ((n : Int) + 1) = (N : Int) := (IntWalk.i64_in _ (by omega)).trans (by omega)
  have hN1 : N ≤ 257 := by omega
  have HMK := Lib.hid fun (u : World) (hu : W1.heap.size ≤ u.heap.size) => mk_known N u W1.heap.size hu (by omega)
  clear hl hg hk hs hln hsn hlc hs1 hN
  go_enter_defers Try.func48, Try.ntmps48
  go_wp2_with fail
  clear hW1
  refine HACC.out.mono ?_
  rintro _ u1 ⟨rfl, hb⟩
  obtain ⟨u2, hmk, hown, hgr⟩ := HMK.out u1 hb.size
  have HMR : Hid (MRow W1 u2 u1.heap.size N (kL (List.replicate N 0))) := by
    show MRow _ _ _ _ _
    rw [kL_new]
    exact ⟨hown, hb.trans ((Below.refl _ _).grown hgr hb.size fun k hk => by cases hk), Nat.le_trans hb.size hgr.size⟩
  have HBL : Hid (W1.heap.size ≤ u1.heap.size) := hb.size
  obtain ⟨b, hb0⟩ : ∃ b, u1.heap.size = b := ⟨_, rfl⟩
  rw [hb0] at hmk HMR HBL
  clear hb hown hgr HMK HACC hb0
  go_wp2_with fail
  clear hmk wN
  go_loopw [21] (fun i wr => ∃ j : Nat, j ≤ kk ∧ i = .int .i64 j ∧ Hid (AddAll n b N W1 l s j wr)) (fun i _ => kk - (intOf i).toNat)
  case atStart => exact ⟨0, Nat.zero_le _, rfl, _, by rw [HN.out]; exact mok_new n, by rw [HN.out]; exact sound_new l s n, fun y h => absurd h (by simp), HMR.out⟩
  case round =>
    clear HMR
    obtain ⟨j, hj, rfl, HA⟩ := hrel
    obtain ⟨m, hmo, hso, hba, hmr⟩ := HA.out
    have HMO := Lib.hid hmo
    have HSO := Lib.hid hso
    have HBA := Lib.hid hba
    have HMR := Lib.hid hmr
    clear hmo hso hba hmr HA
    have hml : m.length = N := HMO.out.len.trans HN.out.symm
    by_cases hlt : j < kk
    · have hjl : j < s.length := by rw [HK.out]; exact hlt
      obtain ⟨ad, x, rfl, hx, hxb, hc⟩ := irow_at (irow_below HS.out HMR.out.2.1) j hjl
      have hxl := HSN.out x (hx ▸ List.getElem_mem hjl)
      have HXL := Lib.hid hxl
      have j0 : (0 : Int) ≤ (j : Int) := by omega
      have j1 : (j : Int) < (kk : Int) := by omega
      have HC := Lib.hid (pAdd_any W1.heap.size n N N _ m x wr hml HMR.out.1 HMO.out hxl (by omega))
      have HLIT : Hid (Der l s x) := .lit (hx ▸ List.getElem_mem hjl)
      have HBA2 : Hid (valL m x ≠ -1 → ∀ y ∈ s.take (j + 1), valL (setL m x) y = 1) := fun h => base_more HMO.out hjl hx hxl HBA.out h
      clear hx hxb hxl hjl hml
      go_wp2_with fail
      refine HC.out.mono ?_
      rintro e z hz
      rcases hz with ⟨e1, rfl, rfl⟩ | ⟨bb, e1, e2, rfl, ho4, hg4⟩ | ⟨bb, e1, e2, rfl, ho4, hg4⟩
      · have HBB : Hid (Contra l s) := .inl ⟨x, HLIT.out, sound_neg HSO.out HXL.out.1 e1⟩
        clear e1
        obtain ⟨q0, q1⟩ := rb_cell (HPC.out _ HMR.out.2.1)
        obtain ⟨t0, t1⟩ := rb_after (HPC.out _ HMR.out.2.1) (.bool true)
        have HZ : Hid (Below w.heap.size w (wr.setCell ⟨w.heap.size, 0, none⟩ (.bool true)) ∧ w.heap.size ≤ (wr.setCell ⟨w.heap.size, 0, none⟩ (.bool true)).heap.size) := by
          have h : Below w.heap.size w (wr.setCell ⟨w.heap.size, 0, none⟩ (.bool true)) := (HBW.out.trans ((HMR.out.2.1).mono HBW.out.size)).setCell (Nat.le_refl _) _
          exact ⟨h, h.size⟩
        go_wp2_with fail
        refine leaves_cons (f := 53) (args := #[.pointer (some ⟨w.heap.size, 0, none⟩)]) (by simp) (by simp [go_sem]) ?_
        refine (cl_panic ⟨w.heap.size, 0, none⟩ _ _ q0 q1).mono ?_
        rintro e u' w3 ⟨rfl, rfl, rfl⟩
        simp [Leaves, settle, results, Try.results48, go_sem, t0]
        exact close_bad HBB.out HZ.out.1 HZ.out.2
      · have HMR3 := Lib.hid (mrow_set HMR.out ho4 hg4)
        have HB2 := Lib.hid (HBA2.out (by rw [e1]; decide))
        clear e1 ho4 hg4
        go_wp2_with fail
        go_roundw
        case rel => exact ⟨j + 1, by omega, by go_num, _, mok_set HMO.out HXL.out, sound_set HMO.out HSO.out HXL.out HLIT.out, HB2.out, HMR3.out⟩
        case measure => simp [intOf]; omega
      · have HMR3 := Lib.hid (mrow_set HMR.out ho4 hg4)
        have HB2 := Lib.hid (HBA2.out (by rw [e1]; decide))
        clear e1 ho4 hg4
        go_wp2_with fail
        go_roundw
        case rel => exact ⟨j + 1, by omega, by go_num, _, mok_set HMO.out HXL.out, sound_set HMO.out HSO.out HXL.out HLIT.out, HB2.out, HMR3.out⟩
        case measure => simp [intOf]; omega
    · have HBA2 : Hid (∀ y ∈ s, valL m y = 1) := fun y hy => HBA.out y (by rw [List.take_of_length_le (by rw [HK.out]; omega)]; exact hy)
      have HF := Lib.hid (pFollow_any n b N A ll c l s m W1 wr hml HMR.out HBL.out HMO.out HSO.out HBA2.out HL.out HG.out HLN.out (fun x hx => by have := HLC.out x hx; omega) (by omega) (by omega))
      clear hml HBA
      go_wp2_with fail
      refine HF.out.mono ?_
      rintro e z hz
      rcases hz with ⟨rfl, hbad, hb1, hb2⟩ | ⟨m2, rfl, hmo, hso, hba, hun, hmr⟩
      · have HBB := Lib.hid hbad
        have HBZ : Hid (Below W1.heap.size W1 z) := hb1
        clear hbad hb1 hb2
        obtain ⟨q0, q1⟩ := rb_cell (HPC.out _ HBZ.out)
        obtain ⟨t0, t1⟩ := rb_after (HPC.out _ HBZ.out) (.bool true)
        have HZ : Hid (Below w.heap.size w (z.setCell ⟨w.heap.size, 0, none⟩ (.bool true)) ∧ w.heap.size ≤ (z.setCell ⟨w.heap.size, 0, none⟩ (.bool true)).heap.size) := by
          have h : Below w.heap.size w (z.setCell ⟨w.heap.size, 0, none⟩ (.bool true)) := (HBW.out.trans ((HBZ.out).mono HBW.out.size)).setCell (Nat.le_refl _) _
          exact ⟨h, h.size⟩
        go_wp2_with fail
        refine leaves_cons (f := 53) (args := #[.pointer (some ⟨w.heap.size, 0, none⟩)]) (by simp) (by simp [go_sem]) ?_
        refine (cl_panic ⟨w.heap.size, 0, none⟩ _ _ q0 q1).mono ?_
        rintro e u' w3 ⟨rfl, rfl, rfl⟩
        simp [Leaves, settle, results, Try.results48, go_sem, t0]
        exact close_bad HBB.out HZ.out.1 HZ.out.2
      · have HDONE := Lib.hid (ref_done hmo hso HSN.out HLN.out hba hun)
        have HMR2 := Lib.hid hmr
        have HLK := Lib.hid (pLits_any (some ⟨b, 0, none⟩) N N m2 z (hmo.len.trans HN.out.symm) (mrow_row hmr) (by omega))
        have HLO : Hid (litsK m2 N = outK m2 n) := by
          show _ = _
          rw [HN.out]
          exact litsK_out m2 n (by rw [hmo.len]; exact Nat.le_refl _)
        clear hmo hso hba hun hmr
        go_wp2_with fail
        refine HLK.out.mono ?_
        rintro _ z2 ⟨v, rfl, ho, hb1, hb2⟩
        have HO := Lib.hid ho
        have HBZ : Hid (Below W1.heap.size W1 z2) := HMR2.out.2.1.trans (hb1.mono HMR2.out.2.2)
        obtain ⟨q0, q1⟩ := rb_cell (HPC.out _ HBZ.out)
        clear ho hb1 hb2
        obtain ⟨t0, t1⟩ := rb_after (HPC.out _ HBZ.out) (.bool false)
        have HZ : Hid (Below w.heap.size w ((z2.setCell ⟨w.heap.size, 0, none⟩ (.bool false)).setCell ⟨w.heap.size, 0, none⟩ (.bool false))) := ((HBW.out.trans (HBZ.out.mono HBW.out.size)).setCell (Nat.le_refl _) _).setCell (Nat.le_refl _) _
        have HSZ : Hid (w.heap.size ≤ z.heap.size) := Nat.le_trans HBW.out.size HMR2.out.2.2
        have HO2 : Hid (Rg.Own encI 1 ((z2.setCell ⟨w.heap.size, 0, none⟩ (.bool false)).setCell ⟨w.heap.size, 0, none⟩ (.bool false)) w.heap.size 3 v (outK m2 n)) := by
          have hset : ∀ u : World, Rg.Own encI 1 u z.heap.size 3 v (outK m2 n) → Rg.Own encI 1 (u.setCell ⟨w.heap.size, 0, none⟩ (.bool false)) z.heap.size 3 v (outK m2 n) := fun u h => World.ownsRow.kept h (set_grown u _ _) (by
            by_cases e : v.ownBlock = none
            · exact .inl e
            · refine .inr fun e2 => ?_
              have h1 := (Rg.own_lt h _ e2).1
              have h2 := HMR2.out.2.2
              have h3 := HS1.out
              have h1 : z.heap.size ≤ w.heap.size := h1
              omega)
          exact Rg.own_weak HSZ.out (hset _ (hset _ (HLO.out ▸ HO.out)))
        go_wp2_with fail
        obtain ⟨s0, s1⟩ : ((z2.setCell ⟨w.heap.size, 0, none⟩ (.bool false)).setCell ⟨w.heap.size, 0, none⟩ (.bool false)).cell? ⟨w.heap.size, 0, none⟩ = some (.bool false) ∧ True := ⟨by simp [go_sem, t0], trivial⟩
        generalize hV : z2.setCell ⟨w.heap.size, 0, none⟩ (.bool false) = V at t0 t1 s0 HO2 HZ ⊢
        refine leaves_cons (f := 53) (args := #[.pointer (some ⟨w.heap.size, 0, none⟩)]) (by simp) (by simp [go_sem]) ?_
        refine (cl_idle ⟨w.heap.size, 0, none⟩ _ _ t0 t1).mono ?_
        rintro e u' w3 ⟨rfl, rfl, rfl⟩
        simp [Leaves, settle, results, Try.results48, go_sem, s0]
        exact ⟨v, outK m2 n, false, rfl, HDONE.out, HO2.out, HZ.out, HZ.out.size⟩
end Go.Proofs.Ytjkmdghlhodhiaa
