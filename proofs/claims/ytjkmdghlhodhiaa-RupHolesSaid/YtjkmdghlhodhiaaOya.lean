/- slices.Chunk at clauses: its iterator gives one piece, or none: walked. -/
import Derived.Test.YtjkmdghlhodhiaaOk
import Derived.RangeFuncNested
import Derived.RangeFuncBound
import Derived.RangeFuncCalls
import Derived.RangeFuncLeaves
import Derived.RangeFuncWrites
import Derived.Sort.QuietTacIn
import Derived.OwnWalkIn
import Derived.TacticsInMore
import Derived.LoopNIn
import Derived.LoopIn
namespace Go.Proofs.Ytjkmdghlhodhiaa
open Go.RowKit Cl Up
attribute [local go_sem ↓] Go.wp_at_zero Go.wp_at_succ
set_option maxHeartbeats 400000 in
theorem chunk_any (A : Option Addr) (ll c : Nat) (w : World) : Calls Try.prog 58 #[.slice A ll c, .int .i64 131072] w fun e w' =>
    e = .returned (.func (.func 62) #[] #[.pointer (some ⟨w.heap.size, 0, none⟩), .pointer (some ⟨w.heap.size + 1, 0, none⟩)]) ∧ (w.alloc (.cells #[.slice A ll c] 29)).alloc (.cells #[.int .i64 131072] 3) = w' := by
  have hmf : ∀ (fn : Fn) (first cap : Array Value) (w : World), (Instr.makeFunc fn first cap).run Try.prog w = .ok (.func fn first cap) w := fun _ _ _ _ => rfl
  go_enter Try.func58, Try.ntmps58
  go_wp2_with fail
  go_ret
  exact ⟨rfl, rfl⟩
theorem Up.cA_run (ad : Addr) (k vc : Nat) (_h2 : k ≤ vc) : ∃ Y, ((if vc = 0 then some ad else some (ad.add (0 * 1))) = Y) ∧ ∀ W : World, (Instr.sliceAt 29 (.slice (some ad) k vc) (some (.int .i64 0)) none none).run Try.prog W = .ok (.slice Y k vc) W := by
  refine ⟨_, rfl, fun W => ?_⟩
  have i0 : (0 : Int) ≤ (k : Int) := by omega
  have i2 : (0 : Int) ≤ (vc : Int) := by omega
  go_simp
theorem Up.cB_run (ad : Addr) (k vc : Nat) (h2 : k ≤ vc) : ∀ W : World, (Instr.sliceAt 29 (.slice (some ad) k vc) (some (.int .i64 0)) (some (.int .i64 (k : Int))) (some (.int .i64 (k : Int)))).run Try.prog W = .ok (.slice (some ad) k k) W := by
  intro W
  have i0 : (0 : Int) ≤ (k : Int) := by omega
  have i2 : (k : Int) ≤ (vc : Int) := by omega
  go_simp
/-- What a round keeps: the iterator's two variables. -/
def Up.KpC (b1 b2 : Nat) (W W' : World) : Prop := W'.cell? ⟨b1, 0, none⟩ = W.cell? ⟨b1, 0, none⟩ ∧ W'.cell? ⟨b2, 0, none⟩ = W.cell? ⟨b2, 0, none⟩
attribute [local go_sem] Oper.semAt_some
set_option maxRecDepth 100000 in
set_option maxHeartbeats 2000000 in
theorem chunk_seq (n : Nat) (hn : 1 ≤ n) (b1 b2 : Nat) (A : Option Addr) (ll c : Nat) (w : World) (l1 : b1 < w.heap.size) (l2 : b2 < w.heap.size)
    (h1 : w.cell? ⟨b1, 0, none⟩ = some (.slice A ll c)) (h2 : w.cell? ⟨b2, 0, none⟩ = some (.int .i64 131072)) (hll : ll ≤ 131072) (hc : ll ≤ c) (hA : 0 < ll → ∃ ad, A = some ad) :
    SeqStopsK Fence.wide n Try.prog 62 #[.pointer (some ⟨b1, 0, none⟩), .pointer (some ⟨b2, 0, none⟩)] (fun _ : Unit => #[.slice A ll ll]) (KpC b1 b2)
      (fun xs => xs = if 0 < ll then [()] else []) (fun pre => 0 < ll ∧ pre = [()]) 1 w := fun l J Jx W hW hJa _ hY h0 => by
  have q1 : W.cell? ⟨b1, 0, none⟩ = some (.slice A ll c) := (hW.cell (p := ⟨b1, 0, none⟩) l1).trans h1
  have q2 : W.cell? ⟨b2, 0, none⟩ = some (.int .i64 131072) := (hW.cell (p := ⟨b2, 0, none⟩) l2).trans h2
  clear h1 h2 hW l1 l2
  refine callsIn_of_wp Try.func62 rfl trivial ?_ rfl
  simp only [Try.ntmps62, List.size_toArray, List.length_cons, List.length_nil, Nat.reduceAdd, Nat.reduceSub, Array.replicate_succ, Array.replicate_zero, List.push_toArray, List.append_toArray, List.nil_append, List.cons_append]
  gi_wp2
  by_cases hz : 0 < ll
  · obtain ⟨ad, rfl⟩ := hA hz
    gi_loopw [4] (fun i wr => wr.cell? ⟨b1, 0, none⟩ = some (.slice (some ad) ll c) ∧ wr.cell? ⟨b2, 0, none⟩ = some (.int .i64 131072) ∧ ((i = .int .i64 0 ∧ J [] wr) ∨ (i = .int .i64 131072 ∧ J [()] wr)))
      (fun i _ => 131072 - (intOf i).toNat)
    case atStart => exact ⟨q1, q2, .inl ⟨rfl, h0⟩⟩
    case round =>
      clear q1 q2
      obtain ⟨q1, q2, ⟨rfl, hJ⟩ | ⟨rfl, hJ⟩⟩ := hrel
      · obtain ⟨fn, tmps, assign, body, hy, hR⟩ := hY [] () wr hJ (by simp)
        have d1 : (0 : Int) < (ll : Int) := by omega
        obtain ⟨Y, hY1, hr1⟩ := cA_run ad ll c hc
        have hr2 := cB_run ad ll c hc
        have i0 : (0 : Int) ≤ (ll : Int) := by omega
        have mn : min (131072 : Int) (ll : Int) = (ll : Int) := by omega
        have wz : IntKind.i64.wrap (0 + (ll : Int)) = (ll : Int) := (IntWalk.i64_in _ (by omega)).trans (by omega)
        have wy : IntKind.i64.wrap (ll : Int) = (ll : Int) := IntWalk.i64_in _ (by omega)
        gi_wp2
        gi_quiet_th (fail)
        have hJ2 : J [] (wr.drewN nq) := hJa _ wr _ none hJ ⟨rfl, rfl, rfl, Nat.le_refl _, fun _ _ _ => rfl⟩ (fun r e => by cases e)
        obtain ⟨fn, tmps, assign, body, hy, hR⟩ := hY [] () (wr.drewN nq) hJ2 (by simp)
        have r1 : (wr.drewN nq).cell? ⟨b1, 0, none⟩ = some (.slice (some ad) ll c) := q1
        have r2 : (wr.drewN nq).cell? ⟨b2, 0, none⟩ = some (.int .i64 131072) := q2
        clear mn
        gi_wp2
        refine hR.mono ?_
        rintro e W3 (⟨rfl, hJ3, hk3⟩ | ⟨rfl, hJx3⟩)
        · have q1' := hk3.1.trans r1
          have q2' := hk3.2.trans r2
          gi_wp2
          go_roundw
          case rel => exact ⟨q1', q2', .inr ⟨rfl, hJ3⟩⟩
          case measure => simp [intOf]
        · gi_wp2
          refine bodyPost_ret (results_none rfl _ _ _) rfl ?_
          exact ⟨⟨_, rfl⟩, .inr hJx3⟩
      · have d1 : ¬ (131072 : Int) < (ll : Int) := by omega
        gi_wp2
        go_end0
        exact ⟨⟨_, rfl⟩, .inl hJ⟩
  · obtain rfl : ll = 0 := by omega
    gi_loopw [4] (fun i wr => wr.cell? ⟨b1, 0, none⟩ = some (.slice A 0 c) ∧ i = .int .i64 0 ∧ J [] wr) (fun i _ => 0)
    case atStart => exact ⟨q1, rfl, h0⟩
    case round =>
      clear q1
      obtain ⟨q1, rfl, hJ⟩ := hrel
      gi_wp2
      go_end0
      exact ⟨⟨_, rfl⟩, hJ⟩
end Go.Proofs.Ytjkmdghlhodhiaa
