/- A front of a proof that is taken is taken; with a step that does not follow behind it that one is told: for every input the law RupFronts returns true and leaves its arguments as they were. Nothing else is asked. -/
import Derived.Test.YtjkmdghlhodhiaaRows
import Derived.Test.YtjkmdghlhodhiaaOyc
import Derived.Test.YtjkmdghlhodhiaaOv
import Derived.Test.YtjkmdghlhodhiaaEzc
import Derived.WalkKit
import Derived.ProofKit
import Derived.OpenShut
import Derived.ShutString
import Derived.Handed
import Derived.Stop.Joined
import Derived.Carry
import Derived.SizedLaws
namespace Go.Proofs.Ytjkmdghlhodhiaa.rupFronts
open Go.ChangeShapes Go.WideShapes Go.ChangeAt Go.RowKit Cl Up
open Go.ChangeMaps (open_string shut_string)
theorem own : ownKnob Try.prog.godebug = none := by kernel_rfl
set_option maxRecDepth 100000 in
theorem lifted (os : Os) (started : os.Started) (H : Type) (enc : TypeId × Value → H) :
    ReturnsInHanded {} Try.checked os 5 .any (Rows.rupFrontsSpec.pre6 enc Try.prog Try.f5 Rows.rupFrontsRow.domain false) (Rows.rupFrontsSpec.post enc Try.prog Try.f5 false true false false) := by
  refine returnsInHanded_of_change_sized (C := Try.checked) own started (by kernel_rfl) Try.func5
    (ChangeSpec.witness6 (enc := enc) (C := Try.checked) false ⟨#[], #[.int .i64 0, .slice none 0 0, .slice none 0 0, .int .u8 0, .slice none 0 0], []⟩ 8 (by kernel_rfl) (by kernel_rfl) (by kernel_rfl) (by kernel_rfl)) ?_
  intro W base args ds gs before hval0 hW hcnd hwt _
  have hval : ∀ (j : Nat) t v, Try.f5.params[j]? = some t → args[j]? = some v → Value.okWide Try.prog W .any base t v := hval0
  have hW' := hW
  obtain ⟨p, q, hA0, hV, rfl, _, _⟩ := hW
  have hA : DataW.TrodAll enc Try.prog W 0 (fun _ => true) true Try.f5.params.toList args.toList ds p := hA0
  rw [Try.params5] at hA hval
  obtain ⟨v0, vs0, d0, ds0, p0, q0, hargs, rfl, rfl, h0, r0⟩ := trodAll_cons hA
  obtain ⟨v1, vs1, d1, ds1, p1, q1, rfl, rfl, rfl, h1, r1⟩ := trodAll_cons r0
  obtain ⟨v2, vs2, d2, ds2, p2, q2, rfl, rfl, rfl, h2, r2⟩ := trodAll_cons r1
  obtain ⟨v3, vs3, d3, ds3, p3, q3, rfl, rfl, rfl, h3, r3⟩ := trodAll_cons r2
  obtain ⟨v4, vs4, d4, ds4, p4, q4, rfl, rfl, rfl, h4, r4⟩ := trodAll_cons r3
  obtain ⟨rfl, rfl, rfl⟩ := trodAll_nil r4
  obtain rfl : args = #[v0, v1, v2, v3, v4] := by cases args; simp_all
  obtain ⟨rfl, rfl⟩ := trodVars_none hV
  obtain ⟨a0, rfl, rfl, rfl, w0⟩ := open_int Try.underlying3 (hval 0 3 v0 rfl rfl) h0
  have h1_k := h1
  obtain ⟨A1, c1, l1, rfl, hr1⟩ := open_grid Try.underlying22 Try.underlying23 Try.underlying3 (by kernel_rfl) (by kernel_rfl) (hval 1 22 v1 rfl rfl) h1
  have h2_k := h2
  have hw2 := fits_each hwt 2 (t := 22) (by rw [Try.params5]; rfl) rfl
  obtain ⟨A2, c2, l2, rfl, hq2, hz2, hi2⟩ := open_gridW Try.underlying22 Try.underlying23 Try.underlying3 (by kernel_rfl) (by kernel_rfl) (by kernel_rfl) (hval 2 22 v2 rfl rfl) h2
  have hr2 := crow_grow hq2
  obtain ⟨hc2, hd2⟩ := slice_caps Try.underlying22 h2_k
  have hl2 := hz2 hw2
  obtain ⟨a3, rfl, rfl, rfl, w3⟩ := open_int Try.underlying5 (hval 3 5 v3 rfl rfl) h3
  have b3 : 0 ≤ a3 ∧ a3 ≤ 255 := by have h : (decide ((0 : Int) ≤ a3) && decide (a3 ≤ 255)) = true := w3; simpa using h
  obtain ⟨k3, rfl⟩ : ∃ k : Nat, a3 = k := ⟨a3.toNat, by omega⟩
  have h4_k := h4
  obtain ⟨A4, c4, l4, rfl, hr4, hi4⟩ := open_ints Try.underlying23 Try.underlying3 (by kernel_rfl) (hval 4 23 v4 rfl rfl) h4
  obtain ⟨hc4, hd4⟩ := slice_caps Try.underlying23 h4_k
  clear hA0 hval0
  simp only [List.append_nil] at hW'
  refine (rupFronts_any known16 rupCheck_any a0 A1 A2 A4 l1.length l2.length l4.length c1 c2 c4 k3 l1 l2 l4 W rfl hr1 rfl hr2 hc2 hd2 rfl hr4 hl2 (by omega)).mono fun e W' ⟨he, hb⟩ => ?_
  subst he
  refine ⟨_, rfl, _, _, _, [], ([] ++ (p1 ++ (p2 ++ ([] ++ (p4 ++ []))))), [], hW', ?_, ?_, ?_, Below.frame hb _, fun h => by cases h⟩
  · exact trodAll_mk1 (shut_bool Try.underlying4 _)
  · exact (trodAll_cons_mk (shut_int Try.underlying3 w0) (trodAll_cons_mk (Below.trod (show laidOutB Try.prog = true by kernel_rfl) (by kernel_rfl) (of_decide_eq_true (by kernel_rfl)) h1_k hb (fun x hx => hW'.lt x (by simp [hx]))) (trodAll_cons_mk (Below.trod (show laidOutB Try.prog = true by kernel_rfl) (by kernel_rfl) (of_decide_eq_true (by kernel_rfl)) h2_k hb (fun x hx => hW'.lt x (by simp [hx]))) (trodAll_cons_mk (shut_int Try.underlying5 w3) (trodAll_cons_mk (Below.trod (show laidOutB Try.prog = true by kernel_rfl) (by kernel_rfl) (of_decide_eq_true (by kernel_rfl)) h4_k hb (fun x hx => hW'.lt x (by simp [hx]))) trodAll_mk0)))))
  · rfl
theorem over : Rows.rupFrontsRow.holds Try.pinned (OpenSpec.ofChange Rows.rupFrontsSpec) :=
  OpenClaim.holds_of_wide 5 Try.f5 rfl rfl rfl rfl rfl rfl rfl ⟨rfl, rfl, rfl, rfl, rfl⟩ rfl rfl rfl rfl rfl (by kernel_rfl) Try.func5 (by kernel_rfl)
    (of_decide_eq_true (by kernel_rfl)) (by unfold Func.isWrapper; first | (rw [if_pos (by decide +kernel)]; kernel_rfl) | (rw [if_neg (by decide +kernel)]; exact ⟨rfl, rfl⟩))
    (fun os started H enc _ => lifted os started H enc)
theorem proved : Rows.RupFrontsSaid := over
end Go.Proofs.Ytjkmdghlhodhiaa.rupFronts
