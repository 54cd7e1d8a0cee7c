/- The reference writes clauses: walked. -/
import Derived.Test.YtoioeekfnnoaoaaGreatDoorEi
namespace Go.Proofs.YtoioeekfnnoaoaaGreatDoor.Cl
open Go.RowKit Sz Up
def textP (n k : Nat) (l : List (List Int)) (i : Nat) : List UInt8 := joinL (headT n k :: (l.take i).map clLine)
def litsT (c : List Int) (k : Nat) : List UInt8 := (c.take k).flatMap (fun x => wordZ x ++ [32])
theorem textP_end (n : Nat) (l : List (List Int)) {i : Nat} (h : l.length ≤ i) : textP n l.length l i = textC n l := by unfold textP textC; rw [List.take_of_length_le h]
theorem litsT_more {c : List Int} {k : Nat} (hk : k < c.length) : litsT c (k + 1) = litsT c k ++ (wordZ c[k] ++ [32]) := by
  unfold litsT
  rw [List.take_succ_eq_append_getElem hk, List.flatMap_append]; simp
theorem litsT_end {c : List Int} {k : Nat} (hk : c.length ≤ k) : litsT c k ++ [48, 10] = clLine c ++ [10] := by
  unfold litsT clLine
  rw [List.take_of_length_le hk, List.append_assoc]; rfl
theorem textP_more {n k : Nat} {l : List (List Int)} {i : Nat} (hi : i < l.length) : textP n k l (i + 1) = textP n k l i ++ (clLine l[i] ++ [10]) := by
  unfold textP
  rw [List.take_succ_eq_append_getElem hi, List.map_append]
  show joinL ((headT n k :: (l.take i).map clLine) ++ [clLine l[i]]) = _
  unfold joinL
  rw [List.flatMap_append]; simp
theorem textP_le {n : Nat} {l : List (List Int)} : ∀ (d i : Nat), l.length = i + d → (textP n l.length l i).length ≤ (textC n l).length
  | 0, i, h => by rw [textP_end n l (by omega)]; exact Nat.le_refl _
  | d + 1, i, h => by
    have := textP_le (n := n) (l := l) d (i + 1) (by omega)
    rw [textP_more (by omega), List.length_append] at this; omega
theorem litsT_le {c : List Int} : ∀ (d k : Nat), c.length = k + d → (litsT c k).length + 2 ≤ (clLine c ++ [10]).length
  | 0, k, h => by
    have := litsT_end (c := c) (k := k) (by omega)
    rw [← this, List.length_append]; exact Nat.le_refl _
  | d + 1, k, h => by
    have := litsT_le (c := c) d (k + 1) (by omega)
    rw [litsT_more (by omega), List.length_append] at this; omega
theorem text_bound {n : Nat} {l : List (List Int)} {i k : Nat} (hi : i < l.length) (hk : k ≤ (l[i]).length) : (textP n l.length l i).length + (litsT l[i] k).length + 2 ≤ (textC n l).length := by
  have h1 := textP_le (n := n) (l := l) (l.length - (i + 1)) (i + 1) (by omega)
  rw [textP_more hi, List.length_append] at h1
  have h2 := litsT_le (c := l[i]) (l[i].length - k) k (by omega)
  omega
theorem head_eq (n k : Nat) (l : List (List Int)) : textP n k l 0 = cnfT ++ [32] ++ decT n ++ [32] ++ decT k ++ [10] := by
  unfold textP
  show joinL [headT n k] = _
  rw [joinL_cons]
  show cnfT ++ 32 :: (decT n ++ 32 :: decT k) ++ [10] ++ [] = _
  simp
theorem wordZ_nat (n : Nat) : wordZ (n : Int) = decT n := by unfold wordZ; rw [if_neg (by omega)]; rfl
theorem wordZ_len {x : Int} (h : x.natAbs ≤ 2199023255552) : (wordZ x).length ≤ 21 := by
  have := dec_short x.natAbs (by omega)
  unfold wordZ
  split
  · rw [List.length_cons]; omega
  · omega
end Go.Proofs.YtoioeekfnnoaoaaGreatDoor.Cl
namespace Go.Proofs.YtoioeekfnnoaoaaGreatDoor
open Go.RowKit Cl Sz Up
attribute [local go_sem ↓] Go.wp_at_zero Go.wp_at_succ
set_option maxRecDepth 100000 in
set_option maxHeartbeats 6400000 in
theorem refCnfText_any (n : Nat) (A : Option Addr) (m c : Nat) (l : List (List Int)) (w : World) (hn : n ≤ 1000000) (hm : l.length = m) (hr : GRow w A l) (hl : m ≤ 1000000) (hf : ∀ x ∈ l, x.length ≤ 1000000) (hb : ∀ x ∈ l, ∀ y ∈ x, y.natAbs ≤ 2199023255552) (ht : (textC n l).length ≤ 900000) :
    Calls Tryz.prog 20 #[.int .i64 n, .slice A m c] w fun e w' => e = .returned (.string ⟨(textC n l).toArray⟩) ∧ Below w.heap.size w w' := by
  have HR := Lib.hid hr
  have HM := Lib.hid hm
  have HF := Lib.hid hf
  have HBD := Lib.hid hb
  have HT := Lib.hid ht
  have H0 := Lib.hid (head_eq n m l)
  have HE := fun i (h : l.length ≤ i) => textP_end n l h
  obtain ⟨X, hX⟩ : ∃ X, textC n l = X := ⟨_, rfl⟩
  have HX := Lib.hid hX
  rw [hX]
  have hl1 := dec_short n (by omega)
  have hl2 := dec_short m (by omega)
  have HW1 := Lib.hid (refWord_any n w (by omega))
  have HW2 := fun w => Lib.hid (refWord_any m w (by omega))
  rw [wordZ_nat] at HW1
  simp only [wordZ_nat] at HW2
  obtain ⟨D1, hD1⟩ : ∃ D, decT n = D := ⟨_, rfl⟩
  obtain ⟨D2, hD2⟩ : ∃ D, decT m = D := ⟨_, rfl⟩
  rw [hD1, hD2] at H0
  rw [hD1] at hl1 HW1
  rw [hD2] at hl2
  rw [hD2] at HW2
  have HWW := Lib.hid HW2
  have c1 := cat_to [99, 110, 102, 32] D1 (by show 4 + _ ≤ _; omega)
  have c2 := cat_to ([99, 110, 102, 32] ++ D1) [32] (by simp; omega)
  have c3 := cat_to ([99, 110, 102, 32] ++ D1 ++ [32]) D2 (by simp; omega)
  have c4 := cat_to ([99, 110, 102, 32] ++ D1 ++ [32] ++ D2) [10] (by simp; omega)
  obtain ⟨S1, hS1⟩ : ∃ S, [99, 110, 102, 32] ++ D1 = S := ⟨_, rfl⟩
  rw [hS1] at c1 c2 c3 c4
  obtain ⟨S2, hS2⟩ : ∃ S, S1 ++ [32] = S := ⟨_, rfl⟩
  rw [hS2] at c2 c3 c4
  obtain ⟨S3, hS3⟩ : ∃ S, S2 ++ D2 = S := ⟨_, rfl⟩
  rw [hS3] at c3 c4
  obtain ⟨S4, hS4⟩ : ∃ S, S3 ++ [10] = S := ⟨_, rfl⟩
  rw [hS4] at c4
  have HS4 : Hid (S4 = textP n m l 0) := by
    show _ = _
    rw [H0.out, ← hS4, ← hS3, ← hS2, ← hS1]
    rfl
  clear hr hm hf hb ht hX hl1 hl2 hD1 hD2 HW2 hS1 hS2 hS3 hS4 H0
  go_enter Tryz.func20, Tryz.ntmps20
  go_wp2_with (go_at_call 45; refine HW1.out.mono ?_)
  rintro _ w1 ⟨rfl, hb1⟩
  have HB1 := Lib.hid hb1
  clear hb1 HW1
  go_wp2_with (go_at_call 45; refine (HWW.out _).out.mono ?_)
  rintro _ w2 ⟨rfl, hb2⟩
  have HB2 : Hid (Below w.heap.size w w2) := HB1.out.trans (hb2.mono HB1.out.size)
  clear hb2 HB1 HWW
  go_wp2_with fail
  clear c1 c2 c3 c4
  go_loopw [5, 6, 7] (fun v i _ wr => ∃ (j : Nat) (S : List UInt8), j ≤ m ∧ v = .string ⟨S.toArray⟩ ∧ i = .int .i64 j ∧ Hid (S = textP n m l j) ∧ Hid (Below w.heap.size w wr)) (fun _ i _ _ => m - (intOf i).toNat)
  case atStart => exact ⟨0, S4, Nat.zero_le _, rfl, rfl, HS4, HB2.out⟩
  case round =>
    obtain ⟨j, S, hj, rfl, rfl, HS, HW⟩ := hrel
    obtain ⟨z1, hz1⟩ : ∃ z1, z1 = wr := ⟨_, rfl⟩
    subst hz1
    by_cases hlt : j < m
    · have hjl : j < l.length := by rw [HM.out]; exact hlt
      obtain ⟨ad, C, k, cc, x, rfl, hbx, hc, hx, hxl, hxr⟩ := grow_at (Gr.row_below HR.out HW.out) j hjl
      have j0 : (0 : Int) ≤ (j : Int) := by omega
      have j1 : (j : Int) < (m : Int) := by omega
      have HC : Hid (∀ u, Below z1.heap.size z1 u → u.cell? (ad.add j) = some (.slice C k cc)) := fun u hu => cell_below hc hbx hu
      have HXR := Lib.hid hxr
      have HXL := Lib.hid hxl
      have hk1 : k ≤ 1000000 := by rw [← hxl, ← hx]; exact HF.out _ (List.getElem_mem hjl)
      have HXB : Hid (∀ y ∈ x, y.natAbs ≤ 2199023255552) := fun y hy => HBD.out _ (List.getElem_mem hjl) y (by rw [hx]; exact hy)
      have HTB : Hid (∀ q, q ≤ k → S.length + (litsT x q).length + 2 ≤ 900000) := fun q hq => by
        have h := text_bound (n := n) (l := l) (i := j) (k := q) hjl (by rw [hx, hxl]; exact hq)
        rw [hx, HM.out, ← HS.out] at h
        have := HT.out; omega
      have HNX : Hid (textP n m l (j + 1) = S ++ (litsT x k ++ [48, 10])) := by
        show _ = _
        rw [textP_more hjl, hx, litsT_end (c := x) (k := k) (by omega), ← HS.out]
      clear hbx hc hx hxl hxr hjl
      go_wp2_with fail
      go_loopw [5, 7] (fun v i w3 => ∃ (q : Nat) (R : List UInt8), q ≤ k ∧ v = .string ⟨R.toArray⟩ ∧ i = .int .i64 q ∧ Hid (R = S ++ litsT x q) ∧ Hid (Below z1.heap.size z1 w3)) (fun _ i _ => k - (intOf i).toNat)
      case atStart => exact ⟨0, S, Nat.zero_le _, rfl, rfl, by show _ = _; unfold litsT; simp, Below.refl _ _⟩
      case round =>
        obtain ⟨q, R, hq, rfl, rfl, HR2, HW2⟩ := hrel
        have cc0 := HC.out _ HW2.out
        by_cases hlt2 : q < k
        · have hql : q < x.length := by rw [HXL.out]; exact hlt2
          obtain ⟨ae, y, rfl, hy, hyb, hyc⟩ := irow_at (irow_below HXR.out HW2.out) q hql
          have q0 : (0 : Int) ≤ (q : Int) := by omega
          have q1 : (q : Int) < (k : Int) := by omega
          have hyB := HXB.out y (hy ▸ List.getElem_mem hql)
          have HWY := Lib.hid (refWord_any y wr hyB)
          have hyl := wordZ_len hyB
          obtain ⟨D, hD⟩ : ∃ D, wordZ y = D := ⟨_, rfl⟩
          rw [hD] at HWY hyl
          have hRl : R.length ≤ 900000 := by have := HTB.out q hq; rw [HR2.out, List.length_append]; omega
          have d1 := cat_to R D (by omega)
          have d2 := cat_to (R ++ D) [32] (by simp; omega)
          obtain ⟨E, hE⟩ : ∃ E, R ++ D = E := ⟨_, rfl⟩
          rw [hE] at d1 d2
          obtain ⟨F, hF⟩ : ∃ F, E ++ [32] = F := ⟨_, rfl⟩
          rw [hF] at d2
          have HF2 : Hid (F = S ++ litsT x (q + 1)) := by
            show _ = _
            rw [litsT_more hql, hy, hD, ← hF, ← hE, HR2.out]; simp
          clear hy hyb hyB hyl hD hRl hE hF hql
          go_wp2_with (go_at_call 45; refine HWY.out.mono ?_)
          rintro _ w4 ⟨rfl, hb4⟩
          have HW4 := Lib.hid (HW2.out.trans (hb4.mono HW2.out.size))
          clear hb4
          go_wp2_with fail
          go_roundw
          case rel => exact ⟨q + 1, F, by omega, rfl, by go_num, HF2.out, HW4.out⟩
          case measure => simp [intOf]; omega
        · obtain rfl : q = k := by omega
          have hRl : R.length ≤ 900000 := by have := HTB.out q (Nat.le_refl _); rw [HR2.out, List.length_append]; omega
          have d1 := cat_to R [48, 10] (by show _ + 2 ≤ _; omega)
          obtain ⟨F, hF⟩ : ∃ F, R ++ [48, 10] = F := ⟨_, rfl⟩
          rw [hF] at d1
          have HF2 : Hid (F = textP n m l (j + 1)) := by
            show _ = _
            rw [HNX.out, ← hF, HR2.out, List.append_assoc]
          have HW3 := Lib.hid (HW.out.trans (HW2.out.mono HW.out.size))
          clear hRl hF
          go_wp2_with fail
          go_roundw
          case rel => exact ⟨j + 1, F, by omega, rfl, by go_num, HF2.out, HW3.out⟩
          case measure => simp [intOf]; omega
    · have HF2 : Hid (X = S) := by
        show _ = _
        have h := textP_end n l (i := j) (by rw [HM.out]; omega)
        rw [HM.out] at h
        rw [← HX.out, ← h, ← HS.out]
      go_wp2_with fail
      go_ret
      exact ⟨by rw [HF2.out]; rfl, HW.out⟩
end Go.Proofs.YtoioeekfnnoaoaaGreatDoor
