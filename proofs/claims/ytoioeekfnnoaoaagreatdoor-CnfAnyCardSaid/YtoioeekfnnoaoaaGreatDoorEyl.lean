/- Text: walked. -/
import Derived.Test.YtoioeekfnnoaoaaGreatDoorEyk
import Derived.Test.YtoioeekfnnoaoaaGreatDoorEh
namespace Go.Proofs.YtoioeekfnnoaoaaGreatDoor.Cl
open Go.RowKit Sz Up
theorem joinW_app (a b : List (List UInt8)) : joinL (a ++ b) = joinL a ++ joinL b := by unfold joinL; rw [List.flatMap_append]
theorem joinW_one (a : List UInt8) : joinL [a] = a ++ [10] := by simp [joinL]
theorem headW_text (n k : Nat) : headT n k ++ [10] = [99, 110, 102, 32] ++ decT n ++ [32] ++ decT k ++ [10] := by
  unfold headT cnfT wordsT wordsT wordsT
  simp
/-- What is written ahead of clause j, ahead of its literal k. -/
def preW (n : Nat) (t : List (List Int)) (j : Nat) : List UInt8 := joinL (headT n t.length :: (t.take j).map clLine)
def litsW (c : List Int) (k : Nat) : List UInt8 := (c.take k).flatMap (fun x => wordZ x ++ [32])
theorem preW_more {n : Nat} {t : List (List Int)} {j : Nat} (h : j < t.length) {c : List Int} (hc : t[j] = c) : preW n t (j + 1) = preW n t j ++ litsW c c.length ++ [48, 10] := by
  unfold preW litsW
  rw [List.take_succ_eq_append_getElem h, List.map_append, hc, ← List.cons_append, joinW_app, List.map_cons, List.map_nil, joinW_one, List.take_length]
  unfold clLine
  simp
theorem litsW_more {c : List Int} {k : Nat} (h : k < c.length) {x : Int} (hx : c[k] = x) : litsW c (k + 1) = litsW c k ++ wordZ x ++ [32] := by
  unfold litsW
  rw [List.take_succ_eq_append_getElem h, List.flatMap_append, hx]
  simp
theorem preW_end {n : Nat} {t : List (List Int)} : preW n t t.length = textC n t := by unfold preW textC; rw [List.take_length]
theorem preW_le {n : Nat} {t : List (List Int)} {j : Nat} (h : j ≤ t.length) : (preW n t j).length ≤ (textC n t).length := by
  have e : textC n t = preW n t j ++ joinL ((t.drop j).map clLine) := by
    unfold textC preW
    rw [← joinW_app, List.cons_append, ← List.map_append, List.take_append_drop]
  rw [e, List.length_append]; omega
theorem litsW_le {c : List Int} {k : Nat} : (litsW c k).length ≤ (litsW c c.length).length := by
  have e : litsW c c.length = litsW c k ++ (c.drop k).flatMap (fun x => wordZ x ++ [32]) := by
    unfold litsW
    rw [← List.flatMap_append, List.take_append_drop, List.take_length]
  rw [e, List.length_append]; omega
attribute [local go_sem ↓] Go.wp_at_zero Go.wp_at_succ
set_option maxRecDepth 100000 in
set_option maxHeartbeats 3200000 in
theorem text_any (n : Nat) (A : Option Addr) (m c : Nat) (t : List (List Int)) (w : World) (hm : t.length = m) (hr : GRow w A t) (hok : (checkAll n t).2 = 0) (hl : (textC n t).length ≤ 262144) (hq : QC w) :
    Calls Tryz.prog 18 #[.int .i64 n, .slice A m c] w fun e w' => e = .returned (.string ⟨(textC n t).toArray⟩) ∧ RowKit.Below w.heap.size w w' := by
  obtain ⟨n0, n1, m1, _, hall⟩ := all_ok hok
  have hn256 : n ≤ 256 := by omega
  have hm1 : m ≤ 131072 := by rw [← hm]; exact m1
  have HLIT : Hid (∀ x ∈ t, ∀ y ∈ x, y.natAbs < 1000000) := fun x hx y hy => by
    obtain ⟨_, a, b⟩ := (check_ok (hall x hx)).2.2.2 y hy
    omega
  have HTL := Lib.hid hl
  have HM := Lib.hid hm
  have HR := Lib.hid hr
  have HQ := Lib.hid (fun u (h : RowKit.Below w.heap.size w u) => qc_stays _ _ hq h)
  have HI1 : Hid (∀ u, RowKit.Below w.heap.size w u → Calls Tryz.prog 41 #[.int .i64 n] u fun e w' => e = .returned (.string ⟨(decT n).toArray⟩) ∧ RowKit.Below u.heap.size u w') := fun u h => by
    have := itoa_any n (by unfold In64; omega) u (HQ.out u h)
    rwa [itoa_word (by omega), word_nat] at this
  have HI2 : Hid (∀ u, RowKit.Below w.heap.size w u → Calls Tryz.prog 41 #[.int .i64 m] u fun e w' => e = .returned (.string ⟨(decT m).toArray⟩) ∧ RowKit.Below u.heap.size u w') := fun u h => by
    have := itoa_any m (by unfold In64; omega) u (HQ.out u h)
    rwa [itoa_word (by omega), word_nat] at this
  have HDN : Hid ((decT n).length ≤ 7 ∧ (decT m).length ≤ 7) := by
    have h1 := word_len (x := (n : Int)) (by omega)
    have h2 := word_len (x := (m : Int)) (by omega)
    rw [word_nat] at h1 h2
    exact ⟨h1, h2⟩
  have HPRE0 : Hid ([99, 110, 102, 32] ++ decT n ++ [32] ++ decT m ++ [10] = preW n t 0) := by
    show _ = _
    unfold preW
    rw [List.take_zero, List.map_nil, joinW_one, ← headW_text, hm]
  have HPM : Hid (∀ j c (h : j < t.length), t[j] = c → preW n t (j + 1) = preW n t j ++ litsW c c.length ++ [48, 10]) := fun j c h hc => preW_more h hc
  have HPL : Hid (∀ j, j ≤ m → (preW n t j).length ≤ 262144) := fun j hj => Nat.le_trans (preW_le (by rw [hm]; exact hj)) hl
  have HPE : Hid (preW n t m = textC n t) := by show _ = _; rw [← hm]; exact preW_end
  obtain ⟨D1, hD1⟩ : ∃ D, decT n = D := ⟨_, rfl⟩
  obtain ⟨D2, hD2⟩ : ∃ D, decT m = D := ⟨_, rfl⟩
  rw [hD1] at HI1 HDN HPRE0
  rw [hD2] at HI2 HDN HPRE0
  obtain ⟨l1, l2⟩ := HDN.out
  have c1 := cat_to [99, 110, 102, 32] D1 (by show 4 + _ ≤ _; omega)
  have c2 := cat_to ([99, 110, 102, 32] ++ D1) [32] (by simp; omega)
  have c3 := cat_to ([99, 110, 102, 32] ++ D1 ++ [32]) D2 (by simp; omega)
  have c4 := cat_to ([99, 110, 102, 32] ++ D1 ++ [32] ++ D2) [10] (by simp; omega)
  have hlen4 : ([99, 110, 102, 32] ++ D1 ++ [32] ++ D2 ++ [10]).length ≤ 1000000 := by simp; omega
  obtain ⟨S1, hS1⟩ : ∃ S, [99, 110, 102, 32] ++ D1 = S := ⟨_, rfl⟩
  rw [hS1] at c1 c2 c3 c4 HPRE0 hlen4
  obtain ⟨S2, hS2⟩ : ∃ S, S1 ++ [32] = S := ⟨_, rfl⟩
  rw [hS2] at c2 c3 c4 HPRE0 hlen4
  obtain ⟨S3, hS3⟩ : ∃ S, S2 ++ D2 = S := ⟨_, rfl⟩
  rw [hS3] at c3 c4 HPRE0 hlen4
  obtain ⟨H, hH⟩ : ∃ H, S3 ++ [10] = H := ⟨_, rfl⟩
  rw [hH] at c4 HPRE0 hlen4
  have hHl : H.length ≤ 1000000 := hlen4
  have hcv : ∀ W : World, (convert 9 69 (.string ⟨H.toArray⟩)).run Tryz.prog W = .ok (.slice (some ⟨W.heap.size, 0, none⟩) H.length (grownCap W H.length 0 5)) (Lib.bytesWorld W 5 ⟨H.toArray⟩) := fun W => by
    have := Lib.run_convert_string_bytes (P := Tryz.prog) W 9 69 5 ⟨H.toArray⟩ Tryz.underlying9 Tryz.underlying69 Tryz.underlying5
    have hs : (⟨H.toArray⟩ : ByteArray).size = H.length := by simp [ByteArray.size]
    rw [hs] at this; exact this
  clear hm hr hok hl hq hall n0 n1 m1 hD1 hD2 hH hS1 hS2 hS3 hlen4 l1 l2
  go_enter Tryz.func18, Tryz.ntmps18
  go_wp2_with fail
  refine (HI1.out w (RowKit.Below.refl _ _)).mono ?_
  rintro _ w1 ⟨rfl, hb1⟩
  have HB1 := Lib.hid hb1
  clear hb1
  go_wp2_with fail
  refine (HI2.out w1 HB1.out).mono ?_
  rintro _ w2 ⟨rfl, hb2⟩
  have HB2 := Lib.hid (HB1.out.trans (hb2.mono HB1.out.size))
  clear hb2
  go_wp2_with fail
  have ho0 := tOwn_bytes w2 H hHl
  have hb0 : RowKit.Below w2.heap.size w2 (Lib.bytesWorld w2 5 ⟨H.toArray⟩) := Lib.bytesWorld_below _ _ _
  generalize Lib.bytesWorld w2 5 ⟨H.toArray⟩ = w3 at ho0 hb0 ⊢
  generalize (.slice (some ⟨w2.heap.size, 0, none⟩) H.length (grownCap w2 H.length 0 5) : Value) = v0 at ho0 ⊢
  rw [HPRE0.out] at ho0
  have HO0 := Lib.hid ho0
  have HB3 := Lib.hid hb0
  have HB03 := Lib.hid (HB2.out.trans (hb0.mono HB2.out.size))
  clear ho0 hb0 c1 c2 c3 c4 hcv hHl
  go_wp2_with fail
  go_loopw [5, 22] (fun v i wr => ∃ j : Nat, j ≤ m ∧ i = .int .i64 j ∧ Hid (TOwn wr w2.heap.size v (preW n t j)) ∧ Hid (RowKit.Below w2.heap.size w2 wr)) (fun _ i _ => m - (intOf i).toNat)
  case atStart => exact ⟨0, Nat.zero_le _, rfl, HO0.out, HB3.out⟩
  case round =>
    obtain ⟨j, hj, rfl, HO, HB⟩ := hrel
    have HBW := Lib.hid (HB2.out.trans (HB.out.mono HB2.out.size))
    by_cases hlt : j < m
    · have hjl : j < t.length := by rw [HM.out]; exact hlt
      obtain ⟨ad, C, k, cc, x, rfl, hbx, hc0, hx, hxl, hxr⟩ := grow_at HR.out j hjl
      have hc := cell_below hc0 hbx HBW.out
      have j0 : (0 : Int) ≤ (j : Int) := by omega
      have j1 : (j : Int) < (m : Int) := by omega
      have HX := Lib.hid hxr
      have HXL := Lib.hid hxl
      have HPN := Lib.hid (HPM.out j x hjl hx)
      have HPJ := Lib.hid (HPL.out j hj)
      have HPJ2 := Lib.hid (HPL.out (j + 1) hlt)
      have HXI : Hid (∀ y ∈ x, y.natAbs < 1000000) := HLIT.out x (by rw [← hx]; exact List.getElem_mem _)
      obtain ⟨pre, hpre⟩ : ∃ p, preW n t j = p := ⟨_, rfl⟩
      rw [hpre] at HO HPN HPJ
      have HNEXT : Hid (pre.length + (litsW x x.length).length + 2 ≤ 262144) := by
        have h1 := HPJ2.out
        rw [HPN.out, List.length_append, List.length_append] at h1
        exact h1
      have hk : k ≤ 262144 := by
        have h1 := HNEXT.out
        have h2 : x.length ≤ (litsW x x.length).length := by
          unfold litsW
          rw [List.take_length]
          clear hxl hx hc hc0 hxr hbx h1 HNEXT HPN HX HXL HXI
          induction x with
          | nil => exact Nat.zero_le _
          | cons a r ih => rw [List.flatMap_cons, List.length_append, List.length_append, List.length_cons]; show _ + 1 ≤ _ + 1 + _; omega
        omega
      clear hjl hbx hx hxl hxr hpre hc0
      go_wp2_with fail
      clear hc
      have HBJ := Lib.hid HB.out
      have HOJ := Lib.hid HO.out
      clear HB HO
      go_loopw [5, 28] (fun v i w5 => ∃ q : Nat, q ≤ k ∧ i = .int .i64 q ∧ Hid (TOwn w5 w2.heap.size v (pre ++ litsW x q)) ∧ Hid (RowKit.Below w2.heap.size w2 w5)) (fun _ i _ => k - (intOf i).toNat)
      case atStart => exact ⟨0, Nat.zero_le _, rfl, by show TOwn _ _ _ _; unfold litsW; rw [List.take_zero, List.flatMap_nil, List.append_nil]; exact HOJ.out, HBJ.out⟩
      case round =>
        obtain ⟨q, hq, rfl, HO2, HBQ⟩ := hrel
        have HBW2 := Lib.hid (HB2.out.trans (HBQ.out.mono HB2.out.size))
        by_cases hlt2 : q < k
        · have hql : q < x.length := by rw [HXL.out]; exact hlt2
          obtain ⟨ae, y, rfl, hy, hyb, hyc0⟩ := irow_at HX.out q hql
          have hyc := cell_below hyc0 hyb HBW2.out
          have q0 : (0 : Int) ≤ (q : Int) := by omega
          have q1 : (q : Int) < (k : Int) := by omega
          have HYA : Hid (y.natAbs < 1000000) := HXI.out y (by rw [← hy]; exact List.getElem_mem _)
          have hlq := litsW_more hql hy
          have hle := litsW_le (c := x) (k := q + 1)
          have hnx := HNEXT.out
          have hl1 : (litsW x (q + 1)).length = (litsW x q).length + (wordZ y).length + 1 := by rw [hlq, List.length_append, List.length_append]; rfl
          have HLQ : Hid (pre ++ litsW x (q + 1) = pre ++ litsW x q ++ wordZ y ++ [32]) := by show _ = _; rw [hlq]; simp
          have HL8 : Hid ((pre ++ litsW x q).length ≤ 800000) := by show _ ≤ _; rw [List.length_append]; omega
          have HL9 : Hid ((pre ++ litsW x q ++ wordZ y).length + [(32 : UInt8)].length ≤ 1000000) := by show _ + 1 ≤ _; rw [List.length_append, List.length_append]; omega
          have HAI := Lib.hid (appendInt_any y HYA.out _ (pre ++ litsW x q) wr HO2.out HBQ.out.size HL8.out (fun u hu => (HQ.out u (HBW2.out.trans (hu.mono HB2.out.size))).2.1))
          clear hy hyb hyc0 hlq hle hnx hl1 hql
          go_wp2_with fail
          refine HAI.out.mono ?_
          rintro _ w6 ⟨v6, rfl, ho6, hb6⟩
          have HO6 := Lib.hid ho6
          have HB6 := Lib.hid (HBQ.out.trans hb6)
          clear ho6 hb6 hyc HAI
          go_wp2_with (at_builtin; refine wpT_str rfl (.tmp 35) (.const (.string ⟨#[32]⟩)) rfl w2.heap.size _ (pre ++ litsW x q ++ wordZ y) [32] rfl HO6.out rfl HL9.out HB6.out.size ?_)
          intro v7 w7 ho7 hb7
          have HO7 : Hid (TOwn w7 w2.heap.size v7 (pre ++ litsW x (q + 1))) := by show TOwn _ _ _ _; rw [HLQ.out]; simpa only [List.append_assoc] using ho7
          have HB7 := Lib.hid (HB6.out.trans hb7)
          clear ho7 hb7
          go_wp2_with fail
          go_roundw
          case rel => exact ⟨q + 1, by omega, by go_num, HO7.out, HB7.out⟩
          case measure => simp [intOf]; omega
        · obtain rfl : q = k := by omega
          have HPN2 : Hid (preW n t (j + 1) = pre ++ litsW x q ++ [48, 10]) := by show _ = _; rw [HPN.out, HXL.out]
          have HL9 : Hid ((pre ++ litsW x q).length + [(48 : UInt8), 10].length ≤ 1000000) := by
            have h := HNEXT.out
            rw [HXL.out] at h
            show _ + 2 ≤ _; rw [List.length_append]; omega
          go_wp2_with (at_builtin; refine wpT_str rfl (.tmp 38) (.const (.string ⟨#[48, 10]⟩)) rfl w2.heap.size _ (pre ++ litsW x q) [48, 10] rfl HO2.out rfl HL9.out HBQ.out.size ?_)
          intro v7 w7 ho7 hb7
          have HO7 : Hid (TOwn w7 w2.heap.size v7 (preW n t (j + 1))) := by show TOwn _ _ _ _; rw [HPN2.out]; simpa only [List.append_assoc] using ho7
          have HB7 := Lib.hid (HBQ.out.trans hb7)
          clear ho7 hb7
          go_wp2_with fail
          go_roundw
          case rel => exact ⟨j + 1, by omega, by go_num, HO7.out, HB7.out⟩
          case measure => simp [intOf]; omega
    · obtain rfl : j = m := by omega
      have hcv := tOwn_string HO.out
      rw [HPE.out] at hcv
      go_wp2_with fail
      go_ret
      exact ⟨rfl, HBW.out⟩
theorem textC_any : TextC QC := fun n A m c t w hm hr hok hl hq => text_any n A m c t w hm hr hok hl hq
end Go.Proofs.YtoioeekfnnoaoaaGreatDoor.Cl
