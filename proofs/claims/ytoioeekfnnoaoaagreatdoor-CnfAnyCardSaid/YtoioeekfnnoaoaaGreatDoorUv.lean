/- The reference's cut at a mark: walked (as in the texts of the lockfile). -/
import Derived.Test.YtoioeekfnnoaoaaGreatDoorBr
import Derived.Test.YtoioeekfnnoaoaaGreatDoorSp
import Derived.BigQuiet
import Derived.Lib.SplitLaws
namespace Go.Proofs.YtoioeekfnnoaoaaGreatDoor
open Go.RowKit At
attribute [local go_sem ↓] Go.wp_at_zero Go.wp_at_succ
theorem app_done4 {α : Type} {enc : α → List Value} {K : Nat} {T : TypeId} {v : Value} {l : List α} {w wr wq W5 : World} {o : Obj} (hB : Hid (Below w.heap.size w wr ∧ w.heap.size ≤ wr.heap.size)) (hq : Below wr.heap.size wr wq) (hO : Hid (Rg.Own enc K wr w.heap.size T v l)) (hg : (wq.alloc o).grownBy W5 v.ownBlock) :
    Hid (Below w.heap.size w W5 ∧ w.heap.size ≤ W5.heap.size) := by
  have hs : w.heap.size ≤ wq.heap.size := Nat.le_trans hB.out.2 hq.size
  have h1 : Below w.heap.size w (wq.alloc o) := (hB.out.1.trans (hq.mono hB.out.2)).alloc hs _
  have e : (wq.alloc o).heap.size = wq.heap.size + 1 := by simp
  have h2 : w.heap.size ≤ (wq.alloc o).heap.size := by omega
  exact ⟨h1.trans (Rg.grown_below (Rg.own_below hO.out (hq.alloc hq.size _)) h2 hg), Nat.le_trans h2 hg.size⟩
theorem split_len (s sep : List UInt8) (h1 : 1 ≤ sep.length) : (Lib.split s sep).length ≤ s.length + 1 := by
  have hd : (Lib.splitB ⟨sep.toArray⟩ 0 (Lib.countB ⟨s.toArray⟩ ⟨sep.toArray⟩) ⟨s.toArray⟩).map (·.data.toList) = Lib.split s sep := Lib.splitB_data _ _ _ _
  have hn := Lib.splitB_all ⟨sep.toArray⟩ h1 0 (Lib.countB ⟨s.toArray⟩ ⟨sep.toArray⟩) ⟨s.toArray⟩ rfl
  have hc := Lib.countB_le ⟨sep.toArray⟩ h1 s.length ⟨s.toArray⟩ (Nat.le_refl _)
  rw [← hd, List.length_map, hn]; exact Nat.succ_le_succ hc
theorem occ_drop (s m : List UInt8) (f j : Nat) : Lib.occAt (s.drop f) m j = Lib.occAt s m (f + j) := by unfold Lib.occAt; rw [List.drop_drop]
/-- How far a text is cut: what is behind, from where on the piece goes, where one looks. -/
def CutSt (s m : List UInt8) (acc : List (List UInt8)) (f i : Nat) : Prop := f ≤ i ∧ i ≤ s.length ∧ Lib.split s m = acc ++ Lib.split (s.drop f) m ∧ ∀ j, f ≤ j → j < i → Lib.occAt s m j = false
theorem cut_start (s m : List UInt8) : CutSt s m [] 0 0 := ⟨Nat.le_refl _, Nat.zero_le _, rfl, fun _j _ h => absurd h (Nat.not_lt_zero _)⟩
theorem cut_hit {s m : List UInt8} {acc : List (List UInt8)} {f i : Nat} (hm : m ≠ []) (h : CutSt s m acc f i) (ho : Lib.occAt s m i = true) (hr : i + m.length ≤ s.length) : CutSt s m (acc ++ [(s.drop f).take (i - f)]) (i + m.length) (i + m.length) := by
  obtain ⟨h1, h2, h3, h4⟩ := h
  have hx : Lib.index (s.drop f) m = ((i - f : Nat) : Int) := Lib.index_first (by rw [List.length_drop]; omega) (by rw [occ_drop, show f + (i - f) = i by omega]; exact ho) (fun j hj => by rw [occ_drop]; exact h4 _ (by omega) (by omega))
  refine ⟨Nat.le_refl _, hr, ?_, fun j a b => by omega⟩
  rw [h3, split_hit hm hx, List.drop_drop, show f + (i - f + m.length) = i + m.length by omega]
  simp
theorem cut_miss {s m : List UInt8} {acc : List (List UInt8)} {f i : Nat} (h : CutSt s m acc f i) (hi : i < s.length) (ho : Lib.occAt s m i = false) : CutSt s m acc f (i + 1) :=
  ⟨Nat.le_succ_of_le h.1, hi, h.2.2.1, fun j a b => by
    rcases Nat.lt_or_ge j i with hj | hj
    · exact h.2.2.2 j a hj
    · have : j = i := by omega
      rw [this]; exact ho⟩
theorem cut_end {s m : List UInt8} {acc : List (List UInt8)} {f i : Nat} (hm : m ≠ []) (h : CutSt s m acc f i) (he : s.length < i + m.length) : Lib.split s m = acc ++ [s.drop f] := by
  obtain ⟨h1, h2, h3, h4⟩ := h
  have hx : Lib.index (s.drop f) m = -1 := Lib.index_none fun j hj => by
    rw [occ_drop]
    by_cases hji : f + j < i
    · exact h4 _ (by omega) hji
    · cases ho : Lib.occAt s m (f + j) with
      | false => rfl
      | true =>
        rcases Lib.occAt_room ho with h | h
        · omega
        · exact absurd h hm
  rw [h3, split_miss hx]
theorem piece_of (s : List UInt8) (f i : Nat) : (⟨s.toArray⟩ : ByteArray).extract f i = ⟨((s.drop f).take (i - f)).toArray⟩ := ByteArray.extract_mk ..
set_option maxRecDepth 100000 in
set_option maxHeartbeats 1600000 in
theorem refCut_any (s m : List UInt8) (w : World) (hs : s.length ≤ 10000) (hm : 1 ≤ m.length) (hm2 : m.length ≤ 10) :
    Calls Tryz.prog 47 #[.string ⟨s.toArray⟩, .string ⟨m.toArray⟩] w fun e w' => ∃ A n c, e = .returned (.slice A n c) ∧ (Lib.split s m).length = n ∧ n ≤ 10001 ∧ Rg.Row encT 1 w' A (Lib.split s m) ∧ (∀ a, A = some a → w.heap.size ≤ a.block) ∧ Below w.heap.size w w' := by
  have hm0 : m ≠ [] := fun e => by rw [e] at hm; simp at hm
  have HSL : Hid ((Lib.split s m).length ≤ 10001) := Nat.le_trans (split_len s m hm) (by omega)
  have HM0 := Lib.hid hm0
  clear hm0
  go_enter Tryz.func47, Tryz.ntmps47
  go_wp2_with fail
  go_loopw [5, 6, 7] (fun v f i wr => ∃ (a b : Nat) (acc : List (List UInt8)), f = .int .i64 a ∧ i = .int .i64 b ∧ a ≤ b ∧ b ≤ s.length ∧ Hid (acc.length ≤ a) ∧ Hid (CutSt s m acc a b) ∧ Hid (Rg.Own encT 1 wr w.heap.size 9 v acc) ∧ Hid (Below w.heap.size w wr ∧ w.heap.size ≤ wr.heap.size)) (fun _ _ i _ => s.length - (intOf i).toNat)
  case atStart => exact ⟨0, 0, [], rfl, rfl, Nat.le_refl _, Nat.zero_le _, Nat.zero_le _, cut_start s m, Rg.own_nil _ _ _, Below.refl _ _, Nat.le_refl _⟩
  case round =>
    obtain ⟨a, b, acc, rfl, rfl, hab, hbl, HAL, HST, HO, HB⟩ := hrel
    by_cases hlt : b + m.length ≤ s.length
    · have hx := piece_of s b (b + m.length)
      rw [Nat.add_sub_cancel_left] at hx
      have hocc := Lib.occAt_iff_take s m b hlt
      obtain ⟨q, hq⟩ : ∃ q, (s.drop b).take m.length = q := ⟨_, rfl⟩
      rw [hq] at hx hocc
      have hlti : (b : Int) + (m.length : Int) ≤ (s.length : Int) := by omega
      cases ho : q == m
      · have HS2 : Hid (CutSt s m acc a (b + 1)) := cut_miss HST.out (by omega) (hocc.trans ho)
        clear hq hocc
        go_wp2_with fail
        go_roundw
        case rel => exact ⟨a, b + 1, acc, rfl, by go_num, by omega, by omega, HAL, HS2, HO, HB⟩
        case measure => simp [intOf]; omega
      · have HS2 := Lib.hid (cut_hit HM0.out HST.out (hocc.trans ho) hlt)
        have hy := piece_of s a b
        obtain ⟨r, hr⟩ : ∃ r, (s.drop a).take (b - a) = r := ⟨_, rfl⟩
        rw [hr] at hy HS2
        have HAL2 : Hid ((acc ++ [r]).length ≤ b + m.length) := by have := HAL.out; show _ ≤ _; rw [List.length_append]; simp; omega
        have HSZ : Hid (acc.length + 1 ≤ 1000000) := by have := HAL.out; show _ ≤ _; omega
        clear hq hocc hr
        go_wp2_with (at_builtin; refine Rg.wpList_app sliceTx rfl (.tmp 24) (.tmp 29) rfl w.heap.size _ acc [r] rfl (Rg.own_below HO.out ((Below.refl _ _).alloc (Nat.le_refl _) _)) _ _ rfl (Rg.news_new wr _ _ _ (by rfl)) (Nat.zero_lt_succ _) HSZ.out ?b2 ?_)
        case b2 => have := HB.out.2; simp; omega
        intro v5 W5 ho5 hg5 hz5
        have HB5 := app_done4 HB (Below.refl _ _) HO hg5
        have HO5 := Lib.hid ho5
        clear ho5 hg5 hz5 HO HB hx hy
        go_wp2_with fail
        go_roundw
        case rel => exact ⟨b + m.length, b + m.length, acc ++ [r], by go_num, by go_num, Nat.le_refl _, hlt, HAL2, HS2, HO5, HB5⟩
        case measure => simp [intOf]; omega
    · have hce := cut_end HM0.out HST.out (by omega)
      have hlti : ¬ (b : Int) + (m.length : Int) ≤ (s.length : Int) := by omega
      have hy := piece_of s a s.length
      obtain ⟨r, hr⟩ : ∃ r, s.drop a = r := ⟨_, rfl⟩
      rw [hr, List.take_of_length_le (by rw [← hr, List.length_drop]; exact Nat.le_refl _)] at hy
      rw [hr] at hce
      have HCE : Hid (acc ++ [r] = Lib.split s m) := hce.symm
      have HSZ : Hid (acc.length + 1 ≤ 1000000) := by have := HAL.out; show _ ≤ _; omega
      clear hr hce
      go_wp2_with (at_builtin; refine Rg.wpList_app sliceTx rfl (.tmp 38) (.tmp 42) rfl w.heap.size _ acc [r] rfl (Rg.own_below HO.out ((Below.refl _ _).alloc (Nat.le_refl _) _)) _ _ rfl (Rg.news_new wr _ _ _ (by rfl)) (Nat.zero_lt_succ _) HSZ.out ?b2 ?_)
      case b2 => have := HB.out.2; simp; omega
      intro v5 W5 ho5 hg5 hz5
      have HB5 := app_done4 HB (Below.refl _ _) HO hg5
      rw [HCE.out] at ho5
      obtain ⟨C, d, rfl, hrow, _, _⟩ := Rg.row_own fitsT ho5
      have HROW := Lib.hid hrow
      have HOO := Lib.hid ho5
      clear ho5 hg5 hz5 HO HB hy hrow
      go_wp2_with fail
      go_ret
      exact ⟨C, _, d, rfl, rfl, HSL.out, HROW.out, fun a ha => by subst ha; exact (Rg.own_lt HOO.out a.block rfl).1, HB5.out.1⟩
end Go.Proofs.YtoioeekfnnoaoaaGreatDoor
