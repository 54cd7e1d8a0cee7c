/- The reference's words of a line, its Read of a lock: walked. -/
import Derived.Test.YtojhapnodjabdaaGreatDoorCr
namespace Go.Proofs.YtojhapnodjabdaaGreatDoor.Lk
open At Sz Go.RowKit
theorem sp_hit (a r : List UInt8) (h : (32 : UInt8) ∉ a) : Lib.split (a ++ 32 :: r) [32] = a :: Lib.split r [32] := by
  have hi : Lib.index (a ++ 32 :: r) [32] = a.length := by
    refine Lib.index_first (by simp) ?_ fun j hj => ?_
    · unfold Lib.occAt; rw [List.drop_left]; rfl
    · cases ho : Lib.occAt (a ++ 32 :: r) [32] j with
      | false => rfl
      | true =>
        have h2 := Lib.occAt_head (c := 32) (t := []) rfl ho
        rw [List.getElem?_append_left hj] at h2
        exact absurd (List.mem_of_getElem? h2) h
  rw [At.split_hit (by simp) hi, List.take_left]
  have e : (a ++ 32 :: r).drop (a.length + ([32] : List UInt8).length) = r := by
    rw [← List.drop_drop, List.drop_left]; rfl
  rw [e]
theorem sp_miss (a : List UInt8) (h : (32 : UInt8) ∉ a) : Lib.split a [32] = [a] := by
  refine At.split_miss (Lib.index_none fun j _ => ?_)
  cases ho : Lib.occAt a [32] j with
  | false => rfl
  | true => exact absurd (List.mem_of_getElem? (Lib.occAt_head (c := 32) (t := []) rfl ho)) h
theorem sp_cut (s : List UInt8) : ((32 : UInt8) ∉ s) ∨ ∃ a r, s = a ++ 32 :: r ∧ (32 : UInt8) ∉ a := by
  induction s with
  | nil => left; simp
  | cons b l ih =>
    by_cases hb : b = 32
    · right; exact ⟨[], l, by rw [hb]; rfl, by simp⟩
    · rcases ih with h | ⟨a, r, e, h⟩
      · left; simp; exact ⟨fun e => hb e.symm, h⟩
      · right; refine ⟨b :: a, r, by rw [e]; rfl, ?_⟩
        simp; exact ⟨fun e => hb e.symm, h⟩
theorem word_nil : wordB [] = false := by decide
theorem sp_ent (s : List UInt8) : (∀ e, entOf s = some e → Lib.split s [32] = [e.1, e.2] ∧ (Lib.split s [32]).all wordB = true) ∧ (entOf s = none → (Lib.split s [32]).all wordB = false ∨ (Lib.split s [32]).length ≠ 2) := by
  rcases sp_cut s with h | ⟨a, r, rfl, h⟩
  · obtain ⟨f1, _⟩ := fst_none h
    have f2 : Vm.snd 32 s = [] := by
      have := (cut_lk s).2
      rw [cut_has, (fst_none h).2] at this
      exact this.symm
    have he : entOf s = none := by unfold entOf; rw [f1, f2, word_nil, Bool.and_false]; rfl
    rw [he, sp_miss s h]
    exact ⟨fun e h => (by cases h), fun _ => Or.inr (by simp)⟩
  · obtain ⟨f1, f2, _⟩ := fst_app (c := 32) (p := a) (r := r) h
    have he : entOf (a ++ 32 :: r) = if wordB a && wordB r then some (a, r) else none := by unfold entOf; rw [f1, f2]
    rw [he, sp_hit a r h]
    by_cases hw : (wordB a && wordB r) = true
    · rw [if_pos hw]
      rw [Bool.and_eq_true] at hw
      have hr := sp_miss r (word_not hw.2 (by decide))
      refine ⟨fun e h => ?_, fun h => (by cases h)⟩
      obtain rfl := Option.some.inj h
      rw [hr]
      exact ⟨rfl, by simp [hw.1, hw.2]⟩
    · rw [if_neg hw]
      refine ⟨fun e h => (by cases h), fun _ => ?_⟩
      rcases sp_cut r with h2 | ⟨b, q, rfl, h2⟩
      · rw [sp_miss r h2]
        left
        cases h1 : wordB a <;> cases h3 : wordB r <;> simp_all
      · rw [sp_hit b q h2]
        right
        have : Lib.split q [32] ≠ [] := by
          unfold Lib.split
          cases Lib.count q [32] with
          | zero => unfold Lib.splitK; simp
          | succ k => unfold Lib.splitK; split <;> simp
        have := List.length_pos_iff.2 this
        simp; omega
/-- What Words tells. -/
def WordsR (w : World) (s : List UInt8) (e : Ending) (w' : World) : Prop := Below w.heap.size w w' ∧ (((Lib.split s [32]).all wordB = true ∧ ∃ A n c, e = .returned (.tuple #[.slice A n c, .bool true]) ∧ (Lib.split s [32]).length = n ∧ Rg.Row encT 1 w' A (Lib.split s [32]) ∧ ∀ a, A = some a → w.heap.size ≤ a.block) ∨ ((Lib.split s [32]).all wordB = false ∧ e = .returned (.tuple #[.slice none 0 0, .bool false])))
end Go.Proofs.YtojhapnodjabdaaGreatDoor.Lk
namespace Go.Proofs.YtojhapnodjabdaaGreatDoor
open Go.RowKit Lk At Sz
attribute [local go_sem ↓] Go.wp_at_zero Go.wp_at_succ
theorem Lk.all_snoc2 {L : List (List UInt8)} {k : Nat} (hk : k < L.length) : (L.take (k + 1)).all wordB = ((L.take k).all wordB && wordB L[k]) := by
  rw [List.take_succ_eq_append_getElem hk, List.all_append]; simp only [List.all_cons, List.all_nil, Bool.and_true]
theorem Lk.all_no2 {L : List (List UInt8)} {k : Nat} (hk : k < L.length) (h : wordB L[k] = false) : L.all wordB = false := by
  cases h2 : L.all wordB with
  | false => rfl
  | true => have := List.all_eq_true.1 h2 _ (List.getElem_mem hk); rw [h] at this; cases this
set_option maxRecDepth 100000 in
set_option maxHeartbeats 3200000 in
theorem refWords_any (s : List UInt8) (w : World) (hs : s.length ≤ 10000) :
    Calls Tryz.prog 41 #[.string ⟨s.toArray⟩] w (WordsR w s) := by
  have HC := Lib.hid (refCut_any s [32] w hs (by decide) (by decide))
  obtain ⟨L, hL⟩ : ∃ L, Lib.split s [32] = L := ⟨_, rfl⟩
  have HLL := Lib.hid hL
  have HPL : Hid (∀ y ∈ L, y.length ≤ 10000) := fun y hy => Nat.le_trans (piece_le [32] _ s y (by rw [← hL] at hy; exact hy)) hs
  clear hL
  go_enter Tryz.func41, Tryz.ntmps41
  go_wp2_with fail
  refine HC.out.mono ?_
  rintro _ u ⟨A, n, c, rfl, hn, hn1, hrow, hfr, hb⟩
  rw [HLL.out] at hn hrow
  have HN := Lib.hid hn
  have HR := Lib.hid hrow
  have HB := Lib.hid hb
  have HFR := Lib.hid hfr
  clear hn hrow hb HC hfr
  go_wp2_with fail
  go_loop [5] (fun i => ∃ k : Nat, k ≤ n ∧ i = .int .i64 k ∧ Hid ((L.take k).all wordB = true)) (fun i => n - (intOf i).toNat)
  case atStart => exact ⟨0, Nat.zero_le _, rfl, rfl⟩
  case round =>
    obtain ⟨k, hk, rfl, HK⟩ := hrel
    by_cases hlt : k < n
    · have hkl : k < L.length := by rw [HN.out]; exact hlt
      obtain ⟨ad, rfl, _, c0⟩ := txt_at HR.out k hkl
      have HA := Lib.hid (all_snoc2 hkl)
      have HNO := Lib.hid (fun h => all_no2 hkl h)
      have hxl : L[k].length ≤ 10000 := HPL.out _ (List.getElem_mem hkl)
      obtain ⟨x, hx⟩ : ∃ x, L[k] = x := ⟨_, rfl⟩
      rw [hx] at c0 HA HNO hxl
      clear hx
      cases hE : x.isEmpty
      · have HWB : Hid (wordB x = x.all wordC) := by show _ = _; unfold wordB; rw [hE]; rfl
        go_wp2_with fail
        clear hE
        go_loop [6] (fun j => ∃ q : Nat, q ≤ x.length ∧ j = .int .i64 q ∧ Hid ((x.take q).all wordC = true)) (fun j => x.length - (intOf j).toNat)
        case atStart => exact ⟨0, Nat.zero_le _, rfl, rfl⟩
        case round =>
          obtain ⟨q, hq, rfl, HQ⟩ := hrel
          by_cases hl2 : q < x.length
          · obtain ⟨b, hb, hb'⟩ := byte_at x q hl2
            have HS := Lib.hid (At.all_snoc (f := wordC) hl2 hb')
            have HF : Hid (wordC b = false → L.all wordB = false) := fun h => HNO.out (by rw [HWB.out]; exact At.all_no hl2 hb' h)
            have HY : Hid (wordC b = true → (x.take (q + 1)).all wordC = true) := fun h => by rw [HS.out, HQ.out, h]; rfl
            clear hb' HS HQ
            cases h1 : wordC b
            · have HFF := Lib.hid (HF.out h1)
              rcases wordC_not b h1 with d1 | ⟨d1, d2⟩
              all_goals
                clear h1
                go_wp2_with fail
                go_ret2
                exact ⟨HB.out, Or.inr ⟨by rw [HLL.out]; exact HFF.out, rfl⟩⟩
            · have HY2 := Lib.hid (HY.out h1)
              obtain ⟨d1, d2⟩ := wordC_yes b h1
              clear h1
              go_wp2_with fail
              go_round
              case rel => exact ⟨q + 1, by omega, by go_num, HY2⟩
              case measure => simp [intOf]; omega
          · have HT : Hid ((L.take (k + 1)).all wordB = true) := by
              have := HQ.out
              rw [List.take_of_length_le (by omega)] at this
              show _ = _
              rw [HA.out, HK.out, HWB.out, this]; rfl
            go_wp2_with fail
            go_round
            case rel => exact ⟨k + 1, by omega, by go_num, HT⟩
            case measure => simp [intOf]; omega
      · have HFF := Lib.hid (HNO.out (by unfold wordB; rw [hE]; rfl))
        go_wp2_with fail
        go_ret2
        exact ⟨HB.out, Or.inr ⟨by rw [HLL.out]; exact HFF.out, rfl⟩⟩
    · obtain rfl : k = n := by omega
      have HT : Hid (L.all wordB = true) := by have := HK.out; rwa [List.take_of_length_le (by rw [HN.out]; exact Nat.le_refl _)] at this
      go_wp2_with fail
      go_ret2
      exact ⟨HB.out, Or.inl ⟨by rw [HLL.out]; exact HT.out, A, _, c, rfl, by rw [HLL.out]; exact HN.out, by rw [HLL.out]; exact HR.out, HFR.out⟩⟩
end Go.Proofs.YtojhapnodjabdaaGreatDoor
