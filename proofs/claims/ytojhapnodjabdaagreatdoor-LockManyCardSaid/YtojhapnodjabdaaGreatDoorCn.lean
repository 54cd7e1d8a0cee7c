/- The lines of a lock's text, its last line cut off: the program's, walked. -/
import Derived.Test.YtojhapnodjabdaaGreatDoorCl
import Derived.Test.YtojhapnodjabdaaGreatDoorCj
namespace Go.Proofs.YtojhapnodjabdaaGreatDoor.Sz
open Go.RowKit
attribute [local go_sem ↓] Go.wp_at_zero Go.wp_at_succ
theorem piece_le (sep : List UInt8) : ∀ (k : Nat) (s : List UInt8), ∀ p ∈ Lib.splitK sep 0 k s, p.length ≤ s.length
  | 0, s, p, hp => by
    unfold Lib.splitK at hp
    rw [List.mem_singleton.1 hp]; exact Nat.le_refl _
  | k + 1, s, p, hp => by
    unfold Lib.splitK at hp
    split at hp
    · rw [List.mem_singleton.1 hp]; exact Nat.le_refl _
    · rcases List.mem_cons.1 hp with e | hp
      · rw [e]; simp; omega
      · have := piece_le sep k _ p hp
        simp at this; omega
theorem split_any (s sep : List UInt8) (w : World) (hm : MaxOk w) (hl : s.length ≤ 900000) (h1 : 1 ≤ sep.length) :
    Calls Tryz.prog 77 #[.string ⟨s.toArray⟩, .string ⟨sep.toArray⟩] w fun e w' => ∃ A n, e = .returned (.slice A n n) ∧ (Lib.split s sep).length = n ∧ n ≤ s.length + 1 ∧ Rg.Row encT 1 w' A (Lib.split s sep) ∧ Below w.heap.size w w' := by
  obtain ⟨m, hm⟩ := hm
  refine (Tryz.strings_Split ⟨s.toArray⟩ ⟨sep.toArray⟩ m w (by show s.length < _; omega) hm h1).mono ?_
  rintro e w' ⟨rfl, rfl⟩
  have hd : (Lib.splitB ⟨sep.toArray⟩ 0 (Lib.countB ⟨s.toArray⟩ ⟨sep.toArray⟩) ⟨s.toArray⟩).map (·.data.toList) = Lib.split s sep := Lib.splitB_data _ _ _ _
  have hn := Lib.splitB_all ⟨sep.toArray⟩ h1 0 (Lib.countB ⟨s.toArray⟩ ⟨sep.toArray⟩) ⟨s.toArray⟩ rfl
  have hc := Lib.countB_le ⟨sep.toArray⟩ h1 s.length ⟨s.toArray⟩ (Nat.le_refl _)
  refine ⟨_, _, rfl, by rw [← hd, List.length_map, hn], Nat.succ_le_succ hc, row_newT w _ _ _ ?_, (Below.refl _ _).alloc (Nat.le_refl _) _⟩
  rw [flatT, ← hd, List.map_map]
  rfl
theorem line_le {s p : List UInt8} (h : p ∈ linesL s) : p.length ≤ s.length := piece_le [10] _ _ p (List.dropLast_subset _ h)
set_option maxRecDepth 100000 in
set_option maxHeartbeats 800000 in
theorem linesOf_any (s : List UInt8) (w : World) (hw : MaxOk w) (hs : s.length ≤ 100000) :
    Calls Tryz.prog 56 #[.string ⟨s.toArray⟩] w fun e w' => ∃ A n c, e = .returned (.slice A n c) ∧ (linesL s).length = n ∧ n ≤ s.length ∧ Rg.Row encT 1 w' A (linesL s) ∧ Below w.heap.size w w' := by
  have hc := split_any s [10] w hw (by omega) (by decide)
  have hns := split_some s
  have HL : Hid ((linesL s).length = (Lib.split s [10]).length - 1) := by show _ = _; unfold linesL; rw [List.length_dropLast]
  have HF : Hid (∀ (u : World) (A : Option Addr), Rg.Row encT 1 u A (Lib.split s [10]) → Rg.Row encT 1 u A (linesL s)) := fun u A h => row_front h
  have HC := Lib.hid hc
  have HNS : Hid (1 ≤ (Lib.split s [10]).length) := List.length_pos_iff.2 hns
  clear hc hns
  go_enter Tryz.func56, Tryz.ntmps56
  go_wp2_with fail
  refine HC.out.mono ?_
  rintro _ u ⟨A, n, rfl, hn, hnl, hrow, hb⟩
  have h1 : 1 ≤ n := by rw [← hn]; exact HNS.out
  have HN := Lib.hid hn
  have HROW := Lib.hid (HF.out _ _ hrow)
  have HB := Lib.hid hb
  clear hn hrow hb
  have i0 : (0 : Int) ≤ (n : Int) - 1 := by omega
  have i1 : (n : Int) - 1 ≤ (n : Int) := by omega
  have i2 : ((n : Int) - 1).toNat = n - 1 := by omega
  go_wp2_with fail
  go_ret
  exact ⟨A, _, _, rfl, by rw [HL.out, HN.out], by omega, HROW.out, HB.out⟩
end Go.Proofs.YtojhapnodjabdaaGreatDoor.Sz
namespace Go.Proofs.YtojhapnodjabdaaGreatDoor
open Go.RowKit Lk At Sz
attribute [local go_sem ↓] Go.wp_at_zero Go.wp_at_succ
theorem Lk.last_byte (l : List UInt8) (j : Nat) (hj : j < l.length) : (((⟨l.toArray⟩ : ByteArray).data[j]!).toNat : Int) = (l[j].toNat : Int) := by
  have : (⟨l.toArray⟩ : ByteArray).data[j]! = l[j] := by
    show l.toArray[j]! = l[j]
    rw [List.getElem!_toArray, List.getElem!_eq_getElem?_getD, List.getElem?_eq_getElem hj]; rfl
  rw [this]
theorem Lk.start_of (F last : List UInt8) (h10 : (10 : UInt8) ∉ last) (hF : F = [] ∨ F.getLast? = some 10) : Lib.lastIndexByte ⟨(F ++ last).toArray⟩ 10 + 1 = (F.length : Int) := by
  have hsz : (⟨(F ++ last).toArray⟩ : ByteArray).size = F.length + last.length := by show (F ++ last).toArray.size = _; rw [List.size_toArray, List.length_append]
  have hten : ∀ (hF' : F ≠ []), F[F.length - 1]'(by have := List.length_pos_iff.2 hF'; omega) = 10 := fun hF' => by
    rcases hF with h | h
    · exact absurd h hF'
    · rw [List.getLast?_eq_some_getLast hF'] at h
      have := Option.some.inj h
      rw [List.getLast_eq_getElem] at this
      exact this
  rcases Lib.lastIndexByte_spec ⟨(F ++ last).toArray⟩ 10 with ⟨h1, h2⟩ | ⟨i, hi, h1, h2, h3⟩
  · rw [h1]
    rcases Nat.eq_zero_or_pos F.length with h0 | h0
    · rw [h0]; rfl
    · exfalso
      have hj : F.length - 1 < (F ++ last).length := by rw [List.length_append]; omega
      have := h2 (F.length - 1) (by rw [hsz]; omega)
      rw [last_byte _ _ hj, List.getElem_append_left (by omega), hten (List.length_pos_iff.1 h0)] at this
      exact this rfl
  · rw [h1]
    rw [hsz] at hi h3
    have hil : i < (F ++ last).length := by rw [List.length_append]; exact hi
    rw [last_byte _ _ hil] at h2
    have hi10 : (F ++ last)[i] = 10 := UInt8.toNat_inj.1 (by show _ = 10; omega)
    have hiF : i < F.length := by
      rcases Nat.lt_or_ge i F.length with h | h
      · exact h
      · exfalso
        rw [List.getElem_append_right h] at hi10
        exact h10 (hi10 ▸ List.getElem_mem _)
    rcases Nat.lt_or_ge i (F.length - 1) with h | h
    · exfalso
      have hj : F.length - 1 < (F ++ last).length := by rw [List.length_append]; omega
      have := h3 (F.length - 1) h (by omega)
      rw [last_byte _ _ hj, List.getElem_append_left (by omega), hten (List.length_pos_iff.1 (by omega))] at this
      exact this rfl
    · omega
theorem Lk.count_join : ∀ hd : List (List UInt8), (∀ x ∈ hd, (10 : UInt8) ∉ x) → Lib.countByte (joinL hd) 10 = hd.length
  | [], _ => rfl
  | s :: hd, h => by
    have ih := count_join hd fun x hx => h x (List.mem_cons_of_mem _ hx)
    unfold Lib.countByte at ih ⊢
    rw [joinL_cons, List.count_append, List.count_append, ih, List.count_eq_zero.2 (h s (List.mem_cons_self ..)), List.length_cons]
    show 0 + 1 + hd.length = _
    omega
theorem Lk.end_or {F : List UInt8} (h : endB F = true) : F = [] ∨ F.getLast? = some 10 := by
  unfold endB at h
  rw [Bool.or_eq_true] at h
  rcases h with h | h
  · exact Or.inl (List.isEmpty_iff.1 h)
  · exact Or.inr (by simpa using h)
set_option maxRecDepth 100000 in
set_option maxHeartbeats 800000 in
theorem cutLast_any (F last : List UInt8) (w : World) (h10 : (10 : UInt8) ∉ last) (hF : endB F = true) (hs : (F ++ last ++ [10]).length ≤ 1000000) :
    Calls Tryz.prog 54 #[.string ⟨(F ++ last ++ [10]).toArray⟩] w fun e w' => e = .returned (.tuple #[.string ⟨F.toArray⟩, .string ⟨(last ++ [10]).toArray⟩]) ∧ Below w.heap.size w w' := by
  have hst := start_of F last h10 (end_or hF)
  have hx1 : (⟨(F ++ last ++ [10]).toArray⟩ : ByteArray).extract 0 F.length = ⟨F.toArray⟩ := by
    rw [ByteArray.extract_mk, List.drop_zero, Nat.sub_zero, List.append_assoc, List.take_left]
  have hx2 : (⟨(F ++ last ++ [10]).toArray⟩ : ByteArray).extract F.length (F ++ last ++ [10]).length = ⟨(last ++ [10]).toArray⟩ := by
    rw [ByteArray.extract_mk, List.append_assoc, List.drop_left, List.take_of_length_le (by simp)]
  have htr : Lib.trimSuffix (F ++ last ++ [10]) [10] = F ++ last := by
    unfold Lib.trimSuffix
    rw [if_pos (by unfold Lib.hasSuffix; exact List.isSuffixOf_iff_suffix.2 ⟨F ++ last, rfl⟩)]
    exact List.take_left' (by simp)
  have hfl : F.length ≤ (F ++ last ++ [10]).length := by simp
  have hll : (F ++ last).length ≤ (F ++ last ++ [10]).length := by simp
  obtain ⟨s, hs'⟩ : ∃ s, F ++ last ++ [10] = s := ⟨_, rfl⟩
  obtain ⟨t, ht⟩ : ∃ t, F ++ last = t := ⟨_, rfl⟩
  rw [hs'] at hx1 hx2 htr hs hfl hll ⊢
  rw [ht] at hst htr hll
  obtain ⟨B, hB⟩ : ∃ B, last ++ [10] = B := ⟨_, rfl⟩
  rw [hB] at hx2 ⊢
  have HC1 : Hid (∀ W : World, Calls Tryz.prog 73 #[.string ⟨s.toArray⟩, .string ⟨#[10]⟩] W fun e w' => e = .returned (.string ⟨t.toArray⟩) ∧ W = w') := fun W =>
    (Tryz.strings_TrimSuffix ⟨s.toArray⟩ ⟨#[10]⟩ W (by show s.toArray.size ≤ _; rw [List.size_toArray]; omega)).mono fun e w' ⟨h1, h2⟩ => ⟨by rw [h1]; show Ending.returned (.string ⟨(Lib.trimSuffix s [10]).toArray⟩) = _; rw [htr], h2.symm⟩
  obtain ⟨i, hi⟩ : ∃ i, Lib.lastIndexByte ⟨t.toArray⟩ 10 = i := ⟨_, rfl⟩
  rw [hi] at hst
  have HC2 : Hid (∀ W : World, Calls Tryz.prog 72 #[.string ⟨t.toArray⟩, .string ⟨#[10]⟩] W fun e w' => e = .returned (.int .i64 i) ∧ W = w') := fun W =>
    (Tryz.strings_LastIndex_one ⟨t.toArray⟩ ⟨#[10]⟩ rfl (by show t.toArray.size < _; rw [List.size_toArray]; omega) W).mono fun e w' ⟨h1, h2⟩ => ⟨by rw [h1]; show Ending.returned (.int .i64 (Lib.lastIndexByte ⟨t.toArray⟩ 10)) = _; rw [hi], h2.symm⟩
  have a1 : IntKind.i64.wrap (F.length : Int) = (F.length : Int) := IntWalk.i64_in _ (by omega)
  have a2 : (0 : Int) ≤ (F.length : Int) := by omega
  have a3 : (F.length : Int) ≤ (s.length : Int) := by omega
  obtain ⟨f, hf⟩ : ∃ f, F.length = f := ⟨_, rfl⟩
  rw [hf] at hst hx1 hx2 a1 a2 a3 hfl
  have HX := Lib.hid hf
  clear htr hi h10 hF hs' ht hB hf hll
  go_enter Tryz.func54, Tryz.ntmps54
  go_wp2_with fail
  refine (HC1.out _).mono ?_
  rintro _ z ⟨rfl, rfl⟩
  go_wp2_with fail
  refine (HC2.out _).mono ?_
  rintro _ z ⟨rfl, rfl⟩
  go_wp2_with fail
  go_quiet (fail)
  go_wp2_with fail
  go_ret2
  exact ⟨rfl, below_drewN (Below.refl _ _) _⟩
end Go.Proofs.YtojhapnodjabdaaGreatDoor
