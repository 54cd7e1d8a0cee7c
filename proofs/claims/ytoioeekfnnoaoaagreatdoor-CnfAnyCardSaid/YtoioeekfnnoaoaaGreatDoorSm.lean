/- Stanzas, plain, as the reference reads them: lines by a scan, a field letter by letter; what is got, what is in order. No program is named here. -/
import Derived.Test.YtoioeekfnnoaoaaGreatDoorSa
namespace Go.Proofs.YtoioeekfnnoaoaaGreatDoor.Sz

theorem tw_len : ∀ (i : Nat) (s : List UInt8) (c : UInt8), (s.take i).all Vm.ltr = true → s[i]? = some c → Vm.ltr c = false → (s.takeWhile Vm.ltr).length = i
  | 0, [], c, _, h, _ => by cases h
  | 0, b :: s, c, _, h, hc => by
    cases h
    rw [List.takeWhile_cons, if_neg (by rw [hc]; decide)]; rfl
  | i + 1, [], c, _, h, _ => by cases h
  | i + 1, b :: s, c, ha, h, hc => by
    rw [List.take_succ_cons, List.all_cons, Bool.and_eq_true] at ha
    rw [List.takeWhile_cons, if_pos ha.1, List.length_cons, tw_len i s c ha.2 h hc]
theorem occ_mark {s : List UInt8} {k : Nat} : Lib.occAt s mark k = true ↔ (s[k]? = some 58 ∧ s[k + 1]? = some 32) := by
  unfold Lib.occAt
  rw [List.isPrefixOf_iff_prefix]
  constructor
  · rintro ⟨t, ht⟩
    have h0 : (s.drop k)[0]? = some 58 := by rw [← ht]; rfl
    have h1 : (s.drop k)[1]? = some 32 := by rw [← ht]; rfl
    rw [List.getElem?_drop] at h0 h1
    exact ⟨h0, h1⟩
  · rintro ⟨h0, h1⟩
    obtain ⟨hk, e0⟩ := List.getElem?_eq_some_iff.1 h0
    obtain ⟨hk1, e1⟩ := List.getElem?_eq_some_iff.1 h1
    refine ⟨s.drop (k + 2), ?_⟩
    rw [List.drop_eq_getElem_cons hk, List.drop_eq_getElem_cons hk1, e0, e1]; rfl
theorem tw_take (s : List UInt8) (p : UInt8 → Bool) : s.take (s.takeWhile p).length = s.takeWhile p := by
  induction s with
  | nil => rfl
  | cons b s ih =>
    rw [List.takeWhile_cons]
    split
    · rw [List.length_cons, List.take_succ_cons, ih]
    · rfl
theorem tw_all (s : List UInt8) (p : UInt8 → Bool) : (s.takeWhile p).all p = true := by
  rw [List.all_eq_true]; intro x hx
  induction s with
  | nil => cases hx
  | cons b s ih =>
    rw [List.takeWhile_cons] at hx
    split at hx
    · rename_i hb
      rcases List.mem_cons.1 hx with rfl | hx
      · exact hb
      · exact ih hx
    · cases hx
theorem tw_full : ∀ (s : List UInt8), s.all Vm.ltr = true → s.takeWhile Vm.ltr = s
  | [], _ => rfl
  | b :: s, h => by
    rw [List.all_cons, Bool.and_eq_true] at h
    rw [List.takeWhile_cons, if_pos h.1, tw_full s h.2]
/-- The first bytes of a line that are letters: how many. -/
def kLen (s : List UInt8) : Nat := (s.takeWhile Vm.ltr).length
theorem kLen_le (s : List UInt8) : kLen s ≤ s.length := (List.takeWhile_sublist _).length_le
theorem kLen_at {s : List UInt8} {i : Nat} (hi : i < s.length) (h : i < kLen s) : Vm.ltr s[i] = true := by
  have h1 := tw_all s Vm.ltr
  rw [← tw_take, List.all_eq_true] at h1
  refine h1 _ ?_
  have e : s[i] = (s.take (kLen s))[i]'(by rw [List.length_take]; omega) := by rw [List.getElem_take]
  rw [e]; exact List.getElem_mem _
theorem kLen_step {s : List UInt8} {i : Nat} (hi : i < s.length) (h : (s.take i).all Vm.ltr = true) (hc : Vm.ltr s[i] = false) : kLen s = i :=
  tw_len i s s[i] h (List.getElem?_eq_getElem hi) hc
theorem kLen_all {s : List UInt8} (h : (s.take s.length).all Vm.ltr = true) : kLen s = s.length := by
  rw [List.take_length] at h
  unfold kLen
  rw [tw_full s h]
/-- A line as a field, letter by letter. -/
theorem field_scan (s : List UInt8) (n : Int) : fieldP s n = if 1 ≤ kLen s ∧ kLen s ≤ 16 ∧ s[kLen s]? = some 58 ∧ s[kLen s + 1]? = some 32 ∧ valB (s.drop (kLen s + 2)) = true then some ⟨s.take (kLen s), s.drop (kLen s + 2), n⟩ else none := by
  have key : ∀ i : Nat, Lib.index s mark = i → (0 ≤ Lib.index s mark ∧ keyB (s.take (Lib.index s mark).toNat) = true ∧ valB (s.drop ((Lib.index s mark).toNat + 2)) = true) → kLen s = i ∧ 1 ≤ i ∧ i ≤ 16 ∧ s[i]? = some 58 ∧ s[i + 1]? = some 32 ∧ valB (s.drop (i + 2)) = true := by
    rintro i hi ⟨_, h1, h2⟩
    rw [hi] at h1 h2
    have ho : Lib.occAt s mark i = true := by
      rcases Lib.index_spec s mark with ⟨h1, _⟩ | ⟨j, h1, _, h3, _⟩
      · omega
      · have : j = i := by omega
        exact this ▸ h3
    obtain ⟨o0, o1⟩ := occ_mark.1 ho
    have hil : i < s.length := (List.getElem?_eq_some_iff.1 o0).1
    have h1' : keyB (s.take i) = true := h1
    unfold keyB at h1'
    rw [Bool.and_eq_true, Bool.and_eq_true, decide_eq_true_eq, List.length_take] at h1'
    obtain ⟨a1, a2, a3⟩ := h1'
    have hk : kLen s = i := tw_len i s 58 a1 o0 (by decide)
    have hne : i ≠ 0 := fun e => by subst e; simp at a2
    exact ⟨hk, by omega, by omega, o0, o1, h2⟩
  unfold fieldP
  split
  · rename_i hc
    obtain ⟨i, hi⟩ : ∃ i : Nat, Lib.index s mark = i := ⟨(Lib.index s mark).toNat, by omega⟩
    obtain ⟨h1, h2, h3, h4, h5, h6⟩ := key i hi hc
    rw [h1, if_pos ⟨h2, h3, h4, h5, h6⟩, hi]; rfl
  · rename_i hc
    rw [if_neg]
    rintro ⟨h2, h3, h4, h5, h6⟩
    refine hc ?_
    have hkl := (List.getElem?_eq_some_iff.1 h4).1
    have hi : Lib.index s mark = kLen s := by
      refine Lib.index_first (by omega) (occ_mark.2 ⟨h4, h5⟩) fun j hj => ?_
      cases ho : Lib.occAt s mark j with
      | false => rfl
      | true =>
        have hjl : j < s.length := by omega
        have := (occ_mark.1 ho).1
        rw [List.getElem?_eq_getElem hjl] at this
        have h7 := kLen_at hjl hj
        rw [Option.some.inj this] at h7
        exact absurd h7 (by decide)
    rw [hi]
    refine ⟨by omega, ?_, h6⟩
    show keyB (s.take (kLen s)) = true
    unfold keyB
    rw [Bool.and_eq_true, Bool.and_eq_true, decide_eq_true_eq, List.length_take]
    refine ⟨by unfold kLen; rw [tw_take]; exact tw_all _ _, ?_, by omega⟩
    cases s with
    | nil => simp at hkl
    | cons b s =>
      obtain ⟨j, hj⟩ : ∃ j, kLen (b :: s) = j + 1 := ⟨kLen (b :: s) - 1, by omega⟩
      rw [hj]; rfl
/-! Lines by a scan. -/
/-- What a scan has found as far as i: the lines that have ended, where the next one begins. -/
def Scan (s : List UInt8) (i : Nat) (out : List (List UInt8)) (fr : Nat) : Prop := fr ≤ i ∧ i ≤ s.length ∧ joinL out = s.take fr ∧ (∀ o ∈ out, (10 : UInt8) ∉ o) ∧ (10 : UInt8) ∉ (s.drop fr).take (i - fr)
theorem scan_start (s : List UInt8) : Scan s 0 [] 0 := ⟨Nat.le_refl _, Nat.zero_le _, rfl, fun _ h => (by cases h), by simp⟩
theorem joinL_snoc (out : List (List UInt8)) (l : List UInt8) : joinL (out ++ [l]) = joinL out ++ (l ++ [10]) := by unfold joinL; rw [List.flatMap_append]; simp
theorem take_piece (s : List UInt8) (fr i : Nat) (h : fr ≤ i) (hi : i < s.length) : s.take fr ++ ((s.drop fr).take (i - fr) ++ [s[i]]) = s.take (i + 1) := by
  rw [List.take_succ_eq_append_getElem hi, ← List.append_assoc]
  congr 1
  obtain ⟨d, rfl⟩ : ∃ d, i = fr + d := ⟨i - fr, by omega⟩
  rw [Nat.add_sub_cancel_left, ← List.take_add]
theorem scan_end {s : List UInt8} {i fr : Nat} {out : List (List UInt8)} (h : Scan s i out fr) (hi : i < s.length) (hc : s[i] = 10) : Scan s (i + 1) (out ++ [(s.drop fr).take (i - fr)]) (i + 1) := by
  obtain ⟨h1, _, h3, h4, h5⟩ := h
  refine ⟨Nat.le_refl _, hi, ?_, ?_, by simp⟩
  · rw [joinL_snoc, h3, ← hc]; exact take_piece s fr i h1 hi
  · intro o ho
    rcases List.mem_append.1 ho with ho | ho
    · exact h4 o ho
    · rw [List.mem_singleton.1 ho]; exact h5
theorem scan_more {s : List UInt8} {i fr : Nat} {out : List (List UInt8)} (h : Scan s i out fr) (hi : i < s.length) (hc : s[i] ≠ 10) : Scan s (i + 1) out fr := by
  obtain ⟨h1, _, h3, h4, h5⟩ := h
  refine ⟨by omega, hi, h3, h4, ?_⟩
  have e : i + 1 - fr = (i - fr) + 1 := by omega
  have hl : i - fr < (s.drop fr).length := by rw [List.length_drop]; omega
  rw [e, List.take_succ_eq_append_getElem hl]
  intro hm
  rcases List.mem_append.1 hm with hm | hm
  · exact h5 hm
  · have e2 : (s.drop fr)[i - fr] = s[i] := by rw [List.getElem_drop]; congr 1; omega
    rw [e2] at hm
    exact hc (List.mem_singleton.1 hm).symm
theorem scan_done {s : List UInt8} {fr : Nat} {out : List (List UInt8)} (h : Scan s s.length out fr) (he : endB s = true) : out = linesL s := by
  obtain ⟨h1, _, h3, h4, h5⟩ := h
  have hfr : fr = s.length := by
    rcases Nat.lt_or_ge fr s.length with hl | hl
    · exfalso
      unfold endB at he
      rw [Bool.or_eq_true] at he
      rcases he with he | he
      · have : s = [] := by simpa using he
        subst this; simp at hl
      · have h6 : s.getLast? = some 10 := by simpa using he
        refine h5 ?_
        rw [List.take_of_length_le (by rw [List.length_drop]; omega)]
        have : (s.drop fr).getLast? = some 10 := by rw [List.getLast?_drop, if_neg (by omega)]; exact h6
        exact List.mem_of_getLast? this
    · omega
  rw [hfr, List.take_length] at h3
  rw [← lines_join out h4, h3]
/-! What is got, what is in order. -/
def getF (l : List Fld) (k : List UInt8) : Option Fld := l.find? (fun f => f.key == k)
theorem getF_has (l : List Fld) (k : List UInt8) : (getF l k).isSome = hasK l k := by
  unfold getF hasK
  induction l with
  | nil => rfl
  | cons f l ih =>
    rw [List.find?_cons, List.any_cons]
    cases f.key == k with
    | true => rfl
    | false => exact ih
def placeOf (keys : List (List UInt8)) (k : List UInt8) : Option Nat := keys.findIdx? (· == k)
/-- Fields in the order of keys: the field that is wrong, and why. -/
def ordP (keys : List (List UInt8)) : Nat → Int → List Fld → Int × Int
  | _, _, [] => (0, 0)
  | i, last, f :: l => match placeOf keys f.key with
    | none => (i, 10)
    | some p => if last < p then ordP keys (i + 1) p l else (i, 7)
/-! Read line by line: one step. -/
theorem readL_nil (n : Nat) (acc : List (List Fld)) (last : List Fld) : readL n [] acc last = (0, 0, if last.isEmpty then acc else acc ++ [last]) := by unfold readL; rfl
theorem readL_cons (n : Nat) (s : List UInt8) (ls : List (List UInt8)) (acc : List (List Fld)) (last : List Fld) : readL n (s :: ls) acc last = if s.isEmpty then (if last.isEmpty || ls.isEmpty then (2, (n : Int), []) else readL (n + 1) ls (acc ++ [last]) [])
    else match fieldP s n with
      | none => (2, (n : Int), [])
      | some f => if hasK last f.key then (6, (n : Int), []) else readL (n + 1) ls acc (last ++ [f]) := by
  rw [readL]; rfl
end Go.Proofs.YtoioeekfnnoaoaaGreatDoor.Sz
