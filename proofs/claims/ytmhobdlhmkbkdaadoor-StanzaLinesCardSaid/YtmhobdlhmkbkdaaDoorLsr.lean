/- The law StanzaReads, walked. -/
import Derived.Test.YtmhobdlhmkbkdaaDoorUk
namespace Go.Proofs.YtmhobdlhmkbkdaaDoor
open Go.RowKit Go.Maps Sz
attribute [local go_sem ↓] Go.wp_at_zero Go.wp_at_succ
theorem Sz.stanzaT_len (l : List Fld) : l.length ≤ (stanzaT l).length := by
  induction l with
  | nil => exact Nat.zero_le _
  | cons f l ih =>
    show l.length + 1 ≤ (fieldT f ++ stanzaT l).length
    rw [List.length_append]
    have : 1 ≤ (fieldT f).length := by unfold fieldT; simp only [List.length_append, List.length_cons, List.length_nil]; omega
    omega
theorem Sz.textS_len : ∀ t : List (List Fld), (∀ x ∈ t, x.length ≤ (textS t).length) ∧ t.length ≤ (textS t).length + 1
  | [] => ⟨fun x h => (by cases h), Nat.zero_le _⟩
  | [l] => ⟨fun x h => by rw [List.mem_singleton.1 h]; exact stanzaT_len l, by show 1 ≤ _; omega⟩
  | l :: m :: r => by
    obtain ⟨h1, h2⟩ := textS_len (m :: r)
    have e : (textS (l :: m :: r)).length = (stanzaT l).length + 1 + (textS (m :: r)).length := by
      show (stanzaT l ++ [10] ++ textS (m :: r)).length = _
      simp only [List.length_append, List.length_cons, List.length_nil]
    have hl := stanzaT_len l
    refine ⟨fun x hx => ?_, ?_⟩
    · rw [e]
      rcases List.mem_cons.1 hx with rfl | hx
      · omega
      · have := h1 x hx; omega
    · rw [e]
      show (m :: r).length + 1 ≤ _
      omega
theorem Sz.parse_len {s : List UInt8} {k n : Int} {r : List (List Fld)} (h : parseS s = (k, n, r)) : (∀ x ∈ r, x.length ≤ s.length) ∧ r.length ≤ s.length + 1 := by
  by_cases hk : k = 0
  · subst hk
    obtain ⟨_, ht⟩ := parse_text h
    have := textS_len r
    rwa [ht] at this
  · have hr : r = [] := by
      unfold parseS at h
      split at h
      · cases h; rfl
      · split at h
        · exact readL_bad _ _ _ _ _ _ _ h hk
        · cases h; rfl
    subst hr
    exact ⟨fun x hx => (by cases hx), Nat.zero_le _⟩
theorem Sz.s5_refParse {u : World} (s : List UInt8) {k n : Int} {r : List (List Fld)} {m : Nat} (hX : parseS s = (k, n, r)) (hl : r.length = m) :
    Calls Tryd.prog 9 #[.string ⟨s.toArray⟩] u fun e w' => ∃ A c, e = .returned (.tuple #[.slice A m c, .int .i64 n, .int .i64 k]) ∧ Gr.Row encF 3 w' A r ∧ Below u.heap.size u w' :=
  (refParseStanzas_any s u).mono fun e w' ⟨A, c, he, hr, hb⟩ => by
    rw [hX] at he hr
    exact ⟨A, c, by rw [he, ← hl], hr, hb⟩
set_option maxRecDepth 100000 in
set_option maxHeartbeats 6400000 in
theorem stanzaReads_any (s : List UInt8) (w : World) (hw : MaxOk w) (hm : s.length ≤ maxLen) :
    Calls Tryd.prog 3 #[.string ⟨s.toArray⟩] w fun e w' => e = .returned (.bool true) ∧ Below w.heap.size w w' := by
  unfold maxLen at hm
  have HM := Lib.hid hw
  clear hw
  by_cases h1 : 5000 < s.length
  · have d0 : decide ((5000 : Int) < (s.length : Int)) = true := decide_eq_true (by omega)
    clear h1
    go_enter Tryd.func3, Tryd.ntmps3
    go_wp2_with fail
    refine (known5_any _ HM.out).mono ?_
    rintro _ u1 ⟨rfl, hb⟩
    have HB1 := Lib.hid hb
    clear hb
    go_wp2_with fail
    go_ret
    exact ⟨rfl, HB1.out⟩
  have d0 : decide ((5000 : Int) < (s.length : Int)) = false := decide_eq_false (by omega)
  obtain ⟨X, hX⟩ : ∃ X, parseS s = X := ⟨_, rfl⟩
  obtain ⟨k, n, r⟩ := X
  obtain ⟨hl1, hl2⟩ := parse_len hX
  have HX := Lib.hid hX
  obtain ⟨m, hm2⟩ : ∃ m, r.length = m := ⟨_, rfl⟩
  have HL : Hid (r.length = m) := hm2
  have hml : m ≤ 100000 := by omega
  have HLL : Hid (∀ x ∈ r, x.length ≤ 100000) := fun x hx => by have := hl1 x hx; omega
  have HSL : Hid (s.length ≤ 5000) := by show _ ≤ _; omega
  clear hX hl1 hl2 hm2 h1
  go_enter Tryd.func3, Tryd.ntmps3
  go_wp2_with fail
  refine (known5_any _ HM.out).mono ?_
  rintro _ u1 ⟨rfl, hb⟩
  have HB1 := Lib.hid hb
  clear hb
  go_wp2_with fail
  refine (s5_parse (maxOk_below HM.out HB1.out) s HX.out HL.out).mono ?_
  rintro _ u2 ⟨A, c, rfl, hr, hb⟩
  have HG := Lib.hid hr
  have HB2 := Lib.hid (HB1.out.trans (hb.mono HB1.out.size))
  clear hr hb HB1
  go_wp2_with fail
  refine (s5_refParse s HX.out HL.out).mono ?_
  rintro _ u3 ⟨B, d, rfl, hr, hb⟩
  have HG2 := Lib.hid hr
  have HG3 := Lib.hid (Gr.row_below HG.out hb)
  have HB3 := Lib.hid (HB2.out.trans (hb.mono HB2.out.size))
  clear hr hb HB2 HG
  have e1 : (n != n) = false := by simp
  have e2 : (k != k) = false := by simp
  go_wp2_with fail
  refine (same5_any A B m c m d r r _ HL.out HL.out HG3.out HG2.out hml hml HLL.out HLL.out).mono ?_
  rintro _ u4 ⟨rfl, hb⟩
  rw [decide_eq_true rfl]
  have HG4 := Lib.hid (Gr.row_below HG3.out hb)
  have HB4 := Lib.hid (HB3.out.trans (hb.mono HB3.out.size))
  clear hb HB3 HG3 HG2
  by_cases hk : k = 0
  · subst hk
    have HT : Hid (textS r = s) := (parse_text HX.out).2
    go_wp2_with fail
    refine (s5_print A m c r HL.out HG4.out (Nat.le_trans hml (by decide)) (fun l hl => Nat.le_trans (HLL.out l hl) (by decide)) HT.out (Nat.le_trans HSL.out (by decide))).mono ?_
    rintro _ u5 ⟨rfl, hb⟩
    have HB5 := Lib.hid (HB4.out.trans (hb.mono HB4.out.size))
    clear hb
    have e3 : (s == s) = true := by simp
    go_wp2_with fail
    go_ret
    exact ⟨rfl, HB5.out⟩
  · have e3 : (k != 0) = true := by simpa using hk
    clear hk
    go_wp2_with fail
    go_ret
    exact ⟨rfl, HB4.out⟩
end Go.Proofs.YtmhobdlhmkbkdaaDoor
