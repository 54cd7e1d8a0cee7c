/- The reference's numbers in words, and read: walked. -/
import Derived.Test.YtoioeekfnnoaoaaGreatDoorEc
import Derived.Test.YtoioeekfnnoaoaaGreatDoorBr
import Derived.BigQuiet
namespace Go.Proofs.YtoioeekfnnoaoaaGreatDoor
open Go.RowKit Cl Sz
attribute [local go_sem ↓] Go.wp_at_zero Go.wp_at_succ
theorem Cl.cat_to (a b : List UInt8) (h : a.length + b.length ≤ 1000000) : ∀ W : World, (Op.stringOp .add (⟨a.toArray⟩ : ByteArray) ⟨b.toArray⟩).run Tryz.prog W = .ok (.string ⟨(a ++ b).toArray⟩) W := fun W => by
  rw [run_string_add_sum W ⟨a.toArray⟩ ⟨b.toArray⟩ (by show a.toArray.size + b.toArray.size ≤ _; rw [List.size_toArray, List.size_toArray]; omega), ByteArray.mk_append_mk]
theorem Cl.dec_short (n : Nat) (h : n < 10000000000000000000) : (decT n).length ≤ 20 := dec_len 20 n 19 (Nat.lt_of_lt_of_le h (by decide))
set_option maxRecDepth 100000 in
set_option maxHeartbeats 1600000 in
theorem refWord_any (n : Int) (w : World) (hn : n.natAbs ≤ 2199023255552) :
    Calls Tryz.prog 45 #[.int .i64 n] w fun e w' => e = .returned (.string ⟨(wordZ n).toArray⟩) ∧ Below w.heap.size w w' := by
  obtain ⟨X, hX⟩ : ∃ X, wordZ n = X := ⟨_, rfl⟩
  rw [hX]
  obtain ⟨q, hq⟩ : ∃ q, n.natAbs = q := ⟨_, rfl⟩
  have HD := Lib.hid (decT_any q (by omega) w)
  have hdl := dec_short q (by omega)
  obtain ⟨D, hD⟩ : ∃ D, decT q = D := ⟨_, rfl⟩
  have HX : Hid (X = if n < 0 then 45 :: D else D) := by show _ = _; rw [← hX, ← hD, ← hq]; rfl
  rw [hD] at HD hdl
  clear hX hD
  by_cases h0 : n < 0
  · have HY : Hid (X = [45] ++ D) := HX.out.trans (if_pos h0)
    obtain ⟨p, hp⟩ : ∃ p : Nat, n + 1 = -(p : Int) := ⟨(-(n + 1)).toNat, by omega⟩
    have d0 : decide (n < 0) = true := decide_eq_true h0
    have w1 : IntKind.i64.wrap (n + 1) = -(p : Int) := (IntWalk.i64_in _ (by omega)).trans hp
    have w2 : IntKind.i64.wrap (0 - -(p : Int)) = (p : Int) := (IntWalk.i64_in _ (by omega)).trans (by omega)
    have w2b : IntKind.i64.wrap (p : Int) = (p : Int) := IntWalk.i64_in _ (by omega)
    have w3 : IntKind.u64.wrap (p : Int) = (p : Int) := IntWalk.u64_in _ (by omega)
    have w4 : IntKind.u64.wrap ((p : Int) + 1) = (q : Int) := (IntWalk.u64_in _ (by omega)).trans (by omega)
    have hcat := cat_to [45] D (by simp; omega)
    clear h0 hp hq
    go_enter Tryz.func45, Tryz.ntmps45
    go_wp2_with (go_at_call 68; refine HD.out.mono ?_)
    rintro _ wz ⟨rfl, hb⟩
    have HB := Lib.hid hb
    clear hb
    go_wp2_with fail
    go_ret
    exact ⟨by rw [HY.out]; rfl, HB.out⟩
  · have HY : Hid (X = D) := HX.out.trans (if_neg h0)
    have hqn : n = (q : Int) := by omega
    subst hqn
    have d0 : decide ((q : Int) < 0) = false := decide_eq_false h0
    have w3 : IntKind.u64.wrap (q : Int) = (q : Int) := IntWalk.u64_in _ (by omega)
    clear h0 hq
    go_enter Tryz.func45, Tryz.ntmps45
    go_wp2_with (go_at_call 68; refine HD.out.mono ?_)
    rintro _ wz ⟨rfl, hb⟩
    have HB := Lib.hid hb
    clear hb
    go_wp2_with fail
    go_ret
    exact ⟨by rw [HY.out]; rfl, HB.out⟩
def Cl.numR (s : List UInt8) : Int × Bool := match numP s with | some n => ((n : Int), true) | none => (0, false)
def Cl.NumSt (s : List UInt8) (k n : Nat) : Prop := (s.take k).all digB = true ∧ num (s.take k) = n ∧ n < 10 ^ k
theorem Cl.num_more {s : List UInt8} {k n : Nat} {c : UInt8} (h : NumSt s k n) (hk : k < s.length) (hc : s[k] = c) (hd : digB c = true) : NumSt s (k + 1) (10 * n + (c.toNat - 48)) := by
  obtain ⟨h1, h2, h3⟩ := h
  have hd' := hd
  unfold digB at hd'
  simp at hd'
  unfold NumSt
  rw [List.take_succ_eq_append_getElem hk, hc, List.all_append, num_snoc, h1, h2, Nat.pow_succ]
  refine ⟨by simpa using hd, rfl, by omega⟩
theorem Cl.dig_no {s : List UInt8} {k : Nat} {c : UInt8} (hk : k < s.length) (hc : s[k] = c) (hd : digB c = false) : numR s = (0, false) := by
  have : s.all digB = false := by
    cases ha : s.all digB with
    | false => rfl
    | true =>
      have := List.all_eq_true.1 ha _ (List.getElem_mem hk)
      rw [hc, hd] at this; cases this
  unfold numR numP
  rw [this]
  split <;> rename_i h <;> (try rfl)
  split at h <;> cases h
set_option maxRecDepth 100000 in
set_option maxHeartbeats 1600000 in
theorem refNumber_any (s : List UInt8) (w : World) (hs : s.length ≤ 100000) :
    Calls Tryz.prog 48 #[.string ⟨s.toArray⟩] w fun e w' => e = .returned (.tuple #[.int .i64 (numR s).1, .bool (numR s).2]) ∧ w = w' := by
  obtain ⟨X, hX⟩ : ∃ X, numR s = X := ⟨_, rfl⟩
  rw [hX]
  have HX := Lib.hid hX
  clear hX
  by_cases h0 : s = []
  · have HZ : Hid (X = (0, false)) := by show _ = _; rw [← HX.out, h0]; rfl
    have e0 : (s == []) = true := by rw [h0]; rfl
    clear h0
    go_enter Tryz.func48, Tryz.ntmps48
    go_wp2_with fail
    go_ret2
    exact ⟨by rw [HZ.out]; rfl, rfl⟩
  · have e0 : (s == []) = false := by simpa using h0
    have em : s.isEmpty = false := by simpa using h0
    have hp : 0 < s.length := List.length_pos_iff.2 h0
    obtain ⟨c0, hc0, hc1⟩ := byte_at s 0 hp
    have hg : s.getD 0 0 = c0 := by rw [List.getD_eq_getElem?_getD, List.getElem?_eq_getElem hp, hc1]; rfl
    have p0 : (0 : Int) < (s.length : Int) := by omega
    by_cases h6 : 6 < s.length
    · have HZ : Hid (X = (0, false)) := by
        show _ = _
        rw [← HX.out]; unfold numR numP; rw [em, decide_eq_true h6]; rfl
      have d6 : decide ((6 : Int) < (s.length : Int)) = true := decide_eq_true (by omega)
      clear h0 h6 hc1 hg em
      go_enter Tryz.func48, Tryz.ntmps48
      go_wp2_with fail
      go_ret2
      exact ⟨by rw [HZ.out]; rfl, rfl⟩
    · have d6 : decide ((6 : Int) < (s.length : Int)) = false := decide_eq_false (by omega)
      have hl6 : s.length ≤ 6 := by omega
      have HE : Hid (∀ b, (c0 == 48 && decide (1 < s.length)) = b → X = if b then (0, false) else (if s.all digB then ((num s : Int), true) else (0, false))) := fun b hb => by
        rw [← HX.out]
        unfold numR numP
        rw [em, decide_eq_false h6, hg, hb]
        cases b
        · cases s.all digB <;> rfl
        · rfl
      have HLOOP : Hid (∀ b, (c0 == 48 && decide (1 < s.length)) = b → ((c0.toNat : Int) == 48 && decide ((1 : Int) < (s.length : Int))) = b) := fun b hb => by
        rw [← hb]
        have a1 : ((c0.toNat : Int) == 48) = (c0 == 48) := by
          rw [Bool.eq_iff_iff, beq_iff_eq, beq_iff_eq]
          refine ⟨fun e => UInt8.toNat_inj.1 (by show c0.toNat = 48; omega), fun e => by rw [e]; rfl⟩
        rw [a1]
        exact congrArg _ (by rw [Bool.eq_iff_iff, decide_eq_true_iff, decide_eq_true_iff]; omega)
      clear h0 h6 hc1 hg em
      cases hz : (c0 == 48 && decide (1 < s.length))
      · have HS : Hid (X = if s.all digB then ((num s : Int), true) else (0, false)) := HE.out _ hz
        have hq := HLOOP.out _ hz
        clear HE HLOOP hz
        obtain ⟨g1, hg1⟩ : ∃ g, ((c0.toNat : Int) == 48) = g := ⟨_, rfl⟩
        obtain ⟨g2, hg2⟩ : ∃ g, decide ((1 : Int) < (s.length : Int)) = g := ⟨_, rfl⟩
        rw [hg1, hg2] at hq
        go_enter Tryz.func48, Tryz.ntmps48
        cases g1 <;> cases g2 <;> first | (cases hq; done) | skip
        all_goals
          clear hq
          go_wp2_with fail
          clear hg1 hg2 d6 p0 e0 hc0
          go_loopw [4, 5] (fun v i wr => ∃ k n : Nat, k ≤ s.length ∧ n ≤ 1000000 ∧ v = .int .i64 n ∧ i = .int .i64 k ∧ Hid (NumSt s k n) ∧ w = wr) (fun _ i _ => s.length - (intOf i).toNat)
          case atStart => exact ⟨0, 0, Nat.zero_le _, Nat.zero_le _, rfl, rfl, ⟨rfl, rfl, by decide⟩, rfl⟩
          case round =>
            obtain ⟨k, n, hk, hn, rfl, rfl, HN, rfl⟩ := hrel
            by_cases hlt : k < s.length
            · obtain ⟨c, hc, hcl⟩ := byte_at s k hlt
              have k0 : (0 : Int) ≤ (k : Int) := by omega
              have k1 : (k : Int) < (s.length : Int) := by omega
              cases a1 : decide ((c.toNat : Int) < 48)
              · cases a2 : decide ((57 : Int) < (c.toNat : Int))
                · have hdig : digB c = true := by
                    have b1 := of_decide_eq_false a1
                    have b2 := of_decide_eq_false a2
                    unfold digB; simp; omega
                  have HN2 := Lib.hid (num_more HN.out hlt hcl hdig)
                  have hn2 : 10 * n + (c.toNat - 48) ≤ 1000000 := by
                    have h3 := HN2.out.2.2
                    have : 10 ^ (k + 1) ≤ 10 ^ 6 := Nat.pow_le_pow_right (by decide) (by omega)
                    omega
                  obtain ⟨d, hd⟩ : ∃ d, c.toNat - 48 = d := ⟨_, rfl⟩
                  obtain ⟨t, ht⟩ : ∃ t, 10 * n + d = t := ⟨_, rfl⟩
                  rw [hd, ht] at HN2 hn2
                  have b1 := of_decide_eq_false a1
                  have b3 := c.toNat_lt
                  have v1 : IntKind.u8.wrap ((c.toNat : Int) - 48) = (d : Int) := (IntWalk.u8_in _ (by omega)).trans (by omega)
                  have v2 : IntKind.i64.wrap (d : Int) = (d : Int) := IntWalk.i64_in _ (by omega)
                  have v3 : IntKind.i64.wrap (10 * (n : Int)) = ((10 * n : Nat) : Int) := (IntWalk.i64_in _ (by omega)).trans (by omega)
                  obtain ⟨u, hu⟩ : ∃ u, 10 * n = u := ⟨_, rfl⟩
                  rw [hu] at v3 ht
                  have v4 : IntKind.i64.wrap ((u : Int) + (d : Int)) = (t : Int) := (IntWalk.i64_in _ (by omega)).trans (by omega)
                  clear hdig hcl hd ht hu b1 b3
                  go_wp2_with fail
                  go_roundw
                  case rel => exact ⟨k + 1, t, by omega, hn2, rfl, by go_num, HN2.out, trivial⟩
                  case measure => simp [intOf]; omega
                · have HZ : Hid (X = (0, false)) := by
                    show _ = _
                    rw [← HX.out]
                    refine dig_no hlt hcl ?_
                    have b2 := of_decide_eq_true a2
                    unfold digB; simp; omega
                  clear hcl
                  go_wp2_with fail
                  go_ret2
                  exact ⟨by rw [HZ.out]; rfl, rfl⟩
              · have HZ : Hid (X = (0, false)) := by
                  show _ = _
                  rw [← HX.out]
                  refine dig_no hlt hcl ?_
                  have b2 := of_decide_eq_true a1
                  unfold digB; simp; omega
                clear hcl
                go_wp2_with fail
                go_ret2
                exact ⟨by rw [HZ.out]; rfl, rfl⟩
            · have HZ : Hid (X = ((n : Int), true)) := by
                show _ = _
                have h := HN.out
                unfold NumSt at h
                rw [List.take_of_length_le (by omega)] at h
                rw [HS.out, h.1, if_pos rfl, h.2.1]
              go_wp2_with fail
              go_ret2
              exact ⟨by rw [HZ.out]; rfl, rfl⟩
      · have HZ : Hid (X = (0, false)) := HE.out _ hz
        have hq := HLOOP.out _ hz
        rw [Bool.and_eq_true] at hq
        obtain ⟨q1, q2⟩ := hq
        clear HE HLOOP hz
        go_enter Tryz.func48, Tryz.ntmps48
        go_wp2_with fail
        go_ret2
        exact ⟨by rw [HZ.out]; rfl, rfl⟩
end Go.Proofs.YtoioeekfnnoaoaaGreatDoor
