/- The reference reads clauses: walked. -/
import Derived.Test.YtoioeekfnnoaoaaGreatDoorEh
import Derived.Test.YtoioeekfnnoaoaaGreatDoorEe
import Derived.Test.YtoioeekfnnoaoaaGreatDoorUr
import Derived.Test.YtoioeekfnnoaoaaGreatDoorUv
namespace Go.Proofs.YtoioeekfnnoaoaaGreatDoor.Cl
open Go.RowKit Sz Up
theorem trow_at {w : World} {A : Option Addr} {l : List (List UInt8)} (h : Rg.Row encT 1 w A l) (k : Nat) (hk : k < l.length) : ∃ ad x, A = some ad ∧ l[k] = x ∧ ad.block < w.heap.size ∧ w.cell? (ad.add k) = some (.string ⟨x.toArray⟩) := by
  obtain ⟨ad, x, h1, h2, h3, h4⟩ := Rg.row_at h k hk
  refine ⟨ad, x, h1, h2, h3, ?_⟩
  have := h4 0 (.string ⟨x.toArray⟩) rfl
  rwa [if_pos rfl, Nat.mul_one] at this
theorem numR_lt (s : List UInt8) : 0 ≤ (numR s).1 ∧ (numR s).1 < 1000000 ∧ ((numR s).2 = false → (numR s).1 = 0) := by
  unfold numR
  cases h : numP s with
  | none => exact ⟨Int.le_refl _, by decide, fun _ => rfl⟩
  | some n =>
    have := (numP_back h).2
    exact ⟨by show (0 : Int) ≤ n; omega, by show (n : Int) < 1000000; omega, fun e => by cases e⟩
def minusB (s : List UInt8) : Bool := s.getD 0 0 == 45
theorem lit_of (s : List UInt8) : litP s = if (numR (if minusB s then s.drop 1 else s)).2 = true ∧ (numR (if minusB s then s.drop 1 else s)).1 ≠ 0 then some (if minusB s then -(numR (if minusB s then s.drop 1 else s)).1 else (numR (if minusB s then s.drop 1 else s)).1) else none := by
  unfold litP
  cases hm : minusB s
  · have : (s.getD 0 0 == 45) = false := hm
    rw [this, if_neg (by decide)]
    simp only [Bool.false_eq_true, if_false]
    unfold numR
    cases numP s with
    | none => rfl
    | some n =>
      by_cases h : n = 0
      · subst h; rfl
      · simp [h]
  · have : (s.getD 0 0 == 45) = true := hm
    rw [this, if_pos rfl]
    simp only [if_true]
    unfold numR
    cases numP (s.drop 1) with
    | none => rfl
    | some n =>
      by_cases h : n = 0
      · subst h; rfl
      · simp [h]
/-- What clause's loop keeps. -/
def CSt (t : List (List UInt8)) (k : Nat) (out : List Int) : Prop := (t.take k).mapM litP = some out ∧ out.length = k
theorem cst_more {t : List (List UInt8)} {k : Nat} {out : List Int} {x : Int} (h : CSt t k out) (hk : k < t.length) (hx : litP t[k] = some x) : CSt t (k + 1) (out ++ [x]) := by
  unfold CSt
  rw [List.take_succ_eq_append_getElem hk, List.mapM_append, h.1, List.length_append, h.2]
  refine ⟨?_, rfl⟩
  rw [List.mapM_cons, hx]; rfl
theorem mapM_none {α β : Type} {f : α → Option β} : ∀ {l : List α} {k : Nat} (hk : k < l.length), f l[k] = none → l.mapM f = none
  | a :: l, 0, _, h => by rw [List.mapM_cons, show f a = none from h]; rfl
  | a :: l, k + 1, hk, h => by
    rw [List.mapM_cons, mapM_none (l := l) (k := k) (by simpa using hk) h]
    cases f a <;> rfl
def ClRet (w : World) (s : List UInt8) (e : Ending) (w' : World) : Prop := Below w.heap.size w w' ∧ match clauseP s with
  | some c => ∃ v, e = .returned (.tuple #[v, .bool true]) ∧ Rg.Own encI 1 w' w.heap.size 3 v c ∧ c.length ≤ 10000
  | none => e = .returned (.tuple #[.slice none 0 0, .bool false])
theorem clRet_no {w w' : World} {s : List UInt8} (h : clauseP s = none) (hb : Below w.heap.size w w') : ClRet w s (.returned (.tuple #[.slice none 0 0, .bool false])) w' := by
  refine ⟨hb, ?_⟩
  rw [h]
theorem clRet_yes {w w' : World} {s : List UInt8} {c : List Int} {v : Value} (h : clauseP s = some c) (hb : Below w.heap.size w w') (ho : Rg.Own encI 1 w' w.heap.size 3 v c) (hl : c.length ≤ 10000) : ClRet w s (.returned (.tuple #[v, .bool true])) w' := by
  refine ⟨hb, ?_⟩
  rw [h]
  exact ⟨v, rfl, ho, hl⟩
theorem take_dropLast {α : Type} {t : List α} {p : Nat} (h : t.length = p + 1) : t.dropLast = t.take p := by rw [List.dropLast_eq_take, h]; rfl
end Go.Proofs.YtoioeekfnnoaoaaGreatDoor.Cl
namespace Go.Proofs.YtoioeekfnnoaoaaGreatDoor
open Go.RowKit Cl Sz
attribute [local go_sem ↓] Go.wp_at_zero Go.wp_at_succ
set_option maxRecDepth 100000 in
set_option maxHeartbeats 3200000 in
theorem refClause_any (s : List UInt8) (w : World) (hs : s.length ≤ 9000) :
    Calls Tryz.prog 49 #[.string ⟨s.toArray⟩] w (ClRet w s) := by
  have HC := Lib.hid (refCut_any s [32] w (by omega) (by decide) (by decide))
  have hne := sp_some s
  have hcl : clauseP s = if (Lib.split s [32]).getLastD [] == [48] then (Lib.split s [32]).dropLast.mapM litP else none := rfl
  have hlen := split_len s [32] (by decide)
  obtain ⟨t, ht⟩ : ∃ t, Lib.split s [32] = t := ⟨_, rfl⟩
  rw [ht] at HC hne hcl hlen
  have hsp : ∀ i (h : i < t.length), t[i].length ≤ 100000 := fun i h => by
    have hb := sp_back _ s (Nat.le_refl _)
    rw [ht] at hb
    have : ∀ l : List (List UInt8), ∀ x ∈ l, x.length ≤ (wordsT l).length := fun l => by
      induction l with
      | nil => exact fun x h => absurd h (by simp)
      | cons a l ih =>
        intro x hx
        match l, ih with
        | [], _ => rw [List.mem_singleton.1 hx]; exact Nat.le_refl _
        | b :: r, ih =>
          show _ ≤ (a ++ 32 :: wordsT (b :: r)).length
          rw [List.length_append, List.length_cons]
          rcases List.mem_cons.1 hx with rfl | hx
          · omega
          · have := ih x hx; omega
    have := this t _ (List.getElem_mem h)
    rw [hb] at this; omega
  have HCL := Lib.hid hcl
  have HSP := Lib.hid hsp
  have HLEN := Lib.hid hlen
  have hpos : 0 < t.length := List.length_pos_iff.2 hne
  have HPOS := Lib.hid hpos
  clear ht hne hcl hsp hlen hpos
  go_enter Tryz.func49, Tryz.ntmps49
  go_wp2_with (go_at_call 47; refine HC.out.mono ?_)
  rintro _ w1 ⟨A, n, c, rfl, hn, hn2, hrow, hfr, hb1⟩
  have HN := Lib.hid hn
  have HROW := Lib.hid hrow
  have HB1 := Lib.hid hb1
  clear hn hrow hfr hb1 HC
  obtain ⟨p, hp⟩ : ∃ p, n = p + 1 := ⟨n - 1, by have := HPOS.out; have := HN.out; omega⟩
  have hpl : p < t.length := by rw [HN.out]; omega
  obtain ⟨ad, z, rfl, hz, hzb, hzc⟩ := trow_at HROW.out p hpl
  have HP := Lib.hid hp
  have w1p : IntKind.i64.wrap ((n : Int) - 1) = (p : Int) := (IntWalk.i64_in _ (by omega)).trans (by omega)
  have p0 : (0 : Int) ≤ (p : Int) := by omega
  have p1 : (p : Int) < (n : Int) := by omega
  have HLD : Hid (t.getLastD [] = z) := by
    show _ = _
    rw [List.getLastD_eq_getLast?, List.getLast?_eq_getElem?, HN.out, HP.out, show p + 1 - 1 = p by omega, List.getElem?_eq_getElem hpl, hz]; rfl
  have hpn : p ≤ 10000 := by omega
  clear hp hz hzb hpl
  cases hz0 : z == [48]
  · have hz1 : (z != [48]) = true := by show (!(z == [48])) = true; rw [hz0]; rfl
    have HZ : Hid (clauseP s = none) := by show _ = _; rw [HCL.out, HLD.out, hz0]; rfl
    go_wp2_with fail
    go_ret2
    exact clRet_no HZ.out HB1.out
  · have hz1 : (z != [48]) = false := by show (!(z == [48])) = false; rw [hz0]; rfl
    have HM : Hid (clauseP s = (t.take p).mapM litP) := by
      show _ = _
      rw [HCL.out, HLD.out, hz0, if_pos rfl, take_dropLast (HN.out.trans HP.out)]
    go_wp2_with fail
    clear hz0 hz1 hzc w1p p0 p1
    go_loopw [5, 6, 7, 8, 9, 10] (fun v i _ _ _ _ wr => ∃ (k : Nat) (out : List Int), k ≤ p ∧ i = .int .i64 k ∧ Hid (CSt t k out) ∧ Hid (Rg.Own encI 1 wr w1.heap.size 3 v out) ∧ Hid (Below w1.heap.size w1 wr ∧ w1.heap.size ≤ wr.heap.size)) (fun _ i _ _ _ _ _ => p - (intOf i).toNat)
    case atStart => exact ⟨0, [], Nat.zero_le _, rfl, ⟨rfl, rfl⟩, Rg.own_nil _ _ _, Below.refl _ _, Nat.le_refl _⟩
    case round =>
      obtain ⟨k, out, hk, rfl, HST, HO, HB⟩ := hrel
      have wk : IntKind.i64.wrap ((k : Int) + 1) = (k : Int) + 1 := IntWalk.i64_in _ (by omega)
      by_cases hlt : k < p
      · have hkt : k < t.length := by have := HN.out; have := HP.out; omega
        have hkt2 : k < (t.take p).length := by rw [List.length_take]; omega
        obtain ⟨ad2, u, had, hu, hub, huc⟩ := trow_at (Rg.row_below HROW.out HB.out.1) k hkt
        obtain rfl := Option.some.inj had
        have HUL : Hid (u.length ≤ 100000) := by show _ ≤ _; rw [← hu]; exact HSP.out k hkt
        have HYES : Hid (∀ x, litP u = some x → CSt t (k + 1) (out ++ [x])) := fun x h => cst_more HST.out hkt (by rw [hu]; exact h)
        have HNO : Hid (litP u = none → clauseP s = none) := fun h => HM.out.trans (mapM_none hkt2 (by rw [List.getElem_take, hu]; exact h))
        have k0 : (0 : Int) ≤ (k : Int) := by omega
        have k1 : (k : Int) < (n : Int) := by have := HP.out; omega
        have k2 : (k : Int) + 1 < (n : Int) := by have := HP.out; omega
        clear had hu hub hkt hkt2
        by_cases h0 : u = []
        · have e0 : (u == []) = true := by rw [h0]; rfl
          have e1 : (u != []) = false := by show (!(u == [])) = false; rw [e0]; rfl
          have HMN : Hid (minusB u = false) := by show _ = _; rw [h0]; rfl
          have HQ0 := Lib.hid (numR_lt u)
          obtain ⟨⟨q1, q2⟩, hq⟩ : ∃ q, numR u = q := ⟨_, rfl⟩
          rw [hq] at HQ0
          have HQ : Hid (0 ≤ q1 ∧ q1 < 1000000) := ⟨HQ0.out.1, HQ0.out.2.1⟩
          clear h0 HQ0
          have HLIT : Hid (litP u = if q2 = true ∧ q1 ≠ 0 then some q1 else none) := by
            show _ = _
            rw [lit_of u, HMN.out]
            show (if (numR u).2 = true ∧ (numR u).1 ≠ 0 then some (numR u).1 else none) = _
            rw [hq]
          have HNUM := Lib.hid (refNumber_any u wr HUL.out)
          rw [hq] at HNUM
          clear hq
          cases q2
          · have HNN : Hid (clauseP s = none) := HNO.out (HLIT.out.trans (if_neg (fun h => absurd h.1 (by decide))))
            go_wp2_with (go_at_call 48; refine HNUM.out.mono ?_)
            go_ret2
            exact clRet_no HNN.out (HB1.out.trans (HB.out.1.mono HB1.out.size))
          · cases hq0 : q1 == 0
            · have hq1 : q1 ≠ 0 := by simpa using hq0
              have HST2 : Hid (CSt t (k + 1) (out ++ [q1])) := HYES.out _ (HLIT.out.trans (if_pos ⟨rfl, hq1⟩))
              clear hq1 HLIT HYES HNO
              go_wp2_with (first | (go_at_call 48; refine HNUM.out.mono ?_) | (at_builtin; refine Rg.wpList_app sliceI rfl (.tmp 55) (.tmp 57) rfl w1.heap.size _ out [q1] rfl (Rg.own_below HO.out ((Below.refl _ _).alloc (Nat.le_refl _) _)) _ _ rfl (Rg.news_new wr _ _ _ (by rfl)) (Nat.zero_lt_succ _) ?s1 ?b1 ?_))
              case s1 => rw [HST.out.2]; show _ + 1 ≤ _; omega
              case b1 => have := HB.out.2; simp; omega
              intro v5 W5 ho5 hg5 hz5
              have HB5 := app_done HB (Below.refl _ _) HO hg5
              have HO5 := Lib.hid ho5
              clear ho5 hg5 hz5 HO HB
              go_wp2_with fail
              go_roundw
              case rel => exact ⟨k + 1, out ++ [q1], by omega, by go_num, HST2.out, HO5.out, HB5.out⟩
              case measure => simp [intOf]; omega
            · have hq1 : q1 = 0 := by simpa using hq0
              have HNN : Hid (clauseP s = none) := HNO.out (HLIT.out.trans (if_neg (fun h => h.2 hq1)))
              clear hq1
              go_wp2_with (go_at_call 48; refine HNUM.out.mono ?_)
              go_ret2
              exact clRet_no HNN.out (HB1.out.trans (HB.out.1.mono HB1.out.size))
        · have e0 : (u == []) = false := by simpa using h0
          have e1 : (u != []) = true := by show (!(u == [])) = true; rw [e0]; rfl
          have hup : 0 < u.length := List.length_pos_iff.2 h0
          obtain ⟨c0, hc0, hc1⟩ := byte_at u 0 hup
          have hg : u.getD 0 0 = c0 := by rw [List.getD_eq_getElem?_getD, List.getElem?_eq_getElem hup, hc1]; rfl
          have p0 : (0 : Int) < (u.length : Int) := by omega
          have a1 : ((c0.toNat : Int) == 45) = (c0 == 45) := by
            rw [Bool.eq_iff_iff, beq_iff_eq, beq_iff_eq]
            refine ⟨fun e => UInt8.toNat_inj.1 (by show c0.toNat = 45; omega), fun e => by rw [e]; rfl⟩
          clear h0
          cases hz : c0 == 45
          · have HMN : Hid (minusB u = false) := by show _ = _; unfold minusB; rw [hg, hz]
            rw [hz] at a1
            have HQ0 := Lib.hid (numR_lt u)
            obtain ⟨⟨q1, q2⟩, hq⟩ : ∃ q, numR u = q := ⟨_, rfl⟩
            rw [hq] at HQ0
            have HQ : Hid (0 ≤ q1 ∧ q1 < 1000000) := ⟨HQ0.out.1, HQ0.out.2.1⟩
            clear HQ0 hg hc1
            have HLIT : Hid (litP u = if q2 = true ∧ q1 ≠ 0 then some q1 else none) := by
              show _ = _
              rw [lit_of u, HMN.out]
              show (if (numR u).2 = true ∧ (numR u).1 ≠ 0 then some (numR u).1 else none) = _
              rw [hq]
            have HNUM := Lib.hid (refNumber_any u wr HUL.out)
            rw [hq] at HNUM
            clear hq
            cases q2
            · have HNN : Hid (clauseP s = none) := HNO.out (HLIT.out.trans (if_neg (fun h => absurd h.1 (by decide))))
              go_wp2_with (go_at_call 48; refine HNUM.out.mono ?_)
              go_ret2
              exact clRet_no HNN.out (HB1.out.trans (HB.out.1.mono HB1.out.size))
            · cases hq0 : q1 == 0
              · have hq1 : q1 ≠ 0 := by simpa using hq0
                have HST2 : Hid (CSt t (k + 1) (out ++ [q1])) := HYES.out _ (HLIT.out.trans (if_pos ⟨rfl, hq1⟩))
                clear hq1 HLIT HYES HNO
                go_wp2_with (first | (go_at_call 48; refine HNUM.out.mono ?_) | (at_builtin; refine Rg.wpList_app sliceI rfl (.tmp 55) (.tmp 57) rfl w1.heap.size _ out [q1] rfl (Rg.own_below HO.out ((Below.refl _ _).alloc (Nat.le_refl _) _)) _ _ rfl (Rg.news_new wr _ _ _ (by rfl)) (Nat.zero_lt_succ _) ?s1 ?b1 ?_))
                case s1 => rw [HST.out.2]; show _ + 1 ≤ _; omega
                case b1 => have := HB.out.2; simp; omega
                intro v5 W5 ho5 hg5 hz5
                have HB5 := app_done HB (Below.refl _ _) HO hg5
                have HO5 := Lib.hid ho5
                clear ho5 hg5 hz5 HO HB
                go_wp2_with fail
                go_roundw
                case rel => exact ⟨k + 1, out ++ [q1], by omega, by go_num, HST2.out, HO5.out, HB5.out⟩
                case measure => simp [intOf]; omega
              · have hq1 : q1 = 0 := by simpa using hq0
                have HNN : Hid (clauseP s = none) := HNO.out (HLIT.out.trans (if_neg (fun h => h.2 hq1)))
                clear hq1
                go_wp2_with (go_at_call 48; refine HNUM.out.mono ?_)
                go_ret2
                exact clRet_no HNN.out (HB1.out.trans (HB.out.1.mono HB1.out.size))
          · have HMN : Hid (minusB u = true) := by show _ = _; unfold minusB; rw [hg, hz]
            rw [hz] at a1
            have HQ0 := Lib.hid (numR_lt (u.drop 1))
            obtain ⟨⟨q1, q2⟩, hq⟩ : ∃ q, numR (u.drop 1) = q := ⟨_, rfl⟩
            rw [hq] at HQ0
            have HQ : Hid (0 ≤ q1 ∧ q1 < 1000000) := ⟨HQ0.out.1, HQ0.out.2.1⟩
            clear HQ0 hg hc1
            have HLIT : Hid (litP u = if q2 = true ∧ q1 ≠ 0 then some (-q1) else none) := by
              show _ = _
              rw [lit_of u, HMN.out]
              show (if (numR (u.drop 1)).2 = true ∧ (numR (u.drop 1)).1 ≠ 0 then some (-(numR (u.drop 1)).1) else none) = _
              rw [hq]
            have HNUM := Lib.hid (refNumber_any (u.drop 1) wr (by rw [List.length_drop]; have := HUL.out; omega))
            rw [hq] at HNUM
            obtain ⟨v, hv⟩ : ∃ v, u.drop 1 = v := ⟨_, rfl⟩
            have hx := extract_from u 1
            rw [hv] at hx HNUM
            have hw : IntKind.i64.wrap (0 - q1) = -q1 := by have := HQ.out; exact (IntWalk.i64_in _ (by omega)).trans (by omega)
            have hw2 : IntKind.i64.wrap (-q1) = -q1 := by have := HQ.out; exact IntWalk.i64_in _ (by omega)
            have hu1 : (1 : Int) ≤ (u.length : Int) := by omega
            clear hv
            clear hq
            cases q2
            · have HNN : Hid (clauseP s = none) := HNO.out (HLIT.out.trans (if_neg (fun h => absurd h.1 (by decide))))
              go_wp2_with (go_at_call 48; refine HNUM.out.mono ?_)
              go_ret2
              exact clRet_no HNN.out (HB1.out.trans (HB.out.1.mono HB1.out.size))
            · cases hq0 : q1 == 0
              · have hq1 : q1 ≠ 0 := by simpa using hq0
                have HST2 : Hid (CSt t (k + 1) (out ++ [(-q1)])) := HYES.out _ (HLIT.out.trans (if_pos ⟨rfl, hq1⟩))
                clear hq1 HLIT HYES HNO
                go_wp2_with (first | (go_at_call 48; refine HNUM.out.mono ?_) | (at_builtin; refine Rg.wpList_app sliceI rfl (.tmp 55) (.tmp 57) rfl w1.heap.size _ out [(-q1)] rfl (Rg.own_below HO.out ((Below.refl _ _).alloc (Nat.le_refl _) _)) _ _ rfl (Rg.news_new wr _ _ _ (by rfl)) (Nat.zero_lt_succ _) ?s1 ?b1 ?_))
                case s1 => rw [HST.out.2]; show _ + 1 ≤ _; omega
                case b1 => have := HB.out.2; simp; omega
                intro v5 W5 ho5 hg5 hz5
                have HB5 := app_done HB (Below.refl _ _) HO hg5
                have HO5 := Lib.hid ho5
                clear ho5 hg5 hz5 HO HB
                go_wp2_with fail
                go_roundw
                case rel => exact ⟨k + 1, out ++ [(-q1)], by omega, by go_num, HST2.out, HO5.out, HB5.out⟩
                case measure => simp [intOf]; omega
              · have hq1 : q1 = 0 := by simpa using hq0
                have HNN : Hid (clauseP s = none) := HNO.out (HLIT.out.trans (if_neg (fun h => h.2 hq1)))
                clear hq1
                go_wp2_with (go_at_call 48; refine HNUM.out.mono ?_)
                go_ret2
                exact clRet_no HNN.out (HB1.out.trans (HB.out.1.mono HB1.out.size))
      · have HYS : Hid (clauseP s = some out) := by
          have h := HST.out.1
          rw [show k = p by omega] at h
          exact HM.out.trans h
        have k2 : ¬ (k : Int) + 1 < (n : Int) := by have := HP.out; omega
        go_wp2_with fail
        go_ret2
        exact clRet_yes HYS.out (HB1.out.trans (HB.out.1.mono HB1.out.size)) (Rg.own_weak HB1.out.size HO.out) (by rw [HST.out.2]; omega)
end Go.Proofs.YtoioeekfnnoaoaaGreatDoor
