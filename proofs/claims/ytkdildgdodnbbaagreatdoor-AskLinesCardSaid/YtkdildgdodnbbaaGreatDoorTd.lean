/- The reader of terms, walked: brackets, ways, conditions. parse of an atom, walked. Parse of an atom, walked. -/
import Derived.Test.YtkdildgdodnbbaaGreatDoorTc
namespace Go.Proofs.YtkdildgdodnbbaaGreatDoor
open Go.RowKit Rs At

theorem row_newT (w : World) (T : TypeId) (l : List (List UInt8)) (cs : Array Value) (h : cs.toList = Rg.flat encT l) : Rg.Row encT 1 (w.alloc (.cells cs T)) (some ⟨w.heap.size, 0, none⟩) l := fun _ => by
  refine ⟨_, rfl, by simp, fun i hi j v hv => ?_⟩
  have hj : j < 1 := (List.getElem?_eq_some_iff.1 hv).1
  rw [← Rg.add_j]
  exact Rg.news_new w T l cs h _ _ ((Rg.flat_get fitsT l i hi j hj).trans hv)
theorem txt_at {w : World} {A : Option Addr} {l : List (List UInt8)} (h : Rg.Row encT 1 w A l) (k : Nat) (hk : k < l.length) : ∃ ad, A = some ad ∧ ad.block < w.heap.size ∧ w.cell? (ad.add k) = some (.string ⟨l[k].toArray⟩) := by
  obtain ⟨ad, x, e, hx, hlt, hc⟩ := Rg.row_at h k hk
  refine ⟨ad, e, hlt, ?_⟩
  have := hc 0 _ rfl
  rw [if_pos rfl, Nat.mul_one] at this
  rw [hx]
  exact this
theorem flatT (l : List (List UInt8)) : Rg.flat encT l = l.map fun t => Value.string ⟨t.toArray⟩ := by
  induction l with
  | nil => rfl
  | cons a l ih => show encT a ++ Rg.flat encT l = _; rw [ih]; rfl
theorem piece_le (sep : List UInt8) : ∀ (k : Nat) (s : List UInt8), ∀ p ∈ Lib.splitK sep 0 k s, p.length ≤ s.length
  | 0, s, p, hp => by
    unfold Lib.splitK at hp
    rw [List.mem_singleton.1 hp]; exact Nat.le_refl _
  | k + 1, s, p, hp => by
    unfold Lib.splitK at hp
    split at hp
    · rw [List.mem_singleton.1 hp]; exact Nat.le_refl _
    · rcases List.mem_cons.1 hp with e | hp
      · rw [e]; simp; omega
      · have := piece_le sep k _ p hp
        simp at this; omega
theorem split_any (s sep : List UInt8) (w : World) (hm : MaxOk w) (hl : s.length ≤ 900000) (h1 : 1 ≤ sep.length) :
    Calls Tryz.prog 84 #[.string ⟨s.toArray⟩, .string ⟨sep.toArray⟩] w fun e w' => ∃ A n c, e = .returned (.slice A n c) ∧ (Lib.split s sep).length = n ∧ n ≤ s.length + 1 ∧ Rg.Row encT 1 w' A (Lib.split s sep) ∧ Below w.heap.size w w' := by
  obtain ⟨m, hm⟩ := hm
  refine (Tryz.strings_Split ⟨s.toArray⟩ ⟨sep.toArray⟩ m w (by show s.length < _; omega) hm h1).mono ?_
  rintro e w' ⟨rfl, rfl⟩
  have hd : (Lib.splitB ⟨sep.toArray⟩ 0 (Lib.countB ⟨s.toArray⟩ ⟨sep.toArray⟩) ⟨s.toArray⟩).map (·.data.toList) = Lib.split s sep := Lib.splitB_data _ _ _ _
  have hn := Lib.splitB_all ⟨sep.toArray⟩ h1 0 (Lib.countB ⟨s.toArray⟩ ⟨sep.toArray⟩) ⟨s.toArray⟩ rfl
  have hc := Lib.countB_le ⟨sep.toArray⟩ h1 s.length ⟨s.toArray⟩ (Nat.le_refl _)
  refine ⟨_, _, _, rfl, by rw [← hd, List.length_map, hn], Nat.succ_le_succ hc, row_newT w _ _ _ ?_, (Below.refl _ _).alloc (Nat.le_refl _) _⟩
  rw [flatT, ← hd, List.map_map]
  rfl
/-! The brackets. -/
theorem body_pure (s : List UInt8) : bodyP s = if Lib.hasPrefix s [40] && Lib.hasSuffix (Lib.trimPrefix s [40]) [41] then some (Lib.trimSuffix (Lib.trimPrefix s [40]) [41]) else none := by
  cases s with
  | nil => rfl
  | cons b l =>
    by_cases hb : b = 40
    · subst hb
      have hp : Lib.hasPrefix (40 :: l) [40] = true := by simp [Lib.hasPrefix]
      have ht : Lib.trimPrefix (40 :: l) [40] = l := by unfold Lib.trimPrefix; rw [hp]; rfl
      rw [ht, hp, Bool.true_and]
      unfold bodyP Lib.trimSuffix Lib.hasSuffix
      rcases List.eq_nil_or_concat l with rfl | ⟨m, x, rfl⟩
      · rfl
      · rw [List.concat_eq_append]
        have hx : ([41] : List UInt8).isSuffixOf (m ++ [x]) = (x == 41) := by
          show List.isPrefixOf [41] (m ++ [x]).reverse = _
          rw [List.reverse_append]
          show ((41 == x) && true) = _
          rw [Bool.and_true, Bool.eq_iff_iff, beq_iff_eq, beq_iff_eq]
          exact eq_comm
        rw [hx]
        have hz : (40 :: (m ++ [x])).length = m.length + 2 := by simp
        have hg : (40 :: (m ++ [x])).getD (m.length + 1) 0 = x := by
          rw [List.getD_cons_succ, List.getD_eq_getElem?_getD, List.getElem?_append_right (Nat.le_refl _)]; simp
        have hz2 : (m ++ [x]).length - ([41] : List UInt8).length = m.length := by simp
        rw [hz, hz2, show m.length + 2 - 1 = m.length + 1 from rfl, hg]
        show (if 2 ≤ m.length + 2 ∧ (40 : UInt8) = 40 ∧ x = 41 then some (List.take (m.length + 2 - 2) (m ++ [x])) else none) = _
        by_cases e : x = 41
        · subst e; rw [if_pos ⟨by omega, rfl, rfl⟩]; rfl
        · rw [if_neg (fun h => e h.2.2), show (x == 41) = false from beq_eq_false_iff_ne.2 e]; rfl
    · have hp : Lib.hasPrefix (b :: l) [40] = false := by
        show ((40 == b) && List.isPrefixOf [] l) = false
        rw [show ((40 : UInt8) == b) = false from beq_eq_false_iff_ne.2 (Ne.symm hb)]; rfl
      rw [hp, Bool.false_and]
      unfold bodyP
      rw [if_neg (by rintro ⟨_, h, _⟩; exact hb h)]
      rfl
def UnR (R : Option (List UInt8)) (e : Ending) : Prop := match R with | some b => e = .returned (.string ⟨b.toArray⟩) | none => e = pan 2
set_option maxRecDepth 100000 in
set_option maxHeartbeats 1600000 in
theorem unwrap_any (s : List UInt8) (w : World) (hs : s.length ≤ 900000) :
    Calls Tryz.prog 128 #[.string ⟨s.toArray⟩] w fun e w' => UnR (bodyP s) e ∧ w' = w := by
  obtain ⟨R, hR⟩ : ∃ R, bodyP s = R := ⟨_, rfl⟩
  rw [hR]
  rw [body_pure] at hR
  have c1 := Tryz.strings_CutPrefix ⟨s.toArray⟩ ⟨#[40]⟩ w
  rw [show Lib.trimPrefix (⟨s.toArray⟩ : ByteArray).data.toList (⟨#[40]⟩ : ByteArray).data.toList = Lib.trimPrefix s [40] from rfl, show Lib.hasPrefix (⟨s.toArray⟩ : ByteArray).data.toList (⟨#[40]⟩ : ByteArray).data.toList = Lib.hasPrefix s [40] from rfl] at c1
  have hts : (Lib.trimPrefix s [40]).length ≤ s.length := by unfold Lib.trimPrefix; split <;> simp
  obtain ⟨t, ht⟩ : ∃ t, Lib.trimPrefix s [40] = t := ⟨_, rfl⟩
  obtain ⟨p, hp⟩ : ∃ p, Lib.hasPrefix s [40] = p := ⟨_, rfl⟩
  rw [ht, hp] at hR c1
  rw [ht] at hts
  have c2 := Tryz.strings_CutSuffix ⟨t.toArray⟩ ⟨#[41]⟩ w (by show t.length ≤ _; omega)
  rw [show Lib.trimSuffix (⟨t.toArray⟩ : ByteArray).data.toList (⟨#[41]⟩ : ByteArray).data.toList = Lib.trimSuffix t [41] from rfl, show Lib.hasSuffix (⟨t.toArray⟩ : ByteArray).data.toList (⟨#[41]⟩ : ByteArray).data.toList = Lib.hasSuffix t [41] from rfl] at c2
  obtain ⟨v, hv⟩ : ∃ t', Lib.trimSuffix t [41] = t' := ⟨_, rfl⟩
  obtain ⟨q, hq⟩ : ∃ p, Lib.hasSuffix t [41] = p := ⟨_, rfl⟩
  rw [hv, hq] at hR c2
  have HR := Lib.hid hR
  have C1 := Lib.hid c1
  have C2 := Lib.hid c2
  clear hR c1 c2 ht hp hv hq hts
  cases p
  · have HR2 : Hid (R = none) := by show _ = _; rw [← HR.out]; rfl
    go_enter Tryz.func128, Tryz.ntmps128
    go_wp2_with fail
    refine C1.out.mono ?_
    rintro e' u ⟨rfl, hw⟩; rw [hw]
    go_wp2_with fail
    refine C2.out.mono ?_
    rintro e' u ⟨rfl, hw⟩; rw [hw]
    go_wp2_with fail
    refine (require_no _).mono ?_
    rintro _ u2 ⟨rfl, rfl⟩
    go_wp2_with fail
    exact ⟨rfl, by show UnR R _; rw [HR2.out]; rfl, rfl⟩
  · cases q
    · have HR2 : Hid (R = none) := by show _ = _; rw [← HR.out]; rfl
      go_enter Tryz.func128, Tryz.ntmps128
      go_wp2_with fail
      refine C1.out.mono ?_
      rintro e' u ⟨rfl, hw⟩; rw [hw]
      go_wp2_with fail
      refine C2.out.mono ?_
      rintro e' u ⟨rfl, hw⟩; rw [hw]
      go_wp2_with fail
      refine (require_no _).mono ?_
      rintro _ u2 ⟨rfl, rfl⟩
      go_wp2_with fail
      exact ⟨rfl, by show UnR R _; rw [HR2.out]; rfl, rfl⟩
    · have HR2 : Hid (R = some v) := by show _ = _; rw [← HR.out]; rfl
      go_enter Tryz.func128, Tryz.ntmps128
      go_wp2_with fail
      refine C1.out.mono ?_
      rintro e' u ⟨rfl, hw⟩; rw [hw]
      go_wp2_with fail
      refine C2.out.mono ?_
      rintro e' u ⟨rfl, hw⟩; rw [hw]
      go_wp2_with fail
      refine (require_yes _).mono ?_
      rintro _ u2 ⟨rfl, rfl⟩
      go_wp2_with fail
      go_ret
      exact ⟨by show UnR R _; rw [HR2.out]; rfl, rfl⟩
theorem mapM_stop {α β γ : Type} {f : α → Option β} {p : α} {l : List α} {g : List β → γ} (h : f p = none) : ((p :: l).mapM f).map g = none := by
  rw [List.mapM_cons, h]; rfl
theorem mapM_step {α β : Type} {f : α → Option β} {p : α} {c : β} {l : List α} {acc : List β} (h : f p = some c) : ((p :: l).mapM f).map (acc ++ ·) = (l.mapM f).map ((acc ++ [c]) ++ ·) := by
  rw [List.mapM_cons, h]
  show ((l.mapM f).bind fun r => some (c :: r)).map _ = _
  cases l.mapM f with
  | none => rfl
  | some r => show some (acc ++ c :: r) = some (acc ++ [c] ++ r); simp
def AltRet (w : World) (R : Option (List Cond)) (e : Ending) (w' : World) : Prop := match R with | some l => CondsRet w l e w' | none => e = pan 2 ∧ Below w.heap.size w w'
set_option maxRecDepth 100000 in
set_option maxHeartbeats 1600000 in
theorem parseAlternative_any (s : List UInt8) (w : World) (hw : MaxOk w) (hs : s.length ≤ 900000) :
    Calls Tryz.prog 146 #[.string ⟨s.toArray⟩] w (AltRet w (altP s)) := by
  obtain ⟨R, hR⟩ : ∃ R, altP s = R := ⟨_, rfl⟩
  rw [hR]
  have hc := split_any s [32, 38, 32] w hw hs (by decide)
  have hpl : ∀ p ∈ Lib.split s [32, 38, 32], p.length ≤ s.length := piece_le _ _ _
  unfold altP at hR
  obtain ⟨ps, hps⟩ : ∃ ps, Lib.split s [32, 38, 32] = ps := ⟨_, rfl⟩
  rw [hps] at hR hc hpl
  have HR := Lib.hid hR
  have HC := Lib.hid hc
  have HP : Hid (∀ p ∈ ps, p.length ≤ 900000) := fun p hp => Nat.le_trans (hpl p hp) hs
  have HM := Lib.hid hw
  clear hR hc hpl hps hw
  go_enter Tryz.func146, Tryz.ntmps146
  go_wp2_with fail
  refine HC.out.mono ?_
  rintro _ z1 ⟨A, n, c, rfl, hn, hnl, hrow, hb1⟩
  have HN := Lib.hid hn
  have HNL : Hid (n ≤ 900001) := Nat.le_trans hnl (by omega)
  have HROW := Lib.hid hrow
  have HB1 := Lib.hid hb1
  clear hn hnl hrow hb1
  go_wp2_with fail
  go_loopw [3, 9] (fun v i wr => ∃ (k : Nat) (acc : List Cond), k ≤ n ∧ i = .int .i64 k ∧ Hid (DOwn wr z1.heap.size v acc) ∧ Hid (Below z1.heap.size z1 wr ∧ z1.heap.size ≤ wr.heap.size) ∧ Hid (acc.length = k) ∧ Hid (((ps.drop k).mapM condP).map (acc ++ ·) = R)) (fun _ i _ => n - (intOf i).toNat)
  case atStart => exact ⟨0, [], Nat.zero_le _, rfl, Rg.own_nil _ _ _, ⟨Below.refl _ _, Nat.le_refl _⟩, rfl, by show ((ps.drop 0).mapM condP).map _ = R; rw [List.drop_zero, HR.out]; cases R <;> rfl⟩
  case round =>
    obtain ⟨k, acc, hk, rfl, HO, HB, HA, HE⟩ := hrel
    have HMR : Hid (MaxOk wr) := maxOk_below (maxOk_below HM.out HB1.out) HB.out.1
    by_cases hlt : k < n
    · have HLT := Lib.hid hlt
      have hlr : k < ps.length := by rw [HN.out]; exact hlt
      have hkk : k ≤ 900001 := by have := HNL.out; omega
      obtain ⟨ad, rfl, _, c0⟩ := txt_at (Rg.row_below HROW.out HB.out.1) k hlr
      have hpp := HP.out _ (List.getElem_mem hlr)
      have he := HE.out
      rw [List.drop_eq_getElem_cons hlr] at he
      obtain ⟨p, hp⟩ : ∃ p, ps[k] = p := ⟨_, rfl⟩
      rw [hp] at hpp he c0
      have HSZ : Hid (acc.length + 1 ≤ 1000000) := by have := HA.out; have := HNL.out; show _ ≤ _; omega
      cases hcd : condP p with
      | none =>
        have HR2 : Hid (R = none) := by show _ = _; rw [← he]; exact mapM_stop hcd
        have HPC := Lib.hid (parseCondition_any p wr HMR.out (Nat.le_trans hpp (by decide)))
        have HCD := Lib.hid hcd
        clear he hp hpp hcd
        go_wp2_with fail
        refine HPC.out.mono ?_
        rintro e z2 ⟨he, hb⟩
        rw [HCD.out] at he
        obtain rfl : e = pan 2 := he
        have HBU : Hid (Below w.heap.size w z2) := HB1.out.trans ((HB.out.1.trans (hb.mono HB.out.2)).mono HB1.out.size)
        clear hb
        go_wp2_with fail
        exact ⟨rfl, by show AltRet w R _ _; rw [HR2.out]; exact ⟨rfl, HBU.out⟩⟩
      | some cd =>
        have HE2 := Lib.hid ((mapM_step (acc := acc) hcd).symm.trans he)
        have HPC := Lib.hid (parseCondition_any p wr HMR.out (Nat.le_trans hpp (by decide)))
        have HCD := Lib.hid hcd
        clear he hp hpp hcd
        go_wp2_with fail
        refine HPC.out.mono ?_
        rintro e z2 ⟨he, hb⟩
        rw [HCD.out] at he
        obtain rfl : e = .returned (.agg #[.string ⟨cd.1.toArray⟩, .string ⟨cd.2.toArray⟩]) := he
        have HBU := Lib.hid hb
        clear hb c0
        go_wp2_with (at_builtin; refine Rg.wpList_app sliceD rfl (.tmp 13) (.tmp 16) rfl z1.heap.size _ acc [cd] rfl (Rg.own_below HO.out (HBU.out.alloc HBU.out.size _)) _ _ rfl (newsD z2 cd _) (Nat.zero_lt_succ _) HSZ.out ?b2 ?_)
        case b2 => have := HB.out.2; have := HBU.out.size; simp; omega
        intro v5 W5 ho5 hg5 hz5
        have HB5 := app_done4 HB HBU.out HO hg5
        have HO5 : Hid (DOwn W5 z1.heap.size v5 (acc ++ [cd])) := ho5
        clear ho5 hg5 hz5 HO HB HBU
        go_wp2_with fail
        go_roundw
        case rel => exact ⟨k + 1, acc ++ [cd], (by have := HLT.out; omega), by go_num, HO5, HB5, by show (acc ++ [cd]).length = _; rw [List.length_append, HA.out]; rfl, HE2⟩
        case measure => have := HLT.out; simp [intOf]; omega
    · obtain rfl : k = n := by omega
      have HR2 : Hid (R = some acc) := by show _ = _; rw [← HE.out, List.drop_eq_nil_of_le (by rw [HN.out]; exact Nat.le_refl _)]; show some (acc ++ []) = _; rw [List.append_nil]
      obtain ⟨C, d, rfl, hrw, hf⟩ := drow_own HO.out
      have HRW := Lib.hid hrw
      have HF := Lib.hid hf
      clear hrw hf
      go_wp2_with fail
      go_ret
      show AltRet w R _ _
      rw [HR2.out]
      exact ⟨C, _, d, rfl, rfl, HRW.out, fun a ha => Nat.le_trans HB1.out.size (HF.out a ha), HB1.out.trans (HB.out.1.mono HB1.out.size)⟩
def TermR (w : World) (R : Option (List (List Cond))) (e : Ending) (w' : World) : Prop := match R with | some t => TermRet w t e w' | none => e = pan 2 ∧ Below w.heap.size w w'
set_option maxRecDepth 100000 in
set_option maxHeartbeats 1600000 in
theorem parseTerm_any (s : List UInt8) (w : World) (hw : MaxOk w) (hs : s.length ≤ 900000) :
    Calls Tryz.prog 127 #[.string ⟨s.toArray⟩] w (TermR w (termP s)) := by
  obtain ⟨R, hR⟩ : ∃ R, termP s = R := ⟨_, rfl⟩
  rw [hR]
  unfold termP at hR
  by_cases hno : s = noneT
  · rw [if_pos hno] at hR
    have HR2 : Hid (R = some []) := hR.symm
    subst hno
    clear hR
    go_enter Tryz.func127, Tryz.ntmps127
    go_wp2_with fail
    go_ret
    show TermR w R _ _
    rw [HR2.out]
    exact ⟨none, 0, 0, rfl, rfl, ⟨[], fun h => absurd h (by decide), rfl, fun i d l h => by simp at h⟩, Below.refl _ _⟩
  rw [if_neg hno] at hR
  have hnb : (s == [110, 111, 110, 101]) = false := beq_eq_false_iff_ne.2 hno
  have hc := split_any s [32, 124, 32] w hw hs (by decide)
  have hpl : ∀ p ∈ Lib.split s [32, 124, 32], p.length ≤ s.length := piece_le _ _ _
  obtain ⟨ps, hps⟩ : ∃ ps, Lib.split s [32, 124, 32] = ps := ⟨_, rfl⟩
  rw [hps] at hR hc hpl
  have HR := Lib.hid hR
  have HC := Lib.hid hc
  have HP : Hid (∀ p ∈ ps, p.length ≤ 900000) := fun p hp => Nat.le_trans (hpl p hp) hs
  have HM := Lib.hid hw
  clear hR hc hpl hps hw hno
  go_enter Tryz.func127, Tryz.ntmps127
  go_wp2_with fail
  refine HC.out.mono ?_
  rintro _ z1 ⟨A, n, c, rfl, hn, hnl, hrow, hb1⟩
  have HN := Lib.hid hn
  have HNL : Hid (n ≤ 900001) := Nat.le_trans hnl (by omega)
  have HROW := Lib.hid hrow
  have HB1 := Lib.hid hb1
  clear hn hnl hrow hb1
  go_wp2_with fail
  go_loopw [3, 12] (fun v i wr => ∃ (k : Nat) (acc : List (List Cond)), k ≤ n ∧ i = .int .i64 k ∧ Hid (TOwn wr z1.heap.size v acc) ∧ Hid (Below z1.heap.size z1 wr ∧ z1.heap.size ≤ wr.heap.size) ∧ Hid (acc.length = k) ∧ Hid (((ps.drop k).mapM altP).map (acc ++ ·) = R)) (fun _ i _ => n - (intOf i).toNat)
  case atStart => exact ⟨0, [], Nat.zero_le _, rfl, tOwn_nil _ _, ⟨Below.refl _ _, Nat.le_refl _⟩, rfl, by show ((ps.drop 0).mapM altP).map _ = R; rw [List.drop_zero, HR.out]; cases R <;> rfl⟩
  case round =>
    obtain ⟨k, acc, hk, rfl, HO, HB, HA, HE⟩ := hrel
    have HMR : Hid (MaxOk wr) := maxOk_below (maxOk_below HM.out HB1.out) HB.out.1
    by_cases hlt : k < n
    · have HLT := Lib.hid hlt
      have hlr : k < ps.length := by rw [HN.out]; exact hlt
      have hkk : k ≤ 900001 := by have := HNL.out; omega
      obtain ⟨ad, rfl, _, c0⟩ := txt_at (Rg.row_below HROW.out HB.out.1) k hlr
      have hpp := HP.out _ (List.getElem_mem hlr)
      have he := HE.out
      rw [List.drop_eq_getElem_cons hlr] at he
      obtain ⟨p, hp⟩ : ∃ p, ps[k] = p := ⟨_, rfl⟩
      rw [hp] at hpp he c0
      have HSZ : Hid (acc.length + 1 ≤ 1000000) := by have := HA.out; have := HNL.out; show _ ≤ _; omega
      cases hcd : altP p with
      | none =>
        have HR2 : Hid (R = none) := by show _ = _; rw [← he]; exact mapM_stop hcd
        have HPC := Lib.hid (parseAlternative_any p wr HMR.out hpp)
        have HCD := Lib.hid hcd
        clear he hp hpp hcd
        go_wp2_with fail
        refine HPC.out.mono ?_
        rintro e z2 hh
        rw [HCD.out] at hh
        obtain ⟨he, hb⟩ : e = pan 2 ∧ Below wr.heap.size wr z2 := hh
        subst he
        have HBU : Hid (Below w.heap.size w z2) := HB1.out.trans ((HB.out.1.trans (hb.mono HB.out.2)).mono HB1.out.size)
        clear hb
        go_wp2_with fail
        exact ⟨rfl, by show TermR w R _ _; rw [HR2.out]; exact ⟨rfl, HBU.out⟩⟩
      | some al =>
        have HE2 := Lib.hid ((mapM_step (acc := acc) hcd).symm.trans he)
        have HPC := Lib.hid (parseAlternative_any p wr HMR.out hpp)
        have HCD := Lib.hid hcd
        clear he hp hpp hcd
        go_wp2_with fail
        refine HPC.out.mono ?_
        rintro e z2 hh
        rw [HCD.out] at hh
        obtain ⟨C, m, d, rfl, hm, hrow, hf, hb⟩ : CondsRet wr al e z2 := hh
        have HM1 := Lib.hid hm
        have HROW1 := Lib.hid hrow
        have HBU := Lib.hid hb
        have HF : Hid (∀ a, C = some a → wr.heap.size ≤ a.block) := hf
        clear hm hrow hf hb c0
        go_wp2_with (at_builtin; refine wpList_tapp rfl (.tmp 16) (.tmp 19) rfl z1.heap.size _ acc al C m d rfl rfl (tOwn_below HO.out HBU.out) HM1.out HROW1.out (tfresh HO.out (Nat.le_refl _) HF.out _) HSZ.out (Nat.le_trans HB.out.2 HBU.out.size) ?_)
        intro v5 W5 hT5 hb5 hz5
        have HO5 := Lib.hid hT5
        have HB5 : Hid (Below z1.heap.size z1 W5 ∧ z1.heap.size ≤ W5.heap.size) := ⟨(HB.out.1.trans (HBU.out.mono HB.out.2)).trans hb5, Nat.le_trans (Nat.le_trans HB.out.2 HBU.out.size) hz5⟩
        clear hT5 hb5 hz5 HO HB HBU HROW1 HF
        go_wp2_with fail
        go_roundw
        case rel => exact ⟨k + 1, acc ++ [al], (by have := HLT.out; omega), by go_num, HO5, HB5, by show (acc ++ [al]).length = _; rw [List.length_append, HA.out]; rfl, HE2⟩
        case measure => have := HLT.out; simp [intOf]; omega
    · obtain rfl : k = n := by omega
      have HR2 : Hid (R = some acc) := by show _ = _; rw [← HE.out, List.drop_eq_nil_of_le (by rw [HN.out]; exact Nat.le_refl _)]; show some (acc ++ []) = _; rw [List.append_nil]
      obtain ⟨C, d, rfl, hrw⟩ := trow_own HO.out
      have HRW := Lib.hid hrw
      clear hrw
      go_wp2_with fail
      go_ret
      show TermR w R _ _
      rw [HR2.out]
      exact ⟨C, _, d, rfl, rfl, HRW.out, HB1.out.trans (HB.out.1.mono HB1.out.size)⟩
end Go.Proofs.YtkdildgdodnbbaaGreatDoor
namespace Go.Proofs.YtkdildgdodnbbaaGreatDoor
open Go.RowKit Rs At

def parseT (s : List UInt8) : Option (List (List Cond)) := if wordB (Vm.fst 32 s) then (if Vm.has 32 s then (bodyP (Vm.snd 32 s)).bind termP else some [[]]) else none
theorem parseA_eq (s : List UInt8) : parseA s = match parseT s with | none => (2, zeroA) | some t => readA (Vm.fst 32 s) t := by
  unfold parseA parseT
  cases wordB (Vm.fst 32 s)
  · rfl
  · simp only [if_true]
    cases h : Vm.has 32 s
    · have := (At.fst_none (c := 32) (p := s) (fun hm => by unfold Vm.has at h; rw [List.contains_iff_mem.2 hm] at h; cases h)).1
      rw [this]; rfl
    · simp only [if_true]
      cases (bodyP (Vm.snd 32 s)).bind termP <;> rfl
theorem body_le {s v : List UInt8} (h : bodyP s = some v) : v.length ≤ s.length := by
  unfold bodyP at h
  split at h
  · cases h; simp; omega
  · cases h
def PR (w : World) (name : List UInt8) (R : Option (List (List Cond))) (e : Ending) (w' : World) : Prop :=
  match R with
  | some t => ∃ C n c, e = .returned (.tuple #[.string ⟨name.toArray⟩, .slice C n c]) ∧ t.length = n ∧ TRow w' C t ∧ Below w.heap.size w w'
  | none => e = pan 2 ∧ Below w.heap.size w w'
set_option maxRecDepth 100000 in
set_option maxHeartbeats 1600000 in
theorem atomParseIn_any (s : List UInt8) (w : World) (hw : MaxOk w) (hs : s.length ≤ 900000) :
    Calls Tryz.prog 106 #[.string ⟨s.toArray⟩] w (PR w (Vm.fst 32 s) (parseT s)) := by
  obtain ⟨R, hR⟩ : ∃ R, parseT s = R := ⟨_, rfl⟩
  rw [hR]
  have hcut := cut_all 32 s w hw (by omega)
  have hsl : (Vm.snd 32 s).length ≤ 900000 := by unfold Vm.snd; rw [List.length_drop]; have := (List.dropWhile_sublist (· != (32 : UInt8)) (l := s)).length_le; omega
  have hfl : (Vm.fst 32 s).length ≤ 1000000 := by unfold Vm.fst; have := (List.takeWhile_sublist (· != (32 : UInt8)) (l := s)).length_le; omega
  unfold parseT at hR
  obtain ⟨x, hx⟩ : ∃ x, Vm.fst 32 s = x := ⟨_, rfl⟩
  obtain ⟨y, hy⟩ : ∃ x, Vm.snd 32 s = x := ⟨_, rfl⟩
  obtain ⟨b, hb⟩ : ∃ b, Vm.has 32 s = b := ⟨_, rfl⟩
  obtain ⟨y2, hy2⟩ : ∃ q, (if b then y else []) = q := ⟨_, rfl⟩
  rw [hx, hy, hb, hy2] at hcut
  rw [hx, hy, hb] at hR
  have HY2 : Hid (b = true → y2 = y) := fun h => by rw [← hy2, h]; rfl
  rw [hx] at hfl ⊢
  rw [hy] at hsl
  have HR := Lib.hid hR
  have HC := Lib.hid hcut
  have HM := Lib.hid hw
  have HY := Lib.hid hsl
  have HX := Lib.hid hfl
  clear hR hcut hw hsl hfl hx hy hb hs hy2
  go_enter Tryz.func106, Tryz.ntmps106
  go_wp2_with fail
  refine HC.out.mono ?_
  rintro _ z1 ⟨rfl, hb1⟩
  have HB1 := Lib.hid hb1
  have HM1 : Hid (MaxOk z1) := maxOk_below HM.out hb1
  clear hb1
  go_wp2_with fail
  cases hwd : wordB x
  · have HR2 : Hid (R = none) := by show _ = _; rw [← HR.out, hwd]; rfl
    refine (word_no x _ HX.out hwd).mono ?_
    clear hwd
    rintro _ z2 ⟨rfl, hb2⟩
    go_wp2_with fail
    exact ⟨rfl, by show PR w x R _ _; rw [HR2.out]; exact ⟨rfl, HB1.out.trans (hb2.mono HB1.out.size)⟩⟩
  · refine (word_yes x _ HX.out hwd).mono ?_
    have HR2 : Hid (R = if b then (bodyP y).bind termP else some [[]]) := by show _ = _; rw [← HR.out, hwd]; rfl
    clear hwd
    rintro _ z2 ⟨rfl, hb2⟩
    have HB2 : Hid (Below w.heap.size w z2) := HB1.out.trans (hb2.mono HB1.out.size)
    have HM2 : Hid (MaxOk z2) := maxOk_below HM1.out hb2
    clear hb2
    cases b
    · have HR3 : Hid (R = some [[]]) := HR2.out
      go_wp2_with fail
      refine (all_any z2).mono ?_
      rintro _ z3 ⟨⟨C, d, rfl, hr, _, _⟩, hb3⟩
      have HRR := Lib.hid hr
      have HB3 : Hid (Below w.heap.size w z3) := HB2.out.trans (hb3.mono HB2.out.size)
      clear hr hb3
      go_wp2_with fail
      refine (termOf_any C _ d (allR.map spOf) _ rfl HRR.out (by decide)).mono ?_
      rintro _ z4 ⟨C4, n4, d4, rfl, hn, hr, hb4⟩
      have HN := Lib.hid hn
      have HRT := Lib.hid hr
      have HB4 : Hid (Below w.heap.size w z4) := HB3.out.trans (hb4.mono HB3.out.size)
      clear hn hr hb4
      go_wp2_with fail
      go_ret2
      show PR w x R _ _
      rw [HR3.out]
      exact ⟨C4, n4, d4, rfl, HN.out, HRT.out, HB4.out⟩
    · have HR3 : Hid (R = (bodyP y).bind termP) := HR2.out
      obtain rfl : y = y2 := (HY2.out rfl).symm
      have HUN := Lib.hid (unwrap_any y z2 HY.out)
      go_wp2_with fail
      refine HUN.out.mono ?_
      rintro e z3 ⟨he, hw3⟩
      rw [hw3]
      cases hbd : bodyP y with
      | none =>
        have HR4 : Hid (R = none) := by show _ = _; rw [HR3.out, hbd]; rfl
        rw [hbd] at he
        obtain rfl : e = pan 2 := he
        clear hbd hw3
        go_wp2_with fail
        exact ⟨rfl, by show PR w x R _ _; rw [HR4.out]; exact ⟨rfl, HB2.out⟩⟩
      | some v =>
        have HR4 : Hid (R = termP v) := by show _ = _; rw [HR3.out, hbd]; rfl
        rw [hbd] at he
        obtain rfl : e = .returned (.string ⟨v.toArray⟩) := he
        have HV : Hid (v.length ≤ 900000) := Nat.le_trans (body_le hbd) HY.out
        clear hbd hw3
        go_wp2_with fail
        have HPT := Lib.hid (parseTerm_any v z2 HM2.out HV.out)
        refine HPT.out.mono ?_
        rintro e z4 hh
        cases htp : termP v with
        | none =>
          rw [htp] at hh
          obtain ⟨he, hb4⟩ : e = pan 2 ∧ Below z2.heap.size z2 z4 := hh
          subst he
          have HR5 : Hid (R = none) := HR4.out.trans htp
          clear htp
          go_wp2_with fail
          exact ⟨rfl, by show PR w x R _ _; rw [HR5.out]; exact ⟨rfl, HB2.out.trans (hb4.mono HB2.out.size)⟩⟩
        | some t =>
          rw [htp] at hh
          obtain ⟨C, n, c, he, hn, hr, hb4⟩ : TermRet z2 t e z4 := hh
          subst he
          have HR5 : Hid (R = some t) := HR4.out.trans htp
          have HRT := Lib.hid hr
          have HN := Lib.hid hn
          clear htp hr hn
          go_wp2_with fail
          go_ret2
          show PR w x R _ _
          rw [HR5.out]
          exact ⟨C, n, c, rfl, HN.out, HRT.out, HB2.out.trans (hb4.mono HB2.out.size)⟩
end Go.Proofs.YtkdildgdodnbbaaGreatDoor
namespace Go.Proofs.YtkdildgdodnbbaaGreatDoor
open Go.RowKit Rs At

theorem split_len (s sep : List UInt8) (h1 : 1 ≤ sep.length) : (Lib.split s sep).length ≤ s.length + 1 := by
  have hd : (Lib.splitB ⟨sep.toArray⟩ 0 (Lib.countB ⟨s.toArray⟩ ⟨sep.toArray⟩) ⟨s.toArray⟩).map (·.data.toList) = Lib.split s sep := Lib.splitB_data _ _ _ _
  have hn := Lib.splitB_all ⟨sep.toArray⟩ h1 0 (Lib.countB ⟨s.toArray⟩ ⟨sep.toArray⟩) ⟨s.toArray⟩ rfl
  have hc := Lib.countB_le ⟨sep.toArray⟩ h1 s.length ⟨s.toArray⟩ (Nat.le_refl _)
  rw [← hd, List.length_map, hn]; exact Nat.succ_le_succ hc
theorem mapM_all {α β : Type} {f : α → Option β} : ∀ {l : List α} {r : List β}, l.mapM f = some r → r.length = l.length ∧ ∀ b ∈ r, ∃ a ∈ l, f a = some b
  | [], r, h => by cases h; exact ⟨rfl, fun b hb => by simp at hb⟩
  | a :: l, r, h => by
    rw [List.mapM_cons] at h
    cases hf : f a with
    | none => rw [hf] at h; cases h
    | some b =>
      rw [hf] at h
      cases hl : l.mapM f with
      | none => rw [hl] at h; cases h
      | some r' =>
        rw [hl] at h
        cases h
        obtain ⟨h1, h2⟩ := mapM_all hl
        refine ⟨by simp [h1], fun x hx => ?_⟩
        rcases List.mem_cons.1 hx with rfl | hx
        · exact ⟨a, by simp, hf⟩
        · obtain ⟨y, hy, hyf⟩ := h2 x hx
          exact ⟨y, by simp [hy], hyf⟩
theorem termP_le {s : List UInt8} {t : List (List Cond)} (h : termP s = some t) : t.length ≤ s.length + 1 ∧ ∀ l ∈ t, l.length ≤ s.length + 1 := by
  unfold termP at h
  split at h
  · cases h; exact ⟨by simp, fun l hl => by simp at hl⟩
  · obtain ⟨h1, h2⟩ := mapM_all h
    refine ⟨by rw [h1]; exact split_len s _ (by decide), fun l hl => ?_⟩
    obtain ⟨p, hp, hpl⟩ := h2 l hl
    have hps := piece_le _ _ _ p hp
    obtain ⟨h3, _⟩ := mapM_all (show (Lib.split p [32, 38, 32]).mapM condP = some l from hpl)
    have := split_len p [32, 38, 32] (by decide)
    omega
theorem body_le2 {s v : List UInt8} (h : bodyP s = some v) : v.length + 2 ≤ s.length := by
  unfold bodyP at h
  split at h
  · cases h; simp; omega
  · cases h
theorem parseT_le {s : List UInt8} {t : List (List Cond)} (hs : s.length ≤ 4000) (h : parseT s = some t) : t.length ≤ 3999 ∧ ∀ l ∈ t, l.length ≤ 3999 := by
  unfold parseT at h
  split at h
  · split at h
    · cases hb : bodyP (Vm.snd 32 s) with
      | none => rw [hb] at h; cases h
      | some v =>
        rw [hb] at h
        have h1 := termP_le (show termP v = some t from h)
        have h2 := body_le2 hb
        have h3 : (Vm.snd 32 s).length ≤ s.length := by unfold Vm.snd; rw [List.length_drop]; have := (List.dropWhile_sublist (· != (32 : UInt8)) (l := s)).length_le; omega
        exact ⟨by omega, fun l hl => by have := h1.2 l hl; omega⟩
    · cases h; exact ⟨by simp, fun l hl => by simp at hl; rw [hl]; simp⟩
  · cases h
theorem vers_leM (m : Nat) : ∀ (t : List (List Cond)), (∀ l ∈ t, l.length ≤ m) → vers t ≤ t.length * m
  | [], _ => by simp [vers]
  | a :: t, h => by
    have h1 := h a (by simp)
    have h2 := vers_leM m t (fun l hl => h l (by simp [hl]))
    have e : vers (a :: t) = a.length + vers t := by simp [vers]
    rw [e, List.length_cons, Nat.succ_mul]; omega
/-- The results' cells. -/
def PC (b : Nat) (u : World) : Prop := u.cell? ⟨b, 0, none⟩ = some (.string ⟨#[]⟩) ∧ u.cell? ⟨b, 1, none⟩ = some (.slice none 0 0) ∧ u.frozen? ⟨b, 0, none⟩ = false ∧ u.frozen? ⟨b, 1, none⟩ = false ∧ u.cell? ⟨b + 1, 0, none⟩ = some (.int .i64 0) ∧ u.frozen? ⟨b + 1, 0, none⟩ = false
theorem pc_of {w W1 W2 u : World} (h1 : w.alloc (.cells #[.string ⟨#[]⟩, .slice none 0 0] 32) = W1) (h2 : W1.alloc (.cells #[.int .i64 0] 27) = W2) (hb : Below W2.heap.size W2 u) : PC w.heap.size u := by
  have hs1 : W1.heap.size = w.heap.size + 1 := by rw [← h1]; simp
  have hs2 : W2.heap.size = w.heap.size + 2 := by rw [← h2]; simp [hs1]
  have hb2 : Below (W1.heap.size + 1) (W1.alloc (.cells #[.int .i64 0] 27)) u := by rw [h2]; rw [hs1]; rw [hs2] at hb; exact hb
  have hb1 : Below W1.heap.size W1 u := below_new hb2
  obtain ⟨q0, q1, z0, z1⟩ := cell_two h1 hb1
  obtain ⟨c, f⟩ := cell_int W1 u _ _ hb2
  rw [hs1] at c f
  exact ⟨q0, q1, z0, z1, c, f⟩
theorem row_apart {u : World} {b : Nat} {A : Option Addr} {l : List Sp} (h : SRow u A l) (hn : ∀ j, 2 ≤ j → u.cell? ⟨b, j, none⟩ = none) : 0 < l.length → ∀ a, A = some a → a.block ≠ b := fun h0 a ha hb => by
  obtain ⟨a', e, _, hc⟩ := h h0
  rw [ha] at e; cases e
  obtain ⟨_, _, _, c3⟩ := hc 0 h0
  have e3 : (a.add (0 * 4)).add 3 = ⟨b, a.off + 3, none⟩ := by subst hb; simp [Addr.add]
  rw [e3, hn _ (by omega)] at c3
  cases c3
theorem srow_far {w : World} {A : Option Addr} {l : List Sp} {p : Addr} {v : Value} (h : SRow w A l) (hne : 0 < l.length → ∀ a, A = some a → a.block ≠ p.block) : SRow (w.setCell p v) A l := fun h0 => by
  obtain ⟨a, e, hl, hc⟩ := h h0
  have hb := hne h0 a e
  refine ⟨a, e, by simpa [World.setCell] using hl, fun i hi => ?_⟩
  obtain ⟨c0, c1, c2, c3⟩ := hc i hi
  refine ⟨?_, ?_, ?_, ?_⟩
  · rw [World.cell?_setCell_far _ _ _ _ (by rw [add_block, add_block]; exact Ne.symm hb)]; exact c0
  · rw [World.cell?_setCell_far _ _ _ _ (by rw [add_block, add_block]; exact Ne.symm hb)]; exact c1
  · rw [World.cell?_setCell_far _ _ _ _ (by rw [add_block, add_block]; exact Ne.symm hb)]; exact c2
  · rw [World.cell?_setCell_far _ _ _ _ (by rw [add_block, add_block]; exact Ne.symm hb)]; exact c3
theorem pn_of {w W1 W2 u : World} (h1 : w.alloc (.cells #[.string ⟨#[]⟩, .slice none 0 0] 32) = W1) (h2 : W1.alloc (.cells #[.int .i64 0] 27) = W2) (hb : Below W2.heap.size W2 u) :
    (∀ j, 2 ≤ j → u.cell? ⟨w.heap.size, j, none⟩ = none) ∧ (∀ j, 2 ≤ j → u.cell? ⟨w.heap.size + 1, j, none⟩ = none) := by
  have hs1 : W1.heap.size = w.heap.size + 1 := by rw [← h1]; simp
  have hs2 : W2.heap.size = w.heap.size + 2 := by rw [← h2]; simp [hs1]
  have hb2 : Below (W1.heap.size + 1) (W1.alloc (.cells #[.int .i64 0] 27)) u := by rw [h2]; rw [hs1]; rw [hs2] at hb; exact hb
  have hb1 : Below W1.heap.size W1 u := below_new hb2
  have e1 : u.heap[w.heap.size]? = some (.cells #[.string ⟨#[]⟩, .slice none 0 0] 32 (0, 0)) := (hb1.block _ (by omega)).trans (by rw [← h1]; exact heap_alloc_new w _)
  have e2 : u.heap[W1.heap.size]? = some (.cells #[.int .i64 0] 27 (0, 0)) := (hb2.block _ (Nat.lt_succ_self _)).trans (heap_alloc_new W1 _)
  rw [hs1] at e2
  refine ⟨fun j hj => ?_, fun j hj => ?_⟩
  · simp [World.cell?, e1]; omega
  · simp [World.cell?, e2]; omega
def ParseRet (w : World) (x : Int × Atm) (e : Ending) (w' : World) : Prop := ∃ C m d, e = .returned (.tuple #[.agg #[.string ⟨x.2.name.toArray⟩, .slice C m d], .int .i64 x.1]) ∧ x.2.rng.length = m ∧ SRow w' C x.2.rng ∧ Below w.heap.size w w'
theorem pret_bad {w u : World} {k : Int} {X : Int × Atm} (hX : X = (k, zeroA)) (hb : Below w.heap.size w u) : ParseRet w X (.returned (.tuple #[.agg #[.string ⟨#[]⟩, .slice none 0 0], .int .i64 k])) (u.setCell ⟨w.heap.size + 1, 0, none⟩ (.int .i64 k)) := by
  subst hX
  exact ⟨none, 0, 0, rfl, rfl, fun h => absurd h (Nat.lt_irrefl 0), hb.setCell (Nat.le_succ _) _⟩
set_option maxRecDepth 100000 in
set_option maxHeartbeats 3200000 in
theorem atomParse_any (s : List UInt8) (w : World) (hw : MaxOk w) (hs : s.length ≤ 4000) :
    Calls Tryz.prog 87 #[.string ⟨s.toArray⟩] w (ParseRet w (parseA s)) := by
  have hmf : ∀ (fn : Fn) (first cap : Array Value) (w : World), (Instr.makeFunc fn first cap).run Tryz.prog w = .ok (.func fn first cap) w := fun _ _ _ _ => rfl
  obtain ⟨X, hX⟩ : ∃ X, parseA s = X := ⟨_, rfl⟩
  rw [hX]
  rw [parseA_eq] at hX
  obtain ⟨W1, hW1⟩ : ∃ W, w.alloc (.cells #[.string ⟨#[]⟩, .slice none 0 0] 32) = W := ⟨_, rfl⟩
  obtain ⟨W2, hW2⟩ : ∃ W, W1.alloc (.cells #[.int .i64 0] 27) = W := ⟨_, rfl⟩
  have HPC : Hid (∀ u, Below W2.heap.size W2 u → PC w.heap.size u) := fun u hb => pc_of hW1 hW2 hb
  have HPN : Hid (∀ u, Below W2.heap.size W2 u → (∀ j, 2 ≤ j → u.cell? ⟨w.heap.size, j, none⟩ = none) ∧ (∀ j, 2 ≤ j → u.cell? ⟨w.heap.size + 1, j, none⟩ = none)) := fun u hb => pn_of hW1 hW2 hb
  have hs1 : W1.heap.size = w.heap.size + 1 := by rw [← hW1]; simp
  have HBW : Hid (Below w.heap.size w W2) := (alloc_low hW1).trans ((alloc_low hW2).mono (alloc_low hW1).size)
  have HM2 : Hid (MaxOk W2) := maxOk_below hw HBW.out
  have HSZ : Hid (w.heap.size + 2 ≤ W2.heap.size) := by show _ ≤ _; rw [← hW2, ← hW1]; simp
  have HMW := Lib.hid hw
  obtain ⟨nm, hnm⟩ : ∃ x, Vm.fst 32 s = x := ⟨_, rfl⟩
  have hnl : nm.length ≤ 4000 := by rw [← hnm]; unfold Vm.fst; have := (List.takeWhile_sublist (· != (32 : UInt8)) (l := s)).length_le; omega
  have hpa := atomParseIn_any s W2 HM2.out (by omega)
  obtain ⟨T, hT⟩ : ∃ T, parseT s = T := ⟨_, rfl⟩
  have HTL : Hid (∀ t, T = some t → t.length ≤ 3999 ∧ ∀ l ∈ t, l.length ≤ 3999) := fun t h => parseT_le hs (hT.trans h)
  rw [hnm, hT] at hX hpa
  have HX := Lib.hid hX
  have HPA := Lib.hid hpa
  have HNL := Lib.hid hnl
  clear hX hpa hT hnm hnl hs hw
  go_enter_defers Tryz.func87, Tryz.ntmps87
  go_wp2_with fail
  clear hW1 hW2
  refine HPA.out.mono ?_
  rintro e z1 hh
  cases T with
  | none =>
    obtain ⟨he, hb⟩ : e = pan 2 ∧ Below W2.heap.size W2 z1 := hh
    subst he
    have HX2 : Hid (X = (2, zeroA)) := HX.out.symm
    have HB := Lib.hid hb
    obtain ⟨q0, q1, _, _, hcell, hfro⟩ := HPC.out z1 hb
    clear hb
    go_wp2_with fail
    refine leaves_cons (f := 105) (args := #[.pointer (some ⟨w.heap.size + 1, 0, none⟩)]) (by simp) (by simp [go_sem]) ?_
    refine (aParse_panic ⟨w.heap.size + 1, 0, none⟩ 0 _ _ ?_ ?_).mono ?_
    · simp [go_sem, hcell]
    · simp [go_sem, hfro]
    rintro e u' w3 ⟨rfl, rfl, rfl⟩
    have hq0 : (z1.setCell ⟨w.heap.size + 1, 0, none⟩ (.int .i64 2)).cell? ⟨w.heap.size, 0, none⟩ = some (.string ⟨#[]⟩) := by rw [World.cell?_setCell_far _ _ _ _ (by show w.heap.size + 1 ≠ w.heap.size; omega)]; exact q0
    have hq1 : (z1.setCell ⟨w.heap.size + 1, 0, none⟩ (.int .i64 2)).cell? ⟨w.heap.size, 1, none⟩ = some (.slice none 0 0) := by rw [World.cell?_setCell_far _ _ _ _ (by show w.heap.size + 1 ≠ w.heap.size; omega)]; exact q1
    simp [Leaves, settle, results, Tryz.results87, go_sem, hcell, hq0, hq1]
    exact pret_bad HX2.out (HBW.out.trans (HB.out.mono HBW.out.size))
  | some t =>
    obtain ⟨C, n, c, he, hn, hr, hb⟩ : ∃ C n c, e = .returned (.tuple #[.string ⟨nm.toArray⟩, .slice C n c]) ∧ t.length = n ∧ TRow z1 C t ∧ Below W2.heap.size W2 z1 := hh
    subst he
    have HX2 : Hid (X = readA nm t) := HX.out.symm
    have HB := Lib.hid hb
    have HN := Lib.hid hn
    have HRT := Lib.hid hr
    obtain ⟨ht1, ht2⟩ := HTL.out t rfl
    have HT1 : Hid (n ≤ 3999) := by rw [← hn]; exact ht1
    have HT2 := Lib.hid ht2
    have HVL : Hid (vers t ≤ 100000000) := Nat.le_trans (vers_leM 3999 t ht2) (Nat.le_trans (Nat.mul_le_mul_right _ ht1) (by decide))
    clear hb hn hr ht1 ht2
    go_wp2_with fail
    refine (nameA_any nm _ (Nat.le_trans HNL.out (by decide))).mono ?_
    rintro _ z2 ⟨rfl, rfl⟩
    cases hnb : nameB nm
    · have HX3 : Hid (X = (3, zeroA)) := by show _ = _; rw [HX2.out]; unfold readA; rw [hnb]; rfl
      obtain ⟨q0, q1, _, _, hcell, hfro⟩ := HPC.out z1 HB.out
      clear hnb
      go_wp2_with fail
      refine (require_no _).mono ?_
      rintro _ z3 ⟨rfl, rfl⟩
      go_wp2_with fail
      refine leaves_cons (f := 105) (args := #[.pointer (some ⟨w.heap.size + 1, 0, none⟩)]) (by simp) (by simp [go_sem]) ?_
      refine (aParse_panic ⟨w.heap.size + 1, 0, none⟩ 0 _ _ ?_ ?_).mono ?_
      · simp [go_sem, hcell]
      · simp [go_sem, hfro]
      rintro e u' w3 ⟨rfl, rfl, rfl⟩
      have hq0 : (z1.setCell ⟨w.heap.size + 1, 0, none⟩ (.int .i64 3)).cell? ⟨w.heap.size, 0, none⟩ = some (.string ⟨#[]⟩) := by rw [World.cell?_setCell_far _ _ _ _ (by show w.heap.size + 1 ≠ w.heap.size; omega)]; exact q0
      have hq1 : (z1.setCell ⟨w.heap.size + 1, 0, none⟩ (.int .i64 3)).cell? ⟨w.heap.size, 1, none⟩ = some (.slice none 0 0) := by rw [World.cell?_setCell_far _ _ _ _ (by show w.heap.size + 1 ≠ w.heap.size; omega)]; exact q1
      simp [Leaves, settle, results, Tryz.results87, go_sem, hcell, hq0, hq1]
      exact pret_bad HX3.out (HBW.out.trans (HB.out.mono HBW.out.size))
    · have hvc := versions_any C n c t z1 HN.out HRT.out (by have := HT1.out; omega) HVL.out
      obtain ⟨v, hv⟩ : ∃ v, vers t = v := ⟨_, rfl⟩
      have HX3 : Hid (X = if v ≤ 16 then (if (hTerm [] t).1 = 0 then (if checkA ⟨nm, (hTerm [] t).2.map spOf⟩ = 0 then (0, ⟨nm, (hTerm [] t).2.map spOf⟩) else (checkA ⟨nm, (hTerm [] t).2.map spOf⟩, zeroA)) else ((hTerm [] t).1, zeroA)) else (4, zeroA)) := by show _ = _; rw [HX2.out]; unfold readA; rw [hnb, hv]; rfl
      rw [hv] at hvc
      have HVC := Lib.hid hvc
      clear hnb hvc hv
      go_wp2_with fail
      refine (require_yes _).mono ?_
      rintro _ z3 ⟨rfl, rfl⟩
      go_wp2_with fail
      refine HVC.out.mono ?_
      rintro _ z3 ⟨rfl, rfl⟩
      by_cases h16 : v ≤ 16
      · have d0 : decide ((v : Int) ≤ 16) = true := decide_eq_true (by omega)
        have HX4 : Hid (X = if (hTerm [] t).1 = 0 then (if checkA ⟨nm, (hTerm [] t).2.map spOf⟩ = 0 then (0, ⟨nm, (hTerm [] t).2.map spOf⟩) else (checkA ⟨nm, (hTerm [] t).2.map spOf⟩, zeroA)) else ((hTerm [] t).1, zeroA)) := by show _ = _; rw [HX3.out, if_pos h16]
        clear h16
        go_wp2_with fail
        refine (require_yes _).mono ?_
        rintro _ z4 ⟨rfl, rfl⟩
        go_wp2_with fail
        refine (clone_any nm _ (by have := HNL.out; omega)).mono ?_
        rintro _ z5 ⟨rfl, hb5⟩
        have HB5 : Hid (Below W2.heap.size W2 z5) := HB.out.trans (hb5.mono HB.out.size)
        have HRT5 : Hid (TRow z5 C t) := tRow_below HRT.out hb5
        clear hb5
        go_wp2_with fail
        have HS5 : Hid (St W2 z5 []) := ⟨HM2.out, HB5.out, fun x hx => by simp at hx⟩
        have HHO := Lib.hid (holds_any HS5.out C n c t HN.out HRT5.out (by have := HT1.out; omega) (fun l hl => by have := HT2.out l hl; omega))
        have HGD : Hid (Rs.Good (hTerm [] t).2) := hTerm_good _ _ good_nil
        refine HHO.out.mono ?_
        clear HHO
        rintro e z6 hh
        obtain ⟨H, hH⟩ : ∃ H, hTerm [] t = H := ⟨_, rfl⟩
        rw [hH] at hh
        obtain ⟨h1, r⟩ := H
        have HX5 : Hid (X = if h1 = 0 then (if checkA ⟨nm, r.map spOf⟩ = 0 then (0, ⟨nm, r.map spOf⟩) else (checkA ⟨nm, r.map spOf⟩, zeroA)) else (h1, zeroA)) := by show _ = _; rw [HX4.out, hH]
        have HG6 : Hid (Rs.Good r) := by have h := HGD.out; rw [hH] at h; exact h
        clear hH
        by_cases h10 : h1 = 0
        · subst h10
          obtain ⟨C6, n6, d6, rfl, hS6⟩ := hh.1 rfl
          have HS6 := Lib.hid hS6
          clear hh hS6
          go_wp2_with fail
          have HAL : Hid (Below z6.heap.size z6 (z6.alloc (.cells #[.string ⟨nm.toArray⟩, .slice C6 n6 d6] 32))) := (Below.refl _ _).alloc (Nat.le_refl _) _
          refine (requireAtom_any nm C6 n6 d6 (r.map spOf) _ (maxOk_below (st_max HS6.out) HAL.out) (Nat.le_trans HNL.out (by decide)) (st_row HS6.out 0 rfl).2 (srow_below (st_row HS6.out 0 rfl).1 HAL.out) (by rw [← (st_row HS6.out 0 rfl).2, List.length_map]; have := HG6.out.2.2; omega)).mono ?_
          rintro _ z7 ⟨rfl, hb7⟩
          have HB67 : Hid (Below z6.heap.size z6 z7) := HAL.out.trans (hb7.mono HAL.out.size)
          have HB7 : Hid (Below W2.heap.size W2 z7) := HS6.out.2.1.trans (HB67.out.mono HS6.out.2.1.size)
          have HR7 : Hid (SRow z7 C6 (r.map spOf) ∧ (r.map spOf).length = n6) := ⟨srow_below (st_row HS6.out 0 rfl).1 HB67.out, (st_row HS6.out 0 rfl).2⟩
          obtain ⟨K, hK⟩ : ∃ K, checkA ⟨nm, r.map spOf⟩ = K := ⟨_, rfl⟩
          have HX7 : Hid (X = if K = 0 then (0, ⟨nm, r.map spOf⟩) else (K, zeroA)) := by show _ = _; rw [HX5.out, hK]; first | rfl | rw [if_pos trivial]
          rw [hK]
          have HBX : Hid (Bx2 z6.heap.size nm C6 n6 d6 z7) := bx2_below (bx2_new z6 nm C6 n6 d6 32) (by simp) hb7
          obtain ⟨q0, q1, f0, f1, hcell, hfro⟩ := HPC.out z7 HB7.out
          obtain ⟨k0, k1⟩ := HBX.out
          have hlt : w.heap.size + 1 < z6.heap.size := by
            have h := HS6.out.2.1.size
            have h2 : w.heap.size + 2 ≤ W2.heap.size := HSZ.out
            omega
          clear hb7 hK
          by_cases hk : K = 0
          · subst hk
            have HX8 : Hid (X = (0, ⟨nm, r.map spOf⟩)) := HX7.out
            rw [okOr_zero]
            go_wp2_with fail
            have HRV : Hid (SRow (((z7.setCell ⟨w.heap.size, 0, none⟩ (.string ⟨nm.toArray⟩)).setCell ⟨w.heap.size, 1, none⟩ (.slice C6 n6 d6)).setCell ⟨w.heap.size + 1, 0, none⟩ (.int .i64 0)) C6 (r.map spOf)) := by
              have hp := HPN.out z7 HB7.out
              have a1 := row_apart HR7.out.1 hp.1
              have a2 := row_apart HR7.out.1 hp.2
              exact srow_far (srow_far (srow_far HR7.out.1 a1) a1) a2
            have HBV : Hid (Below w.heap.size w (((z7.setCell ⟨w.heap.size, 0, none⟩ (.string ⟨nm.toArray⟩)).setCell ⟨w.heap.size, 1, none⟩ (.slice C6 n6 d6)).setCell ⟨w.heap.size + 1, 0, none⟩ (.int .i64 0))) :=
              (((HBW.out.trans (HB7.out.mono HBW.out.size)).setCell (Nat.le_refl _) _).setCell (Nat.le_refl _) _).setCell (Nat.le_succ _) _
            have g0 : (((z7.setCell ⟨w.heap.size, 0, none⟩ (.string ⟨nm.toArray⟩)).setCell ⟨w.heap.size, 1, none⟩ (.slice C6 n6 d6)).setCell ⟨w.heap.size + 1, 0, none⟩ (.int .i64 0)).cell? ⟨w.heap.size, 0, none⟩ = some (.string ⟨nm.toArray⟩) := by
              rw [World.cell?_setCell_far _ _ _ _ (by show w.heap.size + 1 ≠ w.heap.size; omega)]; simp [go_sem, q0]
            have g1 : (((z7.setCell ⟨w.heap.size, 0, none⟩ (.string ⟨nm.toArray⟩)).setCell ⟨w.heap.size, 1, none⟩ (.slice C6 n6 d6)).setCell ⟨w.heap.size + 1, 0, none⟩ (.int .i64 0)).cell? ⟨w.heap.size, 1, none⟩ = some (.slice C6 n6 d6) := by
              rw [World.cell?_setCell_far _ _ _ _ (by show w.heap.size + 1 ≠ w.heap.size; omega)]; simp [go_sem, q1]
            have g2 : (((z7.setCell ⟨w.heap.size, 0, none⟩ (.string ⟨nm.toArray⟩)).setCell ⟨w.heap.size, 1, none⟩ (.slice C6 n6 d6)).setCell ⟨w.heap.size + 1, 0, none⟩ (.int .i64 0)).cell? ⟨w.heap.size + 1, 0, none⟩ = some (.int .i64 0) := by
              simp [go_sem, hcell]
            have g3 : (((z7.setCell ⟨w.heap.size, 0, none⟩ (.string ⟨nm.toArray⟩)).setCell ⟨w.heap.size, 1, none⟩ (.slice C6 n6 d6)).setCell ⟨w.heap.size + 1, 0, none⟩ (.int .i64 0)).frozen? ⟨w.heap.size + 1, 0, none⟩ = false := by
              simp [go_sem, hfro]
            generalize ((z7.setCell ⟨w.heap.size, 0, none⟩ (.string ⟨nm.toArray⟩)).setCell ⟨w.heap.size, 1, none⟩ (.slice C6 n6 d6)).setCell ⟨w.heap.size + 1, 0, none⟩ (.int .i64 0) = V at *
            have k2 : (V.setCell ⟨w.heap.size + 1, 0, none⟩ (.int .i64 0)).cell? ⟨w.heap.size, 0, none⟩ = some (.string ⟨nm.toArray⟩) := by rw [World.cell?_setCell_far _ _ _ _ (by show w.heap.size + 1 ≠ w.heap.size; omega)]; exact g0
            have k3 : (V.setCell ⟨w.heap.size + 1, 0, none⟩ (.int .i64 0)).cell? ⟨w.heap.size, 1, none⟩ = some (.slice C6 n6 d6) := by rw [World.cell?_setCell_far _ _ _ _ (by show w.heap.size + 1 ≠ w.heap.size; omega)]; exact g1
            have HRF : Hid (SRow (V.setCell ⟨w.heap.size + 1, 0, none⟩ (.int .i64 0)) C6 (r.map spOf)) := srow_far HRV.out (row_apart HR7.out.1 (HPN.out z7 HB7.out).2)
            refine leaves_cons (f := 105) (args := #[.pointer (some ⟨w.heap.size + 1, 0, none⟩)]) (by simp) (by simp [go_sem]) ?_
            refine (aParse_idle ⟨w.heap.size + 1, 0, none⟩ 0 _ ?_ ?_).mono ?_
            · simp [go_sem, g2]
            · simp [go_sem, g3]
            rintro e u' w3 ⟨rfl, rfl, rfl⟩
            simp [Leaves, settle, results, Tryz.results87, go_sem, g2, k2, k3]
            rw [HX8.out]
            exact ⟨C6, n6, d6, rfl, HR7.out.2, HRF.out, HBV.out.setCell (Nat.le_succ _) _⟩
          · rw [okOr_ne hk]
            have HX8 : Hid (X = (K, zeroA)) := by show _ = _; rw [HX7.out, if_neg hk]
            clear hk
            go_wp2_with fail
            refine leaves_cons (f := 105) (args := #[.pointer (some ⟨w.heap.size + 1, 0, none⟩)]) (by simp) (by simp [go_sem]) ?_
            refine (aParse_panic ⟨w.heap.size + 1, 0, none⟩ 0 _ _ ?_ ?_).mono ?_
            · simp [go_sem, hcell]
            · simp [go_sem, hfro]
            rintro e u' w3 ⟨rfl, rfl, rfl⟩
            have hq0 : (z7.setCell ⟨w.heap.size + 1, 0, none⟩ (.int .i64 K)).cell? ⟨w.heap.size, 0, none⟩ = some (.string ⟨#[]⟩) := by rw [World.cell?_setCell_far _ _ _ _ (by show w.heap.size + 1 ≠ w.heap.size; omega)]; exact q0
            have hq1 : (z7.setCell ⟨w.heap.size + 1, 0, none⟩ (.int .i64 K)).cell? ⟨w.heap.size, 1, none⟩ = some (.slice none 0 0) := by rw [World.cell?_setCell_far _ _ _ _ (by show w.heap.size + 1 ≠ w.heap.size; omega)]; exact q1
            simp [Leaves, settle, results, Tryz.results87, go_sem, hcell, hq0, hq1]
            exact pret_bad HX8.out (HBW.out.trans (HB7.out.mono HBW.out.size))
        · obtain ⟨he, hS6⟩ := hh.2 h10
          subst he
          have HX6 : Hid (X = (h1, zeroA)) := by show _ = _; rw [HX5.out, if_neg h10]
          have HB6 : Hid (Below W2.heap.size W2 z6) := hS6.2.1
          obtain ⟨q0, q1, _, _, hcell, hfro⟩ := HPC.out z6 HB6.out
          clear hh hS6 h10
          go_wp2_with fail
          refine leaves_cons (f := 105) (args := #[.pointer (some ⟨w.heap.size + 1, 0, none⟩)]) (by simp) (by simp [go_sem]) ?_
          refine (aParse_panic ⟨w.heap.size + 1, 0, none⟩ 0 _ _ ?_ ?_).mono ?_
          · simp [go_sem, hcell]
          · simp [go_sem, hfro]
          rintro e u' w3 ⟨rfl, rfl, rfl⟩
          have hq0 : (z6.setCell ⟨w.heap.size + 1, 0, none⟩ (.int .i64 h1)).cell? ⟨w.heap.size, 0, none⟩ = some (.string ⟨#[]⟩) := by rw [World.cell?_setCell_far _ _ _ _ (by show w.heap.size + 1 ≠ w.heap.size; omega)]; exact q0
          have hq1 : (z6.setCell ⟨w.heap.size + 1, 0, none⟩ (.int .i64 h1)).cell? ⟨w.heap.size, 1, none⟩ = some (.slice none 0 0) := by rw [World.cell?_setCell_far _ _ _ _ (by show w.heap.size + 1 ≠ w.heap.size; omega)]; exact q1
          simp [Leaves, settle, results, Tryz.results87, go_sem, hcell, hq0, hq1]
          exact pret_bad HX6.out (HBW.out.trans (HB6.out.mono HBW.out.size))
      · have d0 : decide ((v : Int) ≤ 16) = false := decide_eq_false (by omega)
        have HX4 : Hid (X = (4, zeroA)) := by show _ = _; rw [HX3.out, if_neg h16]
        obtain ⟨q0, q1, _, _, hcell, hfro⟩ := HPC.out z1 HB.out
        clear h16
        go_wp2_with fail
        refine (require_no _).mono ?_
        rintro _ z4 ⟨rfl, rfl⟩
        go_wp2_with fail
        refine leaves_cons (f := 105) (args := #[.pointer (some ⟨w.heap.size + 1, 0, none⟩)]) (by simp) (by simp [go_sem]) ?_
        refine (aParse_panic ⟨w.heap.size + 1, 0, none⟩ 0 _ _ ?_ ?_).mono ?_
        · simp [go_sem, hcell]
        · simp [go_sem, hfro]
        rintro e u' w3 ⟨rfl, rfl, rfl⟩
        have hq0 : (z1.setCell ⟨w.heap.size + 1, 0, none⟩ (.int .i64 4)).cell? ⟨w.heap.size, 0, none⟩ = some (.string ⟨#[]⟩) := by rw [World.cell?_setCell_far _ _ _ _ (by show w.heap.size + 1 ≠ w.heap.size; omega)]; exact q0
        have hq1 : (z1.setCell ⟨w.heap.size + 1, 0, none⟩ (.int .i64 4)).cell? ⟨w.heap.size, 1, none⟩ = some (.slice none 0 0) := by rw [World.cell?_setCell_far _ _ _ _ (by show w.heap.size + 1 ≠ w.heap.size; omega)]; exact q1
        simp [Leaves, settle, results, Tryz.results87, go_sem, hcell, hq0, hq1]
        exact pret_bad HX4.out (HBW.out.trans (HB.out.mono HBW.out.size))
end Go.Proofs.YtkdildgdodnbbaaGreatDoor
