/- The first line of a text of clauses, and a clause's line: headOf, clauseOf, walked. -/
import Derived.Test.YtoioeekfnnoaoaaGreatDoorEyd
import Derived.Test.YtoioeekfnnoaoaaGreatDoorEj
namespace Go.Proofs.YtoioeekfnnoaoaaGreatDoor.Cl
open Go.RowKit Up Sz
/-! A text cut, as the program cuts it. -/
theorem cRow_newT (w : World) (T : TypeId) (l : List (List UInt8)) (cs : Array Value) (h : cs.toList = Rg.flat encT l) : Rg.Row encT 1 (w.alloc (.cells cs T)) (some ⟨w.heap.size, 0, none⟩) l := row1_new (fun _ => rfl) w T l cs h
theorem cFlatT (l : List (List UInt8)) : Rg.flat encT l = l.map fun t => Value.string ⟨t.toArray⟩ := by
  induction l with
  | nil => rfl
  | cons a l ih => show encT a ++ Rg.flat encT l = _; rw [ih]; rfl
theorem cSplit_any (s sep : List UInt8) (w : World) (hm : MaxOk w) (hl : s.length ≤ 900000) (h1 : 1 ≤ sep.length) :
    Calls Tryz.prog 78 #[.string ⟨s.toArray⟩, .string ⟨sep.toArray⟩] w fun e w' => ∃ A n, e = .returned (.slice A n n) ∧ (Lib.split s sep).length = n ∧ n ≤ s.length + 1 ∧ Rg.Row encT 1 w' A (Lib.split s sep) ∧ Below w.heap.size w w' := by
  obtain ⟨m, hm⟩ := hm
  refine (Tryz.strings_Split ⟨s.toArray⟩ ⟨sep.toArray⟩ m w (by show s.length < _; omega) hm h1).mono ?_
  rintro e w' ⟨rfl, rfl⟩
  have hd : (Lib.splitB ⟨sep.toArray⟩ 0 (Lib.countB ⟨s.toArray⟩ ⟨sep.toArray⟩) ⟨s.toArray⟩).map (·.data.toList) = Lib.split s sep := Lib.splitB_data _ _ _ _
  have hn := Lib.splitB_all ⟨sep.toArray⟩ h1 0 (Lib.countB ⟨s.toArray⟩ ⟨sep.toArray⟩) ⟨s.toArray⟩ rfl
  have hc := Lib.countB_le ⟨sep.toArray⟩ h1 s.length ⟨s.toArray⟩ (Nat.le_refl _)
  refine ⟨_, _, rfl, by rw [← hd, List.length_map, hn], Nat.succ_le_succ hc, cRow_newT w _ _ _ ?_, (Below.refl _ _).alloc (Nat.le_refl _) _⟩
  rw [cFlatT, ← hd, List.map_map]
  rfl
/-- A goal that a region's walk ends at. -/
theorem cEnds {P : Program} {G : Prop} {a : Act} {w : World} (h : wpAny P .any #[] (fun _ _ _ => G) 0 #[] a w) : G := h.2
/-- How the head is read. -/
def HeadE (s : List UInt8) (e : Ending) : Prop := (∃ n k : Nat, headP s = some (n, k) ∧ e = .returned (.tuple #[.int .i64 n, .int .i64 k])) ∨ (headP s = none ∧ (e = pan 2 ∨ e = cPan 0 2))
theorem numE_some {s : List UInt8} {n : Int} (h : numW s = some n) (line : Int) : numE line s = .returned (.int .i64 n) := by unfold numE; rw [h]
theorem numE_none {s : List UInt8} (h : numW s = none) (line : Int) : numE line s = cPan line 2 := by unfold numE; rw [h]
theorem head_words {s a b c : List UInt8} (h : Lib.split s [32] = [a, b, c]) : (a ≠ cnfT → headP s = none) ∧ (numW b = none → headP s = none) ∧ (numW c = none → headP s = none) ∧ ∀ x y, a = cnfT → numW b = some x → numW c = some y → (x < 0 → headP s = none) ∧ (y < 0 → headP s = none) ∧ (0 ≤ x → 0 ≤ y → headP s = some (x.toNat, y.toNat)) := by
  have e : headP s = if a == cnfT then (match numP b with | some n => (match numP c with | some k => some (n, k) | none => none) | none => none) else none := by
    simp only [headP, h]
    rfl
  refine ⟨fun h1 => by rw [e, if_neg (by simpa using h1)], fun h1 => ?_, fun h1 => ?_, fun x y h0 h1 h2 => ⟨fun h3 => ?_, fun h3 => ?_, fun h3 h4 => ?_⟩⟩
  · rw [e, numW_num, h1]
    split <;> rfl
  · rw [e, numW_num (s := c), h1]
    split
    · cases numP b <;> rfl
    · rfl
  · rw [e, numW_num, h1]
    show (if _ then (match (if x < 0 then none else some x.toNat) with | some n => _ | none => none) else none) = none
    rw [if_pos h3]
    split <;> rfl
  · rw [e, numW_num (s := c), h2]
    show (if _ then (match numP b with | some n => (match (if y < 0 then none else some y.toNat) with | some k => some (n, k) | none => none) | none => none) else none) = none
    rw [if_pos h3]
    split
    · cases numP b <;> rfl
    · rfl
  · rw [e, numW_num (s := b), numW_num (s := c), h1, h2, h0, if_pos (by simp)]
    show (match (if x < 0 then none else some x.toNat) with | some n => (match (if y < 0 then none else some y.toNat) with | some k => some (n, k) | none => none) | none => none) = _
    rw [if_neg (by omega), if_neg (by omega)]
attribute [local go_sem ↓] Go.wp_at_zero Go.wp_at_succ
set_option maxRecDepth 100000 in
set_option maxHeartbeats 3200000 in
theorem headOf_any (s : List UInt8) (hs : s.length ≤ 900000) (w : World) (hq : QC w) :
    Calls Tryz.prog 66 #[.string ⟨s.toArray⟩] w fun e w' => HeadE s e ∧ Below w.heap.size w w' := by
  have HS := Lib.hid (cSplit_any s [32] w hq.1 hs (by decide))
  have HPL := Lib.hid (split_piece s)
  have HQ := Lib.hid (fun u (h : Below w.heap.size w u) => qc_stays _ _ hq h)
  have HLN := Lib.hid (fun h => headP_len (s := s) h)
  have HW := Lib.hid (fun a b c h => head_words (s := s) (a := a) (b := b) (c := c) h)
  obtain ⟨t, ht⟩ : ∃ t, Lib.split s [32] = t := ⟨_, rfl⟩
  rw [ht] at HS HPL HLN HW
  obtain ⟨H, hH⟩ : ∃ H, headP s = H := ⟨_, rfl⟩
  rw [hH] at HLN HW
  have HPOST : Hid (∀ e, ((∃ n k : Nat, H = some (n, k) ∧ e = .returned (.tuple #[.int .i64 n, .int .i64 k])) ∨ (H = none ∧ (e = pan 2 ∨ e = cPan 0 2))) → HeadE s e) := fun e h => by
    unfold HeadE; rw [hH]; exact h
  clear ht hH hq
  go_enter Tryz.func66, Tryz.ntmps66
  go_wp2_with fail
  refine HS.out.mono ?_
  rintro _ w1 ⟨A, n, rfl, hn, _, hrow, hb⟩
  have HN := Lib.hid hn
  have HROW := Lib.hid hrow
  have HB1 := Lib.hid hb
  clear hn hrow hb HS
  by_cases h3 : n = 3
  case neg =>
    have d : ((n : Int) == 3) = false := by rw [beq_eq_false_iff_ne]; omega
    have HF : Hid (H = none) := HLN.out (by rw [HN.out]; exact h3)
    clear h3
    go_wp2_with fail
    refine (require_no _).mono ?_
    rintro _ z ⟨rfl, rfl⟩
    go_wp2_with fail
    exact ⟨rfl, HPOST.out _ (.inr ⟨HF.out, .inl rfl⟩), HB1.out⟩
  subst h3
  obtain ⟨a, b, c, habc⟩ : ∃ a b c, t = [a, b, c] := by
    have := HN.out
    match t, this with
    | [a, b, c], _ => exact ⟨a, b, c, rfl⟩
  subst habc
  obtain ⟨k1, k2, k3, k4⟩ := HW.out a b c rfl
  have HLB : Hid (b.length ≤ 1000000) := by have := HPL.out b (by simp); show _ ≤ _; omega
  have HLC : Hid (c.length ≤ 1000000) := by have := HPL.out c (by simp); show _ ≤ _; omega
  obtain ⟨ad, xa, rfl, ea, hblk, ca⟩ := trow_at HROW.out 0 (by simp)
  obtain ⟨ad1, xb, e1, eb, _, cb⟩ := trow_at HROW.out 1 (by simp)
  obtain ⟨ad2, xc, e2, ec, _, cc⟩ := trow_at HROW.out 2 (by simp)
  cases e1
  cases e2
  have ea' : a = xa := ea
  have eb' : b = xb := eb
  have ec' : c = xc := ec
  subst ea' eb' ec'
  rw [Rg.add_zero] at ca
  have HCELL : Hid (∀ u, Below w1.heap.size w1 u → u.cell? ⟨ad.block, ad.off + 1, none⟩ = some (.string ⟨b.toArray⟩) ∧ u.cell? ⟨ad.block, ad.off + 2, none⟩ = some (.string ⟨c.toArray⟩)) := fun u h => ⟨cell_below cb hblk h, cell_below cc hblk h⟩
  clear ea eb ec cb cc hblk
  by_cases ha : a = cnfT
  case neg =>
    have d : ((a : List UInt8) == [99, 110, 102]) = false := beq_eq_false_iff_ne.2 ha
    have HF := Lib.hid (k1 ha)
    clear ha k1 k2 k3 k4
    go_wp2_with fail
    refine (require_no _).mono ?_
    rintro _ z ⟨rfl, rfl⟩
    go_wp2_with fail
    exact ⟨rfl, HPOST.out _ (.inr ⟨HF.out, .inl rfl⟩), HB1.out⟩
  have d : ((a : List UInt8) == [99, 110, 102]) = true := beq_iff_eq.2 ha
  have K2 := Lib.hid k2
  have K3 := Lib.hid k3
  have K4 := Lib.hid (fun x y => k4 x y ha)
  clear ha k1 k2 k3 k4
  go_wp2_with fail
  refine (require_yes _).mono ?_
  rintro _ z ⟨rfl, rfl⟩
  clear d ca
  obtain ⟨c1, c2⟩ := HCELL.out w1.drew (Below.refl _ _).drew
  have HNU := Lib.hid (fun (t : List UInt8) (ht : t.length ≤ 1000000) u (h : Below w1.heap.size w1 u) => numberOf_any t 0 ht u (HQ.out u (HB1.out.trans (h.mono HB1.out.size))))
  obtain ⟨nb, hnb⟩ : ∃ x, numW b = x := ⟨_, rfl⟩
  obtain ⟨nc, hnc⟩ : ∃ x, numW c = x := ⟨_, rfl⟩
  rw [hnb] at K2 K4
  rw [hnc] at K3 K4
  have HDR : Hid (Below w1.heap.size w1 w1.drew) := (Below.refl _ _).drew
  cases nb with
  | none =>
    have HF := Lib.hid (K2.out rfl)
    cases nc with
    | none =>
      have EB : Hid (numE 0 b = cPan 0 2) := numE_none hnb 0
      have EC : Hid (numE 0 c = cPan 0 2) := numE_none hnc 0
      clear hnb hnc K2 K3 K4
      go_wp2_with fail
      go_region_with (first
        | (go_at_call 79; refine (HNU.out _ (by first | exact HLB.out | exact HLC.out) _ (by exact HDR.out)).mono ?_; (first | rintro _ zE he hb | rintro _ zE ⟨he, hb⟩); rw [EB.out] at he; subst he; have HZE : Hid (Below w1.heap.size w1 zE) := HDR.out.trans (hb.mono HDR.out.size); clear hb; refine cEnds (P := Tryz.prog) (a := { tmps := #[], defers := [] }) (w := w) ?_)
        | (go_at_call 79; refine (HNU.out _ (by first | exact HLB.out | exact HLC.out) _ (by exact HDR.out)).mono ?_; (first | rintro _ zE he hb | rintro _ zE ⟨he, hb⟩); rw [EC.out] at he; subst he; have HZE : Hid (Below w1.heap.size w1 zE) := HDR.out.trans (hb.mono HDR.out.size); clear hb; refine cEnds (P := Tryz.prog) (a := { tmps := #[], defers := [] }) (w := w) ?_))
      all_goals exact ⟨rfl, HPOST.out _ (.inr ⟨HF.out, .inr rfl⟩), HB1.out.trans (HZE.out.mono HB1.out.size)⟩
    | some y =>
      have EB : Hid (numE 0 b = cPan 0 2) := numE_none hnb 0
      have EC : Hid (numE 0 c = .returned (.int .i64 y)) := numE_some hnc 0
      clear hnb hnc K2 K3 K4
      go_wp2_with fail
      go_region_with (first
        | (go_at_call 79; refine (HNU.out _ (by first | exact HLB.out | exact HLC.out) _ (by exact HZ1.out)).mono ?_; (first | rintro _ zE he hb | rintro _ zE ⟨he, hb⟩); rw [EB.out] at he; subst he; have HZE : Hid (Below w1.heap.size w1 zE) := HZ1.out.trans (hb.mono HZ1.out.size); clear hb; refine cEnds (P := Tryz.prog) (a := { tmps := #[], defers := [] }) (w := w) ?_)
        | (go_at_call 79; refine (HNU.out _ (by first | exact HLB.out | exact HLC.out) _ (by exact HDR.out)).mono ?_; (first | rintro _ zE he hb | rintro _ zE ⟨he, hb⟩); rw [EB.out] at he; subst he; have HZE : Hid (Below w1.heap.size w1 zE) := HDR.out.trans (hb.mono HDR.out.size); clear hb; refine cEnds (P := Tryz.prog) (a := { tmps := #[], defers := [] }) (w := w) ?_)
        | (go_at_call 79; refine (HNU.out _ (by first | exact HLB.out | exact HLC.out) _ (by exact HDR.out)).mono ?_; (first | rintro _ z1 he hb | rintro _ z1 ⟨he, hb⟩); rw [EC.out] at he; subst he; have HZ1 : Hid (Below w1.heap.size w1 z1) := HDR.out.trans (hb.mono HDR.out.size); obtain ⟨g1, g2⟩ := HCELL.out z1 HZ1.out; clear hb))
      all_goals exact ⟨rfl, HPOST.out _ (.inr ⟨HF.out, .inr rfl⟩), HB1.out.trans (HZE.out.mono HB1.out.size)⟩
  | some x =>
    cases nc with
    | none =>
      have HF := Lib.hid (K3.out rfl)
      have EB : Hid (numE 0 b = .returned (.int .i64 x)) := numE_some hnb 0
      have EC : Hid (numE 0 c = cPan 0 2) := numE_none hnc 0
      clear hnb hnc K2 K3 K4
      go_wp2_with fail
      go_region_with (first
        | (go_at_call 79; refine (HNU.out _ (by first | exact HLB.out | exact HLC.out) _ (by exact HZ1.out)).mono ?_; (first | rintro _ zE he hb | rintro _ zE ⟨he, hb⟩); rw [EC.out] at he; subst he; have HZE : Hid (Below w1.heap.size w1 zE) := HZ1.out.trans (hb.mono HZ1.out.size); clear hb; refine cEnds (P := Tryz.prog) (a := { tmps := #[], defers := [] }) (w := w) ?_)
        | (go_at_call 79; refine (HNU.out _ (by first | exact HLB.out | exact HLC.out) _ (by exact HDR.out)).mono ?_; (first | rintro _ zE he hb | rintro _ zE ⟨he, hb⟩); rw [EC.out] at he; subst he; have HZE : Hid (Below w1.heap.size w1 zE) := HDR.out.trans (hb.mono HDR.out.size); clear hb; refine cEnds (P := Tryz.prog) (a := { tmps := #[], defers := [] }) (w := w) ?_)
        | (go_at_call 79; refine (HNU.out _ (by first | exact HLB.out | exact HLC.out) _ (by exact HDR.out)).mono ?_; (first | rintro _ z1 he hb | rintro _ z1 ⟨he, hb⟩); rw [EB.out] at he; subst he; have HZ1 : Hid (Below w1.heap.size w1 z1) := HDR.out.trans (hb.mono HDR.out.size); obtain ⟨g1, g2⟩ := HCELL.out z1 HZ1.out; clear hb))
      all_goals exact ⟨rfl, HPOST.out _ (.inr ⟨HF.out, .inr rfl⟩), HB1.out.trans (HZE.out.mono HB1.out.size)⟩
    | some y =>
      have EB : Hid (numE 0 b = .returned (.int .i64 x)) := numE_some hnb 0
      have EC : Hid (numE 0 c = .returned (.int .i64 y)) := numE_some hnc 0
      obtain ⟨f1, f2, f3⟩ := K4.out x y rfl rfl
      have F1 := Lib.hid f1
      have F2 := Lib.hid f2
      have F3 := Lib.hid f3
      clear hnb hnc K2 K3 K4 f1 f2 f3
      go_wp2_with fail
      go_region_with (first
        | (go_at_call 79; refine (HNU.out _ (by first | exact HLB.out | exact HLC.out) _ (by exact HZ1.out)).mono ?_; (first | rintro _ z2 he hb | rintro _ z2 ⟨he, hb⟩); rw [EB.out] at he; subst he; have HZ2 : Hid (Below w1.heap.size w1 z2) := HZ1.out.trans (hb.mono HZ1.out.size); obtain ⟨g1, g2⟩ := HCELL.out z2 HZ2.out; clear hb)
        | (go_at_call 79; refine (HNU.out _ (by first | exact HLB.out | exact HLC.out) _ (by exact HZ1.out)).mono ?_; (first | rintro _ z2 he hb | rintro _ z2 ⟨he, hb⟩); rw [EC.out] at he; subst he; have HZ2 : Hid (Below w1.heap.size w1 z2) := HZ1.out.trans (hb.mono HZ1.out.size); obtain ⟨g1, g2⟩ := HCELL.out z2 HZ2.out; clear hb)
        | (go_at_call 79; refine (HNU.out _ (by first | exact HLB.out | exact HLC.out) _ (by exact HDR.out)).mono ?_; (first | rintro _ z1 he hb | rintro _ z1 ⟨he, hb⟩); rw [EB.out] at he; subst he; have HZ1 : Hid (Below w1.heap.size w1 z1) := HDR.out.trans (hb.mono HDR.out.size); obtain ⟨g1, g2⟩ := HCELL.out z1 HZ1.out; clear hb)
        | (go_at_call 79; refine (HNU.out _ (by first | exact HLB.out | exact HLC.out) _ (by exact HDR.out)).mono ?_; (first | rintro _ z1 he hb | rintro _ z1 ⟨he, hb⟩); rw [EC.out] at he; subst he; have HZ1 : Hid (Below w1.heap.size w1 z1) := HDR.out.trans (hb.mono HDR.out.size); obtain ⟨g1, g2⟩ := HCELL.out z1 HZ1.out; clear hb))
      all_goals
        have HZZ : Hid (Below w.heap.size w z2) := HB1.out.trans (HZ2.out.mono HB1.out.size)
        by_cases hx : 0 ≤ x
        · have dx : decide (0 ≤ x) = true := decide_eq_true hx
          have dx2 : decide (x ≥ 0) = true := dx
          by_cases hy : 0 ≤ y
          · have dy : decide (0 ≤ y) = true := decide_eq_true hy
            have dy2 : decide (y ≥ 0) = true := dy
            have HF := Lib.hid (F3.out hx hy)
            obtain ⟨p, rfl⟩ : ∃ p : Nat, x = p := ⟨x.toNat, by omega⟩
            obtain ⟨q, rfl⟩ : ∃ q : Nat, y = q := ⟨y.toNat, by omega⟩
            clear hx hy
            go_wp2_with fail
            refine (require_yes _).mono ?_
            rintro _ z ⟨rfl, rfl⟩
            go_wp2_with fail
            go_ret2
            exact ⟨HPOST.out _ (.inl ⟨p, q, by rw [HF.out]; simp, rfl⟩), HZZ.out⟩
          · have dy : decide (0 ≤ y) = false := decide_eq_false hy
            have dy2 : decide (y ≥ 0) = false := dy
            have HF := Lib.hid (F2.out (by omega))
            clear hx hy
            go_wp2_with fail
            refine (require_no _).mono ?_
            rintro _ z ⟨rfl, rfl⟩
            go_wp2_with fail
            exact ⟨rfl, HPOST.out _ (.inr ⟨HF.out, .inl rfl⟩), HZZ.out⟩
        · have dx : decide (0 ≤ x) = false := decide_eq_false hx
          have dx2 : decide (x ≥ 0) = false := dx
          have HF := Lib.hid (F1.out (by omega))
          clear hx
          go_wp2_with fail
          refine (require_no _).mono ?_
          rintro _ z ⟨rfl, rfl⟩
          go_wp2_with fail
          exact ⟨rfl, HPOST.out _ (.inr ⟨HF.out, .inl rfl⟩), HZZ.out⟩
end Go.Proofs.YtoioeekfnnoaoaaGreatDoor.Cl
