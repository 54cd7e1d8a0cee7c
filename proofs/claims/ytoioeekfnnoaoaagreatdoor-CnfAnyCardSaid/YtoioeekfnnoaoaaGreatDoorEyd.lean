/- Numbers and clauses read: numberOf, clauseOf, headOf: walked. -/
import Derived.Test.YtoioeekfnnoaoaaGreatDoorEw
import Derived.Test.YtoioeekfnnoaoaaGreatDoorEyc
import Derived.Test.YtoioeekfnnoaoaaGreatDoorShelfC
namespace Go.Proofs.YtoioeekfnnoaoaaGreatDoor.Cl
open Go.RowKit Up Go.Sort
/-- What a world must hold: the library's variables. -/
def QC (w : World) : Prop := MaxOk w ∧ Lib.TabIs Tryz.prog w "internal/strconv.uint64pow10" .u64 Lib.pow10Tab ∧ (∃ tp p, w.var? Tryz.prog "strconv.ErrRange" = some #[.iface tp p]) ∧ ∃ tp p, w.var? Tryz.prog "strconv.ErrSyntax" = some #[.iface tp p]
theorem var_size {w : World} {n : String} {g : Nat} {cs : Array Value} (hg : Tryz.prog.globalNamed n = some g) (h : w.var? Tryz.prog n = some cs) : g < w.heap.size := by
  unfold World.var? at h
  simp only [hg, Option.bind_some] at h
  rcases Nat.lt_or_ge g w.heap.size with h1 | h1
  · exact h1
  · simp [Array.getElem?_eq_none h1] at h
theorem qc_stays : Stays QC := fun w w' ⟨h1, h2, ⟨tp, p, h3⟩, tq, q, h4⟩ hb => by
  have g2 : Tryz.prog.globalNamed "internal/strconv.uint64pow10" = some 0 := by kernel_rfl
  have g3 : Tryz.prog.globalNamed "strconv.ErrRange" = some 5 := by kernel_rfl
  have g4 : Tryz.prog.globalNamed "strconv.ErrSyntax" = some 4 := by kernel_rfl
  exact ⟨maxOk_below h1 hb, var?_below hb g2 (var_size g2 h2) h2, ⟨tp, p, var?_below hb g3 (var_size g3 h3) h3⟩, tq, q, var?_below hb g4 (var_size g4 h4) h4⟩
theorem itoa_any (n : Int) (h : In64 n) (w : World) (hq : QC w) : Calls Tryz.prog 41 #[.int .i64 n] w fun e w' => e = .returned (.string ⟨(Lib.itoa n).toArray⟩) ∧ Below w.heap.size w w' :=
  (Tryz.strconv_Itoa n h.1 h.2 w hq.2.1).mono fun _ _ ⟨h1, k, os, h2⟩ => ⟨h1, by rw [h2]; exact Lib.below_grow _ _ (Nat.le_refl _) _ _⟩
/-- How Atoi ends, in short. -/
def AtoiE (s : List UInt8) (e : Ending) : Prop := (∃ n, Lib.atoiAll s = .ok n ∧ In64 n ∧ e = .returned (.tuple #[.int .i64 n, .nilIface])) ∨ (numW s = none ∧ ∃ x T p, e = .returned (.tuple #[.int .i64 x, .iface T (.pointer p)]))
theorem atoi_any (s : List UInt8) (hl : s.length ≤ 1000000) (w : World) (hq : QC w) : Calls Tryz.prog 97 #[.string ⟨s.toArray⟩] w fun e w' => AtoiE s e ∧ Below w.heap.size w w' := by
  cases h : Lib.atoiAll s with
  | ok n =>
    refine (Tryz.strconv_Atoi_ok ⟨s.toArray⟩ (by show s.length ≤ _; omega) n h w).mono ?_
    rintro e w' ⟨rfl, hw⟩
    refine ⟨.inl ⟨n, h, atoi_in64 h, rfl⟩, ?_⟩
    rcases hw with rfl | ⟨t, rfl⟩
    · exact Below.refl _ _
    · exact Lib.bytesWorld_below _ _ _
  | «syntax» =>
    obtain ⟨_, _, _, tp, p, hv⟩ := hq
    refine (Tryz.strconv_Atoi_syntax_var ⟨s.toArray⟩ (by show s.length ≤ _; omega) h tp p w hv).mono ?_
    rintro e w' ⟨N, rfl, _, _, hb⟩
    exact ⟨.inr ⟨by unfold numW; rw [h], _, _, _, rfl⟩, hb⟩
  | range =>
    obtain ⟨_, _, ⟨tp, p, hv⟩, _⟩ := hq
    refine (Tryz.strconv_Atoi_range_var ⟨s.toArray⟩ (by show s.length ≤ _; omega) h tp p w hv).mono ?_
    rintro e w' ⟨N, rfl, _, _, hb⟩
    exact ⟨.inr ⟨by unfold numW; rw [h], _, _, _, rfl⟩, hb⟩
/-- How numberOf ends. -/
def numE (line : Int) (s : List UInt8) : Ending := match numW s with
  | some n => .returned (.int .i64 n)
  | none => cPan line 2
theorem numE_ok {s : List UInt8} {n : Int} (h : Lib.atoiAll s = .ok n) (line : Int) : (Lib.itoa n = s ∧ n.natAbs < 1000000 → numE line s = .returned (.int .i64 n)) ∧ (¬ (Lib.itoa n = s ∧ n.natAbs < 1000000) → numE line s = cPan line 2) := by
  have e : numW s = if Lib.itoa n = s ∧ n.natAbs < 1000000 then some n else none := by unfold numW; rw [h]
  constructor
  · intro c; unfold numE; rw [e, if_pos c]
  · intro c; unfold numE; rw [e, if_neg c]
attribute [local go_sem ↓] Go.wp_at_zero Go.wp_at_succ
set_option maxRecDepth 100000 in
set_option maxHeartbeats 800000 in
theorem numberOf_any (s : List UInt8) (line : Int) (hl : s.length ≤ 1000000) (w : World) (hq : QC w) :
    Calls Tryz.prog 79 #[.string ⟨s.toArray⟩, .int .i64 line] w fun e w' => e = numE line s ∧ Below w.heap.size w w' := by
  have HA := Lib.hid (atoi_any s hl w hq)
  have HQ := Lib.hid hq
  clear hq
  obtain ⟨E, hE⟩ : ∃ E, numE line s = E := ⟨_, rfl⟩
  rw [hE]
  have HE := Lib.hid hE
  clear hE
  go_enter Tryz.func79, Tryz.ntmps79
  go_wp2_with fail
  refine HA.out.mono ?_
  rintro e w1 ⟨he, hb⟩
  have HB := Lib.hid hb
  have HQ1 := Lib.hid (qc_stays _ _ HQ.out hb)
  clear hb
  rcases he with ⟨n, hok, hin, rfl⟩ | ⟨hno, x, T, p, rfl⟩
  · have HI := Lib.hid (itoa_any n hin w1 HQ1.out)
    obtain ⟨y1, y2⟩ := numE_ok hok line
    rw [HE.out] at y1 y2
    have HY1 := Lib.hid y1
    have HY2 := Lib.hid y2
    clear hok hin HA HE y1 y2
    by_cases h1 : Lib.itoa n = s
    · have d1b : (Lib.itoa n == s) = true := by rw [h1]; simp
      go_wp2_with fail
      refine HI.out.mono ?_
      rintro _ w2 ⟨rfl, hb⟩
      have HB2 := Lib.hid (HB.out.trans (hb.mono HB.out.size))
      clear hb
      go_wp2_with fail
      refine (cReq_yes _).mono ?_
      rintro _ z ⟨rfl, rfl⟩
      by_cases h2 : -999999 ≤ n
      · have d2 : decide ((-999999 : Int) ≤ n) = true := decide_eq_true h2
        by_cases h3 : n ≤ 999999
        · have d3 : decide (n ≤ 999999) = true := decide_eq_true h3
          have HF := Lib.hid (HY1.out ⟨h1, by omega⟩)
          clear h1 h2 h3 d1b
          go_wp2_with fail
          refine (cReq_yes _).mono ?_
          rintro _ z ⟨rfl, rfl⟩
          go_wp2_with fail
          go_ret
          exact ⟨by rw [HF.out]; rfl, HB2.out⟩
        · have d3 : decide (n ≤ 999999) = false := decide_eq_false h3
          have HF := Lib.hid (HY2.out fun h => h3 (by omega))
          clear h1 h2 h3 d1b
          go_wp2_with fail
          refine (cReq_no _).mono ?_
          rintro _ z ⟨rfl, rfl⟩
          go_wp2_with fail
          exact ⟨rfl, HF.out.symm, HB2.out⟩
      · have d2 : decide ((-999999 : Int) ≤ n) = false := decide_eq_false h2
        have HF := Lib.hid (HY2.out fun h => h2 (by omega))
        clear h1 h2 d1b
        go_wp2_with fail
        refine (cReq_no _).mono ?_
        rintro _ z ⟨rfl, rfl⟩
        go_wp2_with fail
        exact ⟨rfl, HF.out.symm, HB2.out⟩
    · have d1b : (Lib.itoa n == s) = false := beq_eq_false_iff_ne.2 h1
      have HF := Lib.hid (HY2.out fun h => h1 h.1)
      clear h1
      go_wp2_with fail
      refine HI.out.mono ?_
      rintro _ w2 ⟨rfl, hb⟩
      have HB2 := Lib.hid (HB.out.trans (hb.mono HB.out.size))
      clear hb
      go_wp2_with fail
      refine (cReq_no _).mono ?_
      rintro _ z ⟨rfl, rfl⟩
      go_wp2_with fail
      exact ⟨rfl, HF.out.symm, HB2.out⟩
  · have HF : Hid (E = cPan line 2) := by show _ = _; rw [← HE.out]; unfold numE; rw [hno]
    clear hno HA HE
    go_wp2_with fail
    refine (cReq_no _).mono ?_
    rintro _ z ⟨rfl, rfl⟩
    go_wp2_with fail
    exact ⟨rfl, HF.out.symm, HB.out⟩
end Go.Proofs.YtoioeekfnnoaoaaGreatDoor.Cl
