/- The program's parse and Parse. -/
import Derived.Test.YtaghhdgiegcimaaDoorWk
import Derived.Test.YtaghhdgiegcimaaDoorVj
namespace Go.Proofs.YtaghhdgiegcimaaDoor
open Go.RowKit

/-- The texts that are no products, and their words. -/
def litW (l : List UInt8) : Option Nat :=
  if l = [105, 110, 102] then some 9218868437227405312 else if l = [45, 105, 110, 102] then some 18442240474082181120
  else if l = [110, 97, 110] then some 9221120237041090561 else if l = [48] then some 0 else if l = [45, 48] then some 9223372036854775808 else none
def errW (l : List UInt8) : Int := if (litW l).isSome then 0 else prodErr l
/-- What Parse hands back beside the error. -/
def valW (l : List UInt8) : Nat := (litW l).getD (prodOf l)
theorem lit_cases (l : List UInt8) : l = [105, 110, 102] ∨ l = [45, 105, 110, 102] ∨ l = [110, 97, 110] ∨ l = [48] ∨ l = [45, 48] ∨
    ((l == [105, 110, 102]) = false ∧ (l == [45, 105, 110, 102]) = false ∧ (l == [110, 97, 110]) = false ∧ (l == [48]) = false ∧ (l == [45, 48]) = false ∧ errW l = prodErr l ∧ valW l = prodOf l) := by
  by_cases h1 : l = [105, 110, 102]
  · exact Or.inl h1
  by_cases h2 : l = [45, 105, 110, 102]
  · exact Or.inr (Or.inl h2)
  by_cases h3 : l = [110, 97, 110]
  · exact Or.inr (Or.inr (Or.inl h3))
  by_cases h4 : l = [48]
  · exact Or.inr (Or.inr (Or.inr (Or.inl h4)))
  by_cases h5 : l = [45, 48]
  · exact Or.inr (Or.inr (Or.inr (Or.inr (Or.inl h5))))
  have hl : litW l = none := by unfold litW; rw [if_neg h1, if_neg h2, if_neg h3, if_neg h4, if_neg h5]
  refine Or.inr (Or.inr (Or.inr (Or.inr (Or.inr ⟨?_, ?_, ?_, ?_, ?_, ?_, ?_⟩))))
  · exact beq_eq_false_iff_ne.2 h1
  · exact beq_eq_false_iff_ne.2 h2
  · exact beq_eq_false_iff_ne.2 h3
  · exact beq_eq_false_iff_ne.2 h4
  · exact beq_eq_false_iff_ne.2 h5
  · unfold errW; rw [hl]; rfl
  · unfold valW; rw [hl]; rfl
def parseEnd (l : List UInt8) : Ending := if errW l = 0 then .returned (.float .f64 (valW l)) else pan (errW l)
set_option maxHeartbeats 2000000 in
theorem parseW_any (l : List UInt8) (hl : l.length ≤ 200) (w : World) (hk : KOk w) :
    Calls Tryd.prog 65 #[.string ⟨l.toArray⟩] w fun e w' => e = parseEnd l ∧ Below w.heap.size w w' := by
  rcases lit_cases l with rfl | rfl | rfl | rfl | rfl | ⟨h1, h2, h3, h4, h5, he, hv⟩
  · go_enter Tryd.func65, Tryd.ntmps65
    go_wp2_with fail
    refine (inf_any _ _).mono ?_
    rintro e w1 ⟨g1, g2⟩; subst g2; subst g1
    go_wp2_with fail
    go_ret
    exact ⟨rfl, Below.refl _ _⟩
  · go_enter Tryd.func65, Tryd.ntmps65
    go_wp2_with fail
    refine (inf_any _ _).mono ?_
    rintro e w1 ⟨g1, g2⟩; subst g2; subst g1
    go_wp2_with fail
    go_ret
    exact ⟨rfl, Below.refl _ _⟩
  · go_enter Tryd.func65, Tryd.ntmps65
    go_wp2_with fail
    refine (nan_any _).mono ?_
    rintro e w1 ⟨g1, g2⟩; subst g2; subst g1
    go_wp2_with fail
    go_ret
    exact ⟨rfl, Below.refl _ _⟩
  · go_enter Tryd.func65, Tryd.ntmps65
    go_wp2_with fail
    go_ret
    exact ⟨rfl, Below.refl _ _⟩
  · go_enter Tryd.func65, Tryd.ntmps65
    go_wp2_with fail
    refine (copysign_any _ _ (by decide) (by decide) _).mono ?_
    rintro e w1 ⟨g1, g2⟩; subst g2; subst g1
    go_wp2_with fail
    go_ret
    exact ⟨rfl, Below.refl _ _⟩
  · have HV : Hid (parseEnd l = prodEnd l) := by show _ = _; unfold parseEnd prodEnd; rw [he, hv]
    clear he hv
    go_enter Tryd.func65, Tryd.ntmps65
    go_wp2_with fail
    refine (parseProduct_any l hl _ hk).mono ?_
    rintro e w1 ⟨g1, g2⟩; subst g1
    by_cases h0 : prodErr l = 0
    · have e1 : prodEnd l = .returned (.float .f64 (prodOf l)) := if_pos h0
      rw [e1] at HV
      rw [e1]
      clear e1 h0
      go_wp2_with fail
      go_ret
      exact ⟨HV.out.symm, g2⟩
    · have e1 : prodEnd l = pan (prodErr l) := if_neg h0
      rw [e1] at HV
      rw [e1]
      clear e1 h0
      go_wp2_with fail
      exact ⟨rfl, HV.out.symm, g2⟩
theorem parseW_yes (l : List UInt8) (hl : l.length ≤ 200) (w : World) (hk : KOk w) (h : errW l = 0) :
    Calls Tryd.prog 65 #[.string ⟨l.toArray⟩] w fun e w' => e = .returned (.float .f64 (valW l)) ∧ Below w.heap.size w w' := by
  have := parseW_any l hl w hk
  unfold parseEnd at this
  rwa [if_pos h] at this
theorem parseW_no (l : List UInt8) (hl : l.length ≤ 200) (w : World) (hk : KOk w) (h : errW l ≠ 0) :
    Calls Tryd.prog 65 #[.string ⟨l.toArray⟩] w fun e w' => e = pan (errW l) ∧ Below w.heap.size w w' := by
  have := parseW_any l hl w hk
  unfold parseEnd at this
  rwa [if_neg h] at this
theorem parse1_panic (p : Addr) (x : Int) (n : Int) (w : World) (hc : w.cell? p = some (.int .i64 x)) (hz : w.frozen? p = false) :
    CallsD Tryd.prog 64 #[.pointer (some p)] (.panicking [{ v := .iface 23 (.int .i64 n), recovered := false }]) w fun e u' w' =>
      e = .returned (.tuple #[]) ∧ u' = .panicking [{ v := .iface 23 (.int .i64 n), recovered := true }] ∧ w' = w.setCell p (.int .i64 n) := by
  refine callsD_of_wpS Tryd.func64 rfl fun c₀ cs hu => ?_
  apply wpS_region
  simp [wpOpsS, go_sem, recoverD, hu, Tryd.ntmps64]
  refine (raised_err n _).mono ?_
  rintro e w' ⟨rfl, rfl⟩
  simp [go_sem, hc, hz, bodyPostS, results, Tryd.results64]
theorem parse1_idle (p : Addr) (x : Int) (w : World) (hc : w.cell? p = some (.int .i64 x)) (hz : w.frozen? p = false) :
    CallsD Tryd.prog 64 #[.pointer (some p)] .returning w fun e u' w' => e = .returned (.tuple #[]) ∧ u' = .returning ∧ w' = w.setCell p (.int .i64 0) := by
  refine callsD_of_wpS Tryd.func64 rfl fun c₀ cs hu => ?_
  apply wpS_region
  simp [wpOpsS, go_sem, recoverD, hu, Tryd.ntmps64]
  refine (raised_nil _).mono ?_
  rintro e w' ⟨rfl, rfl⟩
  cases c₀
  simp_all [go_sem, bodyPostS, results, Tryd.results64]
/-- What Parse hands back beside the error: 0 beside one. -/
def outW (l : List UInt8) : Nat := if errW l = 0 then valW l else 0
set_option maxHeartbeats 800000 in
theorem parse_w (l : List UInt8) (hl : l.length ≤ 200) (w : World) (hw : KOk w) :
    Calls Tryd.prog 30 #[.string ⟨l.toArray⟩] w fun e w' => e = .returned (.tuple #[.float .f64 (outW l), .int .i64 (errW l)]) ∧ Below w.heap.size w w' := by
  have hmf : ∀ (fn : Fn) (first cap : Array Value) (w : World), (Instr.makeFunc fn first cap).run Tryd.prog w = .ok (.func fn first cap) w := fun _ _ _ _ => rfl
  have hM : KOk (w.alloc (.cells #[.int .i64 0] 23)) := kOk_below hw ((Below.refl _ _).alloc (Nat.le_refl _) _)
  have HM := Lib.hid hM
  clear hw hM
  by_cases h : errW l = 0
  · have H := Lib.hid h
    have HC : Hid (outW l = valW l) := by show _ = _; rw [outW, if_pos h]
    clear h
    go_enter_defers Tryd.func30, Tryd.ntmps30
    go_wp2_with fail
    refine (parseW_yes l hl _ HM.out H.out).mono ?_
    rintro e w2 ⟨rfl, hb⟩
    have hb2 : Below (w.heap.size + 1) (w.alloc (.cells #[.int .i64 0] 23)) w2 := by simpa using hb
    obtain ⟨hcell, hfro⟩ := cell_int w w2 _ _ hb2
    have HB2 := Lib.hid hb2
    clear hb hb2
    go_wp2_with fail
    refine leaves_cons (f := 64) (args := #[.pointer (some ⟨w.heap.size, 0, none⟩)]) (by simp) (by simp [go_sem]) ?_
    refine (parse1_idle ⟨w.heap.size, 0, none⟩ 0 _ ?_ ?_).mono ?_
    · simp [go_sem, hcell]
    · simp [go_sem, hfro]
    rintro e u' w3 ⟨rfl, rfl, rfl⟩
    simp [Leaves, settle, results, Tryd.results30, go_sem, hcell]
    exact ⟨⟨by rw [HC.out], H.out.symm⟩, ((below_new HB2.out).setCell (Nat.le_refl _) _).setCell (Nat.le_refl _) _⟩
  · have H := Lib.hid h
    have HC : Hid (outW l = 0) := by show _ = _; rw [outW, if_neg h]
    clear h
    go_enter_defers Tryd.func30, Tryd.ntmps30
    go_wp2_with fail
    refine (parseW_no l hl _ HM.out H.out).mono ?_
    rintro e w1 ⟨rfl, hb⟩
    have hb1 : Below (w.heap.size + 1) (w.alloc (.cells #[.int .i64 0] 23)) w1 := by simpa using hb
    obtain ⟨hcell, hfro⟩ := cell_int w w1 _ _ hb1
    have HB := Lib.hid hb1
    clear hb hb1
    go_wp2_with fail
    refine leaves_cons (f := 64) (args := #[.pointer (some ⟨w.heap.size, 0, none⟩)]) (by simp) (by simp [go_sem]) ?_
    refine (parse1_panic ⟨w.heap.size, 0, none⟩ 0 _ _ ?_ ?_).mono ?_
    · simp [go_sem, hcell]
    · simp [go_sem, hfro]
    rintro e u' w2 ⟨rfl, rfl, rfl⟩
    simp [Leaves, settle, results, Tryd.results30, go_sem, hcell]
    exact ⟨by rw [HC.out], (below_new HB.out).setCell (Nat.le_refl _) _⟩
end Go.Proofs.YtaghhdgiegcimaaDoor
