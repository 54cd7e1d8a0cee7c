/- The leaves of rng: inside, both, either, onlyFirst; where a Span begins and ends. Two cuts compared. What a bound and a Span must be; whether a Span has a version. One Span behind another; whether a Span has a version; Check. -/
import Derived.Test.YtkdildgdodnbbaaGreatDoorQi
import Derived.Test.YtkdildgdodnbbaaGreatDoorQg
import Derived.Test.YtkdildgdodnbbaaGreatDoorQb
import Derived.Test.YtkdildgdodnbbaaGreatDoorQd
import Derived.Test.YtkdildgdodnbbaaGreatDoorQe
import Derived.Deep.RegionWith
import Derived.Deep.DrawnRows
import Derived.Recover
namespace Go.Proofs.YtkdildgdodnbbaaGreatDoor
open Go.RowKit

theorem inside_any (n : Nat) (w : World) (hn : n ≤ 1000000) :
    Calls Tryz.prog 169 #[.int .i64 n] w fun e w' => e = .returned (.bool (Rm.par n false)) ∧ w = w' := by
  rw [Rm.par_mod]
  by_cases h : n % 2 = 1
  all_goals
    have h2 : ((n : Int) % 2 == 1) = decide (n % 2 = 1) := by rw [Bool.eq_iff_iff]; simp; omega
    have h0 : (0 : Int) ≤ n := by omega
    go_enter Tryz.func169, Tryz.ntmps169
    go_wp2
    go_ret
    exact ⟨by first | rfl | (rw [h2]) | simp [h], rfl⟩
theorem both_any (a b : Bool) (w : World) : Calls Tryz.prog 172 #[.bool a, .bool b] w fun e w' => e = .returned (.bool (a && b)) ∧ w = w' := by
  cases a
  all_goals
    go_enter Tryz.func172, Tryz.ntmps172
    go_wp2
    go_ret
    exact ⟨rfl, rfl⟩
theorem either_any (a b : Bool) (w : World) : Calls Tryz.prog 152 #[.bool a, .bool b] w fun e w' => e = .returned (.bool (a || b)) ∧ w = w' := by
  cases a
  all_goals
    go_enter Tryz.func152, Tryz.ntmps152
    go_wp2
    go_ret
    exact ⟨rfl, rfl⟩

/-! A cut as the program holds it: a text and a side. -/
def sideI : Rs.Cut → Int
  | .bot => -1
  | .top => 1
  | .pos _ a => if a then 1 else -1
def sLo (lo : List UInt8) (li : Bool) : Int := if lo.isEmpty || li then -1 else 1
def sHi (hi : List UInt8) (hn : Bool) : Int := if hi.isEmpty || hn then 1 else -1
theorem sLo_eq (lo : List UInt8) (li : Bool) : sLo lo li = sideI (Rs.loC lo li) ∧ Rs.txt (Rs.loC lo li) = lo := by
  unfold sLo Rs.loC
  cases h : lo.isEmpty
  · cases li <;> exact ⟨rfl, rfl⟩
  · rw [List.isEmpty_iff] at h; subst h; exact ⟨rfl, rfl⟩
theorem sHi_eq (hi : List UInt8) (hn : Bool) : sHi hi hn = sideI (Rs.hiC hi hn) ∧ Rs.txt (Rs.hiC hi hn) = hi := by
  unfold sHi Rs.hiC
  cases h : hi.isEmpty
  · cases hn <;> exact ⟨rfl, rfl⟩
  · rw [List.isEmpty_iff] at h; subst h; exact ⟨rfl, rfl⟩
theorem from_any (lo hi : List UInt8) (li hn : Bool) (w : World) :
    Calls Tryz.prog 135 #[.agg #[.string ⟨lo.toArray⟩, .string ⟨hi.toArray⟩, .bool li, .bool hn]] w fun e w' => e = .returned (.agg #[.string ⟨lo.toArray⟩, .int .i64 (sLo lo li)]) ∧ Below w.heap.size w w' := by
  unfold sLo
  cases li <;> cases h : lo.isEmpty
  all_goals
    go_enter Tryz.func135, Tryz.ntmps135
    go_wp2
    first
    | exact bodyPost_ret (v := .agg #[.string ⟨lo.toArray⟩, .int .i64 1]) (by simp [results, Tryz.results135, go_sem]) rfl ⟨rfl, ((Below.refl _ _).alloc (Nat.le_refl _) _).alloc (by simp) _⟩
    | exact bodyPost_ret (v := .agg #[.string ⟨lo.toArray⟩, .int .i64 (-1)]) (by simp [results, Tryz.results135, go_sem]) rfl ⟨rfl, ((Below.refl _ _).alloc (Nat.le_refl _) _).alloc (by simp) _⟩
theorem to_any (lo hi : List UInt8) (li hn : Bool) (w : World) :
    Calls Tryz.prog 137 #[.agg #[.string ⟨lo.toArray⟩, .string ⟨hi.toArray⟩, .bool li, .bool hn]] w fun e w' => e = .returned (.agg #[.string ⟨hi.toArray⟩, .int .i64 (sHi hi hn)]) ∧ Below w.heap.size w w' := by
  unfold sHi
  cases hn <;> cases h : hi.isEmpty
  all_goals
    go_enter Tryz.func137, Tryz.ntmps137
    go_wp2
    first
    | exact bodyPost_ret (v := .agg #[.string ⟨hi.toArray⟩, .int .i64 1]) (by simp [results, Tryz.results137, go_sem]) rfl ⟨rfl, ((Below.refl _ _).alloc (Nat.le_refl _) _).alloc (by simp) _⟩
    | exact bodyPost_ret (v := .agg #[.string ⟨hi.toArray⟩, .int .i64 (-1)]) (by simp [results, Tryz.results137, go_sem]) rfl ⟨rfl, ((Below.refl _ _).alloc (Nat.le_refl _) _).alloc (by simp) _⟩
def endI (v : List UInt8) (x : Int) : Int := if v.isEmpty then x else 0
theorem end_any (v : List UInt8) (x : Int) (w : World) :
    Calls Tryz.prog 157 #[.agg #[.string ⟨v.toArray⟩, .int .i64 x]] w fun e w' => e = .returned (.int .i64 (endI v x)) ∧ Below w.heap.size w w' := by
  unfold endI
  cases h : v.isEmpty
  all_goals
    go_enter Tryz.func157, Tryz.ntmps157
    go_wp2
    go_ret
    exact ⟨rfl, (Below.refl _ _).alloc (Nat.le_refl _) _⟩
end Go.Proofs.YtkdildgdodnbbaaGreatDoor
namespace Go.Proofs.YtkdildgdodnbbaaGreatDoor
open Go.RowKit

/-- How two cuts compare. -/
def cmpVS (v : List UInt8) (x : Int) (u : List UInt8) (y : Int) : Int := if v.isEmpty || u.isEmpty then Vm.sgn (endI v x) (endI u y) else Vm.both (Vm.cmpV v u) (Vm.sgn x y)
theorem keepC {w u u' : World} {N : Nat} {a b c d : Value} (h : u.cell? ⟨N, 0, none⟩ = some a ∧ u.cell? ⟨N, 1, none⟩ = some b ∧ u.cell? ⟨N + 1, 0, none⟩ = some c ∧ u.cell? ⟨N + 1, 1, none⟩ = some d ∧ N + 2 ≤ u.heap.size ∧ Below N w u) (hb : Below u.heap.size u u') : u'.cell? ⟨N, 0, none⟩ = some a ∧ u'.cell? ⟨N, 1, none⟩ = some b ∧ u'.cell? ⟨N + 1, 0, none⟩ = some c ∧ u'.cell? ⟨N + 1, 1, none⟩ = some d ∧ N + 2 ≤ u'.heap.size ∧ Below N w u' := by
  obtain ⟨h0, h1, h2, h3, h6, h7⟩ := h
  refine ⟨?_, ?_, ?_, ?_, Nat.le_trans h6 hb.size, h7.trans (hb.mono (by omega))⟩
  · rw [hb.cell (by simp; omega)]; exact h0
  · rw [hb.cell (by simp; omega)]; exact h1
  · rw [hb.cell (by simp; omega)]; exact h2
  · rw [hb.cell (by simp; omega)]; exact h3
theorem or2 (x y : Int) : orL [x, y] = Vm.both x y := by rw [orL, orL, orL, both_zero]
set_option maxRecDepth 100000 in
set_option maxHeartbeats 1600000 in
theorem cutCompare_any (v : List UInt8) (x : Int) (u : List UInt8) (y : Int) (w : World) (hw : MaxOk w) (h1 : v.isEmpty = false → Vm.check v = 0) (h2 : u.isEmpty = false → Vm.check u = 0) :
    Calls Tryz.prog 136 #[.agg #[.string ⟨v.toArray⟩, .int .i64 x], .agg #[.string ⟨u.toArray⟩, .int .i64 y]] w fun g w' => g = .returned (.int .i64 (cmpVS v x u y)) ∧ Below w.heap.size w w' := by
  have H1 := Lib.hid h1
  have H2 := Lib.hid h2
  have HM := Lib.hid hw
  clear h1 h2 hw
  obtain ⟨W, hW⟩ : ∃ W, (w.alloc (.cells #[.string ⟨v.toArray⟩, .int .i64 x] 163)).alloc (.cells #[.string ⟨u.toArray⟩, .int .i64 y] 163) = W := ⟨_, rfl⟩
  have hbel : Below w.heap.size w W := by rw [← hW]; exact ((Below.refl _ _).alloc (Nat.le_refl _) _).alloc (by simp) _
  have hsz : w.heap.size + 2 ≤ W.heap.size := by rw [← hW]; simp
  have hc0 : W.cell? ⟨w.heap.size, 0, none⟩ = some (.string ⟨v.toArray⟩) := by rw [← hW]; simp [go_sem]
  have hc1 : W.cell? ⟨w.heap.size, 1, none⟩ = some (.int .i64 x) := by rw [← hW]; simp [go_sem]
  have hd0 : W.cell? ⟨w.heap.size + 1, 0, none⟩ = some (.string ⟨u.toArray⟩) := by rw [← hW]; simp [go_sem]
  have hd1 : W.cell? ⟨w.heap.size + 1, 1, none⟩ = some (.int .i64 y) := by rw [← hW]; simp [go_sem]
  by_cases he : v.isEmpty = false ∧ u.isEmpty = false
  · obtain ⟨e1, e2⟩ := he
    have HX : Hid (cmpVS v x u y = Vm.both (Vm.cmpV v u) (Vm.sgn x y)) := by show _ = _; unfold cmpVS; rw [e1, e2]; rfl
    have K1 := Lib.hid (H1.out e1)
    have K2 := Lib.hid (H2.out e2)
    go_enter Tryz.func136, Tryz.ntmps136
    go_wp2_with fail
    clear hW
    go_region_held3 (fun w' => w'.cell? ⟨w.heap.size, 0, none⟩ = some (.string ⟨v.toArray⟩) ∧ w'.cell? ⟨w.heap.size, 1, none⟩ = some (.int .i64 x) ∧ w'.cell? ⟨w.heap.size + 1, 0, none⟩ = some (.string ⟨u.toArray⟩) ∧ w'.cell? ⟨w.heap.size + 1, 1, none⟩ = some (.int .i64 y) ∧ w.heap.size + 2 ≤ w'.heap.size ∧ Below w.heap.size w w')
      (first
        | exact ⟨hc0, hc1, hd0, hd1, hsz, hbel.drew⟩
        | assumption
        | (refine keepC ?_ hb; assumption)
        | (refine keepC ?_ ((Below.refl _ _).alloc (Nat.le_refl _) _); assumption))
      (first
        | (go_at_call 159; refine (compare_any v u _ ?_ K1.out K2.out).mono ?_; (go_split_ands; exact maxOk_below HM.out (by assumption)); rintro _ w1 ⟨rfl, hb⟩)
        | (go_at_call 156; refine (compareI_any x y _).mono ?_; rintro _ w1 ⟨rfl, rfl⟩)
        | (go_at_call 158; refine (cmpOr_any [_, _] _ _ _ (by simp) (cells2 _ _ _)).mono ?_; rintro _ w1 ⟨rfl, rfl⟩))
    rename_i HS
    have HB := Lib.hid HS.2.2.2.2.2
    clear HS
    go_wp2_with fail
    go_ret
    refine ⟨?_, HB.out⟩
    rw [HX.out]
    show Ending.returned (.int .i64 (orL [Vm.cmpV v u, Vm.sgn x y])) = _
    rw [or2]
  · have HX : Hid (cmpVS v x u y = Vm.sgn (endI v x) (endI u y)) := by
      show _ = _
      unfold cmpVS
      rw [if_pos (by cases h3 : v.isEmpty <;> cases h4 : u.isEmpty <;> first | rfl | exact absurd ⟨h3, h4⟩ he)]
    clear H1 H2
    cases e1 : v.isEmpty
    · have e2 : u.isEmpty = true := by cases h4 : u.isEmpty <;> first | rfl | exact absurd ⟨e1, h4⟩ he
      clear he
      go_enter Tryz.func136, Tryz.ntmps136
      go_wp2_with fail
      clear hW
      go_region_held3 (fun w' => w'.cell? ⟨w.heap.size, 0, none⟩ = some (.string ⟨v.toArray⟩) ∧ w'.cell? ⟨w.heap.size, 1, none⟩ = some (.int .i64 x) ∧ w'.cell? ⟨w.heap.size + 1, 0, none⟩ = some (.string ⟨u.toArray⟩) ∧ w'.cell? ⟨w.heap.size + 1, 1, none⟩ = some (.int .i64 y) ∧ w.heap.size + 2 ≤ w'.heap.size ∧ Below w.heap.size w w')
        (first
          | exact ⟨hc0, hc1, hd0, hd1, hsz, hbel.drew⟩
          | assumption
          | (refine keepC ?_ hb; assumption))
        (first
          | (go_at_call 157; refine (end_any _ _ _).mono ?_; rintro _ w1 ⟨rfl, hb⟩)
          | (go_at_call 156; refine (compareI_any _ _ _).mono ?_; rintro _ w1 ⟨rfl, rfl⟩))
      rename_i HS
      have HB := Lib.hid HS.2.2.2.2.2
      clear HS
      go_wp2_with fail
      go_ret
      exact ⟨by rw [HX.out]; rfl, HB.out⟩
    · clear he
      go_enter Tryz.func136, Tryz.ntmps136
      go_wp2_with fail
      clear hW
      go_region_held3 (fun w' => w'.cell? ⟨w.heap.size, 0, none⟩ = some (.string ⟨v.toArray⟩) ∧ w'.cell? ⟨w.heap.size, 1, none⟩ = some (.int .i64 x) ∧ w'.cell? ⟨w.heap.size + 1, 0, none⟩ = some (.string ⟨u.toArray⟩) ∧ w'.cell? ⟨w.heap.size + 1, 1, none⟩ = some (.int .i64 y) ∧ w.heap.size + 2 ≤ w'.heap.size ∧ Below w.heap.size w w')
        (first
          | exact ⟨hc0, hc1, hd0, hd1, hsz, hbel.drew⟩
          | assumption
          | (refine keepC ?_ hb; assumption))
        (first
          | (go_at_call 157; refine (end_any _ _ _).mono ?_; rintro _ w1 ⟨rfl, hb⟩)
          | (go_at_call 156; refine (compareI_any _ _ _).mono ?_; rintro _ w1 ⟨rfl, rfl⟩))
      rename_i HS
      have HB := Lib.hid HS.2.2.2.2.2
      clear HS
      go_wp2_with fail
      go_ret
      exact ⟨by rw [HX.out]; rfl, HB.out⟩
end Go.Proofs.YtkdildgdodnbbaaGreatDoor
namespace Go.Proofs.YtkdildgdodnbbaaGreatDoor
open Go.RowKit
attribute [local go_sem ↓] Go.wp_at_zero Go.wp_at_succ

def okOr' (k : Int) : Ending := if k = 0 then .returned (.tuple #[]) else pan k
theorem okOr_zero : okOr' 0 = .returned (.tuple #[]) := rfl
theorem okOr_ne {k : Int} (h : k ≠ 0) : okOr' k = pan k := if_neg h
theorem requireBound_any (v : List UInt8) (w : World) (hw : MaxOk w) :
    Calls Tryz.prog 134 #[.string ⟨v.toArray⟩] w fun e w' => e = okOr' (Rs.bound v) ∧ Below w.heap.size w w' := by
  have HM := Lib.hid hw
  clear hw
  cases hv : v.isEmpty
  · by_cases hc : Vm.check v = 0
    · have HK := Lib.hid hc
      have HX : Hid (canonOf v = Vm.canon v) := by show _ = _; rw [canonOf, if_pos hc]
      have HB0 : Hid (Rs.bound v = if Vm.canon v == v then 0 else 5) := by show _ = _; unfold Rs.bound; rw [hv, if_neg Bool.false_ne_true, if_pos hc]
      obtain ⟨x, hx⟩ : ∃ x, Vm.canon v = x := ⟨_, rfl⟩
      rw [hx] at HX HB0
      clear hx hc
      cases he : v == x
      · have HB : Hid (Rs.bound v = 5) := by
          show _ = _
          rw [HB0.out, show (x == v) = false from by rw [BEq.comm]; exact he]; rfl
        clear HB0
        go_enter Tryz.func134, Tryz.ntmps134
        go_wp2_with fail
        refine (canon_any v _ HM.out).mono ?_
        rintro _ w1 ⟨rfl, hb⟩
        rw [HX.out, HK.out]
        have HBL := Lib.hid hb
        clear hb
        go_wp2_with fail
        refine (require_yes _).mono ?_
        rintro _ w2 ⟨rfl, rfl⟩
        go_wp2_with fail
        refine (require_no _).mono ?_
        rintro _ w2 ⟨rfl, rfl⟩
        go_wp2_with fail
        exact ⟨rfl, by rw [HB.out]; rfl, HBL.out⟩
      · have HB : Hid (Rs.bound v = 0) := by
          show _ = _
          rw [HB0.out, show (x == v) = true from by rw [BEq.comm]; exact he]; rfl
        clear HB0
        go_enter Tryz.func134, Tryz.ntmps134
        go_wp2_with fail
        refine (canon_any v _ HM.out).mono ?_
        rintro _ w1 ⟨rfl, hb⟩
        rw [HX.out, HK.out]
        have HBL := Lib.hid hb
        clear hb
        go_wp2_with fail
        refine (require_yes _).mono ?_
        rintro _ w2 ⟨rfl, rfl⟩
        go_wp2_with fail
        refine (require_yes _).mono ?_
        rintro _ w2 ⟨rfl, rfl⟩
        go_wp2_with fail
        go_end0
        exact ⟨by rw [HB.out]; rfl, HBL.out⟩
    · have HB : Hid (Rs.bound v = Vm.check v) := by show _ = _; unfold Rs.bound; rw [hv, if_neg Bool.false_ne_true, if_neg hc]
      obtain ⟨k, hk⟩ : ∃ k, Vm.check v = k := ⟨_, rfl⟩
      rw [hk] at HB hc
      have hk0 : (k == 0) = false := beq_eq_false_iff_ne.2 hc
      have HK := Lib.hid hk
      have HC := Lib.hid hc
      clear hk hc
      go_enter Tryz.func134, Tryz.ntmps134
      go_wp2_with fail
      refine (canon_any v _ HM.out).mono ?_
      rintro _ w1 ⟨rfl, hb⟩
      rw [HK.out]
      have HBL := Lib.hid hb
      clear hb
      go_wp2_with fail
      refine (require_no _).mono ?_
      rintro _ w2 ⟨rfl, rfl⟩
      go_wp2_with fail
      exact ⟨rfl, by rw [HB.out, okOr_ne HC.out], HBL.out⟩
  · have HB : Hid (Rs.bound v = 0) := by show _ = _; unfold Rs.bound; rw [hv]; rfl
    go_enter Tryz.func134, Tryz.ntmps134
    go_wp2_with fail
    refine bodyPost_ret (results_none rfl _ _ _) rfl ?_
    exact ⟨by rw [HB.out]; rfl, Below.refl _ _⟩

/-! Two cuts in one order. -/
def CutG : Rs.Cut → Prop
  | .pos v _ => Rs.Own v
  | _ => True
theorem cutG_lo {c : Rs.Cut} (h : Rs.LoOk c) : CutG c := by cases c <;> first | trivial | exact h
theorem cutG_hi {c : Rs.Cut} (h : Rs.HiOk c) : CutG c := by cases c <;> first | trivial | exact h
theorem cutG_check {c : Rs.Cut} (h : CutG c) (h0 : (Rs.txt c).isEmpty = false) : Vm.check (Rs.txt c) = 0 := by
  cases c with
  | bot => cases h0
  | top => cases h0
  | pos v a => exact h.1
def ordI (c d : Rs.Cut) : Int := if Rm.lt Rs.Ln c d then -1 else if Rm.lt Rs.Ln d c then 1 else 0
theorem cmpVS_cut {c d : Rs.Cut} (hc : CutG c) (hd : CutG d) : cmpVS (Rs.txt c) (sideI c) (Rs.txt d) (sideI d) = ordI c d := by
  cases c with
  | bot =>
    cases d with
    | bot => rfl
    | top => rfl
    | pos u b => show (if (true || u.isEmpty) = true then _ else _) = _; rw [Bool.true_or, if_pos rfl]; show Vm.sgn (-1) (if u.isEmpty then _ else 0) = _; rw [Rs.own_ne hd]; rfl
  | top =>
    cases d with
    | bot => rfl
    | top => rfl
    | pos u b => show (if (true || u.isEmpty) = true then _ else _) = _; rw [Bool.true_or, if_pos rfl]; show Vm.sgn 1 (if u.isEmpty then _ else 0) = _; rw [Rs.own_ne hd]; rfl
  | pos v a =>
    cases d with
    | bot => show (if (v.isEmpty || true) = true then _ else _) = _; rw [Bool.or_true, if_pos rfl]; show Vm.sgn (if v.isEmpty then _ else 0) (-1) = _; rw [Rs.own_ne hc]; rfl
    | top => show (if (v.isEmpty || true) = true then _ else _) = _; rw [Bool.or_true, if_pos rfl]; show Vm.sgn (if v.isEmpty then _ else 0) 1 = _; rw [Rs.own_ne hc]; rfl
    | pos u b =>
      show (if (v.isEmpty || u.isEmpty) = true then _ else Vm.both (Vm.cmpV v u) (Vm.sgn (sideI (.pos v a)) (sideI (.pos u b)))) = ordI (.pos v a) (.pos u b)
      unfold ordI
      rw [Rs.at_lt hc hd, Rs.at_lt hd hc, Rs.own_ne hc, Rs.own_ne hd, Vm.cmpV_cmp.1 v u, Bool.or_self, if_neg Bool.false_ne_true]
      have r := Vm.cmpV_range v u
      rcases (show Vm.cmpV v u = -1 ∨ Vm.cmpV v u = 0 ∨ Vm.cmpV v u = 1 by omega) with h | h | h <;> rw [h] <;> cases a <;> cases b <;> rfl
theorem ordI_neg {c d : Rs.Cut} : decide (ordI c d < 0) = Rm.lt Rs.Ln c d := by
  unfold ordI
  cases Rm.lt Rs.Ln c d
  · cases Rm.lt Rs.Ln d c <;> rfl
  · rfl

/-! A Span that a function holds in a block of its own. -/
def Box (w : World) (b : Nat) (lo hi : List UInt8) (li hn : Bool) : Prop := w.cell? ⟨b, 0, none⟩ = some (.string ⟨lo.toArray⟩) ∧ w.cell? ⟨b, 1, none⟩ = some (.string ⟨hi.toArray⟩) ∧ w.cell? ⟨b, 2, none⟩ = some (.bool li) ∧ w.cell? ⟨b, 3, none⟩ = some (.bool hn) ∧ b < w.heap.size
theorem box_new (w : World) (lo hi : List UInt8) (li hn : Bool) (T : TypeId) : Box (w.alloc (.cells #[.string ⟨lo.toArray⟩, .string ⟨hi.toArray⟩, .bool li, .bool hn] T)) w.heap.size lo hi li hn := by
  refine ⟨?_, ?_, ?_, ?_, by simp⟩ <;> simp [go_sem]
theorem box_below {w w' : World} {b : Nat} {lo hi : List UInt8} {li hn : Bool} (h : Box w b lo hi li hn) (hb : Below w.heap.size w w') : Box w' b lo hi li hn := by
  obtain ⟨h0, h1, h2, h3, h4⟩ := h
  refine ⟨?_, ?_, ?_, ?_, Nat.lt_of_lt_of_le h4 hb.size⟩
  · rw [hb.cell (by simp; omega)]; exact h0
  · rw [hb.cell (by simp; omega)]; exact h1
  · rw [hb.cell (by simp; omega)]; exact h2
  · rw [hb.cell (by simp; omega)]; exact h3
theorem keepBox {w u u' : World} {B b : Nat} {lo hi : List UInt8} {li hn : Bool} (h : u.cell? ⟨b, 0, none⟩ = some (.string ⟨lo.toArray⟩) ∧ u.cell? ⟨b, 1, none⟩ = some (.string ⟨hi.toArray⟩) ∧ u.cell? ⟨b, 2, none⟩ = some (.bool li) ∧ u.cell? ⟨b, 3, none⟩ = some (.bool hn) ∧ b < u.heap.size ∧ B ≤ u.heap.size ∧ Below B w u) (hb : Below u.heap.size u u') : u'.cell? ⟨b, 0, none⟩ = some (.string ⟨lo.toArray⟩) ∧ u'.cell? ⟨b, 1, none⟩ = some (.string ⟨hi.toArray⟩) ∧ u'.cell? ⟨b, 2, none⟩ = some (.bool li) ∧ u'.cell? ⟨b, 3, none⟩ = some (.bool hn) ∧ b < u'.heap.size ∧ B ≤ u'.heap.size ∧ Below B w u' := by
  obtain ⟨h0, h1, h2, h3, h4, h5, h6⟩ := h
  obtain ⟨g0, g1, g2, g3, g4⟩ := box_below ⟨h0, h1, h2, h3, h4⟩ hb
  exact ⟨g0, g1, g2, g3, g4, Nat.le_trans h5 hb.size, h6.trans (hb.mono h5)⟩
theorem keepDrew {w u : World} {B b : Nat} {lo hi : List UInt8} {li hn : Bool} (h : Box u b lo hi li hn) (h5 : B ≤ u.heap.size) (h6 : Below B w u) : u.drew.cell? ⟨b, 0, none⟩ = some (.string ⟨lo.toArray⟩) ∧ u.drew.cell? ⟨b, 1, none⟩ = some (.string ⟨hi.toArray⟩) ∧ u.drew.cell? ⟨b, 2, none⟩ = some (.bool li) ∧ u.drew.cell? ⟨b, 3, none⟩ = some (.bool hn) ∧ b < u.drew.heap.size ∧ B ≤ u.drew.heap.size ∧ Below B w u.drew := by
  obtain ⟨g0, g1, g2, g3, g4⟩ := h
  exact ⟨g0, g1, g2, g3, g4, h5, h6.drew⟩
/-- A goal that a region's walk ends at. -/
theorem ends_at {P : Program} {G : Prop} {a : Act} {w : World} (h : wpAny P .any #[] (fun _ _ _ => G) 0 #[] a w) : G := h.2
/-- What a walk keeps of a Span that lies in block b. -/
def Inv (w u : World) (b : Nat) (lo hi : List UInt8) (li hn : Bool) : Prop := Box u b lo hi li hn ∧ w.heap.size ≤ u.heap.size ∧ Below w.heap.size w u
theorem inv_step {w u u' : World} {b : Nat} {lo hi : List UInt8} {li hn : Bool} (hb : Below u.heap.size u u') (h : Hid (Inv w u b lo hi li hn)) : Hid (Inv w u' b lo hi li hn) :=
  ⟨box_below h.out.1 hb, Nat.le_trans h.out.2.1 hb.size, h.out.2.2.trans (hb.mono h.out.2.1)⟩
theorem inv_max {w u : World} {b : Nat} {lo hi : List UInt8} {li hn : Bool} (hm : Hid (MaxOk w)) (h : Hid (Inv w u b lo hi li hn)) : MaxOk u := maxOk_below hm.out h.out.2.2
theorem inv_below {w u : World} {b : Nat} {lo hi : List UInt8} {li hn : Bool} (h : Hid (Inv w u b lo hi li hn)) : Below w.heap.size w u := h.out.2.2
set_option maxRecDepth 100000 in
set_option maxHeartbeats 3200000 in
theorem requireSpan_any (i : Nat) (lo hi : List UInt8) (li hn : Bool) (w : World) (hi0 : i ≤ 100000) (hw : MaxOk w) :
    Calls Tryz.prog 120 #[.int .i64 i, .agg #[.string ⟨lo.toArray⟩, .string ⟨hi.toArray⟩, .bool li, .bool hn]] w fun e w' => e = okOr' (if 64 ≤ i then 4 else Rs.span lo hi li hn) ∧ Below w.heap.size w w' := by
  have hnot : ∀ (x : Bool) (w : World), (Op.unary .not (.bool x)).run Tryz.prog w = .ok (.bool (!x)) w := fun _ _ => rfl
  have HN := Lib.hid (box_new w lo hi li hn 83)
  have HB := Lib.hid ((Below.refl w.heap.size w).alloc (Nat.le_refl _) (.cells #[.string ⟨lo.toArray⟩, .string ⟨hi.toArray⟩, .bool li, .bool hn] 83))
  have HM := Lib.hid hw
  clear hw
  obtain ⟨k, hk⟩ : ∃ k, (if 64 ≤ i then 4 else Rs.span lo hi li hn) = k := ⟨_, rfl⟩
  rw [hk]
  by_cases h64 : 64 ≤ i
  · have h1 : decide ((i : Int) < 64) = false := decide_eq_false (by omega)
    have HX : Hid (k = 4) := by show _ = _; rw [← hk, if_pos h64]
    clear hk
    go_enter Tryz.func120, Tryz.ntmps120
    go_wp2_with fail
    (with_reducible refine (require_no _).mono ?_)
    rintro _ w2 ⟨rfl, rfl⟩
    go_wp2_with fail
    exact ⟨rfl, by rw [HX.out]; rfl, HB.out⟩
  have h1 : decide ((i : Int) < 64) = true := decide_eq_true (by omega)
  have HX : Hid (k = Rs.span lo hi li hn) := by show _ = _; rw [← hk, if_neg h64]
  clear h64 hk
  go_enter Tryz.func120, Tryz.ntmps120
  go_wp2_with fail
  refine (require_yes _).mono ?_
  rintro _ w2 ⟨rfl, rfl⟩
  obtain ⟨c0, c1, c2, c3, c4⟩ := HN.out
  obtain ⟨W, hW⟩ : ∃ W, w.alloc (.cells #[.string ⟨lo.toArray⟩, .string ⟨hi.toArray⟩, .bool li, .bool hn] 83) = W := ⟨_, rfl⟩
  rw [hW] at HB c0 c1 c2 c3 c4 HN
  have hMW : MaxOk W := by rw [← hW]; exact maxOk_below HM.out ((Below.refl _ _).alloc (Nat.le_refl _) _)
  rw [hW]
  have HMW := Lib.hid hMW
  clear hW hMW
  go_wp2_with fail
  refine (requireBound_any lo _ HMW.out).mono ?_
  rintro _ w1 ⟨rfl, hb⟩
  obtain ⟨m1, b1, d1⟩ : MaxOk w1 ∧ Box w1 w.heap.size lo hi li hn ∧ Below w.heap.size w w1 := ⟨maxOk_below HMW.out hb, box_below HN.out hb, HB.out.trans (hb.mono HB.out.size)⟩
  clear hb c0 c1 c2 c3 c4 HN HB HMW
  obtain ⟨c0, c1, c2, c3, c4⟩ := b1
  have HM1 := Lib.hid m1
  have HB1 := Lib.hid d1
  have HN1 : Hid (Box w1 w.heap.size lo hi li hn) := ⟨c0, c1, c2, c3, c4⟩
  clear m1 d1
  by_cases g1 : Rs.bound lo = 0
  · rw [g1, okOr_zero]
    have G1 := Lib.hid g1
    clear g1
    go_wp2_with fail
    (with_reducible refine (requireBound_any hi _ HM1.out).mono ?_)
    rintro _ w2 ⟨rfl, hb⟩
    obtain ⟨m1, b1, d1⟩ : MaxOk w2 ∧ Box w2 w.heap.size lo hi li hn ∧ Below w.heap.size w w2 := ⟨maxOk_below HM1.out hb, box_below HN1.out hb, HB1.out.trans (hb.mono (Nat.le_of_lt c4))⟩
    clear hb c0 c1 c2 c3 c4 HN1 HB1 HM1
    have HIV : Hid (Inv w w2.drew w.heap.size lo hi li hn) := ⟨b1, Nat.le_of_lt b1.2.2.2.2, d1.drew⟩
    obtain ⟨c0, c1, c2, c3, c4⟩ := b1
    have HM1 := Lib.hid m1
    have HB1 := Lib.hid d1
    clear m1 d1
    by_cases g2 : Rs.bound hi = 0
    · rw [g2, okOr_zero]
      have G2 := Lib.hid g2
      clear g2
      by_cases q1 : (lo.isEmpty && li) = true
      · obtain ⟨e1, rfl⟩ : lo.isEmpty = true ∧ li = true := by simpa using q1
        have HY : Hid (Rs.span lo hi true hn = 1) := by show _ = _; unfold Rs.span; rw [if_neg (by simp [G1.out]), if_neg (by simp [G2.out]), e1]; rfl
        clear q1
        go_wp2_with fail
        (with_reducible refine (require_no _).mono ?_)
        rintro _ w3 ⟨rfl, rfl⟩
        go_wp2_with fail
        exact ⟨rfl, by rw [HX.out, HY.out]; rfl, HB1.out⟩
      by_cases q2 : (hi.isEmpty && hn) = true
      · obtain ⟨e2, rfl⟩ : hi.isEmpty = true ∧ hn = true := by simpa using q2
        have HY : Hid (Rs.span lo hi li true = 1) := by show _ = _; unfold Rs.span; rw [if_neg (by simp [G1.out]), if_neg (by simp [G2.out]), if_pos (by rw [e2]; simp)]
        clear q2
        cases e1 : lo.isEmpty
        · clear q1
          go_wp2_with fail
          (with_reducible refine (require_yes _).mono ?_)
          rintro _ w3 ⟨rfl, rfl⟩
          go_wp2_with fail
          (with_reducible refine (require_no _).mono ?_)
          rintro _ w3 ⟨rfl, rfl⟩
          go_wp2_with fail
          exact ⟨rfl, by rw [HX.out, HY.out]; rfl, HB1.out⟩
        · obtain rfl : li = false := by cases li <;> first | rfl | (rw [e1] at q1; exact absurd rfl q1)
          clear q1
          go_wp2_with fail
          (with_reducible refine (require_yes _).mono ?_)
          rintro _ w3 ⟨rfl, rfl⟩
          go_wp2_with fail
          (with_reducible refine (require_no _).mono ?_)
          rintro _ w3 ⟨rfl, rfl⟩
          go_wp2_with fail
          exact ⟨rfl, by rw [HX.out, HY.out]; rfl, HB1.out⟩
      have p1 : lo.isEmpty = true → li = false := fun h => by cases li <;> first | rfl | (rw [h] at q1; exact absurd rfl q1)
      have p2 : hi.isEmpty = true → hn = false := fun h => by cases hn <;> first | rfl | (rw [h] at q2; exact absurd rfl q2)
      have K1 : Hid (lo.isEmpty = false → Vm.check lo = 0) := fun h => (Rs.bound_own G1.out h).1
      have K2 : Hid (hi.isEmpty = false → Vm.check hi = 0) := fun h => (Rs.bound_own G2.out h).1
      have HQ : Hid (decide (cmpVS lo (sLo lo li) hi (sHi hi hn) < 0) = Rm.ok Rs.Ln (Rs.toP lo hi li hn)) := by
        have a1 := sLo_eq lo li
        have a2 := sHi_eq hi hn
        have := cmpVS_cut (cutG_lo (Rs.loC_ok (i := li) G1.out)) (cutG_hi (Rs.hiC_ok (i := hn) G2.out))
        rw [a1.2, a2.2, ← a1.1, ← a2.1] at this
        show _ = _
        rw [this, ordI_neg]; rfl
      have HY : Hid (Rs.span lo hi li hn = if Rm.ok Rs.Ln (Rs.toP lo hi li hn) then 0 else 7) := Rs.span_ok G1.out G2.out p1 p2
      obtain ⟨B, hB⟩ : ∃ B, Rm.ok Rs.Ln (Rs.toP lo hi li hn) = B := ⟨_, rfl⟩
      rw [hB] at HQ HY
      have e1 : lo.isEmpty = false ∨ (lo.isEmpty = true ∧ li = false) := by cases h : lo.isEmpty <;> simp; exact p1 h
      have e2 : hi.isEmpty = false ∨ (hi.isEmpty = true ∧ hn = false) := by cases h : hi.isEmpty <;> simp; exact p2 h
      clear q1 q2 p1 p2 hB
      rcases e1 with e1 | ⟨e1, rfl⟩ <;> rcases e2 with e2 | ⟨e2, rfl⟩
      · cases B
        · go_wp2_with fail
          (with_reducible refine (require_yes _).mono ?_)
          rintro _ w3 ⟨rfl, rfl⟩
          go_wp2_with fail
          (with_reducible refine (require_yes _).mono ?_)
          rintro _ w3 ⟨rfl, rfl⟩
          go_wp2_with fail
          have hq := HQ.out
          go_region_with (first
              | (go_at_call 135; refine (from_any _ _ _ _ _).mono ?_; rintro _ w4 ⟨rfl, hb⟩; have HIW := inv_step hb (by assumption); clear hb; obtain ⟨⟨k0, k1, k2, k3, _⟩, _⟩ := HIW.out)
              | (go_at_call 137; refine (to_any _ _ _ _ _).mono ?_; rintro _ w4 ⟨rfl, hb⟩; have HIW := inv_step hb (by assumption); clear hb; obtain ⟨⟨k0, k1, k2, k3, _⟩, _⟩ := HIW.out)
              | (go_at_call 136; refine (cutCompare_any _ _ _ _ _ (inv_max HM (by assumption)) K1.out K2.out).mono ?_; rintro _ w4 ⟨rfl, hb⟩; have HIW := inv_step hb (by assumption); clear hb; obtain ⟨⟨k0, k1, k2, k3, _⟩, _⟩ := HIW.out)
              | (go_at_call 55; refine (require_no _).mono ?_; rintro _ w4 ⟨rfl, rfl⟩; refine ends_at (P := Tryz.prog) (a := { tmps := #[], defers := [] }) (w := w) ?_))
          all_goals exact ⟨rfl, by rw [HX.out, HY.out]; rfl, inv_below (by assumption)⟩
        · go_wp2_with fail
          (with_reducible refine (require_yes _).mono ?_)
          rintro _ w3 ⟨rfl, rfl⟩
          go_wp2_with fail
          (with_reducible refine (require_yes _).mono ?_)
          rintro _ w3 ⟨rfl, rfl⟩
          go_wp2_with fail
          have hq := HQ.out
          show Code.wp Tryz.prog _ (bodyPost Tryz.prog Tryz.f120 (fun e w' => e = okOr' k ∧ Below w.heap.size w w')) _ _
          go_region_held3 (fun w' => w'.cell? ⟨w.heap.size, 0, none⟩ = some (.string ⟨lo.toArray⟩) ∧ w'.cell? ⟨w.heap.size, 1, none⟩ = some (.string ⟨hi.toArray⟩) ∧ w'.cell? ⟨w.heap.size, 2, none⟩ = some (.bool li) ∧ w'.cell? ⟨w.heap.size, 3, none⟩ = some (.bool hn) ∧ w.heap.size < w'.heap.size ∧ w.heap.size ≤ w'.heap.size ∧ Below w.heap.size w w')
            (first
              | exact keepDrew ⟨c0, c1, c2, c3, c4⟩ (Nat.le_of_lt c4) HB1.out
              | assumption
              | (refine keepBox ?_ hb; assumption))
            (first
              | (go_at_call 135; refine (from_any _ _ _ _ _).mono ?_; rintro _ w1 ⟨rfl, hb⟩)
              | (go_at_call 137; refine (to_any _ _ _ _ _).mono ?_; rintro _ w1 ⟨rfl, hb⟩)
              | (go_at_call 136; refine (cutCompare_any _ _ _ _ _ ?_ K1.out K2.out).mono ?_; (go_split_ands; exact maxOk_below HM.out (by assumption)); rintro _ w1 ⟨rfl, hb⟩)
              | (go_at_call 55; refine (require_yes _).mono ?_; rintro _ w1 ⟨rfl, rfl⟩))
          rename_i HS
          go_end0
          exact ⟨by rw [HX.out, HY.out]; rfl, HS.2.2.2.2.2.2⟩
      · cases B
        · go_wp2_with fail
          (with_reducible refine (require_yes _).mono ?_)
          rintro _ w3 ⟨rfl, rfl⟩
          go_wp2_with fail
          (with_reducible refine (require_yes _).mono ?_)
          rintro _ w3 ⟨rfl, rfl⟩
          go_wp2_with fail
          have hq := HQ.out
          go_region_with (first
              | (go_at_call 135; refine (from_any _ _ _ _ _).mono ?_; rintro _ w4 ⟨rfl, hb⟩; have HIW := inv_step hb (by assumption); clear hb; obtain ⟨⟨k0, k1, k2, k3, _⟩, _⟩ := HIW.out)
              | (go_at_call 137; refine (to_any _ _ _ _ _).mono ?_; rintro _ w4 ⟨rfl, hb⟩; have HIW := inv_step hb (by assumption); clear hb; obtain ⟨⟨k0, k1, k2, k3, _⟩, _⟩ := HIW.out)
              | (go_at_call 136; refine (cutCompare_any _ _ _ _ _ (inv_max HM (by assumption)) K1.out K2.out).mono ?_; rintro _ w4 ⟨rfl, hb⟩; have HIW := inv_step hb (by assumption); clear hb; obtain ⟨⟨k0, k1, k2, k3, _⟩, _⟩ := HIW.out)
              | (go_at_call 55; refine (require_no _).mono ?_; rintro _ w4 ⟨rfl, rfl⟩; refine ends_at (P := Tryz.prog) (a := { tmps := #[], defers := [] }) (w := w) ?_))
          all_goals exact ⟨rfl, by rw [HX.out, HY.out]; rfl, inv_below (by assumption)⟩
        · go_wp2_with fail
          (with_reducible refine (require_yes _).mono ?_)
          rintro _ w3 ⟨rfl, rfl⟩
          go_wp2_with fail
          (with_reducible refine (require_yes _).mono ?_)
          rintro _ w3 ⟨rfl, rfl⟩
          go_wp2_with fail
          have hq := HQ.out
          show Code.wp Tryz.prog _ (bodyPost Tryz.prog Tryz.f120 (fun e w' => e = okOr' k ∧ Below w.heap.size w w')) _ _
          go_region_held3 (fun w' => w'.cell? ⟨w.heap.size, 0, none⟩ = some (.string ⟨lo.toArray⟩) ∧ w'.cell? ⟨w.heap.size, 1, none⟩ = some (.string ⟨hi.toArray⟩) ∧ w'.cell? ⟨w.heap.size, 2, none⟩ = some (.bool li) ∧ w'.cell? ⟨w.heap.size, 3, none⟩ = some (.bool false) ∧ w.heap.size < w'.heap.size ∧ w.heap.size ≤ w'.heap.size ∧ Below w.heap.size w w')
            (first
              | exact keepDrew ⟨c0, c1, c2, c3, c4⟩ (Nat.le_of_lt c4) HB1.out
              | assumption
              | (refine keepBox ?_ hb; assumption))
            (first
              | (go_at_call 135; refine (from_any _ _ _ _ _).mono ?_; rintro _ w1 ⟨rfl, hb⟩)
              | (go_at_call 137; refine (to_any _ _ _ _ _).mono ?_; rintro _ w1 ⟨rfl, hb⟩)
              | (go_at_call 136; refine (cutCompare_any _ _ _ _ _ ?_ K1.out K2.out).mono ?_; (go_split_ands; exact maxOk_below HM.out (by assumption)); rintro _ w1 ⟨rfl, hb⟩)
              | (go_at_call 55; refine (require_yes _).mono ?_; rintro _ w1 ⟨rfl, rfl⟩))
          rename_i HS
          go_end0
          exact ⟨by rw [HX.out, HY.out]; rfl, HS.2.2.2.2.2.2⟩
      · cases B
        · go_wp2_with fail
          (with_reducible refine (require_yes _).mono ?_)
          rintro _ w3 ⟨rfl, rfl⟩
          go_wp2_with fail
          (with_reducible refine (require_yes _).mono ?_)
          rintro _ w3 ⟨rfl, rfl⟩
          go_wp2_with fail
          have hq := HQ.out
          go_region_with (first
              | (go_at_call 135; refine (from_any _ _ _ _ _).mono ?_; rintro _ w4 ⟨rfl, hb⟩; have HIW := inv_step hb (by assumption); clear hb; obtain ⟨⟨k0, k1, k2, k3, _⟩, _⟩ := HIW.out)
              | (go_at_call 137; refine (to_any _ _ _ _ _).mono ?_; rintro _ w4 ⟨rfl, hb⟩; have HIW := inv_step hb (by assumption); clear hb; obtain ⟨⟨k0, k1, k2, k3, _⟩, _⟩ := HIW.out)
              | (go_at_call 136; refine (cutCompare_any _ _ _ _ _ (inv_max HM (by assumption)) K1.out K2.out).mono ?_; rintro _ w4 ⟨rfl, hb⟩; have HIW := inv_step hb (by assumption); clear hb; obtain ⟨⟨k0, k1, k2, k3, _⟩, _⟩ := HIW.out)
              | (go_at_call 55; refine (require_no _).mono ?_; rintro _ w4 ⟨rfl, rfl⟩; refine ends_at (P := Tryz.prog) (a := { tmps := #[], defers := [] }) (w := w) ?_))
          all_goals exact ⟨rfl, by rw [HX.out, HY.out]; rfl, inv_below (by assumption)⟩
        · go_wp2_with fail
          (with_reducible refine (require_yes _).mono ?_)
          rintro _ w3 ⟨rfl, rfl⟩
          go_wp2_with fail
          (with_reducible refine (require_yes _).mono ?_)
          rintro _ w3 ⟨rfl, rfl⟩
          go_wp2_with fail
          have hq := HQ.out
          show Code.wp Tryz.prog _ (bodyPost Tryz.prog Tryz.f120 (fun e w' => e = okOr' k ∧ Below w.heap.size w w')) _ _
          go_region_held3 (fun w' => w'.cell? ⟨w.heap.size, 0, none⟩ = some (.string ⟨lo.toArray⟩) ∧ w'.cell? ⟨w.heap.size, 1, none⟩ = some (.string ⟨hi.toArray⟩) ∧ w'.cell? ⟨w.heap.size, 2, none⟩ = some (.bool false) ∧ w'.cell? ⟨w.heap.size, 3, none⟩ = some (.bool hn) ∧ w.heap.size < w'.heap.size ∧ w.heap.size ≤ w'.heap.size ∧ Below w.heap.size w w')
            (first
              | exact keepDrew ⟨c0, c1, c2, c3, c4⟩ (Nat.le_of_lt c4) HB1.out
              | assumption
              | (refine keepBox ?_ hb; assumption))
            (first
              | (go_at_call 135; refine (from_any _ _ _ _ _).mono ?_; rintro _ w1 ⟨rfl, hb⟩)
              | (go_at_call 137; refine (to_any _ _ _ _ _).mono ?_; rintro _ w1 ⟨rfl, hb⟩)
              | (go_at_call 136; refine (cutCompare_any _ _ _ _ _ ?_ K1.out K2.out).mono ?_; (go_split_ands; exact maxOk_below HM.out (by assumption)); rintro _ w1 ⟨rfl, hb⟩)
              | (go_at_call 55; refine (require_yes _).mono ?_; rintro _ w1 ⟨rfl, rfl⟩))
          rename_i HS
          go_end0
          exact ⟨by rw [HX.out, HY.out]; rfl, HS.2.2.2.2.2.2⟩
      · cases B
        · go_wp2_with fail
          (with_reducible refine (require_yes _).mono ?_)
          rintro _ w3 ⟨rfl, rfl⟩
          go_wp2_with fail
          (with_reducible refine (require_yes _).mono ?_)
          rintro _ w3 ⟨rfl, rfl⟩
          go_wp2_with fail
          have hq := HQ.out
          go_region_with (first
              | (go_at_call 135; refine (from_any _ _ _ _ _).mono ?_; rintro _ w4 ⟨rfl, hb⟩; have HIW := inv_step hb (by assumption); clear hb; obtain ⟨⟨k0, k1, k2, k3, _⟩, _⟩ := HIW.out)
              | (go_at_call 137; refine (to_any _ _ _ _ _).mono ?_; rintro _ w4 ⟨rfl, hb⟩; have HIW := inv_step hb (by assumption); clear hb; obtain ⟨⟨k0, k1, k2, k3, _⟩, _⟩ := HIW.out)
              | (go_at_call 136; refine (cutCompare_any _ _ _ _ _ (inv_max HM (by assumption)) K1.out K2.out).mono ?_; rintro _ w4 ⟨rfl, hb⟩; have HIW := inv_step hb (by assumption); clear hb; obtain ⟨⟨k0, k1, k2, k3, _⟩, _⟩ := HIW.out)
              | (go_at_call 55; refine (require_no _).mono ?_; rintro _ w4 ⟨rfl, rfl⟩; refine ends_at (P := Tryz.prog) (a := { tmps := #[], defers := [] }) (w := w) ?_))
          all_goals exact ⟨rfl, by rw [HX.out, HY.out]; rfl, inv_below (by assumption)⟩
        · go_wp2_with fail
          (with_reducible refine (require_yes _).mono ?_)
          rintro _ w3 ⟨rfl, rfl⟩
          go_wp2_with fail
          (with_reducible refine (require_yes _).mono ?_)
          rintro _ w3 ⟨rfl, rfl⟩
          go_wp2_with fail
          have hq := HQ.out
          show Code.wp Tryz.prog _ (bodyPost Tryz.prog Tryz.f120 (fun e w' => e = okOr' k ∧ Below w.heap.size w w')) _ _
          go_region_held3 (fun w' => w'.cell? ⟨w.heap.size, 0, none⟩ = some (.string ⟨lo.toArray⟩) ∧ w'.cell? ⟨w.heap.size, 1, none⟩ = some (.string ⟨hi.toArray⟩) ∧ w'.cell? ⟨w.heap.size, 2, none⟩ = some (.bool false) ∧ w'.cell? ⟨w.heap.size, 3, none⟩ = some (.bool false) ∧ w.heap.size < w'.heap.size ∧ w.heap.size ≤ w'.heap.size ∧ Below w.heap.size w w')
            (first
              | exact keepDrew ⟨c0, c1, c2, c3, c4⟩ (Nat.le_of_lt c4) HB1.out
              | assumption
              | (refine keepBox ?_ hb; assumption))
            (first
              | (go_at_call 135; refine (from_any _ _ _ _ _).mono ?_; rintro _ w1 ⟨rfl, hb⟩)
              | (go_at_call 137; refine (to_any _ _ _ _ _).mono ?_; rintro _ w1 ⟨rfl, hb⟩)
              | (go_at_call 136; refine (cutCompare_any _ _ _ _ _ ?_ K1.out K2.out).mono ?_; (go_split_ands; exact maxOk_below HM.out (by assumption)); rintro _ w1 ⟨rfl, hb⟩)
              | (go_at_call 55; refine (require_yes _).mono ?_; rintro _ w1 ⟨rfl, rfl⟩))
          rename_i HS
          go_end0
          exact ⟨by rw [HX.out, HY.out]; rfl, HS.2.2.2.2.2.2⟩
    · rw [okOr_ne g2]
      have HY : Hid (Rs.span lo hi li hn = Rs.bound hi) := by show _ = _; unfold Rs.span; rw [if_neg (by simp [G1.out]), if_pos g2]
      have G2 := Lib.hid g2
      clear g2
      go_wp2_with fail
      exact ⟨rfl, by rw [HX.out, HY.out, okOr_ne G2.out], HB1.out⟩
  · rw [okOr_ne g1]
    have HY : Hid (Rs.span lo hi li hn = Rs.bound lo) := by show _ = _; unfold Rs.span; rw [if_pos g1]
    have G1 := Lib.hid g1
    clear g1
    go_wp2_with fail
    exact ⟨rfl, by rw [HX.out, HY.out, okOr_ne G1.out], HB1.out⟩
end Go.Proofs.YtkdildgdodnbbaaGreatDoor
namespace Go.Proofs.YtkdildgdodnbbaaGreatDoor
open Go.RowKit
attribute [local go_sem ↓] Go.wp_at_zero Go.wp_at_succ

/-- What later calls leave as it is. -/
def Stable (A : World → Prop) : Prop := ∀ u u' : World, A u → Below u.heap.size u u' → A u'
def Kp (A : World → Prop) (w u : World) : Prop := A u ∧ w.heap.size ≤ u.heap.size ∧ Below w.heap.size w u
theorem kp_step {A : World → Prop} {w u u' : World} (hA : Stable A) (hb : Below u.heap.size u u') (h : Hid (Kp A w u)) : Hid (Kp A w u') :=
  ⟨hA _ _ h.out.1 hb, Nat.le_trans h.out.2.1 hb.size, h.out.2.2.trans (hb.mono h.out.2.1)⟩
theorem kp_max {A : World → Prop} {w u : World} (hm : Hid (MaxOk w)) (h : Hid (Kp A w u)) : MaxOk u := maxOk_below hm.out h.out.2.2
theorem kp_below {A : World → Prop} {w u : World} (h : Hid (Kp A w u)) : Below w.heap.size w u := h.out.2.2
theorem kp_drew {A : World → Prop} {w u : World} (hA : Stable A) (h : Hid (Kp A w u)) : Hid (Kp A w u.drew) := kp_step hA (Below.refl _ _).drew h
theorem box_stable (b : Nat) (lo hi : List UInt8) (li hn : Bool) : Stable (fun u => Box u b lo hi li hn) := fun _ _ h hb => box_below h hb
theorem and_stable {A B : World → Prop} (hA : Stable A) (hB : Stable B) : Stable (fun u => A u ∧ B u) := fun _ _ h hb => ⟨hA _ _ h.1 hb, hB _ _ h.2 hb⟩
def Box2 (w u : World) (lo hi : List UInt8) (li hn : Bool) (lo' hi' : List UInt8) (li' hn' : Bool) : Prop := Box u w.heap.size lo hi li hn ∧ Box u (w.heap.size + 1) lo' hi' li' hn'
theorem box2_stable (w : World) (lo hi : List UInt8) (li hn : Bool) (lo' hi' : List UInt8) (li' hn' : Bool) : Stable (fun u => Box2 w u lo hi li hn lo' hi' li' hn') := and_stable (box_stable _ _ _ _ _) (box_stable _ _ _ _ _)
theorem box2_new (w : World) (T : TypeId) (lo hi : List UInt8) (li hn : Bool) (lo' hi' : List UInt8) (li' hn' : Bool) :
    Hid (Kp (fun u => Box2 w u lo hi li hn lo' hi' li' hn') w ((w.alloc (.cells #[.string ⟨lo.toArray⟩, .string ⟨hi.toArray⟩, .bool li, .bool hn] T)).alloc (.cells #[.string ⟨lo'.toArray⟩, .string ⟨hi'.toArray⟩, .bool li', .bool hn'] T))) := by
  refine ⟨⟨box_below (box_new ..) ((Below.refl _ _).alloc (Nat.le_refl _) _), ?_⟩, by simp; omega, ((Below.refl _ _).alloc (Nat.le_refl _) _).alloc (by simp) _⟩
  have := box_new (w.alloc (.cells #[.string ⟨lo.toArray⟩, .string ⟨hi.toArray⟩, .bool li, .bool hn] T)) lo' hi' li' hn' T
  rw [show (w.alloc (.cells #[.string ⟨lo.toArray⟩, .string ⟨hi.toArray⟩, .bool li, .bool hn] T)).heap.size = w.heap.size + 1 from by simp] at this
  exact this
def afterI (phi : List UInt8) (phn : Bool) (slo : List UInt8) (sli : Bool) : Int := if Rm.lt Rs.Ln (Rs.hiC phi phn) (Rs.loC slo sli) then 0 else 7
set_option maxRecDepth 100000 in
set_option maxHeartbeats 3200000 in
theorem requireAfter_any (slo shi : List UInt8) (sli shn : Bool) (plo phi : List UInt8) (pli phn : Bool) (w : World) (hw : MaxOk w) (h1 : Rs.bound slo = 0) (h2 : Rs.bound phi = 0) :
    Calls Tryz.prog 121 #[.agg #[.string ⟨slo.toArray⟩, .string ⟨shi.toArray⟩, .bool sli, .bool shn], .agg #[.string ⟨plo.toArray⟩, .string ⟨phi.toArray⟩, .bool pli, .bool phn]] w fun e w' => e = okOr' (afterI phi phn slo sli) ∧ Below w.heap.size w w' := by
  have HM := Lib.hid hw
  have HST : Stable (fun u => Box2 w u slo shi sli shn plo phi pli phn) := box2_stable w _ _ _ _ _ _ _ _
  have HI := box2_new w 83 slo shi sli shn plo phi pli phn
  have K1 : Hid (slo.isEmpty = false → Vm.check slo = 0) := fun h => (Rs.bound_own h1 h).1
  have K2 : Hid (phi.isEmpty = false → Vm.check phi = 0) := fun h => (Rs.bound_own h2 h).1
  have HQ : Hid (decide (cmpVS phi (sHi phi phn) slo (sLo slo sli) < 0) = Rm.lt Rs.Ln (Rs.hiC phi phn) (Rs.loC slo sli)) := by
    have a1 := sLo_eq slo sli
    have a2 := sHi_eq phi phn
    have := cmpVS_cut (cutG_hi (Rs.hiC_ok (i := phn) h2)) (cutG_lo (Rs.loC_ok (i := sli) h1))
    rw [a1.2, a2.2, ← a1.1, ← a2.1] at this
    show _ = _
    rw [this, ordI_neg]
  obtain ⟨k, hk⟩ : ∃ k, afterI phi phn slo sli = k := ⟨_, rfl⟩
  have HX : Hid (k = if Rm.lt Rs.Ln (Rs.hiC phi phn) (Rs.loC slo sli) then 0 else 7) := hk.symm
  rw [hk]
  obtain ⟨B, hB⟩ : ∃ B, Rm.lt Rs.Ln (Rs.hiC phi phn) (Rs.loC slo sli) = B := ⟨_, rfl⟩
  rw [hB] at HQ HX
  clear hw h1 h2 hk hB
  obtain ⟨W, hW⟩ : ∃ W, (w.alloc (.cells #[.string ⟨slo.toArray⟩, .string ⟨shi.toArray⟩, .bool sli, .bool shn] 83)).alloc (.cells #[.string ⟨plo.toArray⟩, .string ⟨phi.toArray⟩, .bool pli, .bool phn] 83) = W := ⟨_, rfl⟩
  rw [hW] at HI
  have HI' := kp_drew HST HI
  obtain ⟨⟨⟨c0, c1, c2, c3, _⟩, ⟨d0, d1, d2, d3, _⟩⟩, _⟩ := HI.out
  cases B
  · go_enter Tryz.func121, Tryz.ntmps121
    go_wp2_with fail
    clear hW
    have hq := HQ.out
    go_region_with (first
        | (go_at_call 135; refine (from_any _ _ _ _ _).mono ?_; rintro _ w4 ⟨rfl, hb⟩; have HIW := kp_step HST hb (by assumption); clear hb; obtain ⟨⟨⟨c0, c1, c2, c3, _⟩, ⟨d0, d1, d2, d3, _⟩⟩, _⟩ := HIW.out)
        | (go_at_call 137; refine (to_any _ _ _ _ _).mono ?_; rintro _ w4 ⟨rfl, hb⟩; have HIW := kp_step HST hb (by assumption); clear hb; obtain ⟨⟨⟨c0, c1, c2, c3, _⟩, ⟨d0, d1, d2, d3, _⟩⟩, _⟩ := HIW.out)
        | (go_at_call 136; refine (cutCompare_any _ _ _ _ _ (kp_max HM (by assumption)) K2.out K1.out).mono ?_; rintro _ w4 ⟨rfl, hb⟩; have HIW := kp_step HST hb (by assumption); clear hb)
        | (go_at_call 55; refine (require_no _).mono ?_; rintro _ w4 ⟨rfl, rfl⟩; refine ends_at (P := Tryz.prog) (a := { tmps := #[], defers := [] }) (w := w) ?_))
    all_goals exact ⟨rfl, by rw [HX.out]; rfl, kp_below (by assumption)⟩
  · go_enter Tryz.func121, Tryz.ntmps121
    go_wp2_with fail
    clear hW
    have hq := HQ.out
    go_region_with (first
        | (go_at_call 135; refine (from_any _ _ _ _ _).mono ?_; rintro _ w4 ⟨rfl, hb⟩; have HIW := kp_step HST hb (by assumption); clear hb; obtain ⟨⟨⟨c0, c1, c2, c3, _⟩, ⟨d0, d1, d2, d3, _⟩⟩, _⟩ := HIW.out)
        | (go_at_call 137; refine (to_any _ _ _ _ _).mono ?_; rintro _ w4 ⟨rfl, hb⟩; have HIW := kp_step HST hb (by assumption); clear hb; obtain ⟨⟨⟨c0, c1, c2, c3, _⟩, ⟨d0, d1, d2, d3, _⟩⟩, _⟩ := HIW.out)
        | (go_at_call 136; refine (cutCompare_any _ _ _ _ _ (kp_max HM (by assumption)) K2.out K1.out).mono ?_; rintro _ w4 ⟨rfl, hb⟩; have HIW := kp_step HST hb (by assumption); clear hb)
        | (go_at_call 55; refine (require_yes _).mono ?_; rintro _ w4 ⟨rfl, rfl⟩))
    all_goals
      go_end0
      exact ⟨by rw [HX.out]; rfl, kp_below (by assumption)⟩
end Go.Proofs.YtkdildgdodnbbaaGreatDoor
