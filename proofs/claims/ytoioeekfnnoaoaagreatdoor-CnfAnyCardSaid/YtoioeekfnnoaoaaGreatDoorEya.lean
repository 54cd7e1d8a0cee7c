/- The order of literals by their variables: byVariable, walked; Norm's sort and what it leaves, plain. -/
import Derived.Test.YtoioeekfnnoaoaaGreatDoorEy
import Derived.Sort.Statements
namespace Go.Proofs.YtoioeekfnnoaoaaGreatDoor.Cl
open Go.RowKit Up
/-- How two literals compare. -/
def sgI (a b : Int) : Int := if a < b then -1 else if b < a then 1 else 0
def cfL (a b : Int) : Int := if sgI a.natAbs b.natAbs = 0 then sgI a b else sgI a.natAbs b.natAbs
theorem cfL_neg (a b : Int) : cfL a b < 0 ↔ Ahead a b := by
  unfold cfL sgI Ahead
  repeat' split
  all_goals omega
theorem cfL_dec (a b : Int) : decide (cfL a b < 0) = decide (Ahead a b) := by
  by_cases h : Ahead a b
  · rw [decide_eq_true h, decide_eq_true ((cfL_neg a b).2 h)]
  · rw [decide_eq_false h, decide_eq_false fun h2 => h ((cfL_neg a b).1 h2)]
attribute [local go_sem ↓] Go.wp_at_zero Go.wp_at_succ
set_option maxHeartbeats 400000 in
theorem cmpU_any (x y : Int) (w : World) : Calls Tryz.prog 73 #[.int .u64 x, .int .u64 y] w fun e w' => e = .returned (.int .i64 (sgI x y)) ∧ w = w' := by
  have nx : ∀ (z : Int) (u : World), Calls Tryz.prog 90 #[.int .u64 z] u fun e w' => e = .returned (.bool false) ∧ u = w' := fun z u => by
    have h : (z != z) = false := by simp
    go_enter Tryz.func90, Tryz.ntmps90
    go_wp2_with fail
    go_ret
    exact ⟨rfl, rfl⟩
  obtain ⟨R, hR⟩ : ∃ R, sgI x y = R := ⟨_, rfl⟩
  rw [hR]
  unfold sgI at hR
  by_cases h1 : x < y
  · have d1 : decide (x < y) = true := decide_eq_true h1
    have HR : Hid (R = -1) := by rw [if_pos h1] at hR; exact hR.symm
    clear hR h1
    go_enter Tryz.func73, Tryz.ntmps73
    go_wp2_with (go_at_call 90; refine (nx _ _).mono ?_; rintro _ z ⟨rfl, rfl⟩)
    go_ret
    exact ⟨by rw [HR.out]; rfl, rfl⟩
  · by_cases h2 : y < x
    · have d1 : decide (x < y) = false := decide_eq_false h1
      have d2 : decide (y < x) = true := decide_eq_true h2
      have HR : Hid (R = 1) := by rw [if_neg h1, if_pos h2] at hR; exact hR.symm
      clear hR h1 h2
      go_enter Tryz.func73, Tryz.ntmps73
      go_wp2_with (go_at_call 90; refine (nx _ _).mono ?_; rintro _ z ⟨rfl, rfl⟩)
      go_ret
      exact ⟨by rw [HR.out]; rfl, rfl⟩
    · have d1 : decide (x < y) = false := decide_eq_false h1
      have d2 : decide (y < x) = false := decide_eq_false h2
      have HR : Hid (R = 0) := by rw [if_neg h1, if_neg h2] at hR; exact hR.symm
      clear hR h1 h2
      go_enter Tryz.func73, Tryz.ntmps73
      go_wp2_with (go_at_call 90; refine (nx _ _).mono ?_; rintro _ z ⟨rfl, rfl⟩)
      go_ret
      exact ⟨by rw [HR.out]; rfl, rfl⟩
set_option maxHeartbeats 400000 in
theorem cmpI_any (x y : Int) (w : World) : Calls Tryz.prog 74 #[.int .i64 x, .int .i64 y] w fun e w' => e = .returned (.int .i64 (sgI x y)) ∧ w = w' := by
  have nx : ∀ (z : Int) (u : World), Calls Tryz.prog 91 #[.int .i64 z] u fun e w' => e = .returned (.bool false) ∧ u = w' := fun z u => by
    have h : (z != z) = false := by simp
    go_enter Tryz.func91, Tryz.ntmps91
    go_wp2_with fail
    go_ret
    exact ⟨rfl, rfl⟩
  obtain ⟨R, hR⟩ : ∃ R, sgI x y = R := ⟨_, rfl⟩
  rw [hR]
  unfold sgI at hR
  by_cases h1 : x < y
  · have d1 : decide (x < y) = true := decide_eq_true h1
    have HR : Hid (R = -1) := by rw [if_pos h1] at hR; exact hR.symm
    clear hR h1
    go_enter Tryz.func74, Tryz.ntmps74
    go_wp2_with (go_at_call 91; refine (nx _ _).mono ?_; rintro _ z ⟨rfl, rfl⟩)
    go_ret
    exact ⟨by rw [HR.out]; rfl, rfl⟩
  · by_cases h2 : y < x
    · have d1 : decide (x < y) = false := decide_eq_false h1
      have d2 : decide (y < x) = true := decide_eq_true h2
      have HR : Hid (R = 1) := by rw [if_neg h1, if_pos h2] at hR; exact hR.symm
      clear hR h1 h2
      go_enter Tryz.func74, Tryz.ntmps74
      go_wp2_with (go_at_call 91; refine (nx _ _).mono ?_; rintro _ z ⟨rfl, rfl⟩)
      go_ret
      exact ⟨by rw [HR.out]; rfl, rfl⟩
    · have d1 : decide (x < y) = false := decide_eq_false h1
      have d2 : decide (y < x) = false := decide_eq_false h2
      have HR : Hid (R = 0) := by rw [if_neg h1, if_neg h2] at hR; exact hR.symm
      clear hR h1 h2
      go_enter Tryz.func74, Tryz.ntmps74
      go_wp2_with (go_at_call 91; refine (nx _ _).mono ?_; rintro _ z ⟨rfl, rfl⟩)
      go_ret
      exact ⟨by rw [HR.out]; rfl, rfl⟩
/-- Two numbers in a block of their own. -/
def Two (b : Nat) (p q : Int) (u : World) : Prop := u.cell? ⟨b, 0, none⟩ = some (.int .i64 p) ∧ u.cell? ⟨b, 1, none⟩ = some (.int .i64 q)
theorem two_new (w : World) (T : TypeId) (p q : Int) : Two w.heap.size p q (w.alloc (.cells #[.int .i64 p, .int .i64 q] T)) := by constructor <;> (rw [World.cell?_alloc_mark]; rfl)
set_option maxHeartbeats 800000 in
theorem or2_any (p q : Int) (b : Nat) (w : World) (h : Two b p q w) : Calls Tryz.prog 72 #[.slice (some ⟨b, 0, none⟩) 2 2] w fun e w' => e = .returned (.int .i64 (if p = 0 then q else p)) ∧ w = w' := by
  obtain ⟨c0, c1⟩ := h
  obtain ⟨R, hR⟩ : ∃ R, (if p = 0 then q else p) = R := ⟨_, rfl⟩
  rw [hR]
  by_cases hp : p = 0
  · have d0 : (p != 0) = false := by simpa using hp
    have HR : Hid (R = q) := by rw [if_pos hp] at hR; exact hR.symm
    clear hR hp
    by_cases hq : q = 0
    · have d1 : (q != 0) = false := by simpa using hq
      have HQ := Lib.hid hq
      clear hq
      go_enter Tryz.func72, Tryz.ntmps72
      go_wp2_with fail
      go_loop [8] (fun i => ∃ k : Nat, k ≤ 2 ∧ i = .int .i64 k) (fun i => 2 - (intOf i).toNat)
      case atStart => exact ⟨0, Nat.zero_le _, rfl⟩
      case round =>
        obtain ⟨k, hk, rfl⟩ := hrel
        match k, hk with
        | 0, _ =>
          go_wp2_with fail
          go_round
          case rel => exact ⟨1, by omega, rfl⟩
          case measure => simp [intOf]
        | 1, _ =>
          go_wp2_with fail
          go_round
          case rel => exact ⟨2, by omega, rfl⟩
          case measure => simp [intOf]
        | 2, _ =>
          go_wp2_with fail
          go_ret
          exact ⟨by rw [HR.out, HQ.out]; rfl, rfl⟩
    · have d1 : (q != 0) = true := by simpa using hq
      clear hq
      go_enter Tryz.func72, Tryz.ntmps72
      go_wp2_with fail
      go_loop [8] (fun i => ∃ k : Nat, k ≤ 1 ∧ i = .int .i64 k) (fun i => 2 - (intOf i).toNat)
      case atStart => exact ⟨0, Nat.zero_le _, rfl⟩
      case round =>
        obtain ⟨k, hk, rfl⟩ := hrel
        match k, hk with
        | 0, _ =>
          go_wp2_with fail
          go_round
          case rel => exact ⟨1, by omega, rfl⟩
          case measure => simp [intOf]
        | 1, _ =>
          go_wp2_with fail
          go_ret
          exact ⟨by rw [HR.out]; rfl, rfl⟩
  · have d0 : (p != 0) = true := by simpa using hp
    have HR : Hid (R = p) := by rw [if_neg hp] at hR; exact hR.symm
    clear hR hp
    go_enter Tryz.func72, Tryz.ntmps72
    go_wp2_with fail
    go_loop [8] (fun i => i = .int .i64 0) (fun i => 2 - (intOf i).toNat)
    case atStart => rfl
    case round =>
      obtain rfl := hrel
      go_wp2_with fail
      go_ret
      exact ⟨by rw [HR.out]; rfl, rfl⟩
set_option maxRecDepth 100000 in
set_option maxHeartbeats 800000 in
theorem byVariable_any (x y : Int) (hx : In64 x) (hy : In64 y) (w : World) :
    Calls Tryz.prog 54 #[.int .i64 x, .int .i64 y] w fun e w' => e = .returned (.int .i64 (cfL x y)) ∧ ∃ p q : Int, w' = w.alloc (.cells #[.int .i64 p, .int .i64 q] 3) := by
  have HX := Lib.hid (fun u => variable_any x hx u)
  have HY := Lib.hid (fun u => variable_any y hy u)
  obtain ⟨a, ha⟩ : ∃ a : Nat, x.natAbs = a := ⟨_, rfl⟩
  obtain ⟨b, hb⟩ : ∃ b : Nat, y.natAbs = b := ⟨_, rfl⟩
  obtain ⟨p, hp⟩ : ∃ p, sgI a b = p := ⟨_, rfl⟩
  obtain ⟨q, hq⟩ : ∃ q, sgI x y = q := ⟨_, rfl⟩
  have HR : Hid (cfL x y = if p = 0 then q else p) := by show _ = _; unfold cfL; rw [ha, hb, hp, hq]
  rw [HR.out]
  have HC : Hid (∀ u, Calls Tryz.prog 73 #[.int .u64 (a : Int), .int .u64 (b : Int)] u fun e w' => e = .returned (.int .i64 p) ∧ u = w') := fun u => by rw [← hp]; exact cmpU_any _ _ u
  have HD : Hid (∀ u, Calls Tryz.prog 74 #[.int .i64 x, .int .i64 y] u fun e w' => e = .returned (.int .i64 q) ∧ u = w') := fun u => by rw [← hq]; exact cmpI_any _ _ u
  rw [ha] at HX
  rw [hb] at HY
  have HO := Lib.hid (or2_any p q w.heap.size _ (two_new w 3 p q))
  obtain ⟨r, hr⟩ : ∃ r, (if p = 0 then q else p) = r := ⟨_, rfl⟩
  rw [hr] at HO ⊢
  clear hx hy ha hb hp hq HR hr
  go_enter Tryz.func54, Tryz.ntmps54
  go_wp2_with fail
  refine (HX.out _).mono ?_
  rintro _ z ⟨rfl, rfl⟩
  go_wp2_with fail
  refine (HY.out _).mono ?_
  rintro _ z ⟨rfl, rfl⟩
  go_wp2_with fail
  refine (HC.out _).mono ?_
  rintro _ z ⟨rfl, rfl⟩
  go_wp2_with fail
  refine (HD.out _).mono ?_
  rintro _ z ⟨rfl, rfl⟩
  go_wp2_with fail
  refine HO.out.mono ?_
  rintro _ z ⟨rfl, rfl⟩
  go_wp2_with fail
  go_ret
  exact ⟨rfl, p, q, rfl⟩
end Go.Proofs.YtoioeekfnnoaoaaGreatDoor.Cl
