/- Clauses at truths: variable, isTrue, Holds, First; rows of clauses compared: walked. -/
import Derived.Test.YtoioeekfnnoaoaaGreatDoorEm
namespace Go.Proofs.YtoioeekfnnoaoaaGreatDoor.Cl
open Go.RowKit Up
attribute [local go_sem ↓] Go.wp_at_zero Go.wp_at_succ
theorem u64_neg {x : Int} (h : In64 x) (h0 : x < 0) : IntKind.u64.wrap x = x + 18446744073709551616 ∧ IntKind.u64.wrap (-(x + 18446744073709551616)) = (x.natAbs : Int) := by
  unfold In64 at h
  constructor <;> simp [IntKind.wrap, IntKind.bits, IntKind.signed] <;> omega
theorem u64_pos {x : Int} (h : In64 x) (h0 : ¬ x < 0) : IntKind.u64.wrap x = (x.natAbs : Int) := by
  unfold In64 at h
  simp [IntKind.wrap, IntKind.bits, IntKind.signed]; omega
theorem u64_in {x : Int} (h0 : 0 ≤ x) (h1 : x < 18446744073709551616) : IntKind.u64.wrap x = x := by
  simp [IntKind.wrap, IntKind.bits, IntKind.signed]; omega
set_option maxHeartbeats 400000 in
theorem variable_any (x : Int) (hx : In64 x) (w : World) : Calls Tryz.prog 56 #[.int .i64 x] w fun e w' => e = .returned (.int .u64 (x.natAbs : Int)) ∧ w = w' := by
  obtain ⟨a, ha⟩ : ∃ a : Nat, x.natAbs = a := ⟨_, rfl⟩
  rw [ha]
  by_cases h0 : x < 0
  · obtain ⟨h1, h2⟩ := u64_neg hx h0
    rw [ha] at h2
    obtain ⟨y, hy⟩ : ∃ y : Int, x + 18446744073709551616 = y := ⟨_, rfl⟩
    rw [hy] at h1 h2
    have h3 : IntKind.u64.wrap (0 - y) = (a : Int) := by rw [Int.zero_sub]; exact h2
    have d : decide (x < 0) = true := decide_eq_true h0
    clear hx ha h0 hy
    go_enter Tryz.func56, Tryz.ntmps56
    go_wp2_with fail
    go_ret
    exact ⟨rfl, rfl⟩
  · have h1 := u64_pos hx h0
    rw [ha] at h1
    have d : decide (x < 0) = false := decide_eq_false h0
    clear hx ha h0
    go_enter Tryz.func56, Tryz.ntmps56
    go_wp2_with fail
    go_ret
    exact ⟨rfl, rfl⟩
/-- A literal's truth by its variable. -/
theorem holds_none {k : List Bool} {x : Int} (h : x.natAbs = 0 ∨ k.length < x.natAbs) : holdsL k x = false := by
  unfold holdsL
  have h1 : (decide (1 ≤ x) && decide (x ≤ (k.length : Int))) = false := by simp; omega
  have h2 : (decide (x ≤ -1) && decide (-(k.length : Int) ≤ x)) = false := by simp; omega
  rw [h1, h2]; rfl
theorem holds_some {k : List Bool} {x : Int} {p : Nat} (hp : p + 1 = x.natAbs) (hk : p < k.length) : holdsL k x = (k[p] == decide (0 < x)) := by
  unfold holdsL
  by_cases h0 : 0 < x
  · have h1 : (decide (1 ≤ x) && decide (x ≤ (k.length : Int))) = true := by simp; omega
    have h2 : decide (x ≤ -1) = false := decide_eq_false (by omega)
    have h3 : (x - 1).toNat = p := by omega
    rw [h1, h2, h3, getD_at hk, decide_eq_true h0]
    cases k[p] <;> rfl
  · have h1 : decide (1 ≤ x) = false := decide_eq_false (by omega)
    have h2 : (decide (x ≤ -1) && decide (-(k.length : Int) ≤ x)) = true := by simp; omega
    have h3 : (-x - 1).toNat = p := by omega
    rw [h1, h2, h3, getD_at hk, decide_eq_false h0]
    cases k[p] <;> rfl
set_option maxRecDepth 100000 in
set_option maxHeartbeats 800000 in
theorem isTrue_any (x : Int) (hx : In64 x) (B : Option Addr) (m d : Nat) (k : List Bool) (w : World) (hm : k.length = m) (hr : BRow w B k) (hl : m ≤ 1000000) :
    Calls Tryz.prog 52 #[.int .i64 x, .slice B m d] w fun e w' => e = .returned (.bool (holdsL k x)) ∧ w = w' := by
  have HV := Lib.hid (variable_any x hx w)
  have hmw : IntKind.u64.wrap (m : Int) = (m : Int) := u64_in (by omega) (by omega)
  by_cases h0 : x.natAbs = 0
  · have HF : Hid (holdsL k x = false) := holds_none (.inl h0)
    have HV2 : Hid (Calls Tryz.prog 56 #[.int .i64 x] w fun e w' => e = .returned (.int .u64 0) ∧ w = w') := by have := HV.out; rw [h0] at this; exact this
    have d1 : decide ((1 : Int) ≤ 0) = false := rfl
    rw [HF.out]
    clear h0 HF HV hx hm hr
    go_enter Tryz.func52, Tryz.ntmps52
    go_wp2_with fail
    refine HV2.out.mono ?_
    rintro _ z ⟨rfl, rfl⟩
    go_wp2_with fail
    go_ret
    exact ⟨rfl, rfl⟩
  obtain ⟨a, ha⟩ : ∃ a : Nat, x.natAbs = a := ⟨_, rfl⟩
  have HV2 : Hid (Calls Tryz.prog 56 #[.int .i64 x] w fun e w' => e = .returned (.int .u64 (a : Int)) ∧ w = w') := by have := HV.out; rw [ha] at this; exact this
  have d1 : decide ((1 : Int) ≤ (a : Int)) = true := decide_eq_true (by omega)
  by_cases hlt : m < a
  · have HF : Hid (holdsL k x = false) := holds_none (.inr (by omega))
    have d2 : decide ((a : Int) ≤ (m : Int)) = false := decide_eq_false (by omega)
    have d2b : decide (a ≤ m) = false := decide_eq_false (by omega)
    rw [HF.out]
    clear h0 HF HV hx hm hr ha hlt
    go_enter Tryz.func52, Tryz.ntmps52
    go_wp2_with fail
    refine HV2.out.mono ?_
    rintro _ z ⟨rfl, rfl⟩
    go_wp2_with fail
    go_ret
    exact ⟨rfl, rfl⟩
  · have d2 : decide ((a : Int) ≤ (m : Int)) = true := decide_eq_true (by omega)
    have d2b : decide (a ≤ m) = true := decide_eq_true (by omega)
    obtain ⟨p, hp⟩ : ∃ p : Nat, p + 1 = a := ⟨a - 1, by omega⟩
    have hpk : p < k.length := by omega
    have HF := Lib.hid (holds_some (by rw [ha]; exact hp) hpk)
    obtain ⟨ae, b, rfl, hy, ht, he⟩ := brow_at hr p hpk
    rw [HF.out, hy]
    have w1 : IntKind.u64.wrap ((a : Int) - 1) = (p : Int) := (u64_in (by omega) (by omega)).trans (by omega)
    have p0 : (0 : Int) ≤ (p : Int) := by omega
    have p1 : (p : Int) < (m : Int) := by omega
    have p2 : p < m := by omega
    obtain ⟨s, hs⟩ : ∃ s, decide (0 < x) = s := ⟨_, rfl⟩
    have hs2 : decide (x > 0) = s := hs
    rw [hs]
    clear h0 HF HV hx hm hr ha hlt hp hpk hy
    go_enter Tryz.func52, Tryz.ntmps52
    go_wp2_with fail
    refine HV2.out.mono ?_
    rintro _ z ⟨rfl, rfl⟩
    go_wp2_with fail
    go_ret
    exact ⟨rfl, rfl⟩
set_option maxRecDepth 100000 in
set_option maxHeartbeats 800000 in
theorem holds1_any (x : Int) (hx : In64 x) (b : Nat) (B : Option Addr) (m d : Nat) (k : List Bool) (w : World) (hm : k.length = m) (hr : BRow w B k) (hl : m ≤ 1000000) (hc : w.cell? ⟨b, 0, none⟩ = some (.slice B m d)) :
    Calls Tryz.prog 51 #[.int .i64 x, .pointer (some ⟨b, 0, none⟩)] w fun e w' => e = .returned (.bool (holdsL k x)) ∧ w = w' := by
  have HT := Lib.hid (isTrue_any x hx B m d k w hm hr hl)
  obtain ⟨X, hX⟩ : ∃ X, holdsL k x = X := ⟨_, rfl⟩
  rw [hX] at HT ⊢
  clear hX hx hm hr
  go_enter Tryz.func51, Tryz.ntmps51
  go_wp2_with fail
  refine HT.out.mono ?_
  rintro _ z ⟨rfl, rfl⟩
  go_wp2_with fail
  go_ret
  exact ⟨rfl, rfl⟩
set_option maxRecDepth 100000 in
set_option maxHeartbeats 1600000 in
theorem idxLit_any (A : Option Addr) (n c : Nat) (l : List Int) (b : Nat) (B : Option Addr) (m d : Nat) (k : List Bool) (w : World) (hn : l.length = n) (hr : IRow w A l) (hl : n ≤ 1000000) (hi : ∀ x ∈ l, In64 x) (hm : k.length = m) (hq : BRow w B k) (hl2 : m ≤ 1000000) (hc : w.cell? ⟨b, 0, none⟩ = some (.slice B m d)) (hb : b < w.heap.size) :
    Calls Tryz.prog 69 #[.slice A n c, .func (.func 51) #[] #[.pointer (some ⟨b, 0, none⟩)]] w fun e w' => (∃ j : Int, e = .returned (.int .i64 j) ∧ decide (0 ≤ j) = holdsC k l) ∧ w = w' := by
  have HR := Lib.hid hr
  have HN := Lib.hid hn
  have HI := Lib.hid hi
  have HC := Lib.hid (fun (x : Int) (hx : In64 x) => holds1_any x hx b B m d k w hm hq hl2 hc)
  obtain ⟨X, hX⟩ : ∃ X, holdsC k l = X := ⟨_, rfl⟩
  rw [hX]
  have HX : Hid (l.any (holdsL k) = X) := hX
  clear hr hn hi hm hq hl2 hc hb hX
  go_enter Tryz.func69, Tryz.ntmps69
  go_wp2_with fail
  go_loopw [8] (fun i wr => ∃ j : Nat, j ≤ n ∧ i = .int .i64 j ∧ Hid ((l.take j).any (holdsL k) = false) ∧ w = wr) (fun i _ => n - (intOf i).toNat)
  case atStart => exact ⟨0, Nat.zero_le _, rfl, rfl, rfl⟩
  case round =>
    obtain ⟨j, hj, rfl, HA, rfl⟩ := hrel
    by_cases hlt : j < n
    · have hlr : j < l.length := by rw [HN.out]; exact hlt
      obtain ⟨ad, x, rfl, hx, hs, hc⟩ := irow_at HR.out j hlr
      have j0 : (0 : Int) ≤ (j : Int) := by omega
      have j1 : (j : Int) < (n : Int) := by omega
      have HNo : Hid (holdsL k x = false → (l.take (j + 1)).any (holdsL k) = false) := fun q => any_take hlr HA.out (by rw [hx]; exact q)
      have HYes : Hid (holdsL k x = true → X = true) := fun q => HX.out.symm.trans (any_at hlr (by rw [hx]; exact q))
      have HC2 := Lib.hid (HC.out x (HI.out x (by rw [← hx]; exact List.getElem_mem _)))
      obtain ⟨y, hy⟩ : ∃ y, holdsL k x = y := ⟨_, rfl⟩
      rw [hy] at HNo HYes HC2
      clear hlr hx hs hy
      go_wp2_with fail
      refine HC2.out.mono ?_
      rintro _ w1 ⟨rfl, rfl⟩
      cases y
      · have HA2 := Lib.hid (HNo.out rfl)
        clear HNo HYes HC2
        go_wp2_with fail
        go_roundw
        case rel => exact ⟨j + 1, by omega, by go_num, HA2.out, trivial⟩
        case measure => simp [intOf]; omega
      · have HXT := Lib.hid (HYes.out rfl)
        clear HNo HYes HC2
        go_wp2_with fail
        go_ret
        exact ⟨⟨j, rfl, by rw [HXT.out]; exact decide_eq_true (by omega)⟩, rfl⟩
    · have HXF : Hid (X = false) := by
        show _ = _
        have := HA.out
        rw [List.take_of_length_le (by rw [HN.out]; omega)] at this
        exact HX.out.symm.trans this
      go_wp2_with fail
      go_ret
      exact ⟨⟨-1, rfl, by rw [HXF.out]; rfl⟩, rfl⟩
set_option maxRecDepth 100000 in
set_option maxHeartbeats 800000 in
theorem hasLit_any (A : Option Addr) (n c : Nat) (l : List Int) (b : Nat) (B : Option Addr) (m d : Nat) (k : List Bool) (w : World) (hn : l.length = n) (hr : IRow w A l) (hl : n ≤ 1000000) (hi : ∀ x ∈ l, In64 x) (hm : k.length = m) (hq : BRow w B k) (hl2 : m ≤ 1000000) (hc : w.cell? ⟨b, 0, none⟩ = some (.slice B m d)) (hb : b < w.heap.size) :
    Calls Tryz.prog 50 #[.slice A n c, .func (.func 51) #[] #[.pointer (some ⟨b, 0, none⟩)]] w fun e w' => e = .returned (.bool (holdsC k l)) ∧ w = w' := by
  have HC := Lib.hid (idxLit_any A n c l b B m d k w hn hr hl hi hm hq hl2 hc hb)
  obtain ⟨X, hX⟩ : ∃ X, holdsC k l = X := ⟨_, rfl⟩
  rw [hX] at HC ⊢
  clear hn hr hl hi hm hq hl2 hc hb hX
  go_enter Tryz.func50, Tryz.ntmps50
  go_wp2_with fail
  refine HC.out.mono ?_
  rintro _ w1 ⟨⟨j, rfl, hj⟩, rfl⟩
  cases X
  all_goals
    go_wp2_with fail
    go_ret
    exact ⟨rfl, rfl⟩
set_option maxRecDepth 100000 in
set_option maxHeartbeats 800000 in
theorem pHolds_any (A B : Option Addr) (n m c d : Nat) (l : List Int) (k : List Bool) (w : World) (hn : l.length = n) (hm : k.length = m) (hr : IRow w A l) (hq : BRow w B k) (hl : n ≤ 1000000) (hl2 : m ≤ 1000000) (hi : ∀ x ∈ l, In64 x) :
    Calls Tryz.prog 23 #[.slice A n c, .slice B m d] w fun e w' => e = .returned (.bool (holdsC k l)) ∧ Below w.heap.size w w' := by
  have hmf : ∀ (fn : Fn) (first cap : Array Value) (w : World), (Instr.makeFunc fn first cap).run Tryz.prog w = .ok (.func fn first cap) w := fun _ _ _ _ => rfl
  obtain ⟨V, hV⟩ : ∃ V, w.alloc (.cells #[.slice B m d] 46) = V := ⟨_, rfl⟩
  have HB : Hid (Below w.heap.size w V) := alloc_low hV
  have hbl : w.heap.size < V.heap.size := by rw [← hV]; simp
  have hcell : V.cell? ⟨w.heap.size, 0, none⟩ = some (.slice B m d) := by rw [← hV]; simp
  have HC := Lib.hid (hasLit_any A n c l w.heap.size B m d k V hn (irow_below hr HB.out) hl hi hm (Rg.row_below hq HB.out) hl2 hcell hbl)
  obtain ⟨X, hX⟩ : ∃ X, holdsC k l = X := ⟨_, rfl⟩
  rw [hX] at HC ⊢
  clear hn hm hr hq hl hl2 hi hX hbl hcell
  go_enter Tryz.func23, Tryz.ntmps23
  go_wp2_with fail
  clear hV
  refine HC.out.mono ?_
  rintro _ u ⟨rfl, rfl⟩
  go_wp2_with fail
  go_ret
  exact ⟨rfl, HB.out⟩
theorem holdsC_all (Q : World → Prop) : HoldsC Q := fun A B n m c d l k w hn hm hr hq hl hl2 hi _ => pHolds_any A B n m c d l k w hn hm hr hq (by omega) (by omega) hi
set_option maxRecDepth 100000 in
set_option maxHeartbeats 800000 in
theorem first1_any (A : Option Addr) (n c : Nat) (l : List Int) (b : Nat) (B : Option Addr) (m d : Nat) (k : List Bool) (w : World) (hn : l.length = n) (hr : IRow w A l) (hl : n ≤ 1000000) (hi : ∀ x ∈ l, In64 x) (hm : k.length = m) (hq : BRow w B k) (hl2 : m ≤ 1000000) (hc : w.cell? ⟨b, 0, none⟩ = some (.slice B m d)) :
    Calls Tryz.prog 59 #[.slice A n c, .pointer (some ⟨b, 0, none⟩)] w fun e w' => e = .returned (.bool (!holdsC k l)) ∧ Below w.heap.size w w' := by
  have HH := Lib.hid (pHolds_any A B n m c d l k w hn hm hr hq hl hl2 hi)
  obtain ⟨X, hX⟩ : ∃ X, holdsC k l = X := ⟨_, rfl⟩
  rw [hX] at HH ⊢
  clear hn hm hr hq hl hl2 hi hX
  go_enter Tryz.func59, Tryz.ntmps59
  go_wp2_with fail
  refine HH.out.mono ?_
  rintro _ u ⟨rfl, hb⟩
  have HB := Lib.hid hb
  clear hb
  go_wp2_with fail
  go_ret
  exact ⟨rfl, HB.out⟩
set_option maxRecDepth 100000 in
set_option maxHeartbeats 1600000 in
theorem idxClause_any (A : Option Addr) (n c : Nat) (t : List (List Int)) (b : Nat) (B : Option Addr) (m d : Nat) (k : List Bool) (w : World) (hn : t.length = n) (hr : GRow w A t) (hl : n ≤ 1000000) (hs : ∀ x ∈ t, x.length ≤ 1000000) (hi : ∀ x ∈ t, ∀ y ∈ x, In64 y) (hm : k.length = m) (hq : BRow w B k) (hl2 : m ≤ 1000000) (hc : w.cell? ⟨b, 0, none⟩ = some (.slice B m d)) (hb : b < w.heap.size) :
    Calls Tryz.prog 58 #[.slice A n c, .func (.func 59) #[] #[.pointer (some ⟨b, 0, none⟩)]] w fun e w' => e = .returned (.int .i64 (firstH k 0 t)) ∧ Below w.heap.size w w' := by
  have HR := Lib.hid hr
  have HN := Lib.hid hn
  have HI := Lib.hid hi
  have HS := Lib.hid hs
  have HC := Lib.hid (fun (C : Option Addr) (q qc : Nat) (x : List Int) (u : World) (hu : Below w.heap.size w u) (hxl : x.length = q) (hx : IRow u C x) (h1 : q ≤ 1000000) (h2 : ∀ y ∈ x, In64 y) => first1_any C q qc x b B m d k u hxl hx h1 h2 hm (Rg.row_below hq hu) hl2 ((hu.cell (by exact hb)).trans hc))
  obtain ⟨X, hX⟩ : ∃ X, firstH k 0 t = X := ⟨_, rfl⟩
  rw [hX]
  have HX := Lib.hid hX
  clear hr hn hi hs hm hq hl2 hc hb hX
  go_enter Tryz.func58, Tryz.ntmps58
  go_wp2_with fail
  go_loopw [8] (fun i wr => ∃ j : Nat, j ≤ n ∧ i = .int .i64 j ∧ Hid (∀ x ∈ t.take j, holdsC k x = true) ∧ Hid (Below w.heap.size w wr)) (fun i _ => n - (intOf i).toNat)
  case atStart => exact ⟨0, Nat.zero_le _, rfl, (fun x h => absurd h (by simp)), Below.refl _ _⟩
  case round =>
    obtain ⟨j, hj, rfl, HA, HB⟩ := hrel
    by_cases hlt : j < n
    · have hlr : j < t.length := by rw [HN.out]; exact hlt
      obtain ⟨ad, C, q, qc, x, rfl, hbk, hc, hx, hxl, hxr⟩ := grow_at (Gr.row_below HR.out HB.out) j hlr
      have j0 : (0 : Int) ≤ (j : Int) := by omega
      have j1 : (j : Int) < (n : Int) := by omega
      have hmem : x ∈ t := by rw [← hx]; exact List.getElem_mem _
      have HNo : Hid (holdsC k x = true → ∀ y ∈ t.take (j + 1), holdsC k y = true) := fun h y hy => by
        rw [List.take_succ_eq_append_getElem hlr] at hy
        rcases List.mem_append.1 hy with h1 | h1
        · exact HA.out y h1
        · rw [List.mem_singleton.1 h1, hx]; exact h
      have HYes : Hid (holdsC k x = false → X = (j : Int)) := fun h => by rw [← HX.out, firstH_at k t 0 j hlr HA.out (by rw [hx]; exact h), Nat.zero_add]
      have HC2 := Lib.hid (HC.out C q qc x wr HB.out hxl hxr (by rw [← hxl]; exact HS.out x hmem) (HI.out x hmem))
      obtain ⟨y, hy⟩ : ∃ y, holdsC k x = y := ⟨_, rfl⟩
      rw [hy] at HNo HYes HC2
      clear hlr hx hbk hxl hxr hmem hy
      go_wp2_with fail
      refine HC2.out.mono ?_
      rintro _ u ⟨rfl, hb⟩
      have HBU : Hid (Below w.heap.size w u) := HB.out.trans (hb.mono HB.out.size)
      clear hb hc
      cases y
      · have HXT := Lib.hid (HYes.out rfl)
        clear HNo HYes HC2
        go_wp2_with fail
        go_ret
        exact ⟨by rw [HXT.out]; rfl, HBU.out⟩
      · have HA2 := Lib.hid (HNo.out rfl)
        clear HNo HYes HC2
        go_wp2_with fail
        go_roundw
        case rel => exact ⟨j + 1, by omega, by go_num, HA2.out, HBU.out⟩
        case measure => simp [intOf]; omega
    · have HXF : Hid (X = -1) := by
        show _ = _
        have := HA.out
        rw [List.take_of_length_le (by rw [HN.out]; omega)] at this
        exact HX.out.symm.trans (firstH_done k t 0 this)
      go_wp2_with fail
      go_ret
      exact ⟨by rw [HXF.out]; rfl, HB.out⟩
set_option maxRecDepth 100000 in
set_option maxHeartbeats 800000 in
theorem pFirst_any (A B : Option Addr) (n m c d : Nat) (t : List (List Int)) (k : List Bool) (w : World) (hn : t.length = n) (hm : k.length = m) (hr : GRow w A t) (hq : BRow w B k) (hl : n ≤ 1000000) (hl2 : m ≤ 1000000) (hs : ∀ x ∈ t, x.length ≤ 1000000) (hi : ∀ x ∈ t, ∀ y ∈ x, In64 y) :
    Calls Tryz.prog 28 #[.slice A n c, .slice B m d] w fun e w' => e = .returned (.int .i64 (firstH k 0 t)) ∧ Below w.heap.size w w' := by
  have hmf : ∀ (fn : Fn) (first cap : Array Value) (w : World), (Instr.makeFunc fn first cap).run Tryz.prog w = .ok (.func fn first cap) w := fun _ _ _ _ => rfl
  obtain ⟨V, hV⟩ : ∃ V, w.alloc (.cells #[.slice B m d] 46) = V := ⟨_, rfl⟩
  have HB : Hid (Below w.heap.size w V) := alloc_low hV
  have hbl : w.heap.size < V.heap.size := by rw [← hV]; simp
  have hcell : V.cell? ⟨w.heap.size, 0, none⟩ = some (.slice B m d) := by rw [← hV]; simp
  have HC := Lib.hid (idxClause_any A n c t w.heap.size B m d k V hn (Gr.row_below hr HB.out) hl hs hi hm (Rg.row_below hq HB.out) hl2 hcell hbl)
  obtain ⟨X, hX⟩ : ∃ X, firstH k 0 t = X := ⟨_, rfl⟩
  rw [hX] at HC ⊢
  clear hn hm hr hq hl hl2 hs hi hX hbl hcell
  go_enter Tryz.func28, Tryz.ntmps28
  go_wp2_with fail
  clear hV
  refine HC.out.mono ?_
  rintro _ u ⟨rfl, hb⟩
  have HBU : Hid (Below w.heap.size w u) := HB.out.trans (hb.mono HB.out.size)
  clear hb
  go_wp2_with fail
  go_ret
  exact ⟨rfl, HBU.out⟩
theorem firstC_all' (Q : World → Prop) : FirstC Q := fun A B n m c d t k w hn hm hr hq hl hl2 hs hi _ => pFirst_any A B n m c d t k w hn hm hr hq (by omega) (by omega) (fun x h => Nat.le_trans (hs x h) (by decide)) hi
end Go.Proofs.YtoioeekfnnoaoaaGreatDoor.Cl
