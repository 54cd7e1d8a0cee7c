/- One literal left; a copy of the clauses: walked. -/
import Derived.Test.YtjkmdghlhodhiaaOxc
import Derived.Test.YtjkmdghlhodhiaaEl
import Derived.Lib.SliceRun
namespace Go.Proofs.Ytjkmdghlhodhiaa
open Go.RowKit Cl Up
attribute [local go_sem ↓] Go.wp_at_zero Go.wp_at_succ
set_option maxRecDepth 100000 in
set_option maxHeartbeats 1600000 in
theorem pForced_any (B n N d : Nat) (A C : Option Addr) (q c : Nat) (m r : List Int) (w : World) (hN : m.length = N) (hr : Rg.Own encI 1 w B 3 (.slice A N d) (kL m)) (hm : MOk n m) (hq : r.length = q) (hc : IRow w C r) (hx : ∀ y ∈ r, LitOf n y) (hn : n ≤ 1000000) :
    Calls Try.prog 61 #[.slice A N d, .slice C q c] w fun e w' => (r = [] ∧ e = conPan ∧ w = w') ∨ (∃ x, r = [x] ∧ AddRet B N d A m x w e w') ∨ (2 ≤ r.length ∧ e = .returned (.bool false) ∧ w = w') := by
  have HQ := Lib.hid hq
  by_cases h0 : q = 0
  · have d0 : ((q : Int) == 0) = true := by simp; omega
    have HX : Hid (r = []) := List.length_eq_zero_iff.1 (hq.trans h0)
    clear hN hr hm hq hc hx h0
    go_enter Try.func61, Try.ntmps61
    go_wp2_with fail
    exact ⟨rfl, .inl ⟨HX.out, rfl, rfl⟩⟩
  · have d0 : ((q : Int) == 0) = false := by simp; omega
    by_cases h1 : q = 1
    · have d1 : ((q : Int) == 1) = true := by simp; omega
      obtain ⟨ad, x, rfl, hy, hyb, hyc⟩ := irow_at hc 0 (by omega)
      rw [Rg.add_zero] at hyc
      have hxy : r = [x] := by
        match r, hq, hy with
        | [a], _, hy => rw [← hy]; rfl
        | [], h, _ => simp at h; omega
        | _ :: _ :: _, h, _ => simp at h; omega
      have HXY := Lib.hid hxy
      have HA := Lib.hid (pAdd_any B n N d A m x w hN hr hm (hx x (by rw [hxy]; exact List.mem_cons_self ..)) hn)
      have k0 : (0 : Int) < (q : Int) := by omega
      clear hN hr hm hq hc hx h0 h1 hy hyb hxy
      go_enter Try.func61, Try.ntmps61
      go_wp2_with fail
      refine HA.out.mono ?_
      rintro e z hz
      rcases hz with ⟨e1, rfl, rfl⟩ | ⟨b, e1, e2, rfl, e3⟩ | ⟨b, e1, e2, rfl, e3⟩
      · have E1 := Lib.hid e1
        clear e1
        go_wp2_with fail
        exact ⟨rfl, .inr (.inl ⟨x, HXY.out, .inl ⟨E1.out, rfl, rfl⟩⟩)⟩
      · have E1 := Lib.hid e1
        have E2 := Lib.hid e2
        have E3 := Lib.hid e3
        clear e1 e2 e3
        go_wp2_with fail
        go_ret
        exact .inr (.inl ⟨x, HXY.out, .inr (.inl ⟨b, E1.out, E2.out, rfl, E3.out⟩)⟩)
      · have E1 := Lib.hid e1
        have E2 := Lib.hid e2
        have E3 := Lib.hid e3
        clear e1 e2 e3
        go_wp2_with fail
        go_ret
        exact .inr (.inl ⟨x, HXY.out, .inr (.inr ⟨b, E1.out, E2.out, rfl, E3.out⟩)⟩)
    · have d1 : ((q : Int) == 1) = false := by simp; omega
      have HX : Hid (2 ≤ r.length) := by show _ ≤ _; omega
      clear hN hr hm hq hc hx h0 h1
      go_enter Try.func61, Try.ntmps61
      go_wp2_with fail
      go_ret
      exact .inr (.inr ⟨HX.out, rfl, rfl⟩)
set_option maxRecDepth 100000 in
set_option maxHeartbeats 1600000 in
theorem pClone_any (A : Option Addr) (ll c : Nat) (ds : List Desc) (w : World) (hl : ds.length = ll) (hr : Rg.Row encO 1 w A ds) (hl2 : ll ≤ 500000) :
    Calls Try.prog 59 #[.slice A ll c] w fun e w' => ∃ v', e = .returned v' ∧ Rg.Own encO 1 w' w.heap.size 47 v' ds ∧ Below w.heap.size w w' := by
  cases A with
  | none =>
    have hds : ds = [] := by
      rcases Nat.eq_zero_or_pos ds.length with h | h
      · exact List.length_eq_zero_iff.1 h
      · obtain ⟨a, e, _⟩ := hr h; cases e
    subst hds
    have HL := Lib.hid hl
    have hq : ∀ W : World, (binOp .eql 29 (.slice none ll c) (.slice none 0 0)).run Try.prog W = .ok (.bool true) W := fun W => Lib.run_eql_slice_nil W _ _ none ll c 0 0 Try.underlying29
    clear hl hr
    go_enter Try.func59, Try.ntmps59
    go_wp2_with fail
    go_ret
    exact ⟨_, rfl, Rg.own_nil _ _ _, Below.refl _ _⟩
  | some a =>
    have hq : ∀ W : World, (binOp .eql 29 (.slice (some a) ll c) (.slice none 0 0)).run Try.prog W = .ok (.bool false) W := fun W => Lib.run_eql_slice_nil W _ _ (some a) ll c 0 0 Try.underlying29
    have HL := Lib.hid hl
    have HR := Lib.hid hr
    have HAL : Hid (Rg.Own encO 1 (w.alloc (.cells #[] 47)) w.heap.size 47 (.slice (some ⟨w.heap.size, 0, none⟩) 0 0) []) := Rg.own_made w fitsO (Nat.le_refl _)
    clear hl hr
    go_enter Try.func59, Try.ntmps59
    go_wp2_with (at_builtin; refine Rg.wpList_appS sliceCC rfl (.tmp 5) (.tmp 6) rfl w.heap.size _ [] ds rfl HAL.out (some a) ll c HL.out rfl ?qr ?qs ?qb ?_)
    case qr => exact Rg.row_below HR.out ((Below.refl _ _).alloc (Nat.le_refl _) _)
    case qs => rw [HL.out]; show 0 + ll ≤ _; omega
    case qb => simp
    intro v5 W5 ho5 hg5 hz5
    have HB5 : Hid (Below w.heap.size w W5) := ((Below.refl _ _).alloc (Nat.le_refl _) _).trans (Rg.grown_below HAL.out (by simp) hg5)
    have HO5 := Lib.hid ho5
    clear ho5 hg5 hz5
    go_wp2_with fail
    go_ret
    exact ⟨_, rfl, by simpa using HO5.out, HB5.out⟩
end Go.Proofs.Ytjkmdghlhodhiaa
