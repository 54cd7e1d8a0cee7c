/- What is known of a variable: add, isFalse, forced, walked. -/
import Derived.Test.YtjkmdghlhodhiaaOxa
import Derived.Test.YtjkmdghlhodhiaaOe
import Derived.Lib.MinMax
namespace Go.Proofs.Ytjkmdghlhodhiaa.Up
open Go.RowKit Cl
/-- How a contradiction leaves a function. -/
abbrev conPan : Ending := .panicked [{ v := .iface 82 (.agg #[]), recovered := false }]
theorem max_abs (x : Int) : max x (-x) = (x.natAbs : Int) := by omega
/-- What add leaves. -/
def AddRet (B N c : Nat) (A : Option Addr) (m : List Int) (x : Int) (w : World) (e : Ending) (w' : World) : Prop := (valL m x = -1 ∧ e = conPan ∧ w = w') ∨ (∃ b, valL m x = 0 ∧ b = true ∧ e = .returned (.bool b) ∧ Rg.Own encI 1 w' B 3 (.slice A N c) (kL (setL m x)) ∧ w.grownBy w' (Value.slice A N c).ownBlock) ∨ (∃ b, valL m x = 1 ∧ b = false ∧ e = .returned (.bool b) ∧ Rg.Own encI 1 w' B 3 (.slice A N c) (kL (setL m x)) ∧ w.grownBy w' (Value.slice A N c).ownBlock)
theorem wrap_neg {n : Nat} {x : Int} (hn : n ≤ 1000000) (hx : LitOf n x) : IntKind.i64.wrap (-x) = -x ∧ IntKind.i64.wrap (0 - x) = -x := by
  obtain ⟨_, h1, h2⟩ := hx
  exact ⟨IntWalk.i64_in _ (by omega), (IntWalk.i64_in _ (by omega)).trans (by omega)⟩
end Go.Proofs.Ytjkmdghlhodhiaa.Up
namespace Go.Proofs.Ytjkmdghlhodhiaa
open Go.RowKit Cl Up
attribute [local go_sem ↓] Go.wp_at_zero Go.wp_at_succ
set_option maxRecDepth 100000 in
set_option maxHeartbeats 1600000 in
theorem pFalse_any (A : Option Addr) (n N c : Nat) (m : List Int) (x : Int) (w : World) (hN : m.length = N) (hr : IRow w A (kL m)) (hm : MOk n m) (hx : LitOf n x) (hn : n ≤ 1000000) :
    Calls Try.prog 63 #[.slice A N c, .int .i64 x] w fun e w' => e = .returned (.bool (decide (valL m x = -1))) ∧ w = w' := by
  have hl := hm.len
  obtain ⟨w1, w2⟩ := wrap_neg hn hx
  have hpl : x.natAbs < (kL m).length := by rw [kL_len]; have := hx.2; omega
  obtain ⟨ad, v, rfl, hv, hvb, hc⟩ := irow_at hr x.natAbs hpl
  have hvd : (kL m).getD x.natAbs 0 = v := by rw [List.getD_eq_getElem?_getD, List.getElem?_eq_getElem hpl, hv]; rfl
  have hmx := max_abs x
  have p0 : (0 : Int) ≤ (x.natAbs : Int) := by omega
  have p1 : (x.natAbs : Int) < (N : Int) := by have := hx.2; omega
  have HX : Hid ((v == -x) = decide (valL m x = -1)) := by
    show _ = _
    have h0 := hx.1
    rcases kL_tri hm hx with ⟨e1, e2⟩ | ⟨e1, e2⟩ | ⟨e1, e2⟩ <;> rw [e1, ← hvd, e2]
    · simp
    · have : (0 == -x) = false := by simp; omega
      rw [this]; rfl
    · have : (x == -x) = false := by simp; omega
      rw [this]; rfl
  clear hv hvd hvb hpl hl hN hm hr hx
  go_enter Try.func63, Try.ntmps63
  go_wp2_with fail
  go_ret
  exact ⟨by rw [HX.out]; rfl, rfl⟩
set_option maxRecDepth 100000 in
set_option maxHeartbeats 1600000 in
theorem pAdd_any (B n N c : Nat) (A : Option Addr) (m : List Int) (x : Int) (w : World) (hN : m.length = N) (hr : Rg.Own encI 1 w B 3 (.slice A N c) (kL m)) (hm : MOk n m) (hx : LitOf n x) (hn : n ≤ 1000000) :
    Calls Try.prog 55 #[.slice A N c, .int .i64 x] w (AddRet B N c A m x w) := by
  have hl := hm.len
  obtain ⟨w1, w2⟩ := wrap_neg hn hx
  obtain ⟨A', c', e', hrow, _⟩ := Rg.row_own fitsI hr
  obtain ⟨cd, rfl, key⟩ := own_st1 hr ((kL_len m).trans hN) (by omega)
  obtain ⟨k1, k2, k3, u, k4⟩ := key x.natAbs x (by have := hx.2; omega)
  rw [← kL_setL m hx] at k1
  have hpl : x.natAbs < (kL m).length := by rw [kL_len]; have := hx.2; omega
  obtain ⟨ad, v, had, hv, hvb, hc⟩ := irow_at hrow x.natAbs hpl
  have e2 : A' = some cd := by cases e'; rfl
  obtain rfl := Option.some.inj (e2.symm.trans had)
  obtain rfl : u = .int .i64 v := Option.some.inj (k4.symm.trans hc)
  have hvd : (kL m).getD x.natAbs 0 = v := by rw [List.getD_eq_getElem?_getD, List.getElem?_eq_getElem hpl, hv]; rfl
  have hmx := max_abs x
  have p0 : (0 : Int) ≤ (x.natAbs : Int) := by omega
  have p1 : (x.natAbs : Int) < (N : Int) := by have := hx.2; omega
  have HK := Lib.hid k1
  have HK2 := Lib.hid k2
  have h0 := hx.1
  have htri := kL_tri hm hx
  rw [hvd] at htri
  clear hv hvd hvb hpl hl hN hm hr hx key k1 k2 k4 hrow e' had e2
  rcases htri with ⟨e1, e2⟩ | ⟨e1, e2⟩ | ⟨e1, e2⟩
  · have E1 := Lib.hid e1
    have d1 : (v == -x) = true := by simpa using e2
    clear e1 e2 h0
    go_enter Try.func55, Try.ntmps55
    go_wp2_with fail
    exact ⟨rfl, .inl ⟨E1.out, rfl, rfl⟩⟩
  · have E1 := Lib.hid e1
    have d1 : (v == -x) = false := by rw [e2]; simp; omega
    have d2 : (v == 0) = true := by simpa using e2
    clear e1 e2 h0
    go_enter Try.func55, Try.ntmps55
    go_wp2_with fail
    go_ret
    exact .inr (.inl ⟨_, E1.out, rfl, rfl, HK.out, HK2.out⟩)
  · have E1 := Lib.hid e1
    have d1 : (v == -x) = false := by rw [e2]; simp; omega
    have d2 : (v == 0) = false := by rw [e2]; simpa using h0
    clear e1 e2 h0
    go_enter Try.func55, Try.ntmps55
    go_wp2_with fail
    go_ret
    exact .inr (.inr ⟨_, E1.out, rfl, rfl, HK.out, HK2.out⟩)
end Go.Proofs.Ytjkmdghlhodhiaa
