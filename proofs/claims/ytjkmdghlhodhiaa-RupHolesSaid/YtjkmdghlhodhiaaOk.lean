/- What the laws of unit propagation ask of the program; any clauses, any literals: the law walked. -/
import Derived.Test.YtjkmdghlhodhiaaOh
import Derived.Test.YtjkmdghlhodhiaaOg
import Derived.Test.YtjkmdghlhodhiaaEl
namespace Go.Proofs.Ytjkmdghlhodhiaa.Up
open Go.RowKit Cl
/-- What the program's Close must answer. -/
def CloseC : Prop := ∀ (n : Nat) (A B : Option Addr) (ll kk c d : Nat) (l : List (List Int)) (s : List Int) (w : World), l.length = ll → CRow w A l → s.length = kk → IRow w B s → n ≤ 256 → (∀ c ∈ l, ∀ x ∈ c, LitOf n x) → (∀ x ∈ s, LitOf n x) → ll ≤ 1000 → kk ≤ 1000 → (∀ c ∈ l, c.length ≤ 256) →
  Calls Try.prog 48 #[.int .i64 n, .slice A ll c, .slice B kk d] w (CloseRet w l s)
/-- A grid that a function made reads as it should. -/
theorem gown_row {w : World} {B : Nat} {TI : TypeId} {v : Value} {t : List (List Int)} (h : Gr.Own encI 1 w B TI v t) : ∃ C d, v = .slice C t.length d ∧ GRow w C t := Gr.row_own h
theorem iown_row {w : World} {B : Nat} {T : TypeId} {v : Value} {t : List Int} (h : Rg.Own encI 1 w B T v t) : ∃ C d, v = .slice C t.length d ∧ IRow w C t := by
  obtain ⟨C, d, e, hr, _⟩ := Rg.row_own fitsI h
  exact ⟨C, d, e, hr⟩
theorem lits_nat {k : Nat} {l : List Int} (h : litsB k l = true) : l.length ≤ 60 ∧ ∀ x ∈ l, LitOf k x := by
  obtain ⟨h1, h2⟩ := lits_of h
  exact ⟨h1, fun x hx => by obtain ⟨p, q, r⟩ := h2 x hx; exact ⟨p, q, r⟩⟩
end Go.Proofs.Ytjkmdghlhodhiaa.Up
namespace Go.Proofs.Ytjkmdghlhodhiaa
open Go.RowKit Cl Up
attribute [local go_sem ↓] Go.wp_at_zero Go.wp_at_succ
end Go.Proofs.Ytjkmdghlhodhiaa
