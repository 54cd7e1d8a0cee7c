/- What the laws of clauses ask of the program. -/
import Derived.Test.YtjkmdghlhodhiaaEl
import Derived.Test.YtjkmdghlhodhiaaEf
import Derived.Test.YtjkmdghlhodhiaaEu
import Derived.Test.YtjkmdghlhodhiaaEc
namespace Go.Proofs.Ytjkmdghlhodhiaa.Cl
open Go.RowKit Up
def CheckC (Q : World → Prop) : Prop := ∀ (n : Int) (A : Option Addr) (m c : Nat) (l : List Int) (w : World), l.length = m → IRow w A l → m ≤ 1000 → Q w →
  Calls Try.prog 32 #[.int .i64 n, .slice A m c] w fun e w' => e = .returned (.int .i64 (checkC n l)) ∧ Below w.heap.size w w'
def CheckAllC (Q : World → Prop) : Prop := ∀ (n : Int) (A : Option Addr) (m c : Nat) (t : List (List Int)) (w : World), t.length = m → GRow w A t → m ≤ 1000 → (∀ x ∈ t, x.length ≤ 1000) → Q w →
  Calls Try.prog 25 #[.int .i64 n, .slice A m c] w fun e w' => e = .returned (.tuple #[.int .i64 ((checkAll n t).1 : Int), .int .i64 (checkAll n t).2]) ∧ Below w.heap.size w w'
def NormP (w : World) (l : List Int) (e : Ending) (w' : World) : Prop := ∃ A c out ok, e = .returned (.tuple #[.slice A out.length c, .bool ok]) ∧ IsNorm l out ok ∧ IRow w' A out ∧ Below w.heap.size w w' ∧ out.length ≤ l.length
def In64 (x : Int) : Prop := -9223372036854775808 ≤ x ∧ x ≤ 9223372036854775807
def SameC (Q : World → Prop) : Prop := ∀ (A B : Option Addr) (n m c d : Nat) (l k : List (List Int)) (w : World), l.length = n → k.length = m → GRow w A l → GRow w B k → n ≤ 1000 → m ≤ 1000 → (∀ x ∈ l, x.length ≤ 1000) → (∀ x ∈ k, x.length ≤ 1000) → Q w →
  Calls Try.prog 30 #[.slice A n c, .slice B m d] w fun e w' => e = .returned (.bool (decide (l = k))) ∧ Below w.heap.size w w'
def ParseP (w : World) (s : List UInt8) (e : Ending) (w' : World) : Prop := ∃ A c, e = .returned (.tuple #[.int .i64 ((parseC s).2.2.1 : Int), .slice A (parseC s).2.2.2.length c, .int .i64 ((parseC s).1 : Int), .int .i64 (parseC s).2.1]) ∧ GRow w' A (parseC s).2.2.2 ∧ Below w.heap.size w w'
theorem parse_bad {s : List UInt8} {i n : Nat} {k : Int} {l : List (List Int)} (h : parseC s = (i, k, n, l)) (hk : k ≠ 0) : n = 0 ∧ l = [] := by
  unfold parseC at h
  split at h
  · cases h; exact ⟨rfl, rfl⟩
  · split at h
    · cases h; exact ⟨rfl, rfl⟩
    · split at h
      · cases h; exact ⟨rfl, rfl⟩
      · split at h
        · cases h; exact ⟨rfl, rfl⟩
        · split at h
          · cases h; exact ⟨rfl, rfl⟩
          · split at h
            · cases h; exact absurd rfl hk
            · cases h; exact ⟨rfl, rfl⟩
theorem parse_fits (s : List UInt8) : (parseC s).2.2.2.length ≤ 131072 ∧ ∀ c ∈ (parseC s).2.2.2, c.length ≤ 256 := by
  obtain ⟨⟨i, k, n, l⟩, h⟩ : ∃ p, parseC s = p := ⟨_, rfl⟩
  rw [h]
  by_cases hk : k = 0
  · subst hk
    have h2 := all_ok (text_parse h).2.2
    exact ⟨h2.2.2.1, fun c hc => (check_ok (h2.2.2.2.2 c hc)).2.2.1⟩
  · rw [(parse_bad h hk).2]
    exact ⟨Nat.zero_le _, fun c hc => absurd hc (by simp)⟩
end Go.Proofs.Ytjkmdghlhodhiaa.Cl
