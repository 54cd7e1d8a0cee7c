/- Stanzas laid by hand, plain: so many fields in each, their keys in order, their values their lines. -/
import Derived.Test.YtmhobdlhmkbkdaaDoorUm
import Derived.Test.YtmhobdlhmkbkdaaDoorUl
namespace Go.Proofs.YtmhobdlhmkbkdaaDoor.Sz
/-- The field k of a stanza that begins at line n. -/
def fldH (n k : Nat) : Fld := ⟨[75, UInt8.ofNat (97 + k)], 118 :: decT (n + k), ((n + k : Nat) : Int)⟩
/-- The first j fields. -/
def stzH (n j : Nat) : List Fld := (List.range j).map (fldH n)
theorem stzH_len (n j : Nat) : (stzH n j).length = j := by unfold stzH; simp
theorem stzH_snoc (n j : Nat) : stzH n (j + 1) = stzH n j ++ [fldH n j] := by unfold stzH; rw [List.range_succ, List.map_append]; rfl
/-- All stanzas from line n on: each as many fields as said, and one. -/
def layG : Nat → List Nat → List (List Fld)
  | _, [] => []
  | n, q :: r => stzH n (q + 1) :: layG (n + q + 2) r
/-- Where the next stanza begins. -/
def sumQ : List Nat → Nat
  | [] => 0
  | q :: r => q + 2 + sumQ r
theorem sumQ_snoc (l : List Nat) (q : Nat) : sumQ (l ++ [q]) = sumQ l + (q + 2) := by
  induction l with
  | nil => show q + 2 + 0 = 0 + (q + 2); omega
  | cons a l ih => show a + 2 + sumQ (l ++ [q]) = a + 2 + sumQ l + (q + 2); rw [ih]; omega
theorem layG_snoc (l : List Nat) (q : Nat) : ∀ n, layG n (l ++ [q]) = layG n l ++ [stzH (n + sumQ l) (q + 1)] := by
  induction l with
  | nil => intro n; rfl
  | cons a l ih =>
    intro n
    show stzH n (a + 1) :: layG (n + a + 2) (l ++ [q]) = stzH n (a + 1) :: (layG (n + a + 2) l ++ [stzH (n + sumQ (a :: l)) (q + 1)])
    rw [ih]
    have : n + a + 2 + sumQ l = n + sumQ (a :: l) := by show _ = n + (a + 2 + sumQ l); omega
    rw [this]
theorem layG_len (l : List Nat) : ∀ n, (layG n l).length = l.length := by
  induction l with
  | nil => intro n; rfl
  | cons a l ih => intro n; show (layG (n + a + 2) l).length + 1 = _; rw [ih]; rfl
theorem sumQ_le (l : List Nat) (h : ∀ q ∈ l, q ≤ 8) : sumQ l ≤ l.length * 10 := by
  induction l with
  | nil => exact Nat.le_refl _
  | cons a l ih =>
    have h1 := h a (by simp)
    have h2 := ih (fun q hq => h q (by simp [hq]))
    show a + 2 + sumQ l ≤ (l.length + 1) * 10
    omega
theorem keyH (k : Nat) (hk : k ≤ 8) : keyB [75, UInt8.ofNat (97 + k)] = true := by
  match k, hk with
  | 0, _ => decide
  | 1, _ => decide
  | 2, _ => decide
  | 3, _ => decide
  | 4, _ => decide
  | 5, _ => decide
  | 6, _ => decide
  | 7, _ => decide
  | 8, _ => decide
theorem keyH_inj {k j : Nat} (hk : k ≤ 8) (hj : j ≤ 8) (h : [75, UInt8.ofNat (97 + k)] = ([75, UInt8.ofNat (97 + j)] : List UInt8)) : k = j := by
  have h1 := (List.cons.inj (List.cons.inj h).2).1
  have h2 := congrArg UInt8.toNat h1
  rw [UInt8.toNat_ofNat', UInt8.toNat_ofNat'] at h2
  omega
theorem valH (n : Nat) : valB (118 :: decT n) = true := by
  unfold valB
  rw [List.all_eq_true]
  intro c hc
  rcases List.mem_cons.1 hc with rfl | hc
  · decide
  · obtain ⟨h1, h2⟩ := decF_all 20 n c hc
    unfold valC
    rw [Bool.and_eq_true, decide_eq_true_eq, decide_eq_true_eq]
    omega
theorem hasH_no (n j k : Nat) (hk : k ≤ 8) (hj : j ≤ k) : hasK (stzH n j) (fldH n k).key = false := by
  unfold hasK
  rw [List.any_eq_false]
  intro f hf he
  obtain ⟨i, hi, rfl⟩ := List.mem_map.1 hf
  have hij := List.mem_range.1 hi
  have := keyH_inj (k := i) (j := k) (by omega) hk (beq_iff_eq.1 he)
  omega
theorem hasH_yes (n j k : Nat) (hk : k < j) : hasK (stzH n j) [75, UInt8.ofNat (97 + k)] = true := by
  unfold hasK
  rw [List.any_eq_true]
  exact ⟨fldH n k, List.mem_map.2 ⟨k, List.mem_range.2 hk, rfl⟩, by simp [fldH]⟩
theorem goodH (n : Nat) : ∀ (m j : Nat), j + m ≤ 9 → GoodL (n + j) (stzH n j) ((List.range m).map fun i => fldH n (j + i))
  | 0, _, _ => trivial
  | m + 1, j, h => by
    have e : ((List.range (m + 1)).map fun i => fldH n (j + i)) = fldH n j :: ((List.range m).map fun i => fldH n (j + 1 + i)) := by
      rw [List.range_succ_eq_map, List.map_cons, List.map_map, Nat.add_zero]
      congr 1
      apply List.map_congr_left
      intro i _
      show fldH n (j + (i + 1)) = fldH n (j + 1 + i)
      congr 1; omega
    rw [e]
    refine ⟨keyH j (by omega), valH _, rfl, hasH_no n j j (by omega) (Nat.le_refl _), ?_⟩
    rw [← stzH_snoc]
    exact goodH n m (j + 1) (by omega)
theorem goodG_lay : ∀ (l : List Nat) (n : Nat), (∀ q ∈ l, q ≤ 8) → GoodG n (layG n l)
  | [], _, _ => trivial
  | q :: r, n, h => by
    refine ⟨?_, ?_, ?_⟩
    · intro e
      have := stzH_len n (q + 1)
      rw [e] at this; simp at this
    · have := goodH n (q + 1) 0 (by have := h q (by simp); omega)
      have e : ((List.range (q + 1)).map fun i => fldH n (0 + i)) = stzH n (q + 1) := by unfold stzH; simp
      rw [e] at this
      exact this
    · have := goodG_lay r (n + q + 2) (fun x hx => h x (by simp [hx]))
      rw [stzH_len]
      exact this
theorem linesG_lay : ∀ (l : List Nat) (n : Nat), l ≠ [] → (linesG (layG n l)).length + 1 = sumQ l
  | [], _, h => absurd rfl h
  | [q], n, _ => by
    show ((stzH n (q + 1)).map lineF ++ []).length + 1 = q + 2 + 0
    rw [List.append_nil, List.length_map, stzH_len]
  | q :: p :: r, n, _ => by
    have ih := linesG_lay (p :: r) (n + q + 2) (by simp)
    show ((stzH n (q + 1)).map lineF ++ ([] :: linesG (layG (n + q + 2) (p :: r)))).length + 1 = q + 2 + sumQ (p :: r)
    rw [List.length_append, List.length_map, stzH_len, List.length_cons]
    omega
theorem fieldT_len (n k : Nat) : (fieldT (fldH n k)).length ≤ 30 := by
  have h := decF_len 20 (n + k)
  unfold fieldT fldH mark decT
  simp only [List.length_append, List.length_cons, List.length_nil]
  omega
theorem stanzaH_len (n j : Nat) : (stanzaT (stzH n j)).length ≤ j * 30 := by
  induction j with
  | zero => exact Nat.le_refl _
  | succ j ih =>
    rw [stzH_snoc, stanzaT_snoc, List.length_append]
    have := fieldT_len n j
    omega
theorem textH_len (l : List Nat) (n : Nat) (h : ∀ q ∈ l, q ≤ 8) : (textS (layG n l)).length ≤ l.length * 271 := by
  induction l generalizing n with
  | nil => exact Nat.le_refl _
  | cons q r ih =>
    have h1 := h q (by simp)
    have h2 := ih (n + q + 2) (fun x hx => h x (by simp [hx]))
    have h3 := stanzaH_len n (q + 1)
    cases r with
    | nil => show (stanzaT (stzH n (q + 1))).length ≤ 1 * 271; omega
    | cons p r =>
      have e : (textS (layG n (q :: p :: r))).length = (stanzaT (stzH n (q + 1))).length + 1 + (textS (layG (n + q + 2) (p :: r))).length := by
        show (stanzaT (stzH n (q + 1)) ++ [10] ++ textS (layG (n + q + 2) (p :: r))).length = _
        simp only [List.length_append, List.length_cons, List.length_nil]
      rw [e]
      simp only [List.length_cons] at h2 ⊢
      omega
end Go.Proofs.YtmhobdlhmkbkdaaDoor.Sz
