/- Norm's sort and what Compact leaves: rows of one's own, the library's contracts at them. -/
import Derived.Test.YtoioeekfnnoaoaaGreatDoorEya
import Derived.Test.YtoioeekfnnoaoaaGreatDoorShelfE
import Derived.Lib.OwnBridge
import Derived.Shelf.SlSortCmp.Whole1
import Derived.Shelf.SlicesG.CompactI
namespace Go.Proofs.YtoioeekfnnoaoaaGreatDoor.Cl
open Go.RowKit Up Go.Sort Go.Shelf
/-! Plain. -/
theorem ahead_same {a b : Int} (h1 : ¬ Ahead a b) (h2 : ¬ Ahead b a) : a = b := by unfold Ahead at *; omega
theorem ahead_le {a b c : Int} (h1 : ¬ Ahead b a) (h2 : ¬ Ahead c b) : ¬ Ahead c a := by unfold Ahead at *; omega
/-- Of a row in order what Compact leaves is strictly in order, and has the same members. -/
theorem cmp_srt (d : Array Int) (hs : ∀ i j, i < j → j < d.size → ¬ Ahead d[j]! d[i]!) : ∀ m, m ≤ d.size → Srt (Lib.compactUpTo d m) ∧ ∀ x, x ∈ Lib.compactUpTo d m ↔ ∃ i, i < m ∧ d[i]! = x
  | 0, _ => ⟨.nil, fun x => ⟨fun h => by simp [Lib.compactUpTo] at h, fun ⟨i, h, _⟩ => absurd h (Nat.not_lt_zero _)⟩⟩
  | m + 1, hm => by
    obtain ⟨h1, h2⟩ := cmp_srt d hs m (by omega)
    rw [Lib.compactUpTo_succ]
    by_cases hk : Lib.keeps d m = true
    · rw [if_pos hk]
      have hk2 : m = 0 ∨ d[m]! ≠ d[m - 1]! := by simpa [Lib.keeps] using hk
      refine ⟨List.pairwise_append.2 ⟨h1, List.pairwise_singleton .., fun y hy z hz => ?_⟩, fun x => ?_⟩
      · rw [List.mem_singleton.1 hz]
        obtain ⟨i, hi, rfl⟩ := (h2 y).1 hy
        have n1 := hs i m hi (by omega)
        by_cases he : d[m]! = d[i]!
        · exfalso
          rcases hk2 with h0 | h0
          · omega
          · by_cases hi2 : i = m - 1
            · subst hi2; exact h0 he
            · have a1 := hs i (m - 1) (by omega) (by omega)
              have a2 := hs (m - 1) m (by omega) (by omega)
              rw [he] at a2 h0
              exact h0 (ahead_same a2 a1)
        · exact ahead_or n1 he
      · rw [List.mem_append, List.mem_singleton, h2 x]
        constructor
        · rintro (⟨i, h, e⟩ | e)
          · exact ⟨i, by omega, e⟩
          · exact ⟨m, by omega, e.symm⟩
        · rintro ⟨i, h, e⟩
          by_cases him : i = m
          · subst him; exact .inr e.symm
          · exact .inl ⟨i, by omega, e⟩
    · rw [if_neg hk, List.append_nil]
      have hk2 : m ≠ 0 ∧ d[m]! = d[m - 1]! := by simpa [Lib.keeps] using hk
      refine ⟨h1, fun x => ?_⟩
      rw [h2 x]
      constructor
      · rintro ⟨i, h, e⟩; exact ⟨i, by omega, e⟩
      · rintro ⟨i, h, e⟩
        by_cases him : i = m
        · subst him; exact ⟨i - 1, by omega, by rw [← hk2.2]; exact e⟩
        · exact ⟨i, by omega, e⟩
theorem compact_srt {l : List Int} (hs : ∀ i j, i < j → j < l.length → ¬ Ahead l.toArray[j]! l.toArray[i]!) : Srt (Lib.compact l) ∧ ∀ x, x ∈ Lib.compact l ↔ x ∈ l := by
  obtain ⟨h1, h2⟩ := cmp_srt l.toArray (by simpa using hs) l.length (by simp)
  refine ⟨h1, fun x => ?_⟩
  unfold Lib.compact
  rw [h2 x]
  constructor
  · rintro ⟨i, hi, rfl⟩
    rw [getElem!_pos l.toArray i (by simpa using hi)]
    simp
  · intro h
    obtain ⟨i, hi, e⟩ := List.getElem_of_mem h
    exact ⟨i, hi, by rw [getElem!_pos l.toArray i (by simpa using hi)]; simpa using e⟩
/-! A row of one's own in memory. -/
def ORow (w : World) (B : Nat) (A : Option Addr) (l : List Int) : Prop := 0 < l.length → ∃ g, A = some ⟨g, 0, none⟩ ∧ B ≤ g ∧ g < w.heap.size ∧ Holds (Value.int .i64) w g 0 l.toArray
theorem orow_row {w : World} {B : Nat} {A : Option Addr} {l : List Int} (h : ORow w B A l) : IRow w A l := fun h0 => by
  obtain ⟨g, rfl, _, hg, hH⟩ := h h0
  refine ⟨_, rfl, hg, fun i hi j v hv => ?_⟩
  have hj : j = 0 := by have := (List.getElem?_eq_some_iff.1 hv).1; simp [encI] at this; exact this
  subst hj
  rw [if_pos rfl, Nat.mul_one, addr_b]
  obtain ⟨c, _⟩ := hH i (by simpa using hi)
  rw [getElem!_pos l.toArray i (by simpa using hi), Nat.zero_add] at c
  rw [c]
  simpa [encI] using hv
/-- A value that is no literal in the limits counts as 0: what the order is asked of every value. -/
def clp (x : Int) : Int := if x.natAbs ≤ 100000 then x else 0
theorem clp_in (x : Int) : In64 (clp x) := by unfold clp In64; split <;> omega
theorem clp_id {x : Int} (h : x.natAbs ≤ 100000) : clp x = x := if_pos h
def encL (x : Int) : Value := .int .i64 (clp x)
def cfQ (x y : Int) : Int := cfL (clp x) (clp y)
theorem lt_cfQ (x y : Int) : ltOf cfQ x y = decide (Ahead (clp x) (clp y)) := cfL_dec _ _
theorem swo_cfQ : SWO (ltOf cfQ) where
  irrefl x := by rw [lt_cfQ]; refine decide_eq_false ?_; unfold Ahead; omega
  trans x y z h1 h2 := by
    rw [lt_cfQ] at *
    exact decide_eq_true (ahead_trans (of_decide_eq_true h1) (of_decide_eq_true h2))
  ntrans x y z h1 h2 := by
    rw [lt_cfQ] at *
    exact decide_eq_false (ahead_le (of_decide_eq_false h2) (of_decide_eq_false h1))
theorem below_sort {B : Nat} {w : World} {g n : Nat} {d : Array Int} {os : Array Obj} (hg : B ≤ g) (hw : g < w.heap.size) : Below B w (sortWorld encL w g 0 n d os) :=
  (Lib.below_putRow (q := n) (d := d) (enc := encL) (Below.refl B w) hg).trans ⟨rfl, rfl, rfl, by simp [sortWorld, grow], fun k hk => by
    unfold sortWorld
    exact heap_grow_old _ _ (by rw [size_putRow]; show k < w.heap.size; omega)⟩
theorem holds_as {enc enc' : Int → Value} {w : World} {g : Nat} {d : Array Int} (h : Holds enc w g 0 d) (he : ∀ j, j < d.size → enc d[j]! = enc' d[j]!) : Holds enc' w g 0 d := fun j hj => ⟨by rw [← he j hj]; exact (h j hj).1, (h j hj).2⟩
theorem orow_own {w : World} {B : Nat} {T : TypeId} {A : Option Addr} {n c : Nat} {l : List Int} (h : Rg.Own encI 1 w B T (.slice A n c) l) : ORow w B A l := fun h0 => by
  obtain ⟨g, rfl, hB, hg, hf⟩ := Rg.own_form h h0
  refine ⟨g, rfl, hB, hg, fun j hj => ?_⟩
  obtain ⟨A', c', e, hrow, _⟩ := Rg.row_own fitsI h
  cases e
  obtain ⟨ad, x, e2, hx, _, hc⟩ := irow_at hrow j (by simpa using hj)
  cases e2
  rw [addr_b] at hc
  rw [Nat.zero_add, getElem!_pos l.toArray j hj]
  exact ⟨by rw [hc, ← hx]; simp, hf j⟩
attribute [local go_sem ↓] Go.wp_at_zero Go.wp_at_succ
/-- The sort below its entry. -/
theorem pdq_any {B : Nat} (A : Option Addr) (n c : Nat) (l : List Int) (w : World) (hn : l.length = n) (hl : n ≤ 1000) (hb : ∀ x ∈ l, x.natAbs ≤ 100000) (h : ORow w B A l) :
    Calls Tryz.prog 70 #[.slice A n c, .int .i64 0, .int .i64 n, .int .i64 (Lib.bitLen n : Nat), .func (.func 54) #[] #[]] w fun e w' => e = .returned (.tuple #[]) ∧ ∃ l' : List Int, l'.Perm l ∧ (∀ i j, i < j → j < l'.length → ¬ Ahead l'.toArray[j]! l'.toArray[i]!) ∧ ORow w' B A l' ∧ Below B w w' := by
  subst hn
  by_cases h0 : 0 < l.length
  · obtain ⟨g, rfl, hBg, hg, hH⟩ := h h0
    have eg : ∀ args w, (callFunc 54 args).run Tryz.prog w = .ok (.enter 54 args) w := enters_of Tryz.func54 (by kernel_rfl) rfl
    have hin : ∀ j, j < l.toArray.size → Value.int .i64 l.toArray[j]! = encL l.toArray[j]! := fun j hj => by
      have hm : l.toArray[j]! ∈ l := by rw [getElem!_pos l.toArray j hj]; simp
      unfold encL; rw [clp_id (hb _ hm)]
    have hL := holds_as hH hin
    have hcmp : CmpLays1 Tryz.prog 54 #[] encL cfQ g 0 l.toArray.size w := fun m os dk _ x y => by
      refine (byVariable_any (clp x) (clp y) (clp_in x) (clp_in y) (sortWorld encL w g 0 m dk os)).mono ?_
      rintro e w' ⟨rfl, p, q, rfl⟩
      exact ⟨rfl, 0, _, alloc_eq_grow _ _⟩
    have hcon := Tryz.pdq_at encL (fun _ => rfl) cfQ swo_cfQ 54 #[] g 0 c l.toArray w eg hcmp hL hg (by simp; omega)
    rw [List.size_toArray] at hcon
    refine hcon.mono ?_
    rintro e w' ⟨rfl, d', q, os, ⟨hs, _, hp⟩, hso, rfl⟩
    have hs2 : d'.size = l.length := by simpa using hs
    have hp2 : d'.toList.Perm l := by
      have := hp
      have e1 : d'.extract 0 l.length = d' := Array.extract_eq_self_of_le (Nat.le_of_eq hs2)
      have e2 : l.toArray.extract 0 l.length = l.toArray := Array.extract_eq_self_of_le (Nat.le_of_eq (List.size_toArray ..))
      rw [e1, e2] at this
      exact this
    have hd : ∀ j, j < d'.size → (d'[j]!).natAbs ≤ 100000 := fun j hj => hb _ (hp2.mem_iff.1 (by rw [getElem!_pos d' j hj]; simp))
    refine ⟨rfl, d'.toList, hp2, fun i j hij hj => ?_, fun _ => ⟨g, rfl, hBg, ?_, ?_⟩, below_sort hBg hg⟩
    · have hj' : j < d'.size := by simpa using hj
      have := hso i j (Nat.zero_le _) hij (by rw [← hs2]; exact hj')
      rw [lt_cfQ, clp_id (hd j hj'), clp_id (hd i (by omega))] at this
      simpa using of_decide_eq_false this
    · exact Nat.lt_of_lt_of_le hg (below_sort (B := B) hBg hg).size
    · have hW : SW encL w g 0 d' (sortWorld encL w g 0 q d' os) := ⟨q, os, rfl⟩
      have := hW.holds hg hL (by simpa using hs)
      refine holds_as (by simpa using this) fun j hj => ?_
      have hj' : j < d'.size := by simpa using hj
      unfold encL
      rw [Array.toArray_toList, clp_id (hd j hj')]
  · have e0 : l = [] := List.length_eq_zero_iff.1 (by omega)
    subst e0
    refine (Tryz.pdq_nil A c _ _ w).mono ?_
    rintro e w' ⟨rfl, rfl⟩
    exact ⟨rfl, [], .refl _, fun i j h1 h2 => absurd h2 (by simp), fun h => absurd h (by simp), Below.refl _ _⟩
set_option maxHeartbeats 800000 in
theorem sort_any {B : Nat} (A : Option Addr) (n c : Nat) (l : List Int) (w : World) (hn : l.length = n) (hl : n ≤ 1000) (hb : ∀ x ∈ l, x.natAbs ≤ 100000) (h : ORow w B A l) :
    Calls Tryz.prog 53 #[.slice A n c, .func (.func 54) #[] #[]] w fun e w' => e = .returned (.tuple #[]) ∧ ∃ l' : List Int, l'.Perm l ∧ (∀ i j, i < j → j < l'.length → ¬ Ahead l'.toArray[j]! l'.toArray[i]!) ∧ ORow w' B A l' ∧ Below B w w' := by
  have HP := Lib.hid (pdq_any A n c l w hn hl hb h)
  have HB := Lib.hid (Tryz.bitsLen_at (n : Int) w (by omega) (by omega))
  have hw : IntKind.u64.wrap (n : Int) = (n : Int) := u64_in (by omega) (by omega)
  rw [Int.toNat_natCast] at HB
  clear hn hb h
  go_enter Tryz.func53, Tryz.ntmps53
  go_wp2_with fail
  refine HB.out.mono ?_
  rintro _ z ⟨rfl, rfl⟩
  go_wp2_with fail
  refine HP.out.mono ?_
  rintro _ z ⟨rfl, l', h1, h2, h3, h4⟩
  have HH : Hid (∃ l' : List Int, l'.Perm l ∧ (∀ i j, i < j → j < l'.length → ¬ Ahead l'.toArray[j]! l'.toArray[i]!) ∧ ORow z B A l' ∧ RowKit.Below B _ z) := ⟨l', h1, h2, h3, h4⟩
  clear h1 h2 h3 h4
  go_wp2_with fail
  go_end0
  exact ⟨rfl, HH.out⟩
theorem compact_any {B : Nat} (A : Option Addr) (n c : Nat) (l : List Int) (w : World) (hn : l.length = n) (hl : n ≤ 1000) (hc : n ≤ c) (h : ORow w B A l) :
    Calls Tryz.prog 55 #[.slice A n c] w fun e w' => e = .returned (.slice A (Lib.compact l).length c) ∧ ORow w' B A (Lib.compact l) ∧ Below B w w' := by
  subst hn
  by_cases h0 : 0 < l.length
  · obtain ⟨g, rfl, hBg, hg, hH⟩ := h h0
    refine (Tryz.compact_at g 0 c l w hH (by omega) hc).mono ?_
    rintro e w' ⟨rfl, q, rfl⟩
    have hle := Lib.compact_length_le l
    have hsz : (Lib.compact l ++ List.replicate (l.length - (Lib.compact l).length) 0).toArray.size = l.toArray.size := by simp; omega
    refine ⟨rfl, fun _ => ⟨g, rfl, hBg, ?_, fun j hj => ?_⟩, Lib.below_putRow (Below.refl B w) hBg⟩
    · rw [size_putRow]; exact hg
    · have hj' : j < (Lib.compact l).length := by simpa using hj
      have hA : Holds (Value.int .i64) (Sort.ahead w q) g 0 l.toArray := hH
      have := holds_putRow (Value.int .i64) (Sort.ahead w q) g 0 l.toArray _ hA hsz j (by rw [hsz]; simp; omega)
      refine ⟨?_, this.2⟩
      rw [this.1, getElem!_pos _ j (by rw [hsz]; simp; omega), getElem!_pos _ j hj]
      simp [List.getElem_append_left hj']
  · have e0 : l = [] := List.length_eq_zero_iff.1 (by omega)
    subst e0
    refine (Tryz.compact_nil A c w).mono ?_
    rintro e w' ⟨rfl, rfl⟩
    exact ⟨rfl, fun h => absurd h (by simp [Lib.compact, Lib.compactUpTo]), Below.refl _ _⟩
end Go.Proofs.YtoioeekfnnoaoaaGreatDoor.Cl
