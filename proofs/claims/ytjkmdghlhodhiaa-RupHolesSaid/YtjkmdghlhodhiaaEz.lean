/- Rows of clauses compared: Equal, EqualFunc, Same: walked. -/
import Derived.Test.YtjkmdghlhodhiaaEm
namespace Go.Proofs.Ytjkmdghlhodhiaa.Cl
open Go.RowKit Up
attribute [local go_sem ↓] Go.wp_at_zero Go.wp_at_succ
set_option maxRecDepth 100000 in
set_option maxHeartbeats 1600000 in
theorem eqClause_any (A B : Option Addr) (n m c d : Nat) (l k : List Int) (w : World) (hn : l.length = n) (hm : k.length = m) (hr : IRow w A l) (hq : IRow w B k) (hl : n ≤ 1000000) :
    Calls Try.prog 43 #[.slice A n c, .slice B m d] w fun e w' => e = .returned (.bool (decide (l = k))) ∧ Below w.heap.size w w' := by
  obtain ⟨X, hX⟩ : ∃ X, decide (l = k) = X := ⟨_, rfl⟩
  rw [hX]
  have HX := Lib.hid hX
  have HR := Lib.hid hr
  have HQ := Lib.hid hq
  have HN := Lib.hid hn
  have HM := Lib.hid hm
  clear hX hr hq hn hm
  by_cases hlen : n = m
  · have hd : ((n : Int) != m) = false := by rw [hlen]; simp
    have HL := Lib.hid hlen
    clear hlen
    go_enter Try.func43, Try.ntmps43
    go_wp2_with fail
    clear hd
    go_loopw [13] (fun i wr => ∃ j : Nat, j ≤ n ∧ i = .int .i64 j ∧ Hid (l.take j = k.take j) ∧ Hid (Below w.heap.size w wr)) (fun i _ => n - (intOf i).toNat)
    case atStart => exact ⟨0, Nat.zero_le _, rfl, rfl, Below.refl _ _⟩
    case round =>
      obtain ⟨j, hj, rfl, HT, HW⟩ := hrel
      by_cases hlt : j < n
      · have hlt2 : j < m := by have := HL.out; omega
        have h1 : j < l.length := by rw [HN.out]; exact hlt
        have h2 : j < k.length := by rw [HM.out]; exact hlt2
        obtain ⟨ad, x, rfl, hx, hs, hc⟩ := irow_at (irow_below HR.out HW.out) j h1
        obtain ⟨ae, y, rfl, hy, ht, he⟩ := irow_at (irow_below HQ.out HW.out) j h2
        have j0 : (0 : Int) ≤ (j : Int) := by omega
        have j1 : (j : Int) < (n : Int) := by omega
        have j2 : (j : Int) < (m : Int) := by omega
        have HT2 : Hid (x = y → l.take (j + 1) = k.take (j + 1)) := fun q => by
          rw [List.take_succ_eq_append_getElem h1, List.take_succ_eq_append_getElem h2, HT.out, hx, hy, q]
        have HNE : Hid (x ≠ y → X = false) := fun q => by
          rw [← HX.out]; exact decide_eq_false fun h => q (by subst h; rw [← hx, ← hy])
        clear h1 h2 hx hy hs ht
        by_cases hq : x = y
        · have hd : (x != y) = false := by simpa using hq
          have HT3 := Lib.hid (HT2.out hq)
          clear hq HT2 HNE
          go_wp2_with fail
          go_quiet (fail)
          go_wp2_with fail
          go_roundw
          case rel => exact ⟨j + 1, by omega, by go_num, HT3.out, below_drewN HW.out _⟩
          case measure => simp [intOf]; omega
        · have hd : (x != y) = true := by simpa using hq
          have HFF := Lib.hid (HNE.out hq)
          clear hq HT2 HNE
          go_wp2_with fail
          go_quiet (fail)
          go_wp2_with fail
          go_ret
          exact ⟨by rw [HFF.out]; rfl, below_drewN HW.out _⟩
      · obtain rfl : j = n := by omega
        have HFT : Hid (X = true) := by
          show _ = _
          have := HT.out
          rw [List.take_of_length_le (by rw [HN.out]; exact Nat.le_refl _), List.take_of_length_le (by rw [HM.out, HL.out]; exact Nat.le_refl _)] at this
          rw [← HX.out]; exact decide_eq_true this
        clear HT
        go_wp2_with fail
        go_ret
        exact ⟨by rw [HFT.out]; rfl, HW.out⟩
  · have hd : ((n : Int) != m) = true := by simp; omega
    have HFF : Hid (X = false) := by show _ = _; rw [← HX.out]; exact decide_eq_false fun h => hlen (by rw [← HN.out, ← HM.out, h])
    clear hlen
    go_enter Try.func43, Try.ntmps43
    go_wp2_with fail
    go_ret
    exact ⟨by rw [HFF.out]; rfl, Below.refl _ _⟩
set_option maxRecDepth 100000 in
set_option maxHeartbeats 1600000 in
theorem eqClauses_any (A B : Option Addr) (n m c d : Nat) (l k : List (List Int)) (w : World) (hn : l.length = n) (hm : k.length = m) (hr : GRow w A l) (hq : GRow w B k) (hl : n ≤ 1000000) (hs : ∀ x ∈ l, x.length ≤ 1000000) :
    Calls Try.prog 42 #[.slice A n c, .slice B m d, .func (.func 43) #[] #[]] w fun e w' => e = .returned (.bool (decide (l = k))) ∧ Below w.heap.size w w' := by
  obtain ⟨X, hX⟩ : ∃ X, decide (l = k) = X := ⟨_, rfl⟩
  rw [hX]
  have HX := Lib.hid hX
  have HR := Lib.hid hr
  have HQ := Lib.hid hq
  have HN := Lib.hid hn
  have HM := Lib.hid hm
  have HS := Lib.hid hs
  clear hX hr hq hn hm hs
  by_cases hlen : n = m
  · have hd : ((n : Int) != m) = false := by rw [hlen]; simp
    have HL := Lib.hid hlen
    clear hlen
    go_enter Try.func42, Try.ntmps42
    go_wp2_with fail
    clear hd
    go_loopw [17] (fun i wr => ∃ j : Nat, j ≤ n ∧ i = .int .i64 j ∧ Hid (l.take j = k.take j) ∧ Hid (Below w.heap.size w wr)) (fun i _ => n - (intOf i).toNat)
    case atStart => exact ⟨0, Nat.zero_le _, rfl, rfl, Below.refl _ _⟩
    case round =>
      obtain ⟨j, hj, rfl, HT, HW⟩ := hrel
      by_cases hlt : j < n
      · have hlt2 : j < m := by have := HL.out; omega
        have h1 : j < l.length := by rw [HN.out]; exact hlt
        have h2 : j < k.length := by rw [HM.out]; exact hlt2
        obtain ⟨ad, C, p, cx, x, rfl, hb, hc, hx, hxl, hxr⟩ := grow_at (Gr.row_below HR.out HW.out) j h1
        obtain ⟨ae, D, q, cy, y, rfl, hb2, he, hy, hyl, hyr⟩ := grow_at (Gr.row_below HQ.out HW.out) j h2
        have j0 : (0 : Int) ≤ (j : Int) := by omega
        have j1 : (j : Int) < (n : Int) := by omega
        have j2 : (j : Int) < (m : Int) := by omega
        have HT2 : Hid (x = y → l.take (j + 1) = k.take (j + 1)) := fun q => by
          rw [List.take_succ_eq_append_getElem h1, List.take_succ_eq_append_getElem h2, HT.out, hx, hy, q]
        have HNE : Hid (x ≠ y → X = false) := fun q => by
          rw [← HX.out]; exact decide_eq_false fun h => q (by subst h; rw [← hx, ← hy])
        have HEQ := Lib.hid (eqClause_any C D p q cx cy x y wr hxl hyl hxr hyr (by rw [← hxl, ← hx]; exact HS.out _ (List.getElem_mem _)))
        clear h1 h2 hx hy hb hb2 hxl hxr hyl hyr
        go_wp2_with fail
        refine HEQ.out.mono ?_
        rintro _ u ⟨rfl, hb⟩
        have HU : Hid (Below w.heap.size w u) := HW.out.trans (hb.mono HW.out.size)
        clear hb HEQ hc he
        by_cases hq : x = y
        · rw [decide_eq_true hq]
          have HT3 := Lib.hid (HT2.out hq)
          clear HT2 HNE hq
          go_wp2_with fail
          go_roundw
          case rel => exact ⟨j + 1, by omega, by go_num, HT3.out, HU.out⟩
          case measure => simp [intOf]; omega
        · rw [decide_eq_false hq]
          have HFF := Lib.hid (HNE.out hq)
          clear HT2 HNE hq
          go_wp2_with fail
          go_ret
          exact ⟨by rw [HFF.out]; rfl, HU.out⟩
      · obtain rfl : j = n := by omega
        have HFT : Hid (X = true) := by
          show _ = _
          have := HT.out
          rw [List.take_of_length_le (by rw [HN.out]; exact Nat.le_refl _), List.take_of_length_le (by rw [HM.out, HL.out]; exact Nat.le_refl _)] at this
          rw [← HX.out]; exact decide_eq_true this
        clear HT
        go_wp2_with fail
        go_ret
        exact ⟨by rw [HFT.out]; rfl, HW.out⟩
  · have hd : ((n : Int) != m) = true := by simp; omega
    have HFF : Hid (X = false) := by show _ = _; rw [← HX.out]; exact decide_eq_false fun h => hlen (by rw [← HN.out, ← HM.out, h])
    clear hlen
    go_enter Try.func42, Try.ntmps42
    go_wp2_with fail
    go_ret
    exact ⟨by rw [HFF.out]; rfl, Below.refl _ _⟩
set_option maxRecDepth 100000 in
set_option maxHeartbeats 800000 in
theorem pSame_any (A B : Option Addr) (n m c d : Nat) (l k : List (List Int)) (w : World) (hn : l.length = n) (hm : k.length = m) (hr : GRow w A l) (hq : GRow w B k) (hl : n ≤ 1000000) (hs : ∀ x ∈ l, x.length ≤ 1000000) :
    Calls Try.prog 30 #[.slice A n c, .slice B m d] w fun e w' => e = .returned (.bool (decide (l = k))) ∧ Below w.heap.size w w' := by
  have HC := Lib.hid (eqClauses_any A B n m c d l k w hn hm hr hq hl hs)
  obtain ⟨X, hX⟩ : ∃ X, decide (l = k) = X := ⟨_, rfl⟩
  rw [hX] at HC ⊢
  clear hX hn hm hr hq hs
  go_enter Try.func30, Try.ntmps30
  go_wp2_with fail
  refine HC.out.mono ?_
  rintro _ u ⟨rfl, hb⟩
  have HB := Lib.hid hb
  clear hb
  go_wp2_with fail
  go_ret
  exact ⟨rfl, HB.out⟩
theorem sameC_any (Q : World → Prop) : SameC Q := fun A B n m c d l k w hn hm hr hq hl _ hs _ _ => pSame_any A B n m c d l k w hn hm hr hq (by omega) fun x h => Nat.le_trans (hs x h) (by decide)
end Go.Proofs.Ytjkmdghlhodhiaa.Cl
