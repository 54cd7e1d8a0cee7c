/- WeightSums. -/
import Derived.Test.YtaghhdgiegcimaaDoorWw
namespace Go.Proofs.YtaghhdgiegcimaaDoor
open Go.RowKit

theorem fRow_drewN {w : World} {A : Option Addr} {bs : List Nat} (h : FRow w A bs) (n : Nat) : FRow (w.drewN n) A bs := h
set_option maxHeartbeats 400000 in
theorem bitsL_same (a : Nat) (ha : a < Wm.W) (w : World) (hn : Wm.nan a = false) :
    Calls Tryd.prog 35 #[.float .f64 a, .float .f64 a] w fun e w' => e = .returned (.bool true) ∧ w = w' := by
  have hfb := tb_run
  have o1 := Wm.ord_self a ha
  rw [hn] at o1
  go_enter Tryd.func35, Tryd.ntmps35
  go_wp2_with fail
  go_ret
  exact ⟨rfl, rfl⟩
set_option maxHeartbeats 400000 in
theorem either_nan (a b : Nat) (ha : a < Wm.W) (hb : b < Wm.W) (w : World) (hna : Wm.nan a = true) (hnb : Wm.nan b = true) :
    Calls Tryd.prog 38 #[.float .f64 a, .float .f64 b] w fun e w' => e = .returned (.bool true) ∧ w = w' := by
  have o1 := Wm.ord_self a ha
  have o2 := Wm.ord_self b hb
  rw [hna] at o1
  rw [hnb] at o2
  go_enter Tryd.func38, Tryd.ntmps38
  go_wp2_with fail
  go_ret
  exact ⟨rfl, rfl⟩
set_option maxHeartbeats 400000 in
theorem either_same (a : Nat) (ha : a < Wm.W) (w : World) (hna : Wm.nan a = false) :
    Calls Tryd.prog 38 #[.float .f64 a, .float .f64 a] w fun e w' => e = .returned (.bool true) ∧ w = w' := by
  have o1 := Wm.ord_self a ha
  rw [hna] at o1
  go_enter Tryd.func38, Tryd.ntmps38
  go_wp2_with fail
  refine (bitsL_same a ha _ hna).mono ?_
  rintro e w1 ⟨g1, g2⟩; subst g2; subst g1
  go_wp2_with fail
  go_ret
  exact ⟨rfl, rfl⟩
theorem either_sums {bs : List Nat} {x y : Nat} (hx : SumSt bs x) (hy : SumSt bs y) (w : World) :
    Calls Tryd.prog 38 #[.float .f64 x, .float .f64 y] w fun e w' => e = .returned (.bool true) ∧ w = w' := by
  obtain ⟨hxw, hx⟩ := hx
  obtain ⟨hyw, hy⟩ := hy
  cases hs : sumF bs with
  | none => rw [hs] at hx hy; exact either_nan x y hxw hyw w hx hy
  | some b =>
    rw [hs] at hx hy
    simp only at hx hy
    subst hx
    subst hy
    cases hn : Wm.nan y
    · exact either_same y hxw w hn
    · exact either_nan y y hxw hxw w hn hn
set_option maxHeartbeats 2000000 in
theorem weightSums_any (A : Option Addr) (c : Nat) (ns : List Nat) (w : World) (h : URow w A ns) (hn : ∀ n ∈ ns, n < Wm.W) (hk : KOk w) :
    Calls Tryd.prog 9 #[.slice A ns.length c] w fun e w' => e = .returned (.bool true) ∧ Below w.heap.size w w' := by
  have HR := Lib.hid h
  have HN := Lib.hid hn
  have hfb := fb_run
  clear h hn
  go_enter Tryd.func9, Tryd.ntmps9
  go_wp2_with fail
  refine (known_any w hk).mono ?_
  rintro e w1 ⟨rfl, h1⟩
  have HD := Lib.hid h1
  clear h1 hk
  by_cases hl : 100 < ns.length
  · go_wp2_with fail
    go_ret
    exact ⟨rfl, HD.out⟩
  go_wp2_with fail
  go_loopw [3, 4] (fun f i wr => ∃ (k : Nat), k ≤ ns.length ∧ i = .int .i64 k ∧ Hid (FOwn wr w.heap.size f (ns.take k)) ∧ Hid (Below w.heap.size w wr)) (fun _ i _ => ns.length - (intOf i).toNat)
  case atStart => exact ⟨0, by omega, rfl, fOwn_nil _ _, HD⟩
  case round =>
    obtain ⟨k, hk, rfl, HF, HB⟩ := hrel
    by_cases hlt : k < ns.length
    · have hR := uRow_below HR.out HB.out
      obtain ⟨ad, n, rfl, hn, hc⟩ := uRow_at hR k hlt
      clear hR
      have hsz : w.heap.size ≤ wr.heap.size := HB.out.size
      have HT := Lib.hid (take_snoc hlt hn)
      clear hn
      go_wp2_with (at_builtin; refine append_float rfl _ _ rfl w.heap.size _ (ns.take k) [n] rfl (fOwn_alloc HF.out _) ⟨wr.heap.size, 0, none⟩ _ rfl (cell_newF wr _ n) ?c1 ?c2 ?_)
      case c1 => simp; omega
      case c2 => simp; omega
      intro v5 W5 ho5 hg5
      have HB5 := Lib.hid ((HB.out.alloc hsz (.cells #[.float .f64 n] 39)).trans (fGrown_below (fOwn_alloc HF.out _) (by simp; omega) hg5))
      have HF5 : Hid (FOwn W5 w.heap.size v5 (ns.take (k + 1))) := by show FOwn _ _ _ _; rw [HT.out]; exact ho5
      clear ho5 hg5 HF HB
      go_wp2_with fail
      go_roundw
      case rel => exact ⟨k + 1, by omega, by go_num, HF5, HB5⟩
      case measure => simp [intOf]; omega
    · obtain rfl : k = ns.length := by omega
      have HF1 : Hid (FOwn wr w.heap.size u3 ns) := by show FOwn _ _ _ _; have := HF.out; rwa [List.take_length] at this
      clear HF hlt
      obtain ⟨A2, c2, rfl, hrow⟩ := fOwn_row HF1.out
      have HRW := Lib.hid hrow
      clear hrow
      go_wp2_with fail
      refine (greatest_w A2 c2 ns _ HRW.out (by omega) HN.out).mono ?_
      rintro e w3 ⟨g1, g2⟩; subst g2; subst g1
      go_wp2_with fail
      refine (refGreatest_any A2 c2 ns _ HRW.out (by omega) HN.out).mono ?_
      rintro e w4 ⟨g1, m, rfl⟩; subst g1
      generalize great ns = g at *
      have hok : (decide (0 < ns.length) == decide (0 < ns.length)) = true := by simp
      go_wp2_with fail
      refine (sum_w A2 c2 ns _ (fRow_drewN HRW.out m) (by omega)).mono ?_
      rintro e w5 ⟨⟨x, g1, hx⟩, m2, rfl⟩; subst g1
      have HX := Lib.hid hx
      clear hx
      go_wp2_with fail
      refine (refSum_any A2 c2 ns _ (fRow_drewN HRW.out (m + m2)) (by omega)).mono ?_
      rintro e w6 ⟨⟨y, g1, hy⟩, m3, rfl⟩; subst g1
      have HY := Lib.hid hy
      clear hy
      go_wp2_with fail
      refine (either_sums HX.out HY.out _).mono ?_
      rintro e w7 ⟨g1, g2⟩; subst g2; subst g1
      go_wp2_with fail
      go_ret
      exact ⟨rfl, below_drewN HB.out _⟩
end Go.Proofs.YtaghhdgiegcimaaDoor
