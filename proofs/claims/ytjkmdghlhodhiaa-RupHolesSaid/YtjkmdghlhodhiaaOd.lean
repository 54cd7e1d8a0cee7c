/- The reference's one literal of a clause: walked. -/
import Derived.Test.YtjkmdghlhodhiaaOc
namespace Go.Proofs.Ytjkmdghlhodhiaa.Up
/-- What unit's loop keeps. -/
def USt (c m : List Int) (j : Nat) (u : Int) : Prop := (u = 0 ∧ ∀ y ∈ c.take j, valL m y = -1) ∨ (u ≠ 0 ∧ u ∈ c.take j ∧ valL m u = 0 ∧ ∀ y ∈ c.take j, y ≠ u → valL m y = -1)
theorem mem_take_more {c : List Int} {j : Nat} {x y : Int} (hj : j < c.length) (hx : c[j] = x) : y ∈ c.take (j + 1) ↔ y ∈ c.take j ∨ y = x := by
  rw [List.take_succ_eq_append_getElem hj, hx, List.mem_append, List.mem_singleton]
theorem ust_neg {c m : List Int} {j : Nat} {u x : Int} (h : USt c m j u) (hj : j < c.length) (hx : c[j] = x) (hv : valL m x = -1) : USt c m (j + 1) u := by
  rcases h with ⟨h1, h2⟩ | ⟨h1, h2, h3, h4⟩
  · refine .inl ⟨h1, fun y hy => ?_⟩
    rcases (mem_take_more hj hx).1 hy with hy | rfl
    · exact h2 y hy
    · exact hv
  · refine .inr ⟨h1, (mem_take_more hj hx).2 (.inl h2), h3, fun y hy hne => ?_⟩
    rcases (mem_take_more hj hx).1 hy with hy | rfl
    · exact h4 y hy hne
    · exact hv
theorem ust_same {c m : List Int} {j : Nat} {u x : Int} (h : USt c m j u) (hj : j < c.length) (hx : c[j] = x) (hu : x = u) (h0 : x ≠ 0) : USt c m (j + 1) u := by
  subst hu
  rcases h with ⟨h1, h2⟩ | ⟨h1, h2, h3, h4⟩
  · exact absurd h1 h0
  · refine .inr ⟨h1, (mem_take_more hj hx).2 (.inl h2), h3, fun y hy hne => ?_⟩
    rcases (mem_take_more hj hx).1 hy with hy | rfl
    · exact h4 y hy hne
    · exact absurd rfl hne
theorem ust_new {c m : List Int} {j : Nat} {x : Int} (h : USt c m j 0) (hj : j < c.length) (hx : c[j] = x) (h0 : x ≠ 0) (hv : valL m x = 0) : USt c m (j + 1) x := by
  rcases h with ⟨h1, h2⟩ | ⟨h1, _⟩
  · refine .inr ⟨h0, (mem_take_more hj hx).2 (.inr rfl), hv, fun y hy hne => ?_⟩
    rcases (mem_take_more hj hx).1 hy with hy | rfl
    · exact h2 y hy
    · exact absurd rfl hne
  · exact absurd rfl h1
theorem ust_two {c m : List Int} {j : Nat} {u x : Int} (h : USt c m j u) (hj : j < c.length) (hx : c[j] = x) (hv : valL m x = 0) (hne : x ≠ u) (hu : u ≠ 0) : UnitR c m 0 false := by
  rcases h with ⟨h1, _⟩ | ⟨_, h2, h3, _⟩
  · exact absurd h1 hu
  · exact .inl ⟨rfl, rfl, .inr ⟨u, List.mem_of_mem_take h2, x, hx ▸ List.getElem_mem hj, fun e => hne e.symm, h3, hv⟩⟩
theorem ust_end {c m : List Int} {j : Nat} {u : Int} (h : USt c m j u) (hj : c.length ≤ j) : UnitR c m u (u == 0) := by
  unfold USt at h
  rw [List.take_of_length_le hj] at h
  rcases h with ⟨rfl, h2⟩ | ⟨h1, h2, h3, h4⟩
  · exact .inr (.inr ⟨rfl, rfl, h2⟩)
  · exact .inr (.inl ⟨h1, by simpa using h1, h2, h3, h4⟩)
end Go.Proofs.Ytjkmdghlhodhiaa.Up
namespace Go.Proofs.Ytjkmdghlhodhiaa
open Go.RowKit Cl Up
attribute [local go_sem ↓] Go.wp_at_zero Go.wp_at_succ
set_option maxRecDepth 100000 in
set_option maxHeartbeats 3200000 in
theorem refUnit_any (A B : Option Addr) (k d n N c : Nat) (l m : List Int) (w : World) (hk : l.length = k) (hl : IRow w A l) (hN : m.length = N) (hr : IRow w B m) (hm : MOk n m) (hx : ∀ x ∈ l, LitOf n x) (hn : n ≤ 1000000) (hk2 : k ≤ 1000000) :
    Calls Try.prog 52 #[.slice A k d, .slice B N c] w fun e w' => ∃ u b, e = .returned (.tuple #[.int .i64 u, .bool b]) ∧ UnitR l m u b ∧ w = w' := by
  have HK := Lib.hid hk
  have HL := Lib.hid hl
  have HV := fun x (hx : LitOf n x) => refVal_any B n N c m x w hN hr hm hx hn
  have HVV := Lib.hid HV
  have HT := Lib.hid (val_tri hm)
  have HX := Lib.hid hx
  clear hk hl hN hr hm hx HV
  go_enter Try.func52, Try.ntmps52
  go_wp2_with fail
  go_loopw [6, 7, 8] (fun uu i _ wr => ∃ (j : Nat) (u : Int), j ≤ k ∧ uu = .int .i64 u ∧ i = .int .i64 j ∧ Hid (USt l m j u) ∧ w = wr) (fun _ i _ _ => k - (intOf i).toNat)
  case atStart => exact ⟨0, 0, Nat.zero_le _, rfl, rfl, .inl ⟨rfl, fun y h => absurd h (by simp)⟩, rfl⟩
  case round =>
    obtain ⟨j, u, hj, rfl, rfl, HS, rfl⟩ := hrel
    by_cases hlt : j < k
    · have hjl : j < l.length := by rw [HK.out]; exact hlt
      obtain ⟨ad, x, rfl, hx, hxb, hc⟩ := irow_at HL.out j hjl
      have hxl := HX.out x (hx ▸ List.getElem_mem hjl)
      have j0 : (0 : Int) ≤ (j : Int) := by omega
      have j1 : (j : Int) < (k : Int) := by omega
      have HC := Lib.hid (HVV.out x hxl)
      have hvt := HT.out x
      obtain ⟨v, hv⟩ : ∃ v, valL m x = v := ⟨_, rfl⟩
      rw [hv] at hvt HC
      have h0 := hxl.1
      by_cases v1 : v = 1
      · subst v1
        have HU : Hid (UnitR l m 0 false) := .inl ⟨rfl, rfl, .inl ⟨x, hx ▸ List.getElem_mem hjl, hv⟩⟩
        clear hx hxb hxl hvt hv h0 hjl
        go_wp2_with (go_at_call 50; refine HC.out.mono ?_)
        rintro _ w2 ⟨rfl, rfl⟩
        go_wp2_with fail
        go_ret2
        exact ⟨0, false, rfl, HU.out, rfl⟩
      · by_cases v2 : v = -1
        · subst v2
          have HS2 := Lib.hid (ust_neg HS.out hjl hx hv)
          clear hx hxb hxl hvt hv h0 hjl v1
          go_wp2_with (go_at_call 50; refine HC.out.mono ?_)
          rintro _ w2 ⟨rfl, rfl⟩
          go_wp2_with fail
          go_roundw
          case rel => exact ⟨j + 1, u, by omega, rfl, by go_num, HS2.out, trivial⟩
          case measure => simp [intOf]; omega
        · obtain rfl : v = 0 := by omega
          cases hxu : x == u
          · have hne : x ≠ u := by simpa using hxu
            cases hu0 : u == 0
            · have hu1 : (u != 0) = true := by show (!(u == 0)) = true; rw [hu0]; rfl
              have HU := Lib.hid (ust_two HS.out hjl hx hv hne (by simpa using hu0))
              clear hx hxb hxl hvt hv h0 hjl v1 v2 hne
              go_wp2_with (go_at_call 50; refine HC.out.mono ?_)
              rintro _ w2 ⟨rfl, rfl⟩
              go_wp2_with fail
              go_ret2
              exact ⟨0, false, rfl, HU.out, rfl⟩
            · obtain rfl : u = 0 := by simpa using hu0
              have HS2 := Lib.hid (ust_new HS.out hjl hx h0 hv)
              clear hx hxb hxl hvt hv h0 hjl v1 v2 hne hu0
              go_wp2_with (go_at_call 50; refine HC.out.mono ?_)
              rintro _ w2 ⟨rfl, rfl⟩
              go_wp2_with fail
              go_roundw
              case rel => exact ⟨j + 1, x, by omega, rfl, by go_num, HS2.out, trivial⟩
              case measure => simp [intOf]; omega
          · have HS2 := Lib.hid (ust_same HS.out hjl hx (by simpa using hxu) h0)
            clear hx hxb hxl hvt hv h0 hjl v1 v2
            go_wp2_with (go_at_call 50; refine HC.out.mono ?_)
            rintro _ w2 ⟨rfl, rfl⟩
            go_wp2_with fail
            go_roundw
            case rel => exact ⟨j + 1, u, by omega, rfl, by go_num, HS2.out, trivial⟩
            case measure => simp [intOf]; omega
    · have HU := Lib.hid (ust_end HS.out (by rw [HK.out]; omega))
      go_wp2_with fail
      go_ret2
      exact ⟨u, u == 0, rfl, HU.out, rfl⟩
end Go.Proofs.Ytjkmdghlhodhiaa
