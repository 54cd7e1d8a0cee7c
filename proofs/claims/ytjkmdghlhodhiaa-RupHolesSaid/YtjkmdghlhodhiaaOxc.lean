/- What remains of a clause: walked. -/
import Derived.Test.YtjkmdghlhodhiaaOxb
import Derived.Test.YtjkmdghlhodhiaaEu
namespace Go.Proofs.Ytjkmdghlhodhiaa.Up
open Go.RowKit Cl
/-- A slice of numbers with room for them. -/
def VRow (w : World) (v : Value) (r : List Int) : Prop := ∃ A q, v = .slice A r.length q ∧ r.length ≤ q ∧ IRow w A r
def lenOf : Value → Nat
  | .slice _ n _ => n
  | _ => 0
theorem vrow_mk {w : World} {A : Option Addr} {r : List Int} {p q : Nat} (h : r.length = p) (hq : p ≤ q) (hr : IRow w A r) : VRow w (.slice A p q) r := ⟨A, q, by rw [h], by rw [h]; exact hq, hr⟩
theorem getD_mem {r : List Int} {i : Nat} (hi : i < r.length) : r.getD i 0 ∈ r := by
  rw [List.getD_eq_getElem?_getD, List.getElem?_eq_getElem hi]; exact List.getElem_mem hi
theorem getD_take {r : List Int} {p : Nat} (hp : 0 < p) : (r.take p).getD 0 0 = r.getD 0 0 := by
  match r, p, hp with
  | [], _, _ => simp
  | x :: r, p + 1, _ => rfl
end Go.Proofs.Ytjkmdghlhodhiaa.Up
namespace Go.Proofs.Ytjkmdghlhodhiaa
open Go.RowKit Cl Up
attribute [local go_sem ↓] Go.wp_at_zero Go.wp_at_succ
set_option maxRecDepth 100000 in
set_option maxHeartbeats 3200000 in
theorem pRem_none (A B : Option Addr) (d c : Nat) (N : Nat) (w : World) :
    Calls Try.prog 60 #[.slice A N d, .slice B 0 c] w fun e w' => e = .returned (.slice B 0 c) ∧ Below w.heap.size w w' := by
  go_enter Try.func60, Try.ntmps60
  go_wp2_with fail
  go_loopw [1] (fun v wr => v = .slice B 0 c ∧ w = wr) (fun _ _ => 0)
  case atStart => exact ⟨rfl, rfl⟩
  case round =>
    obtain ⟨rfl, rfl⟩ := hrel
    go_wp2_with fail
    go_loopw [1, 5] (fun v u wr => v = .slice B 0 c ∧ u = .int .i64 (-1) ∧ Below w.heap.size w wr) (fun _ _ _ => 0)
    case atStart => exact ⟨rfl, rfl, Below.refl _ _⟩
    case round =>
      obtain ⟨rfl, rfl, hw⟩ := hrel
      go_wp2_with fail
      go_quiet (fail)
      go_wp2_with fail
      go_ret
      exact ⟨rfl, below_drewN hw _⟩
set_option maxRecDepth 100000 in
set_option maxHeartbeats 6400000 in
theorem pRem_some (A B : Option Addr) (n N d k c : Nat) (m l : List Int) (w0 w : World) (hw0 : Below w0.heap.size w0 w) (hN : m.length = N) (hr : IRow w A (kL m)) (hm : MOk n m) (hk : l.length = k) (hk0 : 0 < k) (hkc : k ≤ c) (hl : IRow w0 B l) (hx : ∀ y ∈ l, LitOf n y) (hn : n ≤ 1000000) (hk2 : k ≤ 1000000) :
    Calls Try.prog 60 #[.slice A N d, .slice B k c] w fun e w' => ∃ v r, e = .returned v ∧ VRow w0 v r ∧ RemR l r m ∧ Below w.heap.size w w' := by
  have HF := Lib.hid fun (u : World) (hu : Below w.heap.size w u) (x : Int) (hx : LitOf n x) => pFalse_any A n N d m x u hN (irow_below hr hu) hm hx hn
  have HST := Lib.hid (rst_self l m)
  have HW0 := Lib.hid hw0
  have HX := Lib.hid hx
  have HL := Lib.hid hl
  have HK := Lib.hid hk
  clear hN hr hm hk hl hx hw0
  go_enter Try.func60, Try.ntmps60
  go_wp2_with fail
  go_loopw [1] (fun v wr => ∃ (B' : Option Addr) (r : List Int) (p q : Nat), v = .slice B' p q ∧ Hid (r.length = p) ∧ 0 < p ∧ p ≤ q ∧ p ≤ 1000000 ∧ Hid (IRow w0 B' r) ∧ Hid (RSt l r m) ∧ w = wr) (fun v _ => lenOf v)
  case atStart => exact ⟨B, l, k, c, rfl, HK, hk0, hkc, hk2, HL, HST, rfl⟩
  case round =>
    obtain ⟨B', r, p, q, rfl, HP, hp0, hpq, hp6, HR, HS, rfl⟩ := hrel
    by_cases h1 : 1 < p
    · obtain ⟨ad, x, rfl, hx0, hxb, hxc⟩ := irow_at (irow_below HR.out HW0.out) 0 (by rw [HP.out]; omega)
      rw [Rg.add_zero] at hxc
      have hx0' : r.getD 0 0 = x := by rw [List.getD_eq_getElem?_getD, List.getElem?_eq_getElem (by rw [HP.out]; omega), hx0]; rfl
      have HXL : Hid (LitOf n x) := HX.out x (HS.out.sub x (hx0 ▸ List.getElem_mem _))
      have HC := Lib.hid (HF.out w (Below.refl _ _) x HXL.out)
      have d0 : decide ((p : Int) > 1) = true := decide_eq_true (by omega)
      have d1 : decide ((1 : Int) < p) = true := decide_eq_true (by omega)
      have p0 : (0 : Int) < p := by omega
      by_cases hv : valL m x = -1
      · have dv : decide (valL m x = -1) = true := decide_eq_true hv
        rw [dv] at HC
        have HS2 := Lib.hid (rst_drop HS.out (by rw [HP.out]; omega) (by rw [hx0']; exact hv))
        have HR2 : Hid (IRow w0 (some ⟨ad.block, ad.off + 1, none⟩) (r.drop 1)) := Rg.row_drop HR.out 1 (fun _ => by show _ = some (ad.add 1); unfold Addr.add; rfl)
        have HP2 : Hid ((r.drop 1).length = p - 1) := by show _ = _; rw [List.length_drop, HP.out]
        have hl1 : (1 : Int) ≤ p := by omega
        have hpq2 : (p : Int) ≤ q := by omega
        clear hx0 hx0' hxb hv dv
        go_wp2_with fail
        refine HC.out.mono ?_
        rintro _ z ⟨rfl, rfl⟩
        go_wp2_with fail
        refine ⟨⟨_, _, _, _, rfl, HP2, by omega, by omega, by omega, HR2, HS2, trivial⟩, ?_⟩
        show p - 1 < p
        omega
      · have dv : decide (valL m x = -1) = false := decide_eq_false hv
        rw [dv] at HC
        have HNV : Hid (2 ≤ p → valL m (r.getD 0 0) ≠ -1) := fun _ => by rw [hx0']; exact hv
        obtain ⟨s, hs⟩ : ∃ s, p = s + 1 := ⟨p - 1, by omega⟩
        have HPS := Lib.hid hs
        have ws : IntKind.i64.wrap ((p : Int) - 1) = (s : Int) := (IntWalk.i64_in _ (by omega)).trans (by omega)
        clear hx0 hx0' hxb hv dv hs
        go_wp2_with fail
        refine HC.out.mono ?_
        rintro _ z ⟨rfl, rfl⟩
        go_wp2_with fail
        clear d0 d1 p0 ws hxc HC HXL
        go_loopw [1, 5] (fun v la wr => ∃ (r : List Int) (p s : Nat), v = .slice (some ad) p q ∧ la = .int .i64 (s : Int) ∧ Hid (p = s + 1) ∧ p ≤ q ∧ p ≤ 1000000 ∧ Hid (r.length = p) ∧ Hid (IRow w0 (some ad) r) ∧ Hid (RSt l r m) ∧ Hid (2 ≤ p → valL m (r.getD 0 0) ≠ -1) ∧ Hid (Below w.heap.size w wr)) (fun v _ _ => lenOf v)
        case atStart => exact ⟨r, p, s, rfl, rfl, HPS, hpq, hp6, HP, HR, HS, HNV, Below.refl _ _⟩
        case round =>
          clear HPS HNV HR HS HP hpq hp6 h1 hp0
          obtain ⟨r, p, s, rfl, rfl, HPS, hpq, hp6, HP, HR, HS, HNV, HB⟩ := hrel
          by_cases h1 : 0 < s
          · have hps := HPS.out
            obtain ⟨a0, x, ha0, hx0, hxb, hxc⟩ := irow_at (irow_below HR.out (HW0.out.trans (HB.out.mono HW0.out.size))) 0 (by rw [HP.out]; omega)
            obtain rfl := Option.some.inj ha0
            obtain ⟨a1, y, ha1, hy0, hyb, hyc⟩ := irow_at (irow_below HR.out (HW0.out.trans (HB.out.mono HW0.out.size))) s (by rw [HP.out]; omega)
            obtain rfl := Option.some.inj ha1
            rw [Rg.add_zero] at hxc
            have hx0' : r.getD 0 0 = x := by rw [List.getD_eq_getElem?_getD, List.getElem?_eq_getElem (by rw [HP.out]; omega), hx0]; rfl
            have hy0' : r.getD s 0 = y := by rw [List.getD_eq_getElem?_getD, List.getElem?_eq_getElem (by rw [HP.out]; omega), hy0]; rfl
            have HYL : Hid (LitOf n y) := HX.out y (HS.out.sub y (hy0 ▸ List.getElem_mem _))
            have d0 : decide ((s : Int) > 0) = true := decide_eq_true (by omega)
            have d1 : decide ((0 : Int) < s) = true := decide_eq_true (by omega)
            have d2 : (0 : Int) < s := by omega
            have p0 : (0 : Int) < p := by omega
            have p1 : (0 : Int) ≤ s := by omega
            have p2 : (s : Int) < p := by omega
            have p3 : (s : Int) ≤ q := by omega
            obtain ⟨s', hs'⟩ : ∃ s', s = s' + 1 := ⟨s - 1, by omega⟩
            have HS' := Lib.hid hs'
            have ws : IntKind.i64.wrap ((s : Int) - 1) = (s' : Int) := (IntWalk.i64_in _ (by omega)).trans (by omega)
            have HTK : Hid ((r.getD s 0 = r.getD 0 0 ∨ valL m (r.getD s 0) = -1) → ∃ r2, r2.length = s ∧ IRow w0 (some ad) r2 ∧ RSt l r2 m ∧ (2 ≤ s → valL m (r2.getD 0 0) ≠ -1)) := fun h => ⟨r.take s, by rw [List.length_take, HP.out]; omega, Rg.row_take HR.out s, rst_take HS.out (by rw [HP.out]; exact hps) h1 h, fun h2 => by rw [getD_take h1]; exact HNV.out (by omega)⟩
            by_cases hxy : y = x
            · have dxy : (y == x) = true := by simpa using hxy
              obtain ⟨r2, t1, t2, t3, t4⟩ := HTK.out (.inl (by rw [hx0', hy0', hxy]))
              have T1 := Lib.hid t1
              have T2 := Lib.hid t2
              have T3 := Lib.hid t3
              have T4 := Lib.hid t4
              clear hps hx0 hy0 hxb hyb hx0' hy0' HTK hs' hxy t1 t2 t3 t4
              go_wp2_with fail
              go_quiet (fail)
              go_wp2_with fail
              refine ⟨⟨r2, s, s', rfl, rfl, HS', by omega, by omega, T1, T2, T3, T4, below_drewN HB.out _⟩, ?_⟩
              show s < p
              have := HPS.out
              omega
            · have dxy : (y == x) = false := by simpa using hxy
              have HCY := Lib.hid fun (u : World) (hu : Below w.heap.size w u) => HF.out u hu y HYL.out
              by_cases hv : valL m y = -1
              · have dv : decide (valL m y = -1) = true := decide_eq_true hv
                rw [dv] at HCY
                obtain ⟨r2, t1, t2, t3, t4⟩ := HTK.out (.inr (by rw [hy0']; exact hv))
                have T1 := Lib.hid t1
                have T2 := Lib.hid t2
                have T3 := Lib.hid t3
                have T4 := Lib.hid t4
                clear hps hx0 hy0 hxb hyb hx0' hy0' HTK hs' hxy t1 t2 t3 t4 hv dv
                go_wp2_with fail
                go_quiet (first | (refine (HCY.out _ (by first | exact below_drewN HB.out _ | exact HB.out)).mono ?_; rintro _ z ⟨rfl, rfl⟩; exact ⟨rfl, _, rfl⟩) | fail)
                go_wp2_with fail
                refine ⟨⟨r2, s, s', rfl, rfl, HS', by omega, by omega, T1, T2, T3, T4, below_drewN HB.out _⟩, ?_⟩
                show s < p
                have := HPS.out
                omega
              · have dv : decide (valL m y = -1) = false := decide_eq_false hv
                rw [dv] at HCY
                have HFIN : Hid (RemR l r m) := rem_two HS.out (HP.out.trans hps) (by rw [hx0', hy0']; exact hxy) (HNV.out (by omega)) (by rw [hy0']; exact hv)
                clear hps hx0 hy0 hxb hyb hx0' hy0' HTK hs' hxy hv dv
                go_wp2_with fail
                go_quiet (first | (refine (HCY.out _ (by first | exact below_drewN HB.out _ | exact HB.out)).mono ?_; rintro _ z ⟨rfl, rfl⟩; exact ⟨rfl, _, rfl⟩) | fail)
                go_wp2_with fail
                go_ret
                exact ⟨_, r, rfl, vrow_mk HP.out hpq HR.out, HFIN.out, below_drewN HB.out _⟩
          · have hps := HPS.out
            have d0 : decide ((s : Int) > 0) = false := decide_eq_false (by omega)
            have d1 : decide ((0 : Int) < s) = false := decide_eq_false (by omega)
            have HFIN : Hid (RemR l r m) := rem_one HS.out (by rw [HP.out]; omega)
            clear hps
            go_wp2_with fail
            go_quiet (fail)
            go_wp2_with fail
            go_ret
            exact ⟨_, r, rfl, vrow_mk HP.out hpq HR.out, HFIN.out, below_drewN HB.out _⟩
    · have d0 : decide ((p : Int) > 1) = false := decide_eq_false (by omega)
      have d1 : decide ((1 : Int) < p) = false := decide_eq_false (by omega)
      have ws : IntKind.i64.wrap ((p : Int) - 1) = 0 := (IntWalk.i64_in _ (by omega)).trans (by omega)
      have HFIN : Hid (RemR l r m) := rem_one HS.out (by rw [HP.out]; omega)
      go_wp2_with fail
      clear d0 d1 ws
      go_loopw [1, 5] (fun v u wr => v = .slice B' p q ∧ u = .int .i64 0 ∧ Below w.heap.size w wr) (fun _ _ _ => 0)
      case atStart => exact ⟨rfl, rfl, Below.refl _ _⟩
      case round =>
        obtain ⟨rfl, rfl, hw⟩ := hrel
        have HB := Lib.hid hw
        clear hw
        go_wp2_with fail
        go_quiet (fail)
        go_wp2_with fail
        go_ret
        exact ⟨_, r, rfl, vrow_mk HP.out hpq HR.out, HFIN.out, below_drewN HB.out _⟩
theorem Up.pRem_any (A B : Option Addr) (n N d k c : Nat) (m l : List Int) (w0 w : World) (hw0 : Below w0.heap.size w0 w) (hN : m.length = N) (hr : IRow w A (kL m)) (hm : MOk n m) (hk : l.length = k) (hkc : k ≤ c) (hl : IRow w0 B l) (hx : ∀ y ∈ l, LitOf n y) (hn : n ≤ 1000000) (hk2 : k ≤ 1000000) :
    Calls Try.prog 60 #[.slice A N d, .slice B k c] w fun e w' => ∃ v r, e = .returned v ∧ VRow w0 v r ∧ RemR l r m ∧ Below w.heap.size w w' := by
  rcases Nat.eq_zero_or_pos k with rfl | h0
  · obtain rfl := List.length_eq_zero_iff.1 hk
    exact (pRem_none A B d c N w).mono fun e w' ⟨h1, h2⟩ => ⟨_, [], h1, ⟨B, c, rfl, Nat.zero_le _, irow_nil _ _⟩, rem_one (rst_self _ _) (by simp), h2⟩
  · exact pRem_some A B n N d k c m l w0 w hw0 hN hr hm hk h0 hkc hl hx hn hk2
end Go.Proofs.Ytjkmdghlhodhiaa
