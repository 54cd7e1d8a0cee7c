/- Clauses of the same literals in another order: the law walked. -/
import Derived.Test.YtoioeekfnnoaoaaGreatDoorEm
import Derived.Test.YtoioeekfnnoaoaaGreatDoorEr
import Derived.Deep.QuietTactic
namespace Go.Proofs.YtoioeekfnnoaoaaGreatDoor.Cl
open Go.RowKit Up
theorem app_done13 {α : Type} {enc : α → List Value} {K : Nat} {T : TypeId} {v : Value} {l : List α} {w wr W5 : World} {o : Obj} (hB : Hid (Below w.heap.size w wr ∧ w.heap.size ≤ wr.heap.size)) (hO : Hid (Rg.Own enc K wr w.heap.size T v l)) (hg : (wr.alloc o).grownBy W5 v.ownBlock) :
    Hid (Below w.heap.size w W5 ∧ w.heap.size ≤ W5.heap.size) := by
  have h1 : Below w.heap.size w (wr.alloc o) := hB.out.1.alloc hB.out.2 _
  have e : (wr.alloc o).heap.size = wr.heap.size + 1 := by simp
  have h2 : w.heap.size ≤ (wr.alloc o).heap.size := by have := hB.out.2; omega
  exact ⟨h1.trans (Rg.grown_below (Rg.own_below hO.out ((Below.refl _ _).alloc (Nat.le_refl _) _)) h2 hg), Nat.le_trans h2 hg.size⟩
/-- A row turned about: its first j. -/
def turnL (l : List Int) (t j : Nat) : List Int := (List.range j).map fun i => l.getD ((i + t) % l.length) 0
theorem turnL_len (l : List Int) (t j : Nat) : (turnL l t j).length = j := by unfold turnL; simp
theorem turnL_more (l : List Int) (t j : Nat) : turnL l t (j + 1) = turnL l t j ++ [l.getD ((j + t) % l.length) 0] := by
  unfold turnL
  rw [List.range_succ, List.map_append]; rfl
theorem getD_in {l : List Int} {i : Nat} (h : i < l.length) : l.getD i 0 = l[i] := by rw [List.getD_eq_getElem?_getD, List.getElem?_eq_getElem h]; rfl
theorem getD_mem {l : List Int} {i : Nat} (h : i < l.length) : l.getD i 0 ∈ l := by rw [getD_in h]; exact List.getElem_mem h
theorem turn_mem {l : List Int} (h0 : 0 < l.length) (t s : Nat) (z : Int) : z ∈ l ↔ z ∈ turnL l t l.length ++ [l.getD (s % l.length) 0] := by
  constructor
  · intro hz
    obtain ⟨k, hk, rfl⟩ := List.getElem_of_mem hz
    refine List.mem_append.2 (.inl (List.mem_map.2 ⟨(k + (l.length - t % l.length)) % l.length, List.mem_range.2 (Nat.mod_lt _ h0), ?_⟩))
    have e : ((k + (l.length - t % l.length)) % l.length + t) % l.length = k := by
      rw [Nat.mod_add_mod]
      have h1 := Nat.mod_lt t h0
      have h2 := Nat.div_add_mod t l.length
      have h3 : k + (l.length - t % l.length) + t = k + l.length * (t / l.length + 1) := by
        rw [Nat.mul_add, Nat.mul_one]; omega
      rw [h3, Nat.add_mul_mod_self_left, Nat.mod_eq_of_lt hk]
    rw [e, getD_in hk]
  · intro hz
    rcases List.mem_append.1 hz with hz | hz
    · obtain ⟨i, _, rfl⟩ := List.mem_map.1 hz
      exact getD_mem (Nat.mod_lt _ h0)
    · rw [List.mem_singleton.1 hz]
      exact getD_mem (Nat.mod_lt _ h0)
theorem up_at {x : List Int} (h : Up x) {j k : Nat} (hk : k = j + 1) (hkl : k < x.length) : (x[j]'(by omega)).natAbs < x[k].natAbs := (List.pairwise_iff_getElem.1 h) j k _ hkl (by omega)
end Go.Proofs.YtoioeekfnnoaoaaGreatDoor.Cl
namespace Go.Proofs.YtoioeekfnnoaoaaGreatDoor
open Go.RowKit Cl Up
attribute [local go_sem ↓] Go.wp_at_zero Go.wp_at_succ
set_option maxRecDepth 100000 in
set_option maxHeartbeats 3200000 in
theorem both_any (A : Option Addr) (c : Nat) (x y : List Int) (w : World) (hr : GRow w A [x, y]) :
    Calls Tryz.prog 30 #[.slice A 2 c] w fun e w' => ∃ C d, e = .returned (.slice C 2 d) ∧ GRow w' C [x, y] ∧ Below w.heap.size w w' := by
  obtain ⟨ad, C, k, cc, x', rfl, hbx, hc, hx, hxl, hxr⟩ := grow_at hr 0 (by simp)
  obtain ⟨ae, D, m, dd, y', hae, hby, hd, hy, hyl, hyr⟩ := grow_at hr 1 (by simp)
  obtain rfl : ad = ae := Option.some.inj hae
  obtain rfl : x = x' := hx
  obtain rfl : y = y' := hy
  rw [Rg.add_zero] at hc
  have hd2 : w.cell? ⟨ad.block, ad.off + 1, none⟩ = some (.slice D m dd) := hd
  go_enter Tryz.func30, Tryz.ntmps30
  go_wp2_with fail
  go_region_held3 (fun u => u.cell? ad = some (.slice C k cc) ∧ u.cell? ⟨ad.block, ad.off + 1, none⟩ = some (.slice D m dd)) (go_keep) (fail)
  go_wp2_with fail
  go_ret
  have hA : Below w.heap.size w (w.alloc (.cells #[.slice C k cc, .slice D m dd] 35)) := (Below.refl _ _).alloc (Nat.le_refl _) _
  have hG : GRow (w.alloc (.cells #[.slice C k cc, .slice D m dd] 35)) (some ⟨w.heap.size, 0, none⟩) [x, y] := grid_of (drow_new w _ [(C, k, cc), (D, m, dd)] _ rfl) rfl (in_cons hxl.symm (irow_below hxr hA) (in_cons hyl.symm (irow_below hyr hA) (in_nil _)))
  exact ⟨_, _, rfl, Gr.row_below hG (Below.refl _ _).drew, hA.drew⟩
set_option maxRecDepth 100000 in
set_option maxHeartbeats 12800000 in
theorem cnfSame_any {Q : World → Prop} (HQ : Stays Q) (HKN : KnownC13 Q) (HNO : NormC Q) (HTX : TextC Q) (HPA : ParseC Q) (A : Option Addr) (n c t s : Nat) (l : List Int) (w : World) (hn : l.length = n) (hl : IRow w A l) (ht : t ≤ 255) (hs : s ≤ 255) (hq : Q w) :
    Calls Tryz.prog 7 #[.slice A n c, .int .u8 t, .int .u8 s] w fun e w' => e = .returned (.bool true) ∧ Below w.heap.size w w' := by
  have HK0 := Lib.hid (HKN w hq)
  have HQQ := Lib.hid fun (u : World) (hb : Below w.heap.size w u) => HQ w u hq hb
  have HN := Lib.hid hn
  have HL := Lib.hid fun (u : World) (h : Below w.heap.size w u) => irow_below hl h
  have HNOC := Lib.hid HNO
  have HTXC := Lib.hid HTX
  have HPAC := Lib.hid HPA
  clear hn hl hq HKN HNO HTX HPA
  go_enter Tryz.func7, Tryz.ntmps7
  go_wp2_with (go_at_call 9; refine HK0.out.mono ?_)
  rintro _ u0 ⟨rfl, hb⟩
  have HB0 : Hid (Below w.heap.size w u0 ∧ w.heap.size ≤ u0.heap.size) := ⟨hb, hb.size⟩
  clear hb HK0
  by_cases hn0 : n < 1
  · have hn0' : (n : Int) < 1 := by omega
    go_wp2_with fail
    go_ret
    exact ⟨rfl, HB0.out.1⟩
  by_cases hn1 : 60 < n
  · have hn1' : (60 : Int) < (n : Int) := by omega
    have hn0' : ¬ ((n : Int) < 1) := by omega
    go_wp2_with fail
    go_ret
    exact ⟨rfl, HB0.out.1⟩
  have hn0' : ¬ ((n : Int) < 1) := by omega
  have hn1' : ¬ ((60 : Int) < (n : Int)) := by omega
  go_wp2_with fail
  go_loopw [7] (fun i wr => ∃ j : Nat, j ≤ n ∧ i = .int .i64 j ∧ wr = u0 ∧ Hid (∀ x ∈ l.take j, x ≠ 0 ∧ -256 ≤ x ∧ x ≤ 256)) (fun i _ => n - (intOf i).toNat)
  case atStart => exact ⟨0, Nat.zero_le _, rfl, rfl, fun c h => absurd h (by simp)⟩
  case round =>
    obtain ⟨j, hj, rfl, rfl, HT⟩ := hrel
    by_cases hlt : j < n
    · have hjl : j < l.length := by rw [HN.out]; exact hlt
      obtain ⟨ad, x, rfl, hx, hbx, hc⟩ := irow_at (HL.out wr HB0.out.1) j hjl
      have j0 : (0 : Int) ≤ (j : Int) := by omega
      have j1 : (j : Int) < (n : Int) := by omega
      have HOK : Hid ((x == 0 || (decide ((256 : Int) < x) || decide (x < (-256 : Int)))) = false → ∀ y ∈ l.take (j + 1), y ≠ 0 ∧ -256 ≤ y ∧ y ≤ 256) := fun e y hy => by
        rw [List.take_succ_eq_append_getElem hjl, hx] at hy
        rcases List.mem_append.1 hy with hy | hy
        · exact HT.out y hy
        · rw [List.mem_singleton.1 hy]
          simp only [Bool.or_eq_false_iff, beq_eq_false_iff_ne, decide_eq_false_iff_not] at e
          exact ⟨e.1, by omega, by omega⟩
      clear hx hjl hbx
      cases e0 : (x == 0)
      · cases e1 : decide ((256 : Int) < x)
        · cases e2 : decide (x < (-256 : Int))
          · have HZ := Lib.hid (HOK.out (by rw [e0, e1, e2]; rfl))
            clear HOK
            go_wp2_with fail
            go_roundw
            case rel => exact ⟨j + 1, by omega, by go_num, by first | exact rfl | trivial, HZ.out⟩
            case measure => simp [intOf]; omega
          · go_wp2_with fail
            go_ret
            exact ⟨rfl, HB0.out.1⟩
        · go_wp2_with fail
          go_ret
          exact ⟨rfl, HB0.out.1⟩
      · go_wp2_with fail
        go_ret
        exact ⟨rfl, HB0.out.1⟩
    · have HALL : Hid (∀ x ∈ l, x ≠ 0 ∧ -256 ≤ x ∧ x ≤ 256) := fun x hx => HT.out x (by rw [List.take_of_length_le (by rw [HN.out]; omega)]; exact hx)
      have hjn : ¬ ((j : Int) < (n : Int)) := by omega
      clear HT
      have wt : IntKind.i64.wrap (t : Int) = (t : Int) := IntWalk.i64_in _ (by omega)
      have ws : IntKind.i64.wrap (s : Int) = (s : Int) := IntWalk.i64_in _ (by omega)
      have hz0 : ¬ ((n : Int) = 0) := by omega
      go_wp2_with fail
      go_loopw [8, 9] (fun v i wr2 => ∃ k : Nat, k ≤ n ∧ i = .int .i64 k ∧ Hid (Rg.Own encI 1 wr2 w.heap.size 3 v (turnL l t k)) ∧ Hid (Below w.heap.size w wr2 ∧ w.heap.size ≤ wr2.heap.size)) (fun _ i _ => n - (intOf i).toNat)
      case atStart => exact ⟨0, Nat.zero_le _, rfl, Rg.own_nil _ _ _, HB0.out⟩
      case round =>
        obtain ⟨k, hk, rfl, HO, HB⟩ := hrel
        by_cases hlt2 : k < n
        · obtain ⟨r, hr⟩ : ∃ r, (k + t) % n = r := ⟨_, rfl⟩
          have hrn : r < n := by rw [← hr]; exact Nat.mod_lt _ (by omega)
          have hrl : r < l.length := by rw [HN.out]; exact hrn
          obtain ⟨ad, x, rfl, hx, hbx, hc⟩ := irow_at (HL.out w (Below.refl _ _)) r hrl
          have hcx := cell_below hc hbx HB.out.1
          have HMORE : Hid (turnL l t (k + 1) = turnL l t k ++ [x]) := by
            show _ = _
            rw [turnL_more, HN.out, hr, getD_in hrl, hx]
          have j0 : (0 : Int) ≤ (r : Int) := by omega
          have j1 : (r : Int) < (n : Int) := by omega
          have j2 : (k : Int) < (n : Int) := by omega
          have wk : IntKind.i64.wrap ((k : Int) + (t : Int)) = (((k + t : Nat) : Int)) := IntWalk.i64_in _ (by omega)
          have wk2 : IntKind.i64.wrap ((k : Int) + (t : Int)) = (k : Int) + (t : Int) := IntWalk.i64_in _ (by omega)
          have er : ((k : Int) + (t : Int)) % (n : Int) = (r : Int) := by rw [← hr]; norm_cast
          have er2 : Int.tmod ((k : Int) + (t : Int)) (n : Int) = (r : Int) := by rw [Int.tmod_eq_emod_of_nonneg (by omega)]; exact er
          have wr1 : IntKind.i64.wrap (r : Int) = (r : Int) := IntWalk.i64_in _ (by omega)
          have HSL : Hid ((turnL l t k).length + 1 ≤ 1000000) := by show _ ≤ _; rw [turnL_len]; omega
          clear hx hbx hc hr hrl wk
          go_wp2_with (at_builtin; refine Rg.wpList_app sliceI rfl (.tmp 62) (.tmp 73) rfl w.heap.size _ (turnL l t k) [x] rfl (Rg.own_below HO.out ((Below.refl _ _).alloc (Nat.le_refl _) _)) _ _ rfl (Rg.news_new wr _ _ _ (by rfl)) (Nat.zero_lt_succ _) HSL.out ?b1 ?_)
          case b1 => have := HB.out.2; simp; omega
          intro v5 W5 ho5 hg5 hz5
          have HB5 := app_done13 HB HO hg5
          have HO5 := Lib.hid ho5
          rw [← HMORE.out] at HO5
          clear ho5 hg5 hz5 HO HB HSL hcx
          go_wp2_with fail
          go_roundw
          case rel => exact ⟨k + 1, by omega, by go_num, HO5.out, HB5.out⟩
          case measure => simp [intOf]; omega
        · have hkn : k = n := by omega
          have hkn2 : ¬ ((k : Int) < (n : Int)) := by omega
          rw [hkn] at HO
          clear hkn
          obtain ⟨r, hr⟩ : ∃ r, s % n = r := ⟨_, rfl⟩
          have hrn : r < n := by rw [← hr]; exact Nat.mod_lt _ (by omega)
          have hrl : r < l.length := by rw [HN.out]; exact hrn
          obtain ⟨ad, x, rfl, hx, hbx, hc⟩ := irow_at (HL.out w (Below.refl _ _)) r hrl
          have hcx := cell_below hc hbx HB.out.1
          obtain ⟨d, hd⟩ : ∃ d, turnL l t n ++ [x] = d := ⟨_, rfl⟩
          have HMEM : Hid (∀ z, z ∈ l ↔ z ∈ d) := fun z => by
            have h := turn_mem (l := l) (by rw [HN.out]; omega) t s z
            rw [HN.out, hr, getD_in hrl, hx, hd] at h
            exact h
          have HDL : Hid (d.length = n + 1) := by show _ = _; rw [← hd, List.length_append, turnL_len]; rfl
          have j0 : (0 : Int) ≤ (r : Int) := by omega
          have j1 : (r : Int) < (n : Int) := by omega
          have er : (s : Int) % (n : Int) = (r : Int) := by rw [← hr]; norm_cast
          have er2 : Int.tmod (s : Int) (n : Int) = (r : Int) := by rw [Int.tmod_eq_emod_of_nonneg (by omega)]; exact er
          have wr1 : IntKind.i64.wrap (r : Int) = (r : Int) := IntWalk.i64_in _ (by omega)
          have HSL : Hid ((turnL l t n).length + 1 ≤ 1000000) := by show _ ≤ _; rw [turnL_len]; omega
          clear hx hbx hc hr hrl
          go_wp2_with (at_builtin; refine Rg.wpList_app sliceI rfl (.tmp 75) (.tmp 84) rfl w.heap.size _ (turnL l t n) [x] rfl (Rg.own_below HO.out ((Below.refl _ _).alloc (Nat.le_refl _) _)) _ _ rfl (Rg.news_new wr _ _ _ (by rfl)) (Nat.zero_lt_succ _) HSL.out ?b2 ?_)
          case b2 => have := HB.out.2; simp; omega
          intro v5 W5 ho5 hg5 hz5
          have HB5 := app_done13 HB HO hg5
          have HO5 := Lib.hid ho5
          first | rw [hd] at HO5 | skip
          clear ho5 hg5 hz5 HO HB HSL hcx hd
          obtain ⟨D, e5, rfl, hrd, _⟩ := Rg.row_own fitsI HO5.out
          rw [HDL.out]
          have HRD := Lib.hid fun (u : World) (h : Below W5.heap.size W5 u) => irow_below hrd h
          clear hrd HO5
          have HN1 := Lib.hid (HNOC.out (some ad) n c l W5 HN.out (HL.out W5 HB5.out.1) (by omega) (fun x hx => by have := HALL.out x hx; exact ⟨this.1, by omega⟩) (HQQ.out W5 HB5.out.1))
          go_wp2_with (go_at_call 25; refine HN1.out.mono ?_)
          rintro _ u1 ⟨C1, e1, x1, ok1, rfl, hi1, hr1, hb1, hs1⟩
          have HU1 := Lib.hid hb1
          have HB6 := Lib.hid (HB5.out.1.trans (hb1.mono HB5.out.2))
          have HI1 := Lib.hid hi1
          have HR1 := Lib.hid hr1
          have HS1 := Lib.hid hs1
          have HN2 := Lib.hid (HNOC.out D (n + 1) e5 d u1 HDL.out (HRD.out u1 hb1) (by omega) (fun x hx => by have := HALL.out x ((HMEM.out x).2 hx); exact ⟨this.1, by omega⟩) (HQQ.out u1 HB6.out))
          clear hi1 hr1 hb1 hs1 HN1
          go_wp2_with (go_at_call 25; refine HN2.out.mono ?_)
          rintro _ u2 ⟨C2, e2, x2, ok2, rfl, hi2, hr2, hb2, hs2⟩
          obtain ⟨rfl, rfl⟩ := norm_one HMEM.out HI1.out hi2
          have HU2 := Lib.hid (HU1.out.trans (hb2.mono HU1.out.size))
          have HB7 := Lib.hid (HB6.out.trans (hb2.mono HB6.out.size))
          obtain ⟨q, hq⟩ : ∃ q, x1.length = q := ⟨_, rfl⟩
          have HQL := Lib.hid hq
          have hq1 : q ≤ 60 := by rw [← hq]; have := HS1.out; rw [HN.out] at this; omega
          simp only [hq]
          have HR2 := Lib.hid hr2
          have HR12 := Lib.hid (irow_below HR1.out hb2)
          have HINT := Lib.hid (ints7_any C1 C2 q q e1 e2 x1 x1 u2 hq hq HR12.out hr2 (by omega))
          have hxx : decide (x1 = x1) = true := by simp
          rw [hxx] at HINT
          clear hi2 hr2 hb2 hs2 hq hxx HN2 HR1 HR2
          go_wp2_with (go_at_call 27; refine HINT.out.mono ?_)
          first | rintro _ u3 rfl hb3 | rintro _ u3 ⟨rfl, hb3⟩
          have HU3 := Lib.hid (HU2.out.trans (hb3.mono HU2.out.size))
          have HB8 := Lib.hid (HB7.out.trans (hb3.mono HB7.out.size))
          have HR13 := Lib.hid fun (u : World) (h : Below u3.heap.size u3 u) => irow_below (irow_below HR12.out hb3) h
          have HUP : Hid (Up x1) := by
            rcases HI1.out with ⟨_, h, _⟩ | ⟨_, _, h, _⟩
            · rw [h]; exact List.Pairwise.nil
            · exact h
          have HX64 : Hid (∀ x ∈ x1, -256 ≤ x ∧ x ≤ 256) := fun x hx => by
            rcases HI1.out with ⟨_, h, _⟩ | ⟨_, _, _, h⟩
            · rw [h] at hx; exact absurd hx (by simp)
            · exact (HALL.out x ((h x).1 hx)).2
          clear hb3 HINT HR12
          go_wp2_with fail
          go_loopw [14, 15, 16] (fun i _ _ wr3 => ∃ k : Nat, 1 ≤ k ∧ k ≤ 61 ∧ i = .int .i64 k ∧ Hid (Below u3.heap.size u3 wr3)) (fun i _ _ _ => 61 - (intOf i).toNat)
          case atStart => exact ⟨1, by omega, by omega, rfl, Below.refl _ _⟩
          case round =>
            obtain ⟨k2, hk1, hk2, rfl, HW⟩ := hrel
            by_cases hlt3 : k2 < q
            · have hkl : k2 < x1.length := by rw [HQL.out]; exact hlt3
              obtain ⟨i2, hi2⟩ : ∃ i, k2 = i + 1 := ⟨k2 - 1, by omega⟩
              have hil : i2 < x1.length := by omega
              obtain ⟨ax, pv, rfl, hx, hbx, hc⟩ := irow_at (HR13.out u3 (Below.refl _ _)) i2 hil
              obtain ⟨ax', qv, hax, hy, hby, hd⟩ := irow_at (HR13.out u3 (Below.refl _ _)) k2 hkl
              obtain rfl : ax = ax' := Option.some.inj hax
              have hup := up_at HUP.out hi2 hkl
              rw [hx, hy] at hup
              have hp64 : -256 ≤ pv ∧ pv ≤ 256 := by rw [← hx]; exact HX64.out _ (List.getElem_mem hil)
              have hq64 : -256 ≤ qv ∧ qv ≤ 256 := by rw [← hy]; exact HX64.out _ (List.getElem_mem hkl)
              have cx := cell_below hc hbx HW.out
              have cy := cell_below hd hby HW.out
              have wi : IntKind.i64.wrap ((k2 : Int) - 1) = (i2 : Int) := by
                have e : (k2 : Int) - 1 = (i2 : Int) := by omega
                rw [e]; exact IntWalk.i64_in _ (by omega)
              have i0 : (0 : Int) ≤ (i2 : Int) := by omega
              have i1 : (i2 : Int) < (q : Int) := by omega
              have k0 : (0 : Int) ≤ (k2 : Int) := by omega
              have k1 : (k2 : Int) < (q : Int) := by omega
              have wp1 : IntKind.i64.wrap (-pv) = -pv := IntWalk.i64_in _ (by omega)
              have wp2 : IntKind.i64.wrap (0 - pv) = -pv := by rw [Int.zero_sub]; exact wp1
              have wq1 : IntKind.i64.wrap (-qv) = -qv := IntWalk.i64_in _ (by omega)
              have wq2 : IntKind.i64.wrap (0 - qv) = -qv := by rw [Int.zero_sub]; exact wq1
              clear hx hy hax hi2 hkl hil hbx hby hc hd
              go_wp2_with fail
              go_quiet (fail)
              have HW2 := Lib.hid (below_drewN HW.out nq)
              generalize wr.drewN nq = w3 at *
              clear cx cy wi i0 i1 k0 k1
              by_cases sp : pv < 0
              · by_cases sq : qv < 0
                · have hg : ¬ (-qv ≤ -pv) := by omega
                  have hg2 : -pv < -qv := by omega
                  have hg3 : decide (-qv ≤ -pv) = false := decide_eq_false hg
                  clear hup
                  go_wp2_with fail
                  go_roundw
                  case rel => exact ⟨k2 + 1, by omega, by omega, by go_num, HW2.out⟩
                  case measure => simp [intOf]; omega
                · have hg : ¬ (qv ≤ -pv) := by omega
                  have hg2 : -pv < qv := by omega
                  have hg3 : decide (qv ≤ -pv) = false := decide_eq_false hg
                  clear hup
                  go_wp2_with fail
                  go_roundw
                  case rel => exact ⟨k2 + 1, by omega, by omega, by go_num, HW2.out⟩
                  case measure => simp [intOf]; omega
              · by_cases sq : qv < 0
                · have hg : ¬ (-qv ≤ pv) := by omega
                  have hg2 : pv < -qv := by omega
                  have hg3 : decide (-qv ≤ pv) = false := decide_eq_false hg
                  clear hup
                  go_wp2_with fail
                  go_roundw
                  case rel => exact ⟨k2 + 1, by omega, by omega, by go_num, HW2.out⟩
                  case measure => simp [intOf]; omega
                · have hg : ¬ (qv ≤ pv) := by omega
                  have hg2 : pv < qv := by omega
                  have hg3 : decide (qv ≤ pv) = false := decide_eq_false hg
                  clear hup
                  go_wp2_with fail
                  go_roundw
                  case rel => exact ⟨k2 + 1, by omega, by omega, by go_num, HW2.out⟩
                  case measure => simp [intOf]; omega
            · have hk3 : ¬ ((k2 : Int) < (q : Int)) := by omega
              have HB9 := Lib.hid (HB8.out.trans (HW.out.mono HB8.out.size))
              have HU9 := Lib.hid (HU3.out.trans (HW.out.mono HU3.out.size))
              have HRD2 := Lib.hid fun (u : World) (h : Below wr.heap.size wr u) => HRD.out u (HU9.out.trans (h.mono HU9.out.size))
              have HL2 := Lib.hid fun (u : World) (h : Below wr.heap.size wr u) => HL.out u (HB9.out.trans (h.mono HB9.out.size))
              have HB9s : Hid (∀ u : World, Below wr.heap.size wr u → Below w.heap.size w u) := fun u h => HB9.out.trans (h.mono HB9.out.size)
              have HCK : Hid ((checkAll (256 : Nat) [l, d]).2 = 0) := by
                have one : ∀ c : List Int, (∀ x ∈ c, x ≠ 0 ∧ -256 ≤ x ∧ x ≤ 256) → c.length ≤ 256 → checkC ((256 : Nat) : Int) c = 0 := fun c h hl => check_of (by omega) (by omega) hl fun x hx => by
                  obtain ⟨a, b, e⟩ := h x hx
                  exact ⟨a, e, b⟩
                have h1 := one l HALL.out (by rw [HN.out]; omega)
                have h2 := one d (fun x hx => HALL.out x ((HMEM.out x).2 hx)) (by rw [HDL.out]; omega)
                show _ = _
                unfold checkAll
                rw [if_neg (by decide), if_neg (by show ¬ (131072 < 2); decide)]
                rw [firstC_ok _ _ _ (fun c hc => by
                  rcases List.mem_cons.1 hc with rfl | hc
                  · exact h1
                  · rw [List.mem_singleton.1 hc]; exact h2)]
              have HTL := Lib.hid (text_short HCK.out (by show 2 ≤ 200; decide))
              have HPT := Lib.hid (parse_text HCK.out HTL.out)
              have HTT := Lib.hid fun (u : World) (X : Option Addr) (h : Below wr.heap.size wr u) (hr : GRow u X [l, d]) => HTXC.out 256 X 2 2 [l, d] u rfl hr HCK.out HTL.out (HQQ.out u (HB9s.out u h))
              have HPP := Lib.hid fun (u : World) (h : Below wr.heap.size wr u) => HPAC.out (textC 256 [l, d]) u HTL.out (HQQ.out u (HB9s.out u h))
              have HSM := Lib.hid fun (u : World) (X Y : Option Addr) (e f : Nat) (h1 : GRow u X [l, d]) (h2 : GRow u Y [l, d]) => refSameClauses_any X Y 2 2 e f [l, d] [l, d] u rfl rfl h1 h2 (by decide) (fun x hx => by
                rcases List.mem_cons.1 hx with rfl | hx
                · rw [HN.out]; omega
                · rw [List.mem_singleton.1 hx, HDL.out]; omega)
              have hll : decide (([l, d] : List (List Int)) = [l, d]) = true := by simp
              simp only [hll] at HSM
              have h256 : ((256 : Nat) : Int) = 256 := rfl
              rw [h256] at HTT
              unfold ParseP at HPP
              rw [HPT.out] at HPP
              simp only [h256] at HPP
              have HN3 := Lib.hid fun (u : World) (a b : Addr) (X : Option Addr) (hX : Rg.Row encO 1 u X [(some a, n, c), (D, n + 1, e5)]) (ha : IRow u (some a) l) (hb : IRow u D d) => grid_of hX rfl (in_cons HN.out.symm ha (in_cons HDL.out.symm hb (in_nil _)))
              obtain ⟨tx, htx⟩ : ∃ t, textC 256 [l, d] = t := ⟨_, rfl⟩
              rw [htx] at HTT HPP
              clear HTL HPT htx hll h256 HCK
              obtain ⟨b6, hb6⟩ : ∃ b, wr.heap.size = b := ⟨_, rfl⟩
              obtain ⟨u6, hu6⟩ : ∃ u, wr.alloc (.cells #[.slice (some ad) n c, .slice D (n + 1) e5] 49) = u := ⟨_, rfl⟩
              have HBA : Hid (Below wr.heap.size wr u6) := by rw [← hu6]; exact (Below.refl _ _).alloc (Nat.le_refl _) _
              have HD6 : Hid (Rg.Row encO 1 u6 (some ⟨b6, 0, none⟩) [(some ad, n, c), (D, n + 1, e5)]) := by show Rg.Row _ _ _ _ _; rw [← hu6, ← hb6]; exact drow_new _ _ _ _ rfl
              have HT6 := Lib.hid (HTT.out u6 (some ⟨b6, 0, none⟩) HBA.out (HN3.out u6 ad ad _ HD6.out (HL2.out u6 HBA.out) (HRD2.out u6 HBA.out)))
              go_wp2_with (go_at_call 18; refine HT6.out.mono ?_)
              first | rintro _ u7 rfl hb7 | rintro _ u7 ⟨rfl, hb7⟩
              have HB7' : Hid (Below wr.heap.size wr u7) := HBA.out.trans (hb7.mono HBA.out.size)
              have HP7 := Lib.hid (HPP.out u7 HB7'.out)
              clear hb7 HT6 hb6 hu6 HD6 HBA HPP HTT
              go_wp2_with (go_at_call 19; refine HP7.out.mono ?_)
              rintro _ u8 ⟨C8, e8, rfl, hr8, hb8⟩
              have HB8' : Hid (Below wr.heap.size wr u8) := HB7'.out.trans (hb8.mono HB7'.out.size)
              have HR8 := Lib.hid hr8
              clear hr8 hb8 HP7
              have hl2 : ([l, d] : List (List Int)).length = 2 := rfl
              have h00 : ((0 : Nat) : Int) = 0 := rfl
              rw [hl2, h00]
              obtain ⟨b9, hb9⟩ : ∃ b, u8.heap.size = b := ⟨_, rfl⟩
              obtain ⟨u9, hu9⟩ : ∃ u, u8.alloc (.cells #[.slice (some ad) n c, .slice D (n + 1) e5] 35) = u := ⟨_, rfl⟩
              have HBA : Hid (Below u8.heap.size u8 u9) := by rw [← hu9]; exact (Below.refl _ _).alloc (Nat.le_refl _) _
              have HB9' : Hid (Below wr.heap.size wr u9) := HB8'.out.trans (HBA.out.mono HB8'.out.size)
              have HD9 : Hid (Rg.Row encO 1 u9 (some ⟨b9, 0, none⟩) [(some ad, n, c), (D, n + 1, e5)]) := by show Rg.Row _ _ _ _ _; rw [← hu9, ← hb9]; exact drow_new _ _ _ _ rfl
              have HG9 := Lib.hid (HN3.out u9 ad ad _ HD9.out (HL2.out u9 HB9'.out) (HRD2.out u9 HB9'.out))
              have HBO := Lib.hid (both_any C8 e8 l d u9 (Gr.row_below HR8.out HBA.out))
              clear HD9 hl2 h00
              go_wp2_with (go_at_call 30; refine HBO.out.mono ?_)
              rintro _ u10 ⟨C10, e10, rfl, hr10, hb10⟩
              have HB10' : Hid (Below wr.heap.size wr u10) := HB9'.out.trans (hb10.mono HB9'.out.size)
              have HS10 := Lib.hid (HSM.out u10 (some ⟨b9, 0, none⟩) C10 2 e10 (Gr.row_below HG9.out hb10) hr10)
              clear hr10 hb10 HBO HG9 hb9 hu9 HSM
              go_wp2_with (go_at_call 15; refine HS10.out.mono ?_)
              first | rintro _ u11 rfl hb11 | rintro _ u11 ⟨rfl, hb11⟩
              have HB11' : Hid (Below wr.heap.size wr u11) := HB10'.out.trans (hb11.mono HB10'.out.size)
              clear hb11 HS10
              go_wp2_with fail
              go_ret
              exact ⟨by simp, HB9s.out u11 HB11'.out⟩
end Go.Proofs.YtoioeekfnnoaoaaGreatDoor
