/- As many entries as may be, and one more: the law walked. -/
import Derived.Test.YtojhapnodjabdaaGreatDoorCs
import Derived.Test.YtojhapnodjabdaaGreatDoorUl
import Derived.Test.YtojhapnodjabdaaGreatDoorCt
import Derived.Test.YtojhapnodjabdaaGreatDoorCr
import Derived.Deep.RegionLaw
namespace Go.Proofs.YtojhapnodjabdaaGreatDoor
open Go.RowKit Lk At Sz
/-- Entry i. -/
def Lk.nmM (i : Nat) : List UInt8 := [112, UInt8.ofNat (97 + i / 26), UInt8.ofNat (97 + i % 26)]
def Lk.manyL (k : Nat) : List Ent := (List.range k).map fun i => (nmM i, decT i)
theorem Lk.many_len (k : Nat) : (manyL k).length = k := by unfold manyL; simp
theorem Lk.many_at (k i : Nat) (h : i < (manyL k).length) : (manyL k)[i] = (nmM i, decT i) := by
  have h2 : i < k := by rwa [many_len] at h
  have : (manyL k)[i]? = some (nmM i, decT i) := by
    unfold manyL
    rw [List.getElem?_map, List.getElem?_range h2]; rfl
  exact (List.getElem?_eq_some_iff.1 this).2
theorem Lk.many_succ (k : Nat) : manyL (k + 1) = manyL k ++ [(nmM k, decT k)] := by unfold manyL; rw [List.range_succ, List.map_append]; rfl
theorem Lk.many_ck : ∀ k, k < 65 → checkL (manyL k) = (0, 0) := by decide +kernel
theorem Lk.many_get : ∀ k, k < 65 → ∀ i, i < k → getE (manyL k) (nmM i) = (decT i, true) := by decide +kernel
theorem Lk.many_short : ∀ i, i < 70 → (nmM i).length = 3 ∧ (decT i).length ≤ 2 := by decide +kernel
theorem Lk.many_esm (k : Nat) (hk : k ≤ 70) : ESm (manyL k) := fun e he => by
  unfold manyL at he
  obtain ⟨i, hi, rfl⟩ := List.mem_map.1 he
  have := many_short i (by have := List.mem_range.1 hi; omega)
  dsimp only; omega
/-- Two bytes in a block. -/
def Lk.Two (b x y : Nat) (W : World) : Prop := W.cell? ⟨b, 0, none⟩ = some (.int .u8 x) ∧ W.cell? ⟨b, 1, none⟩ = some (.int .u8 y)
theorem Lk.two_at {b x y : Nat} (hx : x < 256) (hy : y < 256) (W : World) (h0 : W.cell? ⟨b, 0, none⟩ = some (.int .u8 x)) (h1 : W.cell? ⟨b, 1, none⟩ = some (.int .u8 y)) :
    (convert 53 9 (.slice (some ⟨b, 0, none⟩) 2 2)).run Tryz.prog W = .ok (.string ⟨[UInt8.ofNat x, UInt8.ofNat y].toArray⟩) W := by
  refine run_convert_bytes_back (P := Tryz.prog) _ _ _ _ _ 2 [UInt8.ofNat x, UInt8.ofNat y] Tryz.underlying53 Tryz.underlying5 Tryz.underlying9 fun j hj => ?_
  have e1 : ((UInt8.ofNat x).toNat : Int) = (x : Int) := by rw [UInt8.toNat_ofNat']; omega
  have e2 : ((UInt8.ofNat y).toNat : Int) = (y : Int) := by rw [UInt8.toNat_ofNat']; omega
  match j, hj with
  | 0, _ =>
    show W.cell? ⟨b, 0, none⟩ = some (.int .u8 ((UInt8.ofNat x).toNat : Int))
    rw [e1]; exact h0
  | 1, _ =>
    show W.cell? ⟨b, 1, none⟩ = some (.int .u8 ((UInt8.ofNat y).toNat : Int))
    rw [e2]; exact h1
theorem Lk.two_new (x y : Nat) (u : World) : Two u.heap.size x y (u.alloc (.cells #[.int .u8 x, .int .u8 y] 5)).drew := by
  have h : (u.alloc (.cells #[.int .u8 x, .int .u8 y] 5)).drew.heap[u.heap.size]? = some (.cells #[.int .u8 x, .int .u8 y] 5 (0, 0)) := heap_alloc_new u _
  constructor <;> simp only [World.cell?, h] <;> rfl
theorem Lk.two_new0 (x y : Nat) (u : World) : Two u.heap.size x y (u.alloc (.cells #[.int .u8 x, .int .u8 y] 5)) := two_new x y u
theorem Lk.two_below {b x y : Nat} {u v : World} (h : Two b x y u) (hb : Below u.heap.size u v) : Two b x y v := by
  have hl := World.block_lt_of_cell? u _ h.1
  exact ⟨(hb.cell hl).trans h.1, (hb.cell (by exact hl)).trans h.2⟩
theorem Lk.two_far {wr y W5 : World} {o : Obj} {B x1 x2 : Nat} {T : TypeId} {v : Value} {l : List Ent} (h : Two wr.heap.size x1 x2 (y.alloc o)) (hO : Rg.Own encE 2 wr B T v l) (hg : (y.alloc o).grownBy W5 v.ownBlock) : Two wr.heap.size x1 x2 W5 := by
  have hl := World.block_lt_of_cell? _ _ h.1
  have hne : some wr.heap.size ≠ v.ownBlock := fun e => by
    have := (Rg.own_lt hO wr.heap.size e.symm).2; omega
  exact ⟨(hg.cell_far _ hl hne).trans h.1, (hg.cell_far _ (by exact hl) (by exact hne)).trans h.2⟩
theorem Lk.news_b (u : World) (T : TypeId) (m : List Ent) (cs : Array Value) (b : Nat) (hb : u.heap.size = b) (h : cs.toList = Rg.flat encE m) : ∀ j v, (Rg.flat encE m)[j]? = some v → (u.alloc (.cells cs T)).cell? ((⟨b, 0, none⟩ : Addr).add j) = some v := by
  subst hb; exact Rg.news_new u T m cs h
theorem Lk.own_more {u v : World} {o : Obj} (h : Below u.heap.size u v) : Below u.heap.size u (v.alloc o) := h.alloc h.size _
theorem Lk.size_more {u v : World} {o : Obj} {B : Nat} (hB : B ≤ u.heap.size) (h : Below u.heap.size u v) : B ≤ (v.alloc o).heap.size := Nat.le_trans hB (own_more h).size
attribute [local go_sem ↓] Go.wp_at_zero Go.wp_at_succ
set_option maxRecDepth 100000 in
set_option maxHeartbeats 6400000 in
theorem lockMany_any (p : Nat) (w : World) (hw : WOk w) (_hp : p < 256) :
    Calls Tryz.prog 7 #[.int .u8 p] w fun e w' => e = .returned (.bool true) ∧ Below w.heap.size w w' := by
  have HK := Lib.hid (known8_any w hw)
  have HW := Lib.hid hw
  obtain ⟨n, hn⟩ : ∃ n, p % 70 = n := ⟨_, rfl⟩
  have n70 : n < 70 := by omega
  have r1 : (p : Int) % 70 = (n : Int) := by omega
  have r2 : (p : Int).tmod 70 = (n : Int) := by rw [Int.tmod_eq_emod_of_nonneg (Int.natCast_nonneg _)]; exact r1
  have w8 : IntKind.u8.wrap (n : Int) = (n : Int) := by rw [IntKind.wrap_u8]; omega
  have w64 : IntKind.i64.wrap (n : Int) = (n : Int) := IntWalk.i64_in _ (by omega)
  clear hw hn
  go_enter Tryz.func7, Tryz.ntmps7
  go_wp2_with fail
  refine HK.out.mono ?_
  rintro _ z ⟨rfl, hb⟩
  have HB := Lib.hid hb
  clear hb HK
  go_wp2_with fail
  clear r1 r2 w8 w64
  go_loopw [4, 5] (fun v i wr => ∃ k : Nat, k ≤ n ∧ i = .int .i64 k ∧ Hid (Rg.Own encE 2 wr z.heap.size 59 v (manyL k)) ∧ Hid (Below z.heap.size z wr ∧ z.heap.size ≤ wr.heap.size)) (fun _ i _ => n - (intOf i).toNat)
  case atStart => exact ⟨0, Nat.zero_le _, rfl, Rg.own_nil _ _ _, Below.refl _ _, Nat.le_refl _⟩
  case round =>
    obtain ⟨k, hk, rfl, HO, HBB⟩ := hrel
    by_cases hlt : k < n
    · have hkn : k < 70 := by omega
      have hsz : (manyL k).length + 1 ≤ 1000000 := by rw [many_len]; omega
      have hsu := many_succ k
      obtain ⟨X, hX⟩ : ∃ X, 97 + k / 26 = X := ⟨_, rfl⟩
      obtain ⟨Y, hY⟩ : ∃ Y, 97 + k % 26 = Y := ⟨_, rfl⟩
      have hnm : nmM k = [112, UInt8.ofNat X, UInt8.ofNat Y] := by unfold nmM; rw [hX, hY]
      obtain ⟨qa, hqa⟩ : ∃ a, k / 26 = a := ⟨_, rfl⟩
      obtain ⟨qb, hqb⟩ : ∃ b, k % 26 = b := ⟨_, rfl⟩
      have d1 : (k : Int) / 26 = (qa : Int) := by omega
      have d2 : (k : Int).tdiv 26 = (qa : Int) := by rw [Int.tdiv_eq_ediv_of_nonneg (Int.natCast_nonneg _)]; exact d1
      have d3 : (k : Int) % 26 = (qb : Int) := by omega
      have d4 : (k : Int).tmod 26 = (qb : Int) := by rw [Int.tmod_eq_emod_of_nonneg (Int.natCast_nonneg _)]; exact d3
      have s1 : (97 : Int) + (qa : Int) = (X : Int) := by omega
      have s2 : (97 : Int) + (qb : Int) = (Y : Int) := by omega
      have x256 : X < 256 := by omega
      have y256 : Y < 256 := by omega
      have wa : IntKind.i64.wrap (qa : Int) = (qa : Int) := IntWalk.i64_in _ (by omega)
      have wb : IntKind.i64.wrap (qb : Int) = (qb : Int) := IntWalk.i64_in _ (by omega)
      have wX : IntKind.i64.wrap (X : Int) = (X : Int) := IntWalk.i64_in _ (by omega)
      have wY : IntKind.i64.wrap (Y : Int) = (Y : Int) := IntWalk.i64_in _ (by omega)
      have vX : IntKind.u8.wrap (X : Int) = (X : Int) := by rw [IntKind.wrap_u8]; omega
      have vY : IntKind.u8.wrap (Y : Int) = (Y : Int) := by rw [IntKind.wrap_u8]; omega
      have wk : IntKind.u64.wrap (k : Int) = (k : Int) := by rw [IntKind.wrap_u64]; omega
      have hcv := fun u : World => two_at x256 y256 _ (two_new0 X Y u).1 (two_new0 X Y u).2
      have hcw := fun u : World => two_at x256 y256 _ (two_new X Y u).1 (two_new X Y u).2
      have HCT : Hid (∀ (b : Nat) {u v : World}, Two b X Y u → Below u.heap.size u v → (convert 53 9 (.slice (some ⟨b, 0, none⟩) 2 2)).run Tryz.prog v = .ok (.string ⟨[UInt8.ofNat X, UInt8.ofNat Y].toArray⟩) v) := fun _ _ _ h hb => two_at x256 y256 _ (two_below h hb).1 (two_below h hb).2
      have HA0 : Hid (Below wr.heap.size wr (wr.alloc (.cells #[.int .u8 X, .int .u8 Y] 5)).drew) := ((Below.refl _ _).alloc (Nat.le_refl _) _).drew
      have HDC : Hid (∀ W : World, Calls Tryz.prog 25 #[.int .u64 k] W fun e w' => e = .returned (.string ⟨(decT k).toArray⟩) ∧ Below W.heap.size W w') := fun W => decT_any k (by omega) W
      obtain ⟨D, hD⟩ : ∃ D, decT k = D := ⟨_, rfl⟩
      obtain ⟨P, hP⟩ : ∃ P, [UInt8.ofNat X, UInt8.ofNat Y] = P := ⟨_, rfl⟩
      obtain ⟨Q, hQ⟩ : ∃ Q, [112] ++ P = Q := ⟨_, rfl⟩
      have rQ := cat_to hQ (by rw [← hQ, ← hP]; simp)
      have hnQ : nmM k = Q := by rw [hnm, ← hQ, ← hP]; rfl
      rw [hD] at HDC hsu
      rw [hnQ] at hsu
      rw [hP] at hcv hcw HCT
      obtain ⟨pre, hpre⟩ : ∃ x, manyL k = x := ⟨_, rfl⟩
      rw [hpre] at hsu hsz HO
      have HSU := Lib.hid hsu
      have HSZ := Lib.hid hsz
      clear hX hY hnm hqa hqb hD hP hQ hnQ hpre hsu hsz x256 y256
      go_wp2_with fail
      have tnw := two_new X Y wr
      go_region_law (first
        | (refine Rg.step_app sliceE (by rfl) (.tmp 24) (.tmp 40) (by rfl) z.heap.size u4 pre [((Q, D) : Ent)] (by rfl) (Rg.own_below HO.out (own_more (by first | exact HY.out | exact HY.out.alloc HY.out.size _))) _ _ (by rfl) (Rg.news_new _ _ [((Q, D) : Ent)] _ (by rfl)) (Nat.zero_lt_succ _) HSZ.out (size_more HBB.out.2 (by first | exact HY.out | exact HY.out.alloc HY.out.size _)) ?_; intro v5 W5 ho5 hg5 hz5; have HB5 := app_done4 HBB (by first | exact HY.out | exact HY.out.alloc HY.out.size _) HO hg5)
        | (refine Rg.step_app sliceE (by rfl) (.tmp 24) (.tmp 40) (by rfl) z.heap.size u4 pre [((Q, D) : Ent)] (by rfl) (Rg.own_below HO.out (own_more (by first | exact HY.out | exact HY.out.alloc HY.out.size _))) _ _ (by rfl) (news_b _ _ [((Q, D) : Ent)] _ _ (by simp) (by rfl)) (Nat.zero_lt_succ _) HSZ.out (size_more HBB.out.2 (by first | exact HY.out | exact HY.out.alloc HY.out.size _)) ?_; intro v5 W5 ho5 hg5 hz5; have HB5 := app_done4 HBB (by first | exact HY.out | exact HY.out.alloc HY.out.size _) HO hg5)
        | (go_simp; go_at_call 25; refine (HDC.out _).mono ?_; rintro _ y ⟨rfl, hb9⟩; have HY : Hid (Below wr.heap.size wr y) := (by first | exact HA0.out.trans (hb9.mono HA0.out.size) | exact (Below.refl _ _).drew.trans hb9); have hcv2 := fun (b : Nat) (h : Two b X Y _) => HCT.out b h hb9))
      all_goals
        have HO5 : Hid (Rg.Own encE 2 W5 z.heap.size 59 v5 (manyL (k + 1))) := by show Rg.Own _ _ _ _ _ _ _; rw [HSU.out]; exact ho5
        clear ho5 hg5 hz5
        go_wp2_with fail
        go_roundw
        case rel => exact ⟨k + 1, by omega, by go_num, HO5, HB5⟩
        case measure => simp [intOf]; omega
    · obtain rfl : k = n := by omega
      obtain ⟨A, c, hA, hrow, _, _⟩ := Rg.row_own fitsE HO.out
      rw [many_len] at hA
      subst hA
      have hesm := many_esm k (by omega)
      obtain ⟨L, hL⟩ : ∃ L, manyL k = L := ⟨_, rfl⟩
      have HL := Lib.hid hL
      have hlen : L.length = k := by rw [← hL]; exact many_len k
      rw [hL] at hrow hesm
      have HLN := Lib.hid hlen
      have HROW := Lib.hid hrow
      have HES := Lib.hid hesm
      have HWB : Hid (Below w.heap.size w wr) := HB.out.trans (HBB.out.1.mono HB.out.size)
      clear hL hrow hesm HO HBB
      by_cases h64 : 64 < k
      · have hck : checkL L = (0, 4) := (check_of hlen).1 h64
        have hwt : wrT L = [] := by unfold wrT; rw [hck]; rfl
        have HCK := Lib.hid hck
        have HWT := Lib.hid hwt
        have d0 : decide ((64 : Int) < (k : Int)) = true := decide_eq_true (by omega)
        clear hck hwt hlen h64
        go_wp2_with fail
        refine (lockWrite_any A k c L wr (wok_below HW.out HWB.out) HLN.out HROW.out (esm_few HES.out)).mono ?_
        rintro _ u ⟨rfl, hb⟩
        have HU := Lib.hid (HWB.out.trans (hb.mono HWB.out.size))
        rw [HWT.out, HCK.out]
        clear hb
        go_wp2_with fail
        go_ret
        exact ⟨rfl, HU.out⟩
      · have hck : checkL L = (0, 0) := by rw [← HL.out]; exact many_ck k (by omega)
        have hc0 : (checkL L).2 = 0 := by rw [hck]
        have HCK := Lib.hid hck
        obtain ⟨T, hT⟩ : ∃ T, wrT L = T := ⟨_, rfl⟩
        have HT := Lib.hid hT
        have HRD : Hid (readL T = (0, 0, L)) := by show _ = _; rw [← hT]; unfold wrT; rw [if_pos hc0]; exact read_write hc0
        have hTl : T.length ≤ 100000 := by rw [← hT]; unfold wrT; rw [if_pos hc0]; have := (write_len hc0).2; omega
        have HG : Hid (∀ i, i < k → ∃ (h : i < L.length), L[i] = (nmM i, decT i) ∧ getE L (nmM i) = (decT i, true)) := fun i hi => by
          have hm := many_get k (by omega) i hi
          have ha := many_at k i (by rw [many_len]; exact hi)
          have hq := HL.out
          subst hq
          exact ⟨by rw [many_len]; exact hi, ha, hm⟩
        have d0 : decide ((64 : Int) < (k : Int)) = false := decide_eq_false (by omega)
        clear hck hc0 hT hlen h64
        go_wp2_with fail
        refine (lockWrite_any A k c L wr (wok_below HW.out HWB.out) HLN.out HROW.out (esm_few HES.out)).mono ?_
        rintro _ u ⟨rfl, hb⟩
        have HU := Lib.hid (HWB.out.trans (hb.mono HWB.out.size))
        have HRU := Lib.hid (Rg.row_below HROW.out hb)
        rw [HT.out, HCK.out]
        clear hb HROW HWB
        go_wp2_with fail
        refine (lockRead_any T u (wok_below HW.out HU.out) hTl).mono ?_
        rintro e u1 hh
        obtain ⟨hb, Bq, q, t, rfl, hqn, hrow⟩ := readR_get hh HRD.out
        have HU1 := Lib.hid (HU.out.trans (hb.mono HU.out.size))
        have HR1 := Lib.hid (Rg.row_below HRU.out hb)
        have HQ1 := Lib.hid hrow
        obtain rfl : q = k := by rw [← hqn]; exact HLN.out
        clear hh hb hqn hrow HRU HU d0 hTl
        go_wp2_with fail
        go_loopw [11] (fun i wr2 => ∃ j : Nat, j ≤ q ∧ i = .int .i64 j ∧ Hid (Below u1.heap.size u1 wr2)) (fun i _ => q - (intOf i).toNat)
        case atStart => exact ⟨0, Nat.zero_le _, rfl, Below.refl _ _⟩
        case round =>
          obtain ⟨j, hj, rfl, HBJ⟩ := hrel
          by_cases hlj : j < q
          · obtain ⟨hjl, hat, hget⟩ := HG.out j hlj
            have HRJ := Lib.hid (Rg.row_below HR1.out HBJ.out)
            obtain ⟨ad, rfl, hc⟩ := erow_at HRJ.out j hjl
            obtain ⟨c0, c1⟩ := hc _ (Below.refl _ _)
            have HC := Lib.hid hc
            rw [hat] at c0 c1 HC
            have HGA := Lib.hid (lockGet_any Bq q t L (nmM j) _ HLN.out (Rg.row_below HQ1.out HBJ.out) HES.out (by omega))
            rw [hget] at HGA
            obtain ⟨nm, hnm⟩ : ∃ x, nmM j = x := ⟨_, rfl⟩
            obtain ⟨D, hD⟩ : ∃ x, decT j = x := ⟨_, rfl⟩
            rw [hnm, hD] at HGA HC
            rw [hnm] at c0
            rw [hD] at c1
            dsimp only at c0 c1 HGA HC
            clear hc hat hget hnm hD
            go_wp2_with fail
            refine HGA.out.mono ?_
            rintro _ y ⟨rfl, hb⟩
            have HYB := Lib.hid (HBJ.out.trans (hb.mono HBJ.out.size))
            obtain ⟨e0, e1⟩ := HC.out _ hb
            have e2 : (D == D) = true := by simp
            clear hb c0 c1
            go_wp2_with fail
            go_roundw
            case rel => exact ⟨j + 1, by omega, by go_num, HYB⟩
            case measure => simp [intOf]; omega
          · obtain rfl : j = q := by omega
            go_wp2_with fail
            refine (lockSame_any A Bq j c j t L L _ HLN.out HLN.out (Rg.row_below HR1.out HBJ.out) (Rg.row_below HQ1.out HBJ.out) (by omega) (by omega)).mono ?_
            rintro _ y ⟨rfl, hb⟩
            rw [decide_eq_true (rfl : L = L)]
            have HY := Lib.hid (HU1.out.trans ((HBJ.out.trans (hb.mono HBJ.out.size)).mono HU1.out.size))
            clear hb
            go_wp2_with fail
            go_ret
            exact ⟨rfl, HY.out⟩
end Go.Proofs.YtojhapnodjabdaaGreatDoor
