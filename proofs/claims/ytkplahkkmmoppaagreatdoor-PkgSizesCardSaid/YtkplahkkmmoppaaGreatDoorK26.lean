/- Part 26 of what the laws lean on. -/
import Derived.Test.YtkplahkkmmoppaaGreatDoorK24
import Derived.Test.YtkplahkkmmoppaaGreatDoorK25
import Derived.Stop.LaidErr
import Derived.LaidMore
set_option maxRecDepth 100000
set_option maxHeartbeats 32000000
namespace Go.Proofs.YtkplahkkmmoppaaGreatDoor
open Go.RowKit Rs At Pg
attribute [local go_sem ↓] Go.wp_at_zero Go.wp_at_succ
attribute [local go_sem] Pg.run_store_float
theorem Pg.aown_set {B b j : Nat} {T : TypeId} {w : World} {v x : Value} {ds : List AtD} {l : List Atm} (h : AOwn w B T v ds l) (hb : b < B) (hg : ∀ j x, w.cell? ⟨b, j, none⟩ = some x → NoB x) : AOwn (w.setCell ⟨b, j, none⟩ x) B T v ds l := by
 refine ⟨own_set h.1 hb, ain_but h.2.1 (but_set w ⟨b, j, none⟩ x) (fun g e => by cases e; exact hg), fun g hgv k u hu => ?_⟩
 have h1 := (Rg.own_lt h.1 g hgv).1
 rw [World.cell?_setCell_far _ _ _ _ (by show b ≠ g; omega)] at hu
 exact h.2.2 g hgv k u hu
theorem Pg.sliceAD : Rg.SliceT Tryz.prog encA 2 70 66 := ⟨fitsA, by decide, by kernel_rfl, Rg.info_of (z := .agg #[.string ByteArray.empty, .slice none 0 0]) (b := 40) (by kernel_rfl) (by rfl) (by decide)⟩
theorem lawPkgSizes_any (k0 k1 k2 k3 : Nat) (h0 : k0 ≤ 255) (h1 : k1 ≤ 255) (h2 : k2 ≤ 255) (h3 : k3 ≤ 255) (w : World) (hk : KOk w) :
  Calls Tryz.prog 6 #[.int .u8 k0, .int .u8 k1, .int .u8 k2, .int .u8 k3] w fun e w' => e = .returned (.bool true) ∧ Below w.heap.size w w' := by
 obtain ⟨n, hn⟩ : ∃ m, k0 % 19 = m := ⟨_, rfl⟩
 obtain ⟨m, hm⟩ : ∃ m, k1 % 19 = m := ⟨_, rfl⟩
 obtain ⟨o, ho⟩ : ∃ m, k2 % 19 = m := ⟨_, rfl⟩
 obtain ⟨r, hr⟩ : ∃ m, k3 % 10 = m := ⟨_, rfl⟩
 obtain ⟨q, hq⟩ : ∃ m, r + 1 = m := ⟨_, rfl⟩
 have hn1 : n ≤ 18 := by omega
 have hm1 : m ≤ 18 := by omega
 have ho1 : o ≤ 18 := by omega
 have hq1 : q ≤ 10 := by omega
 have hq0 : 1 ≤ q := by omega
 have e0 : (k0 : Int) % 19 = (n : Int) := by omega
 have e1 : (k1 : Int) % 19 = (m : Int) := by omega
 have e2 : (k2 : Int) % 19 = (o : Int) := by omega
 have e3 : (k3 : Int) % 10 = (r : Int) := by omega
 have e5 : (1 : Int) + (r : Int) = (q : Int) := by omega
 have e4 : IntKind.i64.wrap (q : Int) = (q : Int) := IntWalk.i64_in _ (by omega)
 have n0 : (0 : Int) ≤ (k0 : Int) := by omega
 have n1 : (0 : Int) ≤ (k1 : Int) := by omega
 have n2 : (0 : Int) ≤ (k2 : Int) := by omega
 have n3 : (0 : Int) ≤ (k3 : Int) := by omega
 have HK := Lib.hid hk
 clear hn hm ho hq hr hk
 go_enter Tryz.func6, Tryz.ntmps6
 go_wp2_with fail
 refine (known6_any _ HK.out).mono ?_
 rintro _ u1 ⟨rfl, hb⟩
 have HU1 := Lib.hid hb
 clear hb
 go_wp2_with fail
 clear e0 e1 e2 e3 e4 e5 n0 n1 n2 n3 h0 h1 h2 h3
 obtain ⟨bp, hbp⟩ : ∃ b, u1.heap.size = b := ⟨_, rfl⟩
 obtain ⟨V1, hV1⟩ : ∃ W, u1.alloc (.cells #[.string ⟨#[112]⟩, .string ⟨#[49]⟩, .slice none 0 0, .slice none 0 0, .slice none 0 0, .float .f64 0] 34) = W := ⟨_, rfl⟩
 have h01 : Below u1.heap.size u1 V1 := alloc_low hV1
 have HP1 : Hid (V1.heap[bp]? = some (.cells #[.string ⟨#[112]⟩, .string ⟨#[49]⟩, .slice none 0 0, .slice none 0 0, .slice none 0 0, .float .f64 0] 34 (0, 0)) ∧ bp < V1.heap.size) := by rw [← hV1, ← hbp]; exact ⟨heap_alloc_new _ _, by simp⟩
 have HWP : Hid (w.heap.size ≤ bp) := by show _ ≤ _; rw [← hbp]; exact HU1.out.size
 rw [hV1]
 try rw [hbp]
 refine (s6_all V1).mono ?_
 rintro _ u2 ⟨Cg, dg, rfl, hrg, hb⟩
 have h02 : Below u1.heap.size u1 u2 := h01.trans (hb.mono h01.size)
 obtain ⟨bx, hbx⟩ : ∃ b, u2.heap.size = b := ⟨_, rfl⟩
 obtain ⟨V, hV⟩ : ∃ W, u2.alloc (.cells #[.string ⟨#[120]⟩, .slice Cg 1 dg] 66) = W := ⟨_, rfl⟩
 have h2V : Below u2.heap.size u2 V := alloc_low hV
 have HPV : Hid (V.heap[bp]? = some (.cells #[.string ⟨#[112]⟩, .string ⟨#[49]⟩, .slice none 0 0, .slice none 0 0, .slice none 0 0, .float .f64 0] 34 (0, 0))) := (h2V.block _ (Nat.lt_of_lt_of_le HP1.out.2 hb.size)).trans ((hb.block _ HP1.out.2).trans HP1.out.1)
 have HXB : Hid (bp < bx) := by show _ < _; rw [← hbx]; exact Nat.lt_of_lt_of_le HP1.out.2 hb.size
 have HLV : Hid (bx < V.heap.size) := by show _ < _; rw [← hV, ← hbx]; simp
 have HXH : Hid (V.heap[bx]? = some (.cells #[.string ⟨#[120]⟩, .slice Cg 1 dg] 66 (0, 0))) := by show _ = _; rw [← hV, ← hbx]; exact heap_alloc_new _ _
 have hwV : Below w.heap.size w V := HU1.out.trans ((h02.trans (h2V.mono h02.size)).mono HU1.out.size)
 have HWV := Lib.hid hwV
 have HKV : Hid (KOk V) := kOk_below HK.out hwV
 have hsV : SRow V Cg allS := srow_below hrg h2V
 have HNB : Hid (∀ j x, V.cell? ⟨bp, j, none⟩ = some x → NoB x) := six_nobV HPV.out (isl _ _ _) (isl _ _ _) (isl _ _ _)
 have HX : Hid (∀ u, But (some bp) V u → u.cell? ⟨bx, 0, none⟩ = some (.string ⟨#[120]⟩) ∧ u.cell? ⟨bx, 1, none⟩ = some (.slice Cg 1 dg) ∧ SRow u Cg allS) := fun u h => by
  have h1 := (h.2 bx HLV.out (fun e => by have := HXB.out; have := Option.some.inj e; omega)).trans HXH.out
  exact ⟨(cell_of_row u bx 0 _ _ _ h1).trans rfl, (cell_of_row u bx 1 _ _ _ h1).trans rfl, srow_but hsV h (srow_nob hsV HNB.out)⟩
 clear h01 h02 h2V hwV hsV hrg hb HP1 HXH HLV hV1 hbp
 go_wp2_with fail
 clear hV hbx
 have HBP : Hid (bp < V.heap.size) := block_lt HPV.out
 go_loopw [15] (fun i wr => ∃ (k : Nat) (v : Value) (ds : List Desc), k ≤ n ∧ i = .int .i64 k ∧ Hid (wr.heap[bp]? = some (.cells #[.string ⟨#[112]⟩, .string ⟨#[49]⟩, v, .slice none 0 0, .slice none 0 0, .float .f64 0] 34 (0, 0))) ∧ Hid (DOwnF wr V.heap.size 70 v ds (List.replicate k (List.replicate q szX))) ∧ Hid (But (some bp) V wr) ∧ Hid (Below w.heap.size w wr)) (fun i _ => n - (intOf i).toNat)
 case atStart => exact ⟨0, .slice none 0 0, [], Nat.zero_le _, rfl, HPV.out, down_nil _ _ _, but_below (Below.refl _ _), HWV.out⟩
 case round =>
  obtain ⟨k, v, ds, hk, rfl, HH, HO, HBT, HBW⟩ := hrel
  by_cases hlt : k < n
  ·obtain ⟨z1, hz1⟩ : ∃ z1, z1 = wr := ⟨_, rfl⟩
   subst hz1
   have HLT := Lib.hid hlt
   have HVZ : Hid (V.heap.size ≤ z1.heap.size) := HBT.out.1
   go_wp2_with fail
   go_loopw [16, 17] (fun y i ws => ∃ (j : Nat) (dy : List AtD), j ≤ q ∧ i = .int .i64 j ∧ Hid (AOwn ws z1.heap.size 66 y dy (List.replicate j szX)) ∧ Hid (Below z1.heap.size z1 ws)) (fun _ i _ => q - (intOf i).toNat)
   case atStart => exact ⟨0, [], Nat.zero_le _, rfl, aown_nil _ _ _, Below.refl _ _⟩
   case round =>
    obtain ⟨j, dy, hj, rfl, HA, HZ⟩ := hrel
    have hbutw := but_low HBT.out (HZ.out.mono HVZ.out)
    by_cases hjt : j < q
    ·obtain ⟨x0, x1, hsr⟩ := HX.out _ hbutw
     have HJ := Lib.hid hjt
     have HAL : Hid (Below wr.heap.size wr (wr.alloc (.cells #[.string ⟨#[120]⟩, .slice Cg 1 dg] 66))) := (Below.refl _ _).alloc (Nat.le_refl _) _
     have HSR : Hid (SRow (wr.alloc (.cells #[.string ⟨#[120]⟩, .slice Cg 1 dg] 66)) Cg allS) := srow_below hsr HAL.out
     have HSZ : Hid (dy.length + 1 ≤ 1000000) := by have h := HA.out.2.1.1; rw [List.length_replicate] at h; show _ ≤ _; omega
     clear hsr hbutw
     go_wp2_with (at_builtin; refine Pg.wpList_app_pure sliceAD zeroA_nob encA_nob rfl (.tmp 53) (.tmp 55) rfl z1.heap.size _ dy [([120], Cg, 1, dg)] rfl (aown_below HA.out HAL.out).1 (aown_below HA.out HAL.out).2.2 _ _ rfl (Rg.news_new wr _ [([120], Cg, 1, dg)] _ (by rfl)) (Nat.zero_lt_succ _) HSZ.out ?b2 ?_)
     case b2 => have := HZ.out.size; simp; omega
     intro v5 W5 ho5 hp5 hg5 hz5
     have HO5 : Hid (AOwn W5 z1.heap.size 66 v5 (dy ++ [([120], Cg, 1, dg)]) (List.replicate (j + 1) szX)) := by
      rw [List.replicate_succ']
      exact aown_add (a := szX) (aown_below HA.out HAL.out) HSR.out rfl ho5 hp5 hg5
     have HB5 : Hid (Below z1.heap.size z1 W5) := HZ.out.trans ((HAL.out.mono HZ.out.size).trans (Rg.grown_below (aown_below HA.out HAL.out).1 (Nat.le_trans HZ.out.size HAL.out.size) hg5))
     clear ho5 hp5 hg5 hz5 x0 x1 HAL HSR HSZ HA HZ
     go_wp2_with fail
     go_roundw
     case rel => exact ⟨j + 1, _, (by have := HJ.out; omega), by go_num, HO5, HB5⟩
     case measure => have := HJ.out; simp [intOf]; omega
    ·obtain rfl : j = q := by omega
     obtain ⟨A1, c1, hv1, har, hfr⟩ := aown_row HA.out
     rw [List.length_replicate] at hv1
     subst hv1
     have HAR := Lib.hid har
     have HFR := Lib.hid hfr
     have hh1 := (HZ.out.block _ (block_lt HH.out)).trans HH.out
     have HH1 := Lib.hid hh1
     have hc2 := (cell_of_row wr bp 2 _ _ _ hh1).trans rfl
     have HAL : Hid (Below wr.heap.size wr (wr.alloc (.cells #[.slice A1 j c1] 70))) := (Below.refl _ _).alloc (Nat.le_refl _) _
     have HZL : Hid (Below z1.heap.size z1 (wr.alloc (.cells #[.slice A1 j c1] 70))) := HZ.out.trans (HAL.out.mono HZ.out.size)
     have HSZ : Hid (ds.length + 1 ≤ 1000000) := by have h := HO.out.2.1.1; rw [List.length_replicate] at h; show _ ≤ _; omega
     clear har hfr hh1 hbutw
     go_wp2_with (at_builtin; refine Pg.wpList_app_pure sliceD6 zeroD_sl encO_sl rfl (.tmp 58) (.tmp 60) rfl V.heap.size _ ds [(A1, j, c1)] rfl (down_below HO.out HZL.out).1 (down_below HO.out HZL.out).2.2.2 _ _ rfl (Rg.news_new wr _ [(A1, j, c1)] _ (by rfl)) (Nat.zero_lt_succ _) HSZ.out ?b2 ?_)
     case b2 => have := HZL.out.size; have := HVZ.out; omega
     intro v6 W6 ho6 hp6 hg6 hz6
     have ha6 := (HAL.out.block _ (block_lt HH1.out)).trans HH1.out
     have hh6 := heap_grown ha6 hg6 (own_far (down_below HO.out HZL.out).1 HBP.out)
     have hd6 := down_add (l := List.replicate j szX) (down_below HO.out HZL.out) (arow_below HAR.out HAL.out) (List.length_replicate ..) (fun a ha => Nat.le_trans HVZ.out (HFR.out a ha)) ho6 hp6 hg6
     have hbl6 : Below V.heap.size z1 W6 := (HZL.out.mono HVZ.out).trans (Rg.grown_below (down_below HO.out HZL.out).1 (Nat.le_trans HVZ.out HZL.out.size) hg6)
     obtain ⟨A6, n6, k6, rfl⟩ := own_is ho6
     have hc6 := (cell_of_row W6 bp 2 _ _ _ hh6).trans rfl
     have hf6 := six_free hh6 2
     have HH7 : Hid ((W6.setCell ⟨bp, 2, none⟩ (.slice A6 n6 k6)).heap[bp]? = some (.cells #[.string ⟨#[112]⟩, .string ⟨#[49]⟩, .slice A6 n6 k6, .slice none 0 0, .slice none 0 0, .float .f64 0] 34 (0, 0))) := (set_heap hh6).trans rfl
     have HO7 : Hid (DOwnF (W6.setCell ⟨bp, 2, none⟩ (.slice A6 n6 k6)) V.heap.size 70 (.slice A6 n6 k6) (ds ++ [(A1, j, c1)]) (List.replicate (k + 1) (List.replicate j szX))) := by
      rw [List.replicate_succ']
      exact down_set hd6 HBP.out (six_nobV hh6 (own_is HO.out.1) (isl _ _ _) (isl _ _ _))
     have HBT7 : Hid (But (some bp) V (W6.setCell ⟨bp, 2, none⟩ (.slice A6 n6 k6))) := but_set2 (but_low HBT.out hbl6)
     have HBW7 : Hid (Below w.heap.size w (W6.setCell ⟨bp, 2, none⟩ (.slice A6 n6 k6))) := (HBW.out.trans (hbl6.mono (Nat.le_trans HWP.out (Nat.le_of_lt HBP.out)))).setCell (p := ⟨bp, 2, none⟩) HWP.out _
     clear ho6 hp6 hg6 hz6 ha6 hh6 hd6 hbl6 hc2 HAL HZL HSZ HAR HFR HH1 HH HO HBT HBW HZ HA
     go_wp2_with fail
     clear hc6 hf6
     generalize W6.setCell ⟨bp, 2, none⟩ (.slice A6 n6 k6) = W7 at *
     go_roundw
     case rel => exact ⟨k + 1, _, _, (by have := HLT.out; omega), by go_num, HH7, HO7, HBT7, HBW7⟩
     case measure => have := HLT.out; simp [intOf]; omega
  ·obtain rfl : k = n := by omega
   obtain ⟨D, dc, hv, hdr, hdf⟩ := down_row HO.out
   rw [List.length_replicate] at hv
   subst hv
   have HDR := Lib.hid hdr
   have HDF : Hid (AFr V.heap.size D) := hdf
   have HVZ : Hid (V.heap.size ≤ wr.heap.size) := HBT.out.1
   have HNBd : Hid (∀ j x, wr.cell? ⟨bp, j, none⟩ = some x → NoB x) := six_nobV HH.out (isl _ _ _) (isl _ _ _) (isl _ _ _)
   clear hdr hdf HO
   go_wp2_with fail
   obtain ⟨z2, hz2⟩ : ∃ z, z = wr := ⟨_, rfl⟩
   subst hz2
   have HDA : Hid (∀ u, But (some bp) z2 u → Pg.DRowF V.heap.size u D (List.replicate k (List.replicate q szX))) := fun u h => drowF_but HDR.out HDF.out h HBP.out HNBd.out
   have HXZ : Hid (∀ u, But (some bp) z2 u → u.cell? ⟨bx, 0, none⟩ = some (.string ⟨#[120]⟩) ∧ u.cell? ⟨bx, 1, none⟩ = some (.slice Cg 1 dg) ∧ SRow u Cg allS) := fun u h => HX.out u (but_trans HBT.out h)
   go_loopw [18] (fun i wr => ∃ (j : Nat) (v : Value) (ds : List AtD), j ≤ m ∧ i = .int .i64 j ∧ Hid (wr.heap[bp]? = some (.cells #[.string ⟨#[112]⟩, .string ⟨#[49]⟩, .slice D k dc, v, .slice none 0 0, .float .f64 0] 34 (0, 0))) ∧ Hid (AOwn wr z2.heap.size 66 v ds (List.replicate j szX)) ∧ Hid (But (some bp) z2 wr) ∧ Hid (Below w.heap.size w wr)) (fun i _ => m - (intOf i).toNat)
   case atStart => exact ⟨0, .slice none 0 0, [], Nat.zero_le _, rfl, HH.out, aown_nil _ _ _, but_below (Below.refl _ _), HBW.out⟩
   case round =>
    obtain ⟨j, v, ds, hj, rfl, HHc, HOc, HBTc, HBWc⟩ := hrel
    by_cases hjt : j < m
    ·obtain ⟨x0, x1, hsr⟩ := HXZ.out _ HBTc.out
     have HJ := Lib.hid hjt
     have hc3 := (cell_of_row wr bp 3 _ _ _ HHc.out).trans rfl
     have HAL : Hid (Below wr.heap.size wr (wr.alloc (.cells #[.string ⟨#[120]⟩, .slice Cg 1 dg] 66))) := (Below.refl _ _).alloc (Nat.le_refl _) _
     have HSR : Hid (SRow (wr.alloc (.cells #[.string ⟨#[120]⟩, .slice Cg 1 dg] 66)) Cg allS) := srow_below hsr HAL.out
     have HSZ : Hid (ds.length + 1 ≤ 1000000) := by have h := HOc.out.2.1.1; rw [List.length_replicate] at h; show _ ≤ _; omega
     have HZ2 : Hid (z2.heap.size ≤ wr.heap.size) := HBTc.out.1
     clear hsr
     go_wp2_with (at_builtin; refine Pg.wpList_app_pure sliceA zeroA_nob encA_nob rfl (.tmp 69) (.tmp 71) rfl z2.heap.size _ ds [([120], Cg, 1, dg)] rfl (aown_below HOc.out HAL.out).1 (aown_below HOc.out HAL.out).2.2 _ _ rfl (Rg.news_new wr _ [([120], Cg, 1, dg)] _ (by rfl)) (Nat.zero_lt_succ _) HSZ.out ?b2 ?_)
     case b2 => have := HZ2.out; simp; omega
     intro v6 W6 ho6 hp6 hg6 hz6
     have HBZ : Hid (bp < z2.heap.size) := Nat.lt_of_lt_of_le HBP.out HVZ.out
     have ha6 := (HAL.out.block _ (block_lt HHc.out)).trans HHc.out
     have hh6 := heap_grown ha6 hg6 (own_far (aown_below HOc.out HAL.out).1 HBZ.out)
     have hd6 := aown_add (a := szX) (aown_below HOc.out HAL.out) HSR.out rfl ho6 hp6 hg6
     have hbl6 : Below z2.heap.size wr W6 := (HAL.out.mono HZ2.out).trans (Rg.grown_below (aown_below HOc.out HAL.out).1 (Nat.le_trans HZ2.out HAL.out.size) hg6)
     obtain ⟨A6, n6, k6, rfl⟩ := own_is ho6
     have hc6 := (cell_of_row W6 bp 3 _ _ _ hh6).trans rfl
     have hf6 := six_free hh6 3
     have HH7 : Hid ((W6.setCell ⟨bp, 3, none⟩ (.slice A6 n6 k6)).heap[bp]? = some (.cells #[.string ⟨#[112]⟩, .string ⟨#[49]⟩, .slice D k dc, .slice A6 n6 k6, .slice none 0 0, .float .f64 0] 34 (0, 0))) := (set_heap hh6).trans rfl
     have HO7 : Hid (AOwn (W6.setCell ⟨bp, 3, none⟩ (.slice A6 n6 k6)) z2.heap.size 66 (.slice A6 n6 k6) (ds ++ [([120], Cg, 1, dg)]) (List.replicate (j + 1) szX)) := by
      rw [List.replicate_succ']
      exact aown_set hd6 HBZ.out (six_nobV hh6 (isl _ _ _) (own_is HOc.out.1) (isl _ _ _))
     have HBT7 : Hid (But (some bp) z2 (W6.setCell ⟨bp, 3, none⟩ (.slice A6 n6 k6))) := but_set2 (but_low HBTc.out hbl6)
     have HBW7 : Hid (Below w.heap.size w (W6.setCell ⟨bp, 3, none⟩ (.slice A6 n6 k6))) := (HBWc.out.trans (hbl6.mono (Nat.le_trans HWP.out (Nat.le_of_lt HBZ.out)))).setCell (p := ⟨bp, 3, none⟩) HWP.out _
     clear ho6 hp6 hg6 hz6 ha6 hh6 hd6 hbl6 hc3 HAL HSZ HHc HOc HBTc HBWc x0 x1
     go_wp2_with fail
     clear hc6 hf6
     generalize W6.setCell ⟨bp, 3, none⟩ (.slice A6 n6 k6) = W7 at *
     go_roundw
     case rel => exact ⟨j + 1, _, _, (by have := HJ.out; omega), by go_num, HH7, HO7, HBT7, HBW7⟩
     case measure => have := HJ.out; simp [intOf]; omega
    ·obtain rfl : j = m := by omega
     obtain ⟨C, cc, hv, hcr, hcf⟩ := aown_row HOc.out
     rw [List.length_replicate] at hv
     subst hv
     have HCR := Lib.hid hcr
     have HCF : Hid (AFr z2.heap.size C) := hcf
     have HZ2 : Hid (z2.heap.size ≤ wr.heap.size) := HBTc.out.1
     have HBZ : Hid (bp < z2.heap.size) := Nat.lt_of_lt_of_le HBP.out HVZ.out
     have HNBc : Hid (∀ j x, wr.cell? ⟨bp, j, none⟩ = some x → NoB x) := six_nobV HHc.out (isl _ _ _) (isl _ _ _) (isl _ _ _)
     clear hcr hcf HOc
     go_wp2_with fail
     obtain ⟨z3, hz3⟩ : ∃ z, z = wr := ⟨_, rfl⟩
     subst hz3
     have HCA : Hid (∀ u, But (some bp) z3 u → ARow u C (List.replicate j szX)) := fun u h => arow_but HCR.out h (far_of HCF.out HBZ.out) (fun g e => by cases e; exact HNBc.out)
     have HDB : Hid (∀ u, But (some bp) z3 u → Pg.DRowF V.heap.size u D (List.replicate k (List.replicate q szX))) := fun u h => HDA.out u (but_trans HBTc.out h)
     go_loopw [19] (fun i wr => ∃ (t : Nat) (v : Value), t ≤ o ∧ i = .int .i64 t ∧ Hid (wr.heap[bp]? = some (.cells #[.string ⟨#[112]⟩, .string ⟨#[49]⟩, .slice D k dc, .slice C j cc, v, .float .f64 0] 34 (0, 0))) ∧ Hid (Rg.Own encG 2 wr z3.heap.size 72 v (List.replicate t szG)) ∧ Hid (But (some bp) z3 wr) ∧ Hid (Below w.heap.size w wr)) (fun i _ => o - (intOf i).toNat)
     case atStart => exact ⟨0, .slice none 0 0, Nat.zero_le _, rfl, HHc.out, Rg.own_nil _ _ _, but_below (Below.refl _ _), HBWc.out⟩
     case round =>
      obtain ⟨t, v, ht, rfl, HHg, HOg, HBTg, HBWg⟩ := hrel
      have HBY : Hid (bp < z3.heap.size) := Nat.lt_of_lt_of_le HBZ.out HZ2.out
      by_cases htt : t < o
      ·have HJ := Lib.hid htt
       have hc4 := (cell_of_row wr bp 4 _ _ _ HHg.out).trans rfl
       have HAL : Hid (Below wr.heap.size wr (wr.alloc (.cells #[.string ⟨#[120]⟩, .string ⟨#[]⟩] 72))) := (Below.refl _ _).alloc (Nat.le_refl _) _
       have HSZ : Hid ((List.replicate t szG).length + 1 ≤ 1000000) := by rw [List.length_replicate]; show _ ≤ _; omega
       have HZ3 : Hid (z3.heap.size ≤ wr.heap.size) := HBTg.out.1
       go_wp2_with (at_builtin; refine Rg.wpList_app sliceG rfl (.tmp 80) (.tmp 82) rfl z3.heap.size _ (List.replicate t szG) [szG] rfl (Rg.own_below HOg.out HAL.out) _ _ rfl (Rg.news_new wr _ [szG] _ (by rfl)) (Nat.zero_lt_succ _) HSZ.out ?b2 ?_)
       case b2 => have := HZ3.out; simp; omega
       intro v6 W6 ho6 hg6 hz6
       have ha6 := (HAL.out.block _ (block_lt HHg.out)).trans HHg.out
       have hh6 := heap_grown ha6 hg6 (own_far (Rg.own_below HOg.out HAL.out) HBY.out)
       have hbl6 : Below z3.heap.size wr W6 := (HAL.out.mono HZ3.out).trans (Rg.grown_below (Rg.own_below HOg.out HAL.out) (Nat.le_trans HZ3.out HAL.out.size) hg6)
       obtain ⟨A6, n6, k6, rfl⟩ := own_is ho6
       have hc6 := (cell_of_row W6 bp 4 _ _ _ hh6).trans rfl
       have hf6 := six_free hh6 4
       have HH7 : Hid ((W6.setCell ⟨bp, 4, none⟩ (.slice A6 n6 k6)).heap[bp]? = some (.cells #[.string ⟨#[112]⟩, .string ⟨#[49]⟩, .slice D k dc, .slice C j cc, .slice A6 n6 k6, .float .f64 0] 34 (0, 0))) := (set_heap hh6).trans rfl
       have HO7 : Hid (Rg.Own encG 2 (W6.setCell ⟨bp, 4, none⟩ (.slice A6 n6 k6)) z3.heap.size 72 (.slice A6 n6 k6) (List.replicate (t + 1) szG)) := by
        rw [List.replicate_succ']
        exact own_set ho6 HBY.out
       have HBT7 : Hid (But (some bp) z3 (W6.setCell ⟨bp, 4, none⟩ (.slice A6 n6 k6))) := but_set2 (but_low HBTg.out hbl6)
       have HBW7 : Hid (Below w.heap.size w (W6.setCell ⟨bp, 4, none⟩ (.slice A6 n6 k6))) := (HBWg.out.trans (hbl6.mono (Nat.le_trans HWP.out (Nat.le_of_lt HBY.out)))).setCell (p := ⟨bp, 4, none⟩) HWP.out _
       clear ho6 hg6 hz6 ha6 hh6 hbl6 hc4 HAL HSZ HHg HOg HBTg HBWg
       go_wp2_with fail
       clear hc6 hf6
       generalize W6.setCell ⟨bp, 4, none⟩ (.slice A6 n6 k6) = W7 at *
       go_roundw
       case rel => exact ⟨t + 1, _, (by have := HJ.out; omega), by go_num, HH7, HO7, HBT7, HBW7⟩
       case measure => have := HJ.out; simp [intOf]; omega
      ·obtain rfl : t = o := by omega
       obtain ⟨G, gc, hv, hgr, hgf⟩ := gown_row HOg.out
       rw [List.length_replicate] at hv
       subst hv
       have HGR := Lib.hid hgr
       have HCZ := Lib.hid (HCA.out _ HBTg.out)
       have HDZ := Lib.hid (drowF_row (HDB.out _ HBTg.out))
       clear hgr hgf HOg HCA HDB HCR HDR HDA
       have HWR := Lib.hid HBWg.out
       have HKW : Hid (KOk wr) := kOk_below HK.out HBWg.out
       have HPF : Hid (PFew (szP k j t q)) := sz_few k j t q hn1 hm1 ho1 hq1
       have HPC : Hid (∀ u, Below wr.heap.size wr u → u.cell? ⟨bp, 0, none⟩ = some (.string ⟨#[112]⟩) ∧ u.cell? ⟨bp, 1, none⟩ = some (.string ⟨#[49]⟩) ∧ u.cell? ⟨bp, 2, none⟩ = some (.slice D k dc) ∧ u.cell? ⟨bp, 3, none⟩ = some (.slice C j cc) ∧ u.cell? ⟨bp, 4, none⟩ = some (.slice G t gc) ∧ u.cell? ⟨bp, 5, none⟩ = some (.float .f64 0)) := fun u h => by
        have h1 := (h.block _ (block_lt HHg.out)).trans HHg.out
        exact ⟨(cell_of_row u bp 0 _ _ _ h1).trans rfl, (cell_of_row u bp 1 _ _ _ h1).trans rfl, (cell_of_row u bp 2 _ _ _ h1).trans rfl, (cell_of_row u bp 3 _ _ _ h1).trans rfl, (cell_of_row u bp 4 _ _ _ h1).trans rfl, (cell_of_row u bp 5 _ _ _ h1).trans rfl⟩
       have HRS : Hid (∀ u, Below wr.heap.size wr u → Pg.DRow u D (szP k j t q).deps ∧ ARow u C (szP k j t q).confl ∧ GRow u G (szP k j t q).prov) := fun u h => ⟨drowD_below HDZ.out h, arow_below HCZ.out h, Rg.row_below HGR.out h⟩
       have HCK : Hid (Calls Tryz.prog 12 #[.agg #[.string ⟨#[112]⟩, .string ⟨#[49]⟩, .slice D k dc, .slice C j cc, .slice G t gc, .float .f64 0]] wr fun e w' => e = .returned (.int .i64 (if szLong k j t q then 4 else 0)) ∧ Below wr.heap.size wr w') :=
        s6_check HKW.out.1 (szP k j t q) D C G k dc j cc t gc HDZ.out (List.length_replicate ..) HCZ.out (List.length_replicate ..) HGR.out (List.length_replicate ..) HPF.out rfl rfl rfl (sz_check k j t q hq0)
       obtain ⟨y0, y1, y2, y3, y4, y5⟩ := HPC.out _ (Below.refl _ _)
       clear HDZ HCZ HGR HHg HBTg HBT HBTc HNBc HNBd HX HXZ HXB HPV HNB
       by_cases a1 : 16 < k
       ·have HL : Hid (szLong k j t q) := Or.inl a1
        have p1 : decide ((16 : Int) < (k : Int)) = true := decide_eq_true (by omega)
        rw [if_pos HL.out] at HCK
        go_wp2_with fail
        refine HCK.out.mono ?_
        rintro _ u4 ⟨rfl, hb⟩
        have HU4 := Lib.hid (HWR.out.trans (hb.mono HWR.out.size))
        clear hb
        go_wp2_with fail
        go_ret
        exact ⟨rfl, HU4.out⟩
       have p1 : decide ((16 : Int) < (k : Int)) = false := decide_eq_false (by omega)
       by_cases a2 : 0 < k
       ·have p2 : decide ((0 : Int) < (k : Int)) = true := decide_eq_true (by omega)
        have p2b : decide (0 < k) = true := decide_eq_true a2
        by_cases a3 : 8 < q
        ·have HL : Hid (szLong k j t q) := Or.inr (Or.inl ⟨a2, a3⟩)
         have p3 : decide ((8 : Int) < (q : Int)) = true := decide_eq_true (by omega)
         rw [if_pos HL.out] at HCK
         go_wp2_with fail
         refine HCK.out.mono ?_
         rintro _ u4 ⟨rfl, hb⟩
         have HU4 := Lib.hid (HWR.out.trans (hb.mono HWR.out.size))
         clear hb
         go_wp2_with fail
         go_ret
         exact ⟨rfl, HU4.out⟩
        have p3 : decide ((8 : Int) < (q : Int)) = false := decide_eq_false (by omega)
        by_cases a4 : 16 < j
        ·have HL : Hid (szLong k j t q) := Or.inr (Or.inr (Or.inl a4))
         have p4 : decide ((16 : Int) < (j : Int)) = true := decide_eq_true (by omega)
         rw [if_pos HL.out] at HCK
         go_wp2_with fail
         refine HCK.out.mono ?_
         rintro _ u4 ⟨rfl, hb⟩
         have HU4 := Lib.hid (HWR.out.trans (hb.mono HWR.out.size))
         clear hb
         go_wp2_with fail
         go_ret
         exact ⟨rfl, HU4.out⟩
        have p4 : decide ((16 : Int) < (j : Int)) = false := decide_eq_false (by omega)
        by_cases a5 : 16 < t
        ·have HL : Hid (szLong k j t q) := Or.inr (Or.inr (Or.inr a5))
         have p5 : decide ((16 : Int) < (t : Int)) = true := decide_eq_true (by omega)
         rw [if_pos HL.out] at HCK
         go_wp2_with fail
         refine HCK.out.mono ?_
         rintro _ u4 ⟨rfl, hb⟩
         have HU4 := Lib.hid (HWR.out.trans (hb.mono HWR.out.size))
         clear hb
         go_wp2_with fail
         go_ret
         exact ⟨rfl, HU4.out⟩
        have p5 : decide ((16 : Int) < (t : Int)) = false := decide_eq_false (by omega)
        have HL : Hid (¬ szLong k j t q) := by
         rintro (h | h | h | h)
         ·exact a1 h
         ·exact a3 h.2
         ·exact a4 h
         ·exact a5 h
        rw [if_neg HL.out] at HCK
        have HCP : Hid (checkP (szP k j t q) = 0) := by show _ = _; rw [sz_check _ _ _ _ hq0, if_neg HL.out]
        have HSH := Lib.hid (sz_short k j t q hq0 HL.out)
        have HW0 : Hid ((szP k j t q).wt < Wm.W) := HPF.out.2.2.2.2.2.2.2
        obtain ⟨N, hN⟩ : ∃ N, (toPk (szP k j t q)).length = N := ⟨_, rfl⟩
        have HN := Lib.hid hN
        have HN6 : Hid (N ≤ 6) := by show N ≤ 6; rw [← hN]; exact toP_len _
        clear hN
        go_wp2_with fail
        refine HCK.out.mono ?_
        rintro _ u4 ⟨rfl, hb⟩
        have HU4 := Lib.hid hb
        clear hb y0 y1 y2 y3 y4 y5 HCK
        obtain ⟨y0, y1, y2, y3, y4, y5⟩ := HPC.out _ HU4.out
        go_wp2_with fail
        refine (s6_to (kOk_below HKW.out HU4.out) (szP k j t q) D C G k dc j cc t gc (HRS.out _ HU4.out).1 (List.length_replicate ..) (HRS.out _ HU4.out).2.1 (List.length_replicate ..) (HRS.out _ HU4.out).2.2 (List.length_replicate ..) (check_txt HCP.out HW0.out) rfl rfl rfl HN.out).mono ?_
        rintro _ u5 ⟨AF, cf, rfl, hr5, hb⟩
        have HU5 := Lib.hid (HU4.out.trans (hb.mono HU4.out.size))
        have HR5 := Lib.hid hr5
        clear hb hr5
        go_wp2_with fail
        refine (s6_from (kOk_below HKW.out HU5.out) AF N cf (toPk (szP k j t q)) HN.out HR5.out (Nat.le_trans HN6.out (by decide)) (fun f hf => ⟨Nat.le_trans (HSH.out f hf).1 (by decide), Nat.le_trans (HSH.out f hf).2 (by decide)⟩) (fun f hf => (HSH.out f hf).2) (from_to HCP.out HW0.out) (nm := [112]) (vr := [49]) (dn := k) (cn := j) (gn := t) (wt := 0) rfl rfl (List.length_replicate ..) (List.length_replicate ..) (List.length_replicate ..) rfl).mono ?_
        rintro _ u6 ⟨D6, dc6, C6, cc6, G6, gc6, rfl, hd6, hc6, hg6, hb⟩
        have HU6 := Lib.hid (HU5.out.trans (hb.mono HU5.out.size))
        have HD6 := Lib.hid hd6
        have HC6 := Lib.hid hc6
        have HG6 := Lib.hid hg6
        clear hb hd6 hc6 hg6 HR5
        have hbl6 : Below u6.heap.size u6 (u6.alloc (.cells #[.string ⟨#[112]⟩, .string ⟨#[49]⟩, .slice D6 k dc6, .slice C6 j cc6, .slice G6 t gc6, .float .f64 0] 34)) := (Below.refl _ _).alloc (Nat.le_refl _) _
        have HV6 : Hid (Below wr.heap.size wr (u6.alloc (.cells #[.string ⟨#[112]⟩, .string ⟨#[49]⟩, .slice D6 k dc6, .slice C6 j cc6, .slice G6 t gc6, .float .f64 0] 34))) := HU6.out.trans (hbl6.mono HU6.out.size)
        have HDV : Hid (Pg.DRow (u6.alloc (.cells #[.string ⟨#[112]⟩, .string ⟨#[49]⟩, .slice D6 k dc6, .slice C6 j cc6, .slice G6 t gc6, .float .f64 0] 34)) D6 (szP k j t q).deps) := drowD_below HD6.out hbl6
        have HCV : Hid (ARow (u6.alloc (.cells #[.string ⟨#[112]⟩, .string ⟨#[49]⟩, .slice D6 k dc6, .slice C6 j cc6, .slice G6 t gc6, .float .f64 0] 34)) C6 (szP k j t q).confl) := arow_below HC6.out hbl6
        have HGV : Hid (GRow (u6.alloc (.cells #[.string ⟨#[112]⟩, .string ⟨#[49]⟩, .slice D6 k dc6, .slice C6 j cc6, .slice G6 t gc6, .float .f64 0] 34)) G6 (szP k j t q).prov) := Rg.row_below HG6.out hbl6
        clear hbl6 y0 y1 y2 y3 y4 y5
        obtain ⟨y0, y1, y2, y3, y4, y5⟩ := HPC.out _ HV6.out
        go_wp2_with fail
        refine (s6_same (u := (u6.alloc (.cells #[.string ⟨#[112]⟩, .string ⟨#[49]⟩, .slice D6 k dc6, .slice C6 j cc6, .slice G6 t gc6, .float .f64 0] 34))) (szP k j t q) D6 C6 G6 k dc6 j cc6 t gc6 (szP k j t q) D C G k dc j cc t gc HDV.out (List.length_replicate ..) HCV.out (List.length_replicate ..) HGV.out (List.length_replicate ..) HPF.out (HRS.out _ HV6.out).1 (List.length_replicate ..) (HRS.out _ HV6.out).2.1 (List.length_replicate ..) (HRS.out _ HV6.out).2.2 (List.length_replicate ..) HPF.out rfl rfl rfl rfl rfl rfl (sam_self _)).mono ?_
        rintro _ u7 ⟨rfl, hb⟩
        have HU7 := Lib.hid (HV6.out.trans (hb.mono HV6.out.size))
        clear hb
        go_wp2_with fail
        go_ret
        exact ⟨rfl, HWR.out.trans (HU7.out.mono HWR.out.size)⟩
       have p2 : decide ((0 : Int) < (k : Int)) = false := decide_eq_false (by omega)
       have p2b : decide (0 < k) = false := decide_eq_false a2
       by_cases a4 : 16 < j
       ·have HL : Hid (szLong k j t q) := Or.inr (Or.inr (Or.inl a4))
        have p4 : decide ((16 : Int) < (j : Int)) = true := decide_eq_true (by omega)
        rw [if_pos HL.out] at HCK
        go_wp2_with fail
        refine HCK.out.mono ?_
        rintro _ u4 ⟨rfl, hb⟩
        have HU4 := Lib.hid (HWR.out.trans (hb.mono HWR.out.size))
        clear hb
        go_wp2_with fail
        go_ret
        exact ⟨rfl, HU4.out⟩
       have p4 : decide ((16 : Int) < (j : Int)) = false := decide_eq_false (by omega)
       by_cases a5 : 16 < t
       ·have HL : Hid (szLong k j t q) := Or.inr (Or.inr (Or.inr a5))
        have p5 : decide ((16 : Int) < (t : Int)) = true := decide_eq_true (by omega)
        rw [if_pos HL.out] at HCK
        go_wp2_with fail
        refine HCK.out.mono ?_
        rintro _ u4 ⟨rfl, hb⟩
        have HU4 := Lib.hid (HWR.out.trans (hb.mono HWR.out.size))
        clear hb
        go_wp2_with fail
        go_ret
        exact ⟨rfl, HU4.out⟩
       have p5 : decide ((16 : Int) < (t : Int)) = false := decide_eq_false (by omega)
       have HL : Hid (¬ szLong k j t q) := by
        rintro (h | h | h | h)
        ·exact a1 h
        ·exact a2 h.1
        ·exact a4 h
        ·exact a5 h
       rw [if_neg HL.out] at HCK
       have HCP : Hid (checkP (szP k j t q) = 0) := by show _ = _; rw [sz_check _ _ _ _ hq0, if_neg HL.out]
       have HSH := Lib.hid (sz_short k j t q hq0 HL.out)
       have HW0 : Hid ((szP k j t q).wt < Wm.W) := HPF.out.2.2.2.2.2.2.2
       obtain ⟨N, hN⟩ : ∃ N, (toPk (szP k j t q)).length = N := ⟨_, rfl⟩
       have HN := Lib.hid hN
       have HN6 : Hid (N ≤ 6) := by show N ≤ 6; rw [← hN]; exact toP_len _
       clear hN
       go_wp2_with fail
       refine HCK.out.mono ?_
       rintro _ u4 ⟨rfl, hb⟩
       have HU4 := Lib.hid hb
       clear hb y0 y1 y2 y3 y4 y5 HCK
       obtain ⟨y0, y1, y2, y3, y4, y5⟩ := HPC.out _ HU4.out
       go_wp2_with fail
       refine (s6_to (kOk_below HKW.out HU4.out) (szP k j t q) D C G k dc j cc t gc (HRS.out _ HU4.out).1 (List.length_replicate ..) (HRS.out _ HU4.out).2.1 (List.length_replicate ..) (HRS.out _ HU4.out).2.2 (List.length_replicate ..) (check_txt HCP.out HW0.out) rfl rfl rfl HN.out).mono ?_
       rintro _ u5 ⟨AF, cf, rfl, hr5, hb⟩
       have HU5 := Lib.hid (HU4.out.trans (hb.mono HU4.out.size))
       have HR5 := Lib.hid hr5
       clear hb hr5
       go_wp2_with fail
       refine (s6_from (kOk_below HKW.out HU5.out) AF N cf (toPk (szP k j t q)) HN.out HR5.out (Nat.le_trans HN6.out (by decide)) (fun f hf => ⟨Nat.le_trans (HSH.out f hf).1 (by decide), Nat.le_trans (HSH.out f hf).2 (by decide)⟩) (fun f hf => (HSH.out f hf).2) (from_to HCP.out HW0.out) (nm := [112]) (vr := [49]) (dn := k) (cn := j) (gn := t) (wt := 0) rfl rfl (List.length_replicate ..) (List.length_replicate ..) (List.length_replicate ..) rfl).mono ?_
       rintro _ u6 ⟨D6, dc6, C6, cc6, G6, gc6, rfl, hd6, hc6, hg6, hb⟩
       have HU6 := Lib.hid (HU5.out.trans (hb.mono HU5.out.size))
       have HD6 := Lib.hid hd6
       have HC6 := Lib.hid hc6
       have HG6 := Lib.hid hg6
       clear hb hd6 hc6 hg6 HR5
       have hbl6 : Below u6.heap.size u6 (u6.alloc (.cells #[.string ⟨#[112]⟩, .string ⟨#[49]⟩, .slice D6 k dc6, .slice C6 j cc6, .slice G6 t gc6, .float .f64 0] 34)) := (Below.refl _ _).alloc (Nat.le_refl _) _
       have HV6 : Hid (Below wr.heap.size wr (u6.alloc (.cells #[.string ⟨#[112]⟩, .string ⟨#[49]⟩, .slice D6 k dc6, .slice C6 j cc6, .slice G6 t gc6, .float .f64 0] 34))) := HU6.out.trans (hbl6.mono HU6.out.size)
       have HDV : Hid (Pg.DRow (u6.alloc (.cells #[.string ⟨#[112]⟩, .string ⟨#[49]⟩, .slice D6 k dc6, .slice C6 j cc6, .slice G6 t gc6, .float .f64 0] 34)) D6 (szP k j t q).deps) := drowD_below HD6.out hbl6
       have HCV : Hid (ARow (u6.alloc (.cells #[.string ⟨#[112]⟩, .string ⟨#[49]⟩, .slice D6 k dc6, .slice C6 j cc6, .slice G6 t gc6, .float .f64 0] 34)) C6 (szP k j t q).confl) := arow_below HC6.out hbl6
       have HGV : Hid (GRow (u6.alloc (.cells #[.string ⟨#[112]⟩, .string ⟨#[49]⟩, .slice D6 k dc6, .slice C6 j cc6, .slice G6 t gc6, .float .f64 0] 34)) G6 (szP k j t q).prov) := Rg.row_below HG6.out hbl6
       clear hbl6 y0 y1 y2 y3 y4 y5
       obtain ⟨y0, y1, y2, y3, y4, y5⟩ := HPC.out _ HV6.out
       go_wp2_with fail
       refine (s6_same (u := (u6.alloc (.cells #[.string ⟨#[112]⟩, .string ⟨#[49]⟩, .slice D6 k dc6, .slice C6 j cc6, .slice G6 t gc6, .float .f64 0] 34))) (szP k j t q) D6 C6 G6 k dc6 j cc6 t gc6 (szP k j t q) D C G k dc j cc t gc HDV.out (List.length_replicate ..) HCV.out (List.length_replicate ..) HGV.out (List.length_replicate ..) HPF.out (HRS.out _ HV6.out).1 (List.length_replicate ..) (HRS.out _ HV6.out).2.1 (List.length_replicate ..) (HRS.out _ HV6.out).2.2 (List.length_replicate ..) HPF.out rfl rfl rfl rfl rfl rfl (sam_self _)).mono ?_
       rintro _ u7 ⟨rfl, hb⟩
       have HU7 := Lib.hid (HV6.out.trans (hb.mono HV6.out.size))
       clear hb
       go_wp2_with fail
       go_ret
       exact ⟨rfl, HWR.out.trans (HU7.out.mono HWR.out.size)⟩
end Go.Proofs.YtkplahkkmmoppaaGreatDoor
namespace Go.Proofs.YtkplahkkmmoppaaGreatDoor
open Go.RowKit Go.ChangeShapes
theorem errStar : "*errors.errorString" = "*" ++ "errors.errorString" := by decide
theorem errRow (u : TypeId) (h : Tryz.prog.typeName? 3 u = some "*errors.errorString") : u = 352 :=
 typeName_ptr_named (nm := "errors.errorString") (by rw [← errStar]; kernel_rfl) (by kernel_rfl) (by decide) u (by rw [← errStar]; exact h)
theorem kOk_of {W : World} (hm : MaxOk W) (h : laidMet Tryz.prog [("math/bits.deBruijn32tab", Rows.laid_math_bits_deBruijn32tab), ("math/bits.deBruijn64tab", Rows.laid_math_bits_deBruijn64tab), ("internal/strconv.uint64pow10", Rows.laid_internal_strconv_uint64pow10), ("unicode/utf8.acceptRanges", Rows.laid_unicode_utf8_acceptRanges), ("strconv.ErrRange", Rows.laid_strconv_ErrRange), ("strconv.ErrSyntax", Rows.laid_strconv_ErrSyntax), ("unicode/utf8.first", Rows.laid_unicode_utf8_first)] W) : KOk W := by
 refine ⟨hm, ?_, ?_, ?_⟩
 ·exact Lib.tabIs_of_head (k := .u64) (zs := Lib.pow10Tab) (n := 20) (g := 3) (t := 296) (by kernel_rfl) (by kernel_rfl) (show Tryz.prog.underlying _ = some (.array 20 161) by kernel_rfl) Tryz.underlying161 (by kernel_rfl) (by kernel_rfl) h.tail.tail
 ·exact Lib.tabIs_of_head (k := .u8) (zs := Lib.deBruijn64tab.map Int.ofNat) (n := 64) (g := 1) (t := 255) (by kernel_rfl) (by kernel_rfl) (show Tryz.prog.underlying _ = some (.array 64 5) by kernel_rfl) Tryz.underlying5 (by kernel_rfl) (by kernel_rfl) h.tail
 ·obtain ⟨a, s, hv, _⟩ := laid_sentinel h.tail.tail.tail.tail (g := 8) (ti := 144) (tp := 352) (te := 354) (ts := 9) (by kernel_rfl) (by kernel_rfl) Tryz.underlying144 errRow Tryz.underlying352 Tryz.underlying354 rfl rfl Tryz.underlying9 (by kernel_rfl) (by kernel_rfl)
  exact ⟨_, _, hv⟩
end Go.Proofs.YtkplahkkmmoppaaGreatDoor
