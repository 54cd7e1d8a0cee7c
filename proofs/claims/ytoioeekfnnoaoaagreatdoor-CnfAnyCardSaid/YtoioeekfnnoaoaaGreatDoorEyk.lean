/- AppendInt onto bytes that a conversion has laid: walked. -/
import Derived.Test.YtoioeekfnnoaoaaGreatDoorEyi
import Derived.BigCall
import Derived.BigGuard
import Derived.CellFam
namespace Go.Proofs.YtoioeekfnnoaoaaGreatDoor.Cl
open Go.RowKit Go.Sort Go.Lib
theorem u64n_in {u : Nat} (h : u < 1000000) : IntKind.u64.wrap (u : Int) = (u : Int) := by rw [IntKind.wrap_u64]; omega
attribute [local go_sem ↓] Go.wp_at_zero Go.wp_at_succ
set_option maxRecDepth 100000 in
set_option maxHeartbeats 1600000 in
theorem appUint_small {B : Nat} (u : Nat) (hu : u < 100) (sv : Value) (l : List UInt8) (w : World) (hown : TOwn w B sv l) (hB : B ≤ w.heap.size) (hl : l.length ≤ 900000) :
    Calls Tryz.prog 76 #[sv, .int .u64 u, .int .i64 10] w fun e w' => ∃ v', e = .returned v' ∧ TOwn w' B v' (l ++ Lib.decDigits u) ∧ RowKit.Below B w w' := by
  have hlen : (Lib.decDigits u).length ≤ 20 := by
    rw [Lib.decDigits_length]
    by_cases h10 : u < 10
    · rw [Lib.nDigits_small h10]; omega
    · rw [Lib.nDigits_big h10, Lib.nDigits_small (show u / 10 < 10 by omega)]; omega
  have d1 : decide ((u : Int) < 100) = true := decide_eq_true (by omega)
  have w1 : IntKind.i64.wrap (u : Int) = (u : Int) := IntWalk.i64_in _ (by omega)
  have HS := Lib.hid (Tryz.internal_strconv_small u hu w)
  have HO := Lib.hid hown
  have HL : Hid (l.length + (Lib.decDigits u).length ≤ 1000000) := by show _ ≤ _; omega
  have HB := Lib.hid hB
  clear hown hB hlen hl hu
  go_enter Tryz.func76, Tryz.ntmps76
  go_wp2_with (first
    | (go_at_call 92; refine HS.out.mono ?_; rintro e w' ⟨rfl, rfl⟩)
    | (at_builtin; refine wpT_str rfl (.tmp 13) (.tmp 16) rfl B _ l (Lib.decDigits u) rfl HO.out rfl HL.out HB.out ?_))
  intro v' w2 ho hb
  have HO2 := Lib.hid ho
  have HB2 := Lib.hid hb
  clear ho hb
  go_wp2_with fail
  go_ret
  exact ⟨v', rfl, HO2.out, HB2.out⟩
set_option maxRecDepth 100000 in
set_option maxHeartbeats 12800000 in
theorem appUint_big {B : Nat} (u : Nat) (hu : 100 ≤ u) (hu2 : u < 1000000) (sv : Value) (l : List UInt8) (w : World) (hown : TOwn w B sv l) (hB : B ≤ w.heap.size) (hl : l.length ≤ 900000) (htab : Lib.TabIs Tryz.prog w "internal/strconv.uint64pow10" .u64 Lib.pow10Tab) :
    Calls Tryz.prog 76 #[sv, .int .u64 u, .int .i64 10] w fun e w' => ∃ v', e = .returned v' ∧ TOwn w' B v' (l ++ Lib.decDigits u) ∧ RowKit.Below B w w' := by
  have hu1 : 1 ≤ u := by omega
  have hu64 : u < 18446744073709551616 := by omega
  have hnd20 : Lib.nDigits u ≤ 20 := by have := Lib.numDigits_eq u hu1 hu64; split at this <;> omega
  have hal : Tryz.prog.arrayLen 121 = 24 := by simp [Program.arrayLen, Tryz.underlying121]
  have hsl : ∀ W, (Instr.sliceAt 121 (.pointer (some ⟨w.heap.size, 0, none⟩)) none (some (.int .i64 (Lib.nDigits u : Int))) none).run Tryz.prog W = .ok (.slice (some ⟨w.heap.size, 0, none⟩) (Lib.nDigits u) 24) W := fun W => by
    rw [run_sliceAt_array_h W 121 ⟨w.heap.size, 0, none⟩ (by simp [Program.arrayLen, Program.elem, Tryz.underlying121]) .i64 (Lib.nDigits u : Int) (by omega) (by rw [hal]; omega)]
    go_simp
  have hH0 := Lib.holds_zero0 w 121 (Lib.nDigits u) (by omega)
  have hfmt := Tryz.internal_strconv_formatBase10 w.heap.size 0 24 u (Array.replicate (Lib.nDigits u) 0) (w.alloc (.cells Lib.zeros24 121)) hH0 (by rw [Array.size_replicate]; exact Lib.lt_pow_nDigits u) hu64 (by rw [Array.size_replicate]; omega)
  rw [Array.size_replicate] at hfmt
  have HH0 := Lib.hid hH0
  have iu : (100 : Int) ≤ (u : Int) := by omega
  have d1 : decide ((u : Int) < 100) = false := decide_eq_false (by omega)
  have HND := Lib.hid (fun W (h : Lib.TabIs Tryz.prog W "internal/strconv.uint64pow10" .u64 Lib.pow10Tab) => Tryz.internal_strconv_numDigits u hu1 hu64 W h)
  have HTAB := Lib.hid htab
  have HO := Lib.hid hown
  have HB := Lib.hid hB
  clear hH0 hal hown hB htab
  go_enter Tryz.func76, Tryz.ntmps76
  go_wp2_with (first
    | (go_at_call 93; refine (HND.out _ (Lib.tabIs_alloc HTAB.out _)).mono ?_; rintro e w' ⟨rfl, rfl⟩))
  go_at_call 94
  refine hfmt.mono ?_
  rintro e w' ⟨rfl, k, v', dk, rfl, hF⟩
  have hcells : ∀ j u', (Lib.byteCells (Lib.decDigits u))[j]? = some u' → ((putRow (fun (b : UInt8) => Value.int .u8 (b.toNat : Int)) (w.alloc (.cells Lib.zeros24 121)) w.heap.size 0 dk).drewN k).cell? ((⟨w.heap.size, 0, none⟩ : Addr).add j) = some u' := by
    intro j u' hj
    have hjl : j < (Lib.decDigits u).length := by
      have h5 := (List.getElem?_eq_some_iff.1 hj).1
      rwa [Lib.byteCells_length] at h5
    have e5 : (Lib.byteCells (Lib.decDigits u))[j]? = some (Value.int .u8 ((Lib.decDigits u)[j].toNat : Int)) := by simp [Lib.byteCells, hjl]
    rw [e5] at hj
    cases hj
    rw [Lib.row_is_numeral hF j hjl, Lib.add_plain, World.cell?_drewN]
    exact cell?_putRow (fun (b : UInt8) => Value.int .u8 (b.toNat : Int)) _ w.heap.size 0 _ dk HH0.out (by rw [hF.size, Array.size_replicate]) j (by rw [hF.size]; rw [Lib.decDigits_length] at hjl; exact hjl)
  obtain ⟨os, eo⟩ := Lib.fin_at w (.cells Lib.zeros24 121) dk k 0
  have hnx2 : RowKit.Below w.heap.size w ((putRow (fun (b : UInt8) => Value.int .u8 (b.toNat : Int)) (w.alloc (.cells Lib.zeros24 121)) w.heap.size 0 dk).drewN k) := by rw [eo]; exact Lib.below_grow w.heap.size w (Nat.le_refl _) k os
  generalize (putRow (fun (b : UInt8) => Value.int .u8 (b.toNat : Int)) (w.alloc (.cells Lib.zeros24 121)) w.heap.size 0 dk).drewN k = W2 at hcells hnx2 ⊢
  clear eo HH0 hfmt hF
  have HO2 := Lib.hid (tOwn_below HO.out hnx2)
  have HB2 : Hid (B ≤ W2.heap.size) := Nat.le_trans HB.out hnx2.size
  have HN2 := Lib.hid hnx2
  have HC := Lib.hid hcells
  have HLN : Hid ((Lib.decDigits u).length = Lib.nDigits u) := Lib.decDigits_length u
  have HSZ : Hid (l.length + (Lib.decDigits u).length ≤ 1000000) := by show _ ≤ _; rw [HLN.out]; omega
  clear hcells hnx2 HO HND HTAB
  go_wp2_with (at_builtin; refine wpT_row rfl (.tmp 24) (.tmp 26) rfl B _ l (Lib.decDigits u) rfl HO2.out ⟨w.heap.size, 0, none⟩ (Lib.nDigits u) 24 HLN.out rfl HC.out HSZ.out HB2.out ?_)
  intro v2 w3 ho hb
  have HO3 := Lib.hid ho
  have HB3 : Hid (RowKit.Below B w w3) := (HN2.out.mono HB.out).trans hb
  clear ho hb
  go_wp2_with fail
  go_ret
  exact ⟨v2, rfl, HO3.out, HB3.out⟩
theorem appUint_any {B : Nat} (u : Nat) (hu2 : u < 1000000) (sv : Value) (l : List UInt8) (w : World) (hown : TOwn w B sv l) (hB : B ≤ w.heap.size) (hl : l.length ≤ 900000) (htab : Lib.TabIs Tryz.prog w "internal/strconv.uint64pow10" .u64 Lib.pow10Tab) :
    Calls Tryz.prog 76 #[sv, .int .u64 u, .int .i64 10] w fun e w' => ∃ v', e = .returned v' ∧ TOwn w' B v' (l ++ Lib.decDigits u) ∧ RowKit.Below B w w' := by
  by_cases h : u < 100
  · exact appUint_small u h sv l w hown hB hl
  · exact appUint_big u (by omega) hu2 sv l w hown hB hl htab
set_option maxRecDepth 100000 in
set_option maxHeartbeats 1600000 in
theorem appInt_any {B : Nat} (i : Int) (hi : i.natAbs < 1000000) (sv : Value) (l : List UInt8) (w : World) (hown : TOwn w B sv l) (hB : B ≤ w.heap.size) (hl : l.length ≤ 800000) (htab : Lib.TabBelow Tryz.prog B w "internal/strconv.uint64pow10" .u64 Lib.pow10Tab) :
    Calls Tryz.prog 63 #[sv, .int .i64 i, .int .i64 10] w fun e w' => ∃ v', e = .returned v' ∧ TOwn w' B v' (l ++ Lib.itoa i) ∧ RowKit.Below B w w' := by
  have HO := Lib.hid hown
  have HB := Lib.hid hB
  have HT := Lib.hid htab
  by_cases hneg : i < 0
  · obtain ⟨u, rfl⟩ : ∃ u : Nat, i = -(u : Int) := ⟨i.natAbs, by omega⟩
    have hu1 : 1 ≤ u := by omega
    have hu2 : u < 1000000 := by omega
    have e0 : Lib.itoa (-(u : Int)) = 45 :: Lib.decDigits u := Lib.itoa_neg u hu1
    have d : decide (-(u : Int) < 0) = true := decide_eq_true (by omega)
    have d0 : decide (0 < u) = true := decide_eq_true (by omega)
    have hwr : IntKind.u64.wrap (-IntKind.u64.wrap (-(u : Int))) = (u : Int) := by rw [IntKind.wrap_u64, IntKind.wrap_u64]; omega
    obtain ⟨y, hy⟩ : ∃ y, IntKind.u64.wrap (-(u : Int)) = y := ⟨_, rfl⟩
    rw [hy] at hwr
    have HSZ : Hid (l.length + [(45 : UInt8)].length ≤ 1000000) := by show _ + 1 ≤ _; omega
    have hl1 : (l ++ [(45 : UInt8)]).length ≤ 900000 := by rw [List.length_append]; show _ + 1 ≤ _; omega
    have HW := Lib.hid (fun (v1 : Value) (W : World) (ho : TOwn W B v1 (l ++ [45])) (hb : B ≤ W.heap.size) (ht : Lib.TabIs Tryz.prog W "internal/strconv.uint64pow10" .u64 Lib.pow10Tab) => appUint_any u hu2 v1 (l ++ [45]) W ho hb hl1 ht)
    rw [e0]
    clear hown hB htab hneg hi hl hu1 hu2 e0 hl1
    go_enter Tryz.func63, Tryz.ntmps63
    go_wp2_with (at_builtin; refine wpT_row rfl (.tmp 12) (.tmp 13) rfl B _ l [45] rfl (tOwn_below HO.out ((RowKit.Below.refl _ _).alloc (Nat.le_refl _) _)) ⟨w.heap.size, 0, none⟩ 1 1 rfl rfl (by intro j u' hj; match j, hj with | 0, hj => simp [Lib.byteCells] at hj; subst hj; simp [Addr.add]) HSZ.out (by have := HB.out; simp; omega) ?_)
    intro v1 W1 ho1 hb1
    have HO1 := Lib.hid ho1
    have HB1 : Hid (RowKit.Below B w W1) := ((RowKit.Below.refl B w).alloc HB.out _).trans hb1
    have HT1 := Lib.hid (HT.out W1 HB1.out)
    have HX := Lib.hid (HW.out v1 W1 ho1 (Nat.le_trans HB.out HB1.out.size) HT1.out)
    clear ho1 hb1 HW HO
    go_wp2_with fail
    refine HX.out.mono ?_
    rintro _ w2 ⟨v2, rfl, ho2, hb2⟩
    have e3 : l ++ 45 :: Lib.decDigits u = l ++ [45] ++ Lib.decDigits u := by simp
    have HO2 : Hid (TOwn w2 B v2 (l ++ 45 :: Lib.decDigits u)) := by show TOwn _ _ _ _; rw [e3]; exact ho2
    have HB2 := Lib.hid (HB1.out.trans hb2)
    clear ho2 hb2 e3
    go_wp2_with fail
    go_ret
    exact ⟨v2, rfl, HO2.out, HB2.out⟩
  · obtain ⟨u, rfl⟩ : ∃ u : Nat, i = u := ⟨i.toNat, by omega⟩
    have d : decide ((u : Int) < 0) = false := decide_eq_false (by omega)
    have hwr : IntKind.u64.wrap (u : Int) = (u : Int) := u64n_in (by omega)
    have HX := Lib.hid (appUint_any u (by omega) sv l w hown hB (by omega) htab.here)
    rw [Lib.itoa_nonneg]
    clear hown hB htab hneg hi hl HO HT
    go_enter Tryz.func63, Tryz.ntmps63
    go_wp2_with fail
    refine HX.out.mono ?_
    rintro _ w2 ⟨v2, rfl, ho2, hb2⟩
    have HO2 := Lib.hid ho2
    have HB2 := Lib.hid hb2
    clear ho2 hb2
    go_wp2_with fail
    go_ret
    exact ⟨v2, rfl, HO2.out, HB2.out⟩
set_option maxHeartbeats 800000 in
theorem appendInt_any {B : Nat} (i : Int) (hi : i.natAbs < 1000000) (sv : Value) (l : List UInt8) (w : World) (hown : TOwn w B sv l) (hB : B ≤ w.heap.size) (hl : l.length ≤ 800000) (htab : Lib.TabBelow Tryz.prog B w "internal/strconv.uint64pow10" .u64 Lib.pow10Tab) :
    Calls Tryz.prog 42 #[sv, .int .i64 i, .int .i64 10] w fun e w' => ∃ v', e = .returned v' ∧ TOwn w' B v' (l ++ wordZ i) ∧ RowKit.Below B w w' := by
  have HX := Lib.hid (appInt_any i hi sv l w hown hB hl htab)
  rw [itoa_word (by omega)] at HX
  clear hown hB htab hi hl
  go_enter Tryz.func42, Tryz.ntmps42
  go_wp2_with fail
  refine HX.out.mono ?_
  rintro _ w2 ⟨v2, rfl, ho2, hb2⟩
  have HO2 := Lib.hid ho2
  have HB2 := Lib.hid hb2
  clear ho2 hb2
  go_wp2_with fail
  go_ret
  exact ⟨v2, rfl, HO2.out, HB2.out⟩
end Go.Proofs.YtoioeekfnnoaoaaGreatDoor.Cl
