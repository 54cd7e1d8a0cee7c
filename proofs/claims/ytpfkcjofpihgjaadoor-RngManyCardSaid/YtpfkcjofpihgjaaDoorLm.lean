/- The law RngMany, walked. -/
import Derived.Test.YtpfkcjofpihgjaaDoorKd
import Derived.Test.YtpfkcjofpihgjaaDoorDa
namespace Go.Proofs.YtpfkcjofpihgjaaDoor
open Go.RowKit Rs

theorem sliceL : Rg.SliceT Tryd.prog Rs.spC 4 28 43 := ⟨fitsS, by decide, by kernel_rfl, Rg.info_of (z := .agg #[.string ByteArray.empty, .string ByteArray.empty, .bool false, .bool false]) (b := 40) (by kernel_rfl) (by rfl) (by decide)⟩
theorem decI_at (x : Int) (n : Nat) (v : List UInt8) (w : World) (hx : x = n) (hn : n < 10000000000000000000) (hv : decT n = v) :
    Calls Tryd.prog 15 #[.int .u64 x] w fun e w' => e = .returned (.string ⟨v.toArray⟩) ∧ Below w.heap.size w w' := by
  subst hx hv; exact decT_any n hn w
theorem decT_two : ∀ n, n < 80 → decT (n + 10) = two (n + 10) := by decide +kernel
theorem row_snoc (i : Nat) : (rowF 0 (i + 1)).map spOf = (rowF 0 i).map spOf ++ [⟨two (i + 10), two (i + 10), true, true⟩] := by
  unfold rowF
  rw [List.range'_concat, List.map_append, List.map_append]
  simp [ptP, spOf, txt, loI, aft]
theorem row_len (k : Nat) : ((rowF 0 k).map spOf).length = k := by simp [rowF]
/-- The first i of the turned row. -/
def turnP (k t i : Nat) : List (Rm.P Cut) := (List.range' 0 i).map fun q => ptP ((q + t) % k)
theorem turnP_all (k t : Nat) : turnP k t k = turned k t := rfl
theorem turn_len (k t i : Nat) : ((turnP k t i).map spOf).length = i := by simp [turnP]
theorem turn_snoc (k t i : Nat) : (turnP k t (i + 1)).map spOf = (turnP k t i).map spOf ++ [⟨two ((i + t) % k + 10), two ((i + t) % k + 10), true, true⟩] := by
  unfold turnP
  rw [List.range'_concat, List.map_append, List.map_append]
  simp [ptP, spOf, txt, loI, aft]
theorem row_get (k q : Nat) (h : q < k) : ((rowF 0 k).map spOf)[q]'(by rw [row_len]; exact h) = ⟨two (q + 10), two (q + 10), true, true⟩ := by
  simp [rowF, ptP, spOf, txt, loI, aft]
theorem turned_piece {k t : Nat} (h : k ≤ 90) : ((turned k t).map spOf).map Sp.piece = turned k t := by
  rw [List.map_map]
  conv => rhs; rw [← List.map_id (turned k t)]
  refine List.map_congr_left fun p hp => ?_
  obtain ⟨i, hi, rfl⟩ := List.mem_map.1 hp
  have hi2 : i < k := by have := List.mem_range'_1.1 hi; omega
  exact spOf_piece (pt_ok (Nat.lt_of_lt_of_le (Nat.mod_lt _ (by omega)) h)).1
theorem many_few {k t : Nat} (h : k ≤ 64) : normE 0 ((turned k t).map spOf) = 0 ∧ nrmR ((turned k t).map spOf) = rowF 0 k ∧ checkR ((rowF 0 k).map spOf) = 0 := by
  have h0 : normE 0 ((turned k t).map spOf) = 0 := normE_few _ _ (turned_err (by omega)) (by rw [List.length_map, turned_len]; omega)
  refine ⟨h0, ?_, good_check (row_good h)⟩
  unfold nrmR
  rw [if_pos h0, turned_piece (by omega), turned_join h]
theorem many_long {k t : Nat} (h : 64 < k) (h2 : k ≤ 90) : normE 0 ((turned k t).map spOf) = 4 ∧ nrmR ((turned k t).map spOf) = [] ∧ checkR ((rowF 0 k).map spOf) = 4 := by
  have h0 : normE 0 ((turned k t).map spOf) = 4 := normE_long _ _ (by decide) (turned_err (by omega)) (by rw [List.length_map, turned_len]; omega)
  refine ⟨h0, ?_, row_long h h2⟩
  unfold nrmR
  rw [if_neg (by rw [h0]; decide)]
theorem app_done3 {α : Type} {enc : α → List Value} {K : Nat} {T : TypeId} {v : Value} {l : List α} {w wr wq W5 : World} {o : Obj} (hB : Hid (Below w.heap.size w wr ∧ w.heap.size ≤ wr.heap.size)) (hq : Below wr.heap.size wr wq) (hO : Hid (Rg.Own enc K wr w.heap.size T v l)) (hg : (wq.alloc o).grownBy W5 v.ownBlock) :
    Hid (Below w.heap.size w W5 ∧ w.heap.size ≤ W5.heap.size) := by
  have hs : w.heap.size ≤ wq.heap.size := Nat.le_trans hB.out.2 hq.size
  have h1 : Below w.heap.size w (wq.alloc o) := (hB.out.1.trans (hq.mono hB.out.2)).alloc hs _
  have e : (wq.alloc o).heap.size = wq.heap.size + 1 := by simp
  have h2 : w.heap.size ≤ (wq.alloc o).heap.size := by omega
  exact ⟨h1.trans (Rg.grown_below (Rg.own_below hO.out (hq.alloc hq.size _)) h2 hg), Nat.le_trans h2 hg.size⟩
set_option maxRecDepth 100000 in
set_option maxHeartbeats 16000000 in
theorem rngMany_any (n t : Nat) (hn : n ≤ 255) (ht : t ≤ 255) (w : World) (hw : MaxOk w) :
    Calls Tryd.prog 4 #[.int .u8 n, .int .u8 t] w fun e w' => e = .returned (.bool true) ∧ Below w.heap.size w w' := by
  obtain ⟨k, hk⟩ : ∃ k, n % 70 = k := ⟨_, rfl⟩
  have hk70 : k < 70 := by omega
  have ek : (n : Int) % 70 = (k : Int) := by omega
  have ek2 : Int.tmod (n : Int) 70 = (k : Int) := by rw [Int.tmod_eq_emod_of_nonneg (by omega)]; exact ek
  have HM := Lib.hid hw
  clear hk hw
  go_enter Tryd.func4, Tryd.ntmps4
  go_wp2_with fail
  refine (known3_any _ HM.out).mono ?_
  rintro _ u1 ⟨rfl, hb⟩
  have HB1 := Lib.hid hb
  clear hb
  go_wp2_with fail
  clear ek ek2 hn
  go_loopw [6, 8] (fun v i wr => ∃ j : Nat, j ≤ k ∧ i = .int .i64 j ∧ Hid (POwn wr w.heap.size v ((rowF 0 j).map spOf)) ∧ Hid (Below w.heap.size w wr ∧ w.heap.size ≤ wr.heap.size)) (fun _ i _ => k - (intOf i).toNat)
  case atStart => exact ⟨0, Nat.zero_le _, rfl, Rg.own_nil _ _ _, HB1.out, HB1.out.size⟩
  case round =>
    clear HB1
    obtain ⟨j, hj, rfl, HO, HB⟩ := hrel
    by_cases hlt : j < k
    · obtain ⟨v, hv⟩ : ∃ v, two (j + 10) = v := ⟨_, rfl⟩
      have HV : Hid (decT (j + 10) = v) := by show _ = _; rw [decT_two j (by omega), hv]
      have HT : Hid ((rowF 0 (j + 1)).map spOf = (rowF 0 j).map spOf ++ [⟨v, v, true, true⟩]) := by show _ = _; rw [row_snoc, hv]
      have hsz : ((rowF 0 j).map spOf).length + 1 ≤ 1000000 := by rw [row_len]; omega
      clear hv
      go_wp2_with fail
      refine (decI_at _ (j + 10) v _ (by omega) (by omega) HV.out).mono ?_
      rintro _ u2 ⟨rfl, hb⟩
      have HB2 := Lib.hid hb
      clear hb
      go_wp2_with (at_builtin; refine Rg.wpList_app sliceL rfl (.tmp 28) (.tmp 32) rfl w.heap.size _ ((rowF 0 j).map spOf) [⟨v, v, true, true⟩] rfl (Rg.own_below HO.out (HB2.out.alloc HB2.out.size _)) _ _ rfl (Rg.news_new u2 _ _ _ (by rfl)) (Nat.zero_lt_succ _) hsz ?b2 ?_)
      case b2 => have := HB2.out.size; have := HB.out.2; simp; omega
      intro v5 W5 ho5 hg5 hz5
      have HB5 := app_done3 HB HB2.out HO hg5
      have HO5 : Hid (POwn W5 w.heap.size v5 ((rowF 0 (j + 1)).map spOf)) := by show POwn _ _ _ _; rw [HT.out]; exact ho5
      clear ho5 hg5 hz5 HO HB HB2 hsz
      go_wp2_with fail
      go_roundw
      case rel => exact ⟨j + 1, by omega, by go_num, HO5, HB5⟩
      case measure => simp [intOf]; omega
    · obtain rfl : j = k := by omega
      clear hlt
      obtain ⟨W1, hW1⟩ : ∃ W, W = wr := ⟨_, rfl⟩
      subst hW1
      obtain ⟨C, d, hv, hrow, _, _⟩ := srow_of HO.out
      rw [row_len] at hv
      subst hv
      have HR := Lib.hid hrow
      clear hrow HO
      go_wp2_with fail
      go_loopw [7, 10] (fun v i wr => ∃ q : Nat, q ≤ j ∧ i = .int .i64 q ∧ Hid (POwn wr W1.heap.size v ((turnP j t q).map spOf)) ∧ Hid (Below W1.heap.size W1 wr ∧ W1.heap.size ≤ wr.heap.size)) (fun _ i _ => j - (intOf i).toNat)
      case atStart => exact ⟨0, Nat.zero_le _, rfl, Rg.own_nil _ _ _, Below.refl _ _, Nat.le_refl _⟩
      case round =>
        obtain ⟨q, hq, rfl, HO, HB2⟩ := hrel
        by_cases hlt : q < j
        · obtain ⟨r, hr⟩ : ∃ r, (q + t) % j = r := ⟨_, rfl⟩
          have hrj : r < j := by rw [← hr]; exact Nat.mod_lt _ (by omega)
          have er : ((q : Int) + (t : Int)) % (j : Int) = (r : Int) := by rw [← hr]; norm_cast
          have er2 : Int.tmod ((q : Int) + (t : Int)) (j : Int) = (r : Int) := by rw [Int.tmod_eq_emod_of_nonneg (by omega)]; exact er
          obtain ⟨v, hv⟩ : ∃ v, two (r + 10) = v := ⟨_, rfl⟩
          have HT : Hid ((turnP j t (q + 1)).map spOf = (turnP j t q).map spOf ++ [⟨v, v, true, true⟩]) := by show _ = _; rw [turn_snoc, hr, hv]
          obtain ⟨ad, lo, hi, li, hh, rfl, hs, _, c0, c1, c2, c3⟩ := srow_at (srow_below HR.out HB2.out.1) r (by rw [row_len]; exact hrj)
          rw [row_get j r hrj, hv] at hs
          obtain ⟨rfl, rfl, rfl, rfl⟩ := Sp.mk.inj hs
          have hsz : ((turnP j t q).map spOf).length + 1 ≤ 1000000 := by rw [turn_len]; omega
          have r0 : (0 : Int) ≤ (r : Int) := by omega
          have r1 : (r : Int) < (j : Int) := by omega
          have j0 : (0 : Int) < (j : Int) := by omega
          have jn : ((j : Int) == 0) = false := by simp; omega
          clear hs hv hr
          go_wp2_with (at_builtin; refine Rg.wpList_app sliceL rfl (.tmp 39) (.tmp 49) rfl W1.heap.size _ ((turnP j t q).map spOf) [⟨v, v, true, true⟩] rfl (Rg.own_below HO.out ((Below.refl _ _).alloc (Nat.le_refl _) _)) _ _ rfl (Rg.news_new wr _ _ _ (by rfl)) (Nat.zero_lt_succ _) hsz ?b3 ?_)
          case b3 => have := HB2.out.2; simp; omega
          intro v5 W5 ho5 hg5 hz5
          have HB5 := app_done3 HB2 (Below.refl _ _) HO hg5
          have HO5 : Hid (POwn W5 W1.heap.size v5 ((turnP j t (q + 1)).map spOf)) := by show POwn _ _ _ _; rw [HT.out]; exact ho5
          clear ho5 hg5 hz5 HO HB2 hsz er er2 c0 c1 c2 c3
          go_wp2_with fail
          go_roundw
          case rel => exact ⟨q + 1, by omega, by go_num, HO5, HB5⟩
          case measure => simp [intOf]; omega
        · obtain rfl : q = j := by omega
          clear hlt
          obtain ⟨C2, d2, hv, hrow, _, _⟩ := srow_of HO.out
          rw [turn_len] at hv
          subst hv
          have HS0 : Hid (St w wr [⟨C2, q, (turned q t).map spOf⟩, ⟨C, q, (rowF 0 q).map spOf⟩]) := ⟨HM.out, HB.out.1.trans (HB2.out.1.mono HB.out.2), fun x hx => by
            simp only [List.mem_cons, List.not_mem_nil, or_false] at hx
            rcases hx with rfl | rfl
            · exact ⟨hrow, turn_len q t q⟩
            · exact ⟨srow_below HR.out HB2.out.1, row_len q⟩⟩
          clear HO hrow HB HB2 HR
          by_cases h64 : 64 < q
          · have HF := Lib.hid (many_long (t := t) h64 (by omega))
            have g0 : decide ((64 : Int) < (q : Int)) = true := decide_eq_true (by omega)
            have g1 : decide (64 < q) = true := decide_eq_true h64
            go_wp2_with fail
            refine (s_check HS0.out 1 rfl (by omega) _ 4 HF.out.2.2).mono ?_
            rintro _ u3 ⟨rfl, hs⟩
            have HS1 := Lib.hid hs
            clear hs HS0
            go_wp2_with fail
            refine (s_norm HS1.out 0 rfl (by omega) _ [] 4 HF.out.2.1 HF.out.1).mono ?_
            rintro _ u4 ⟨C4, n4, d4, rfl, hs⟩
            have HS2 := Lib.hid hs
            clear hs HS1
            obtain rfl : n4 = 0 := (st_row HS2.out 0 rfl).2.symm
            go_wp2_with fail
            go_ret
            exact ⟨rfl, HS2.out.2.1⟩
          · have HF := Lib.hid (many_few (t := t) (k := q) (by omega))
            have HG := Lib.hid (row_good (k := q) (by omega))
            have HH := Lib.hid (has_row (k := q) (by omega))
            have g0 : decide ((64 : Int) < (q : Int)) = false := decide_eq_false (by omega)
            have g1 : decide (64 < q) = false := decide_eq_false h64
            go_wp2_with fail
            refine (s_check HS0.out 1 rfl (by omega) _ 0 HF.out.2.2).mono ?_
            rintro _ u3 ⟨rfl, hs⟩
            have HS1 := Lib.hid hs
            clear hs HS0
            go_wp2_with fail
            refine (s_norm HS1.out 0 rfl (by omega) _ (rowF 0 q) 0 HF.out.2.1 HF.out.1).mono ?_
            rintro _ u4 ⟨C4, n4, d4, rfl, hs⟩
            have HS2 := Lib.hid hs
            clear hs HS1
            go_wp2_with fail
            refine (s_sameG HS2.out 0 2 rfl rfl HG.out HG.out _ _ rfl).mono ?_
            rintro _ u5 ⟨rfl, hs⟩
            have HS3 := Lib.hid hs
            clear hs HS2
            go_wp2_with fail
            refine (s_has HS3.out 0 rfl HG.out _ [57] (by decide +kernel) false HH.out.1).mono ?_
            rintro _ u6 ⟨rfl, hs⟩
            have HS4 := Lib.hid hs
            clear hs HS3
            go_wp2_with fail
            refine (s_has HS4.out 0 rfl HG.out _ [49, 48, 46, 49] (by decide +kernel) false HH.out.2.1).mono ?_
            rintro _ u7 ⟨rfl, hs⟩
            have HS5 := Lib.hid hs
            clear hs HS4
            by_cases hq0 : 0 < q
            · have HZ : Hid (hasR (rowF 0 q) [49, 48] = true) := HH.out.2.2.trans (decide_eq_true hq0)
              have z0 : decide ((0 : Int) < (q : Int)) = true := decide_eq_true (by omega)
              go_wp2_with fail
              refine (s_has HS5.out 0 rfl HG.out _ [49, 48] (by decide +kernel) true HZ.out).mono ?_
              rintro _ u8 ⟨rfl, hs⟩
              have HS6 := Lib.hid hs
              clear hs HS5
              go_wp2_with fail
              go_ret
              exact ⟨rfl, HS6.out.2.1⟩
            · have HZ : Hid (hasR (rowF 0 q) [49, 48] = false) := HH.out.2.2.trans (decide_eq_false hq0)
              have z0 : decide ((0 : Int) < (q : Int)) = false := decide_eq_false (by omega)
              go_wp2_with fail
              refine (s_has HS5.out 0 rfl HG.out _ [49, 48] (by decide +kernel) false HZ.out).mono ?_
              rintro _ u8 ⟨rfl, hs⟩
              have HS6 := Lib.hid hs
              clear hs HS5
              go_wp2_with fail
              go_ret
              exact ⟨rfl, HS6.out.2.1⟩
end Go.Proofs.YtpfkcjofpihgjaaDoor
