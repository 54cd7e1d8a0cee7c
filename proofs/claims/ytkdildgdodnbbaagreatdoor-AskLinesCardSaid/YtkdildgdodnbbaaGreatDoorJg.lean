/- The reference's Norm, Or, RangeOf, walked. -/
import Derived.Test.YtkdildgdodnbbaaGreatDoorJf
namespace Go.Proofs.YtkdildgdodnbbaaGreatDoor
open Go.RowKit Rs
attribute [local go_sem ↓] Go.wp_at_zero Go.wp_at_succ

theorem srow_row {w : World} {A : Option Addr} {l : List Sp} (h : SRow w A l) : Rg.Row spC 4 w A l := fun h0 => by
  obtain ⟨a, e, hb, hc⟩ := h h0
  refine ⟨a, e, hb, fun i hi j v hv => ?_⟩
  obtain ⟨s0, s1, s2, s3⟩ := at4_of (hc i hi)
  match j, hv with
  | 0, hv => cases hv; exact s0
  | 1, hv => cases hv; exact s1
  | 2, hv => cases hv; exact s2
  | 3, hv => cases hv; exact s3
  | j + 4, hv => cases hv
theorem joinedR_any (A : Option Addr) (n c : Nat) (r : List (Rm.P Cut)) (R : List Sp) (w : World) (hn : r.length = n) (hr : SRow w A (r.map spOf)) (ho : ∀ p ∈ r, Ok2 p) (hl : n ≤ 10000) (hR : ((Rm.joinK Ln r).take 64).map spOf = R) :
    Calls Tryz.prog 91 #[.slice A n c] w (SpansRet w R) := by
  have := joined_any A n c r w hn hr ho hl; rw [hR] at this; exact this
theorem srow_new (w : World) (T : TypeId) (l : List Sp) (cs : Array Value) (h : cs.toList = Rg.flat spC l) : SRow (w.alloc (.cells cs T)) (some ⟨w.heap.size, 0, none⟩) l := fun _ => by
  refine ⟨_, rfl, by simp, fun i hi => ?_⟩
  have hn := Rg.news_new w T l cs h
  have e : ∀ j, j < 4 → (w.alloc (.cells cs T)).cell? (((⟨w.heap.size, 0, none⟩ : Addr).add (i * 4)).add j) = (spC l[i])[j]? := fun j hj => by
    rw [Go.Deep.add_add]
    have hg := Rg.flat_get fitsS l i hi j hj
    have hl : j < (spC l[i]).length := hj
    rw [List.getElem?_eq_getElem hl] at hg ⊢
    exact hn _ _ hg
  exact ⟨e 0 (by decide), e 1 (by decide), e 2 (by decide), e 3 (by decide)⟩
set_option maxRecDepth 100000 in
set_option maxHeartbeats 1600000 in
theorem refOr_any (A B : Option Addr) (n m ca cb : Nat) (a b : List (Rm.P Cut)) (w : World) (hn : a.length = n) (hm : b.length = m) (ha : SRow w A (a.map spOf)) (hb : SRow w B (b.map spOf)) (ga : ∀ p ∈ a, Ok2 p) (gb : ∀ p ∈ b, Ok2 p) (hl : n ≤ 1000 ∧ m ≤ 1000) :
    Calls Tryz.prog 70 #[.slice A n ca, .slice B m cb] w (SpansRet w ((orR a b).map spOf)) := by
  obtain ⟨hl1, hl2⟩ := hl
  have HA := Lib.hid (srow_row ha)
  have HBB := Lib.hid (srow_row hb)
  have HOO : Hid (∀ p ∈ a ++ b, Ok2 p) := fun p hp => by
    rcases List.mem_append.1 hp with h | h
    · exact ga p h
    · exact gb p h
  have HN : Hid ((a.map spOf).length = n) := by show _ = _; rw [List.length_map]; exact hn
  have HMM : Hid ((b.map spOf).length = m) := by show _ = _; rw [List.length_map]; exact hm
  have HLL : Hid ((a ++ b).length = n + m) := by show _ = _; rw [List.length_append, hn, hm]
  have HL2 : Hid (((a ++ b).map spOf).length = n + m) := by show _ = _; rw [List.length_map]; exact HLL.out
  have HMP : Hid ((a ++ b).map spOf = [] ++ a.map spOf ++ b.map spOf) := by show _ = _; rw [List.map_append, List.nil_append]
  have HAL : Hid (ROwn (w.alloc (.cells #[] 90)) w.heap.size (.slice (some ⟨w.heap.size, 0, none⟩) 0 0) []) := Rg.own_made w fitsS (Nat.le_refl _)
  clear ha hb ga gb hn hm
  obtain ⟨R, hR⟩ : ∃ R, (orR a b).map spOf = R := ⟨_, rfl⟩
  rw [hR]
  have HR : Hid (((Rm.joinK Ln (a ++ b)).take 64).map spOf = R) := hR
  clear hR
  obtain ⟨la, hla⟩ : ∃ x, a.map spOf = x := ⟨_, rfl⟩
  obtain ⟨lb, hlb⟩ : ∃ x, b.map spOf = x := ⟨_, rfl⟩
  rw [hla] at HA HN HMP
  rw [hlb] at HBB HMM HMP
  clear hla hlb
  go_enter Tryz.func70, Tryz.ntmps70
  go_wp2_with (at_builtin; refine Rg.wpList_appS sliceR rfl (.tmp 5) (.tmp 6) rfl w.heap.size _ [] la rfl HAL.out A n ca HN.out rfl ?r1 ?s1 ?b1 ?_)
  case r1 => exact Rg.row_below HA.out ((Below.refl _ _).alloc (Nat.le_refl _) _)
  case s1 => rw [HN.out]; show 0 + _ ≤ _; omega
  case b1 => simp
  intro v5 W5 ho5 hg5 hz5
  have HO5 := Lib.hid ho5
  have HB5 : Hid (Below w.heap.size w W5) := ((Below.refl _ _).alloc (Nat.le_refl _) _).trans (Rg.grown_below HAL.out (by simp) hg5)
  clear ho5 hg5 hz5 HAL
  go_wp2_with (at_builtin; refine Rg.wpList_appS sliceR rfl (.tmp 7) (.tmp 8) rfl w.heap.size v5 ([] ++ la) lb rfl HO5.out B m cb HMM.out rfl ?r2 ?s2 ?b2 ?_)
  case r2 => exact Rg.row_below HBB.out HB5.out
  case s2 => rw [List.nil_append, HN.out, HMM.out]; omega
  case b2 => exact HB5.out.size
  intro v6 W6 ho6 hg6 hz6
  have HB6 : Hid (Below w.heap.size w W6) := HB5.out.trans (Rg.grown_below HO5.out HB5.out.size hg6)
  have ho7 : ROwn W6 w.heap.size v6 ((a ++ b).map spOf) := by rw [HMP.out]; simpa using ho6
  obtain ⟨C, d, rfl, hsr, _, _, _, _⟩ := rrow_of ho7 HL2.out
  have HSR := Lib.hid hsr
  clear ho6 hg6 hz6 HO5 ho7 hsr
  go_wp2_with fail
  refine (joinedR_any C (n + m) d (a ++ b) R _ HLL.out HSR.out HOO.out (by omega) HR.out).mono ?_
  rintro _ w1 ⟨⟨D, e, rfl, hc, hle, hbl⟩, hb⟩
  have HC := Lib.hid hc
  have HLE := Lib.hid hle
  have HBL := Lib.hid hbl
  have HB1 := Lib.hid (HB6.out.trans (hb.mono HB6.out.size))
  clear hc hle hb hbl
  go_wp2_with fail
  go_ret
  exact ⟨⟨D, e, rfl, HC.out, HLE.out, fun a ha => Nat.le_trans HB6.out.size (HBL.out a ha)⟩, HB1.out⟩
/-! RangeOf. -/
set_option maxRecDepth 100000 in
set_option maxHeartbeats 1600000 in
theorem refOf_no (s v : List UInt8) (w : World) (h : NoSign s) : Calls Tryz.prog 68 #[.string ⟨s.toArray⟩, .string ⟨v.toArray⟩] w (OfRet w [] 2) := by
  have g0 : (s == [61]) = false := beq_eq_false_iff_ne.2 (h 0 (by decide))
  have g1 : (s == [33, 61]) = false := beq_eq_false_iff_ne.2 (h 1 (by decide))
  have g2 : (s == [60]) = false := beq_eq_false_iff_ne.2 (h 2 (by decide))
  have g3 : (s == [60, 61]) = false := beq_eq_false_iff_ne.2 (h 3 (by decide))
  have g4 : (s == [62]) = false := beq_eq_false_iff_ne.2 (h 4 (by decide))
  have g5 : (s == [62, 61]) = false := beq_eq_false_iff_ne.2 (h 5 (by decide))
  clear h
  go_enter Tryz.func68, Tryz.ntmps68
  go_wp2_with fail
  exact bodyPost_ret (v := .tuple #[.slice none 0 0, .int .i64 2]) (by simp [results, Tryz.results68, go_sem]) rfl ⟨⟨none, 0, rfl, fun h => absurd h (by simp), Nat.le_refl _⟩, Below.refl _ _⟩
theorem refCanonAt_any (v c : List UInt8) (k : Int) (w : World) (hc : canonOf v = c) (hk : Vm.check v = k) :
    Calls Tryz.prog 88 #[.string ⟨v.toArray⟩] w fun e w' => e = .returned (.tuple #[.string ⟨c.toArray⟩, .int .i64 k]) ∧ Below w.heap.size w w' := by
  have := refCanon_any v w; rw [hc, hk] at this; exact this
set_option maxRecDepth 100000 in
set_option maxHeartbeats 1600000 in
theorem refOf_bad0 (v : List UInt8) (w : World) (h : Vm.check v ≠ 0) : Calls Tryz.prog 68 #[.string ⟨#[61]⟩, .string ⟨v.toArray⟩] w (OfRet w [] (Vm.check v)) := by
  obtain ⟨k, hk⟩ : ∃ k, Vm.check v = k := ⟨_, rfl⟩
  obtain ⟨c, hc⟩ : ∃ c, canonOf v = c := ⟨_, rfl⟩
  have HC := Lib.hid hc
  have HK := Lib.hid hk
  rw [hk] at h ⊢
  have hne : (k != 0) = true := by simpa using h
  clear hk hc h
  go_enter Tryz.func68, Tryz.ntmps68
  go_wp2_with fail
  refine (refCanonAt_any v c k _ HC.out HK.out).mono ?_
  rintro _ w1 ⟨rfl, hb⟩
  have HB := Lib.hid hb
  clear hb
  go_wp2_with fail
  exact bodyPost_ret (v := .tuple #[.slice none 0 0, .int .i64 k]) (by simp [results, Tryz.results68, go_sem]) rfl ⟨⟨none, 0, rfl, fun h => absurd h (by simp), Nat.le_refl _⟩, HB.out⟩
set_option maxRecDepth 100000 in
set_option maxHeartbeats 1600000 in
theorem refOf_good0 (v : List UInt8) (w : World) (h : Vm.check v = 0) : Calls Tryz.prog 68 #[.string ⟨#[61]⟩, .string ⟨v.toArray⟩] w (OfRet w ((signR (Vm.canon v) 0).map spOf) 0) := by
  obtain ⟨c, hc⟩ : ∃ c, Vm.canon v = c := ⟨_, rfl⟩
  have HC : Hid (canonOf v = c) := by show _ = _; rw [canonOf, if_pos h, hc]
  have HK := Lib.hid h
  rw [hc]
  clear h hc
  go_enter Tryz.func68, Tryz.ntmps68
  go_wp2_with fail
  refine (refCanonAt_any v c 0 _ HC.out HK.out).mono ?_
  rintro _ w1 ⟨rfl, hb⟩
  have HB := Lib.hid hb
  clear hb
  go_wp2_with fail
  exact bodyPost_ret (v := .tuple #[.slice (some ⟨w1.heap.size, 0, none⟩) 1 1, .int .i64 0]) (by simp [results, Tryz.results68, go_sem]) rfl ⟨⟨some ⟨w1.heap.size, 0, none⟩, 1, rfl, srow_new _ _ _ _ (by rfl), Nat.le_refl _⟩, HB.out.alloc HB.out.size _⟩
set_option maxRecDepth 100000 in
set_option maxHeartbeats 1600000 in
theorem refOf_bad1 (v : List UInt8) (w : World) (h : Vm.check v ≠ 0) : Calls Tryz.prog 68 #[.string ⟨#[33, 61]⟩, .string ⟨v.toArray⟩] w (OfRet w [] (Vm.check v)) := by
  obtain ⟨k, hk⟩ : ∃ k, Vm.check v = k := ⟨_, rfl⟩
  obtain ⟨c, hc⟩ : ∃ c, canonOf v = c := ⟨_, rfl⟩
  have HC := Lib.hid hc
  have HK := Lib.hid hk
  rw [hk] at h ⊢
  have hne : (k != 0) = true := by simpa using h
  clear hk hc h
  go_enter Tryz.func68, Tryz.ntmps68
  go_wp2_with fail
  refine (refCanonAt_any v c k _ HC.out HK.out).mono ?_
  rintro _ w1 ⟨rfl, hb⟩
  have HB := Lib.hid hb
  clear hb
  go_wp2_with fail
  exact bodyPost_ret (v := .tuple #[.slice none 0 0, .int .i64 k]) (by simp [results, Tryz.results68, go_sem]) rfl ⟨⟨none, 0, rfl, fun h => absurd h (by simp), Nat.le_refl _⟩, HB.out⟩
set_option maxRecDepth 100000 in
set_option maxHeartbeats 1600000 in
theorem refOf_good1 (v : List UInt8) (w : World) (h : Vm.check v = 0) : Calls Tryz.prog 68 #[.string ⟨#[33, 61]⟩, .string ⟨v.toArray⟩] w (OfRet w ((signR (Vm.canon v) 1).map spOf) 0) := by
  obtain ⟨c, hc⟩ : ∃ c, Vm.canon v = c := ⟨_, rfl⟩
  have HC : Hid (canonOf v = c) := by show _ = _; rw [canonOf, if_pos h, hc]
  have HK := Lib.hid h
  rw [hc]
  clear h hc
  go_enter Tryz.func68, Tryz.ntmps68
  go_wp2_with fail
  refine (refCanonAt_any v c 0 _ HC.out HK.out).mono ?_
  rintro _ w1 ⟨rfl, hb⟩
  have HB := Lib.hid hb
  clear hb
  go_wp2_with fail
  exact bodyPost_ret (v := .tuple #[.slice (some ⟨w1.heap.size, 0, none⟩) 2 2, .int .i64 0]) (by simp [results, Tryz.results68, go_sem]) rfl ⟨⟨some ⟨w1.heap.size, 0, none⟩, 2, rfl, srow_new _ _ _ _ (by rfl), Nat.le_refl _⟩, HB.out.alloc HB.out.size _⟩
set_option maxRecDepth 100000 in
set_option maxHeartbeats 1600000 in
theorem refOf_bad2 (v : List UInt8) (w : World) (h : Vm.check v ≠ 0) : Calls Tryz.prog 68 #[.string ⟨#[60]⟩, .string ⟨v.toArray⟩] w (OfRet w [] (Vm.check v)) := by
  obtain ⟨k, hk⟩ : ∃ k, Vm.check v = k := ⟨_, rfl⟩
  obtain ⟨c, hc⟩ : ∃ c, canonOf v = c := ⟨_, rfl⟩
  have HC := Lib.hid hc
  have HK := Lib.hid hk
  rw [hk] at h ⊢
  have hne : (k != 0) = true := by simpa using h
  clear hk hc h
  go_enter Tryz.func68, Tryz.ntmps68
  go_wp2_with fail
  refine (refCanonAt_any v c k _ HC.out HK.out).mono ?_
  rintro _ w1 ⟨rfl, hb⟩
  have HB := Lib.hid hb
  clear hb
  go_wp2_with fail
  exact bodyPost_ret (v := .tuple #[.slice none 0 0, .int .i64 k]) (by simp [results, Tryz.results68, go_sem]) rfl ⟨⟨none, 0, rfl, fun h => absurd h (by simp), Nat.le_refl _⟩, HB.out⟩
set_option maxRecDepth 100000 in
set_option maxHeartbeats 1600000 in
theorem refOf_good2 (v : List UInt8) (w : World) (h : Vm.check v = 0) : Calls Tryz.prog 68 #[.string ⟨#[60]⟩, .string ⟨v.toArray⟩] w (OfRet w ((signR (Vm.canon v) 2).map spOf) 0) := by
  obtain ⟨c, hc⟩ : ∃ c, Vm.canon v = c := ⟨_, rfl⟩
  have HC : Hid (canonOf v = c) := by show _ = _; rw [canonOf, if_pos h, hc]
  have HK := Lib.hid h
  rw [hc]
  clear h hc
  go_enter Tryz.func68, Tryz.ntmps68
  go_wp2_with fail
  refine (refCanonAt_any v c 0 _ HC.out HK.out).mono ?_
  rintro _ w1 ⟨rfl, hb⟩
  have HB := Lib.hid hb
  clear hb
  go_wp2_with fail
  exact bodyPost_ret (v := .tuple #[.slice (some ⟨w1.heap.size, 0, none⟩) 1 1, .int .i64 0]) (by simp [results, Tryz.results68, go_sem]) rfl ⟨⟨some ⟨w1.heap.size, 0, none⟩, 1, rfl, srow_new _ _ _ _ (by rfl), Nat.le_refl _⟩, HB.out.alloc HB.out.size _⟩
set_option maxRecDepth 100000 in
set_option maxHeartbeats 1600000 in
theorem refOf_bad3 (v : List UInt8) (w : World) (h : Vm.check v ≠ 0) : Calls Tryz.prog 68 #[.string ⟨#[60, 61]⟩, .string ⟨v.toArray⟩] w (OfRet w [] (Vm.check v)) := by
  obtain ⟨k, hk⟩ : ∃ k, Vm.check v = k := ⟨_, rfl⟩
  obtain ⟨c, hc⟩ : ∃ c, canonOf v = c := ⟨_, rfl⟩
  have HC := Lib.hid hc
  have HK := Lib.hid hk
  rw [hk] at h ⊢
  have hne : (k != 0) = true := by simpa using h
  clear hk hc h
  go_enter Tryz.func68, Tryz.ntmps68
  go_wp2_with fail
  refine (refCanonAt_any v c k _ HC.out HK.out).mono ?_
  rintro _ w1 ⟨rfl, hb⟩
  have HB := Lib.hid hb
  clear hb
  go_wp2_with fail
  exact bodyPost_ret (v := .tuple #[.slice none 0 0, .int .i64 k]) (by simp [results, Tryz.results68, go_sem]) rfl ⟨⟨none, 0, rfl, fun h => absurd h (by simp), Nat.le_refl _⟩, HB.out⟩
set_option maxRecDepth 100000 in
set_option maxHeartbeats 1600000 in
theorem refOf_good3 (v : List UInt8) (w : World) (h : Vm.check v = 0) : Calls Tryz.prog 68 #[.string ⟨#[60, 61]⟩, .string ⟨v.toArray⟩] w (OfRet w ((signR (Vm.canon v) 3).map spOf) 0) := by
  obtain ⟨c, hc⟩ : ∃ c, Vm.canon v = c := ⟨_, rfl⟩
  have HC : Hid (canonOf v = c) := by show _ = _; rw [canonOf, if_pos h, hc]
  have HK := Lib.hid h
  rw [hc]
  clear h hc
  go_enter Tryz.func68, Tryz.ntmps68
  go_wp2_with fail
  refine (refCanonAt_any v c 0 _ HC.out HK.out).mono ?_
  rintro _ w1 ⟨rfl, hb⟩
  have HB := Lib.hid hb
  clear hb
  go_wp2_with fail
  exact bodyPost_ret (v := .tuple #[.slice (some ⟨w1.heap.size, 0, none⟩) 1 1, .int .i64 0]) (by simp [results, Tryz.results68, go_sem]) rfl ⟨⟨some ⟨w1.heap.size, 0, none⟩, 1, rfl, srow_new _ _ _ _ (by rfl), Nat.le_refl _⟩, HB.out.alloc HB.out.size _⟩
set_option maxRecDepth 100000 in
set_option maxHeartbeats 1600000 in
theorem refOf_bad4 (v : List UInt8) (w : World) (h : Vm.check v ≠ 0) : Calls Tryz.prog 68 #[.string ⟨#[62]⟩, .string ⟨v.toArray⟩] w (OfRet w [] (Vm.check v)) := by
  obtain ⟨k, hk⟩ : ∃ k, Vm.check v = k := ⟨_, rfl⟩
  obtain ⟨c, hc⟩ : ∃ c, canonOf v = c := ⟨_, rfl⟩
  have HC := Lib.hid hc
  have HK := Lib.hid hk
  rw [hk] at h ⊢
  have hne : (k != 0) = true := by simpa using h
  clear hk hc h
  go_enter Tryz.func68, Tryz.ntmps68
  go_wp2_with fail
  refine (refCanonAt_any v c k _ HC.out HK.out).mono ?_
  rintro _ w1 ⟨rfl, hb⟩
  have HB := Lib.hid hb
  clear hb
  go_wp2_with fail
  exact bodyPost_ret (v := .tuple #[.slice none 0 0, .int .i64 k]) (by simp [results, Tryz.results68, go_sem]) rfl ⟨⟨none, 0, rfl, fun h => absurd h (by simp), Nat.le_refl _⟩, HB.out⟩
set_option maxRecDepth 100000 in
set_option maxHeartbeats 1600000 in
theorem refOf_good4 (v : List UInt8) (w : World) (h : Vm.check v = 0) : Calls Tryz.prog 68 #[.string ⟨#[62]⟩, .string ⟨v.toArray⟩] w (OfRet w ((signR (Vm.canon v) 4).map spOf) 0) := by
  obtain ⟨c, hc⟩ : ∃ c, Vm.canon v = c := ⟨_, rfl⟩
  have HC : Hid (canonOf v = c) := by show _ = _; rw [canonOf, if_pos h, hc]
  have HK := Lib.hid h
  rw [hc]
  clear h hc
  go_enter Tryz.func68, Tryz.ntmps68
  go_wp2_with fail
  refine (refCanonAt_any v c 0 _ HC.out HK.out).mono ?_
  rintro _ w1 ⟨rfl, hb⟩
  have HB := Lib.hid hb
  clear hb
  go_wp2_with fail
  exact bodyPost_ret (v := .tuple #[.slice (some ⟨w1.heap.size, 0, none⟩) 1 1, .int .i64 0]) (by simp [results, Tryz.results68, go_sem]) rfl ⟨⟨some ⟨w1.heap.size, 0, none⟩, 1, rfl, srow_new _ _ _ _ (by rfl), Nat.le_refl _⟩, HB.out.alloc HB.out.size _⟩
set_option maxRecDepth 100000 in
set_option maxHeartbeats 1600000 in
theorem refOf_bad5 (v : List UInt8) (w : World) (h : Vm.check v ≠ 0) : Calls Tryz.prog 68 #[.string ⟨#[62, 61]⟩, .string ⟨v.toArray⟩] w (OfRet w [] (Vm.check v)) := by
  obtain ⟨k, hk⟩ : ∃ k, Vm.check v = k := ⟨_, rfl⟩
  obtain ⟨c, hc⟩ : ∃ c, canonOf v = c := ⟨_, rfl⟩
  have HC := Lib.hid hc
  have HK := Lib.hid hk
  rw [hk] at h ⊢
  have hne : (k != 0) = true := by simpa using h
  clear hk hc h
  go_enter Tryz.func68, Tryz.ntmps68
  go_wp2_with fail
  refine (refCanonAt_any v c k _ HC.out HK.out).mono ?_
  rintro _ w1 ⟨rfl, hb⟩
  have HB := Lib.hid hb
  clear hb
  go_wp2_with fail
  exact bodyPost_ret (v := .tuple #[.slice none 0 0, .int .i64 k]) (by simp [results, Tryz.results68, go_sem]) rfl ⟨⟨none, 0, rfl, fun h => absurd h (by simp), Nat.le_refl _⟩, HB.out⟩
set_option maxRecDepth 100000 in
set_option maxHeartbeats 1600000 in
theorem refOf_good5 (v : List UInt8) (w : World) (h : Vm.check v = 0) : Calls Tryz.prog 68 #[.string ⟨#[62, 61]⟩, .string ⟨v.toArray⟩] w (OfRet w ((signR (Vm.canon v) 5).map spOf) 0) := by
  obtain ⟨c, hc⟩ : ∃ c, Vm.canon v = c := ⟨_, rfl⟩
  have HC : Hid (canonOf v = c) := by show _ = _; rw [canonOf, if_pos h, hc]
  have HK := Lib.hid h
  rw [hc]
  clear h hc
  go_enter Tryz.func68, Tryz.ntmps68
  go_wp2_with fail
  refine (refCanonAt_any v c 0 _ HC.out HK.out).mono ?_
  rintro _ w1 ⟨rfl, hb⟩
  have HB := Lib.hid hb
  clear hb
  go_wp2_with fail
  exact bodyPost_ret (v := .tuple #[.slice (some ⟨w1.heap.size, 0, none⟩) 1 1, .int .i64 0]) (by simp [results, Tryz.results68, go_sem]) rfl ⟨⟨some ⟨w1.heap.size, 0, none⟩, 1, rfl, srow_new _ _ _ _ (by rfl), Nat.le_refl _⟩, HB.out.alloc HB.out.size _⟩
end Go.Proofs.YtkdildgdodnbbaaGreatDoor
