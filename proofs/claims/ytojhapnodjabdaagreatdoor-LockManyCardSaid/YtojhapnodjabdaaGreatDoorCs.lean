/- What the law asks of two entries: walked. -/
import Derived.Test.YtojhapnodjabdaaGreatDoorCp
import Derived.Test.YtojhapnodjabdaaGreatDoorCq
namespace Go.Proofs.YtojhapnodjabdaaGreatDoor
open Go.RowKit Lk At
theorem Lk.erow_new (w : World) (T : TypeId) (l : List Ent) (cs : Array Value) (h : cs.toList = Rg.flat encE l) : ERow (w.alloc (.cells cs T)) (some ⟨w.heap.size, 0, none⟩) l := fun _ => by
  refine ⟨_, rfl, by simp, fun i hi j v hv => ?_⟩
  have hj : j < 2 := (List.getElem?_eq_some_iff.1 hv).1
  rw [← Rg.add_j]
  exact Rg.news_new w T l cs h _ _ ((Rg.flat_get fitsE l i hi j hj).trans hv)
theorem Lk.readR_get {w w' : World} {s : List UInt8} {e : Ending} {i : Nat} {k : Int} {l : List Ent} (h : ReadR w s e w') (hr : readL s = (i, k, l)) : Below w.heap.size w w' ∧ ∃ A n c, e = .returned (.tuple #[.slice A n c, .int .i64 i, .int .i64 k]) ∧ l.length = n ∧ ERow w' A l := by
  obtain ⟨hb, A, n, c, he, hn, hrow⟩ := h
  rw [hr] at he hn hrow
  exact ⟨hb, A, n, c, he, hn, hrow⟩
def Lk.l0 : List Ent := [([97], [49]), ([98], [50, 46, 48])]
def Lk.l1 : List Ent := [([98], [49]), ([97], [49])]
theorem Lk.k8_ck : checkL l0 = (0, 0) := by decide +kernel
theorem Lk.k8_c1 : checkL l1 = (1, 7) := by decide +kernel
theorem Lk.k8_wr : wrT l0 = [97, 32, 49, 10, 98, 32, 50, 46, 48, 10, 115, 117, 109, 32, 54, 49, 100, 54, 56, 99, 52, 101, 10] := by decide +kernel
theorem Lk.k8_w0 : wrT [] = [115, 117, 109, 32, 48, 48, 48, 48, 48, 48, 48, 48, 10] ∧ checkL [] = (0, 0) := by decide +kernel
theorem Lk.k8_bad : readL [97, 32, 49, 10, 115, 117, 109, 32, 48, 48, 48, 48, 48, 48, 48, 48, 10] = (1, 9, []) := by decide +kernel
theorem Lk.k8_sum : sumL [49, 50, 51, 52, 53, 54, 55, 56, 57] = 3421780262 := by decide +kernel
theorem Lk.k8_g : getE l0 [98] = ([50, 46, 48], true) ∧ getE l0 [99] = ([], false) := by decide +kernel
theorem Lk.k8_rd : readL (wrT l0) = (0, 0, l0) := by
  have h : (checkL l0).2 = 0 := by rw [k8_ck]
  unfold wrT; rw [if_pos h]; exact read_write h
theorem Lk.few0 : EFew l0 := fun e he => by
  simp only [l0, List.mem_cons, List.not_mem_nil, or_false] at he
  rcases he with rfl | rfl <;> decide
theorem Lk.few1 : EFew l1 := fun e he => by
  simp only [l1, List.mem_cons, List.not_mem_nil, or_false] at he
  rcases he with rfl | rfl <;> decide
theorem Lk.esm0 : ESm l0 := fun e he => by
  simp only [l0, List.mem_cons, List.not_mem_nil, or_false] at he
  rcases he with rfl | rfl <;> decide
attribute [local go_sem ↓] Go.wp_at_zero Go.wp_at_succ
set_option maxRecDepth 100000 in
set_option maxHeartbeats 6400000 in
theorem known8_any (w : World) (hw : WOk w) : Calls Tryz.prog 8 #[] w fun e w' => e = .returned (.bool true) ∧ Below w.heap.size w w' := by
  obtain ⟨T, hT⟩ : ∃ T, wrT l0 = T := ⟨_, rfl⟩
  have HRD : Hid (readL T = (0, 0, l0)) := by show _ = _; rw [← hT]; exact k8_rd
  have hlen : T.length = 23 := by rw [← hT, k8_wr]; rfl
  have HX : Hid ((⟨T.toArray⟩ : ByteArray).extract 0 14 = ⟨#[97, 32, 49, 10, 98, 32, 50, 46, 48, 10, 115, 117, 109, 32]⟩) := by show _ = _; rw [← hT, k8_wr]; rfl
  have HT := Lib.hid hT
  have HL := Lib.hid hlen
  obtain ⟨W1, hW1⟩ : ∃ W, w.alloc (.cells #[.string ⟨#[97]⟩, .string ⟨#[49]⟩, .string ⟨#[98]⟩, .string ⟨#[50, 46, 48]⟩] 59) = W := ⟨_, rfl⟩
  have HB1 : Hid (Below w.heap.size w W1) := alloc_low hW1
  have HR0 : Hid (ERow W1 (some ⟨w.heap.size, 0, none⟩) l0) := by
    show ERow _ _ _
    rw [← hW1]; exact erow_new w _ l0 _ (by rfl)
  have HW := Lib.hid hw
  clear hw hT hlen
  go_enter Tryz.func8, Tryz.ntmps8
  go_wp2_with fail
  clear hW1
  refine (lockWrite_any _ 2 2 l0 W1 (wok_below HW.out HB1.out) rfl HR0.out few0).mono ?_
  rintro _ u1 ⟨rfl, hb⟩
  rw [HT.out, k8_ck]
  have HC1 := Lib.hid (HB1.out.trans (hb.mono HB1.out.size))
  have HR1 := Lib.hid (Rg.row_below HR0.out hb)
  clear hb HB1 HR0 HT
  go_wp2_with fail
  refine (lockRead_any T u1 (wok_below HW.out HC1.out) (by rw [HL.out]; decide)).mono ?_
  rintro e u2 h
  obtain ⟨hb, A, n, c, rfl, hn, hr⟩ := readR_get h HRD.out
  obtain rfl : n = 2 := hn.symm
  have HC2 := Lib.hid (HC1.out.trans (hb.mono HC1.out.size))
  have HR2 := Lib.hid (Rg.row_below HR1.out hb)
  have HM2 := Lib.hid hr
  clear h hb hn hr HR1 HC1 HRD
  go_wp2_with fail
  refine (lockRead_any [97, 32, 49, 10, 115, 117, 109, 32, 48, 48, 48, 48, 48, 48, 48, 48, 10] u2 (wok_below HW.out HC2.out) (by decide)).mono ?_
  rintro e u3 h
  obtain ⟨hb, A3, n3, c3, rfl, _, _⟩ := readR_get h k8_bad
  have HC3 := Lib.hid (HC2.out.trans (hb.mono HC2.out.size))
  have HR3 := Lib.hid (Rg.row_below HR2.out hb)
  have HM3 := Lib.hid (Rg.row_below HM2.out hb)
  clear h hb HR2 HC2 HM2
  obtain ⟨W4, hW4⟩ : ∃ W, u3.alloc (.cells #[.string ⟨#[98]⟩, .string ⟨#[49]⟩, .string ⟨#[97]⟩, .string ⟨#[49]⟩] 59) = W := ⟨_, rfl⟩
  have HB4 : Hid (Below u3.heap.size u3 W4) := alloc_low hW4
  have HR4 : Hid (ERow W4 (some ⟨u3.heap.size, 0, none⟩) l1) := by
    show ERow _ _ _
    rw [← hW4]; exact erow_new u3 _ l1 _ (by rfl)
  go_wp2_with fail
  clear hW4
  refine (lockCheck_any _ 2 2 l1 W4 (maxOk_below HW.out.1 (HC3.out.trans (HB4.out.mono HC3.out.size))) rfl HR4.out few1).mono ?_
  rintro _ u5 ⟨rfl, hb⟩
  rw [k8_c1]
  have HB5 := Lib.hid (HB4.out.trans (hb.mono HB4.out.size))
  have HC5 := Lib.hid (HC3.out.trans (HB5.out.mono HC3.out.size))
  have HR5 := Lib.hid (Rg.row_below HR3.out HB5.out)
  have HM5 := Lib.hid (Rg.row_below HM3.out HB5.out)
  clear hb HB4 HB5 HR4 HR3 HM3 HC3
  go_wp2_with fail
  refine (lockGet_any _ 2 2 l0 [98] u5 rfl HR5.out esm0 (by decide)).mono ?_
  rintro _ u6 ⟨rfl, hb⟩
  rw [k8_g.1]
  have HC6 := Lib.hid (HC5.out.trans (hb.mono HC5.out.size))
  have HR6 := Lib.hid (Rg.row_below HR5.out hb)
  have HM6 := Lib.hid (Rg.row_below HM5.out hb)
  clear hb HR5 HM5 HC5
  go_wp2_with fail
  refine (lockGet_any _ 2 2 l0 [99] u6 rfl HR6.out esm0 (by decide)).mono ?_
  rintro _ u7 ⟨rfl, hb⟩
  rw [k8_g.2]
  have HC7 := Lib.hid (HC6.out.trans (hb.mono HC6.out.size))
  have HR7 := Lib.hid (Rg.row_below HR6.out hb)
  have HM7 := Lib.hid (Rg.row_below HM6.out hb)
  clear hb HR6 HM6 HC6
  go_wp2_with fail
  refine (lockWrite_any none 0 0 [] u7 (wok_below HW.out HC7.out) rfl (Rg.row_nil _ _) (fun e he => absurd he (by simp))).mono ?_
  rintro _ u8 ⟨rfl, hb⟩
  rw [k8_w0.1, k8_w0.2]
  have HC8 := Lib.hid (HC7.out.trans (hb.mono HC7.out.size))
  have HR8 := Lib.hid (Rg.row_below HR7.out hb)
  have HM8 := Lib.hid (Rg.row_below HM7.out hb)
  clear hb HR7 HM7 HC7
  go_wp2_with fail
  refine (of8_any A 2 c l0 u8 rfl HM8.out (by decide)).mono ?_
  rintro _ u9 ⟨C9, d9, rfl, hr, hb⟩
  have HC9 := Lib.hid (HC8.out.trans (hb.mono HC8.out.size))
  have HR9 := Lib.hid (Rg.row_below HR8.out hb)
  have HM9 := Lib.hid (Rg.row_below HM8.out hb)
  have HO9 := Lib.hid hr
  clear hb hr HR8 HM8 HC8
  go_wp2_with fail
  refine (of8_any _ 2 2 l0 u9 rfl HR9.out (by decide)).mono ?_
  rintro _ v1 ⟨C10, d10, rfl, hr, hb⟩
  have HC10 := Lib.hid (HC9.out.trans (hb.mono HC9.out.size))
  have HR10 := Lib.hid (Rg.row_below HR9.out hb)
  have HM10 := Lib.hid (Rg.row_below HM9.out hb)
  have HO10 := Lib.hid (Rg.row_below HO9.out hb)
  have HP10 := Lib.hid hr
  clear hb hr HR9 HM9 HC9 HO9
  go_wp2_with fail
  refine (refSameLock_any C9 C10 2 d9 2 d10 l0 l0 v1 rfl rfl HO10.out HP10.out (by decide) (by decide)).mono ?_
  rintro _ v2 ⟨rfl, hb⟩
  rw [decide_eq_true (rfl : l0 = l0)]
  have HC11 := Lib.hid (HC10.out.trans (hb.mono HC10.out.size))
  have HR11 := Lib.hid (Rg.row_below HR10.out hb)
  have HM11 := Lib.hid (Rg.row_below HM10.out hb)
  clear hb HR10 HM10 HC10 HO10 HP10
  go_wp2_with fail
  refine (lockSame_any _ A 2 2 2 c l0 l0 v2 rfl rfl HR11.out HM11.out (by decide) (by decide)).mono ?_
  rintro _ v3 ⟨rfl, hb⟩
  rw [decide_eq_true (rfl : l0 = l0)]
  have HC12 := Lib.hid (HC11.out.trans (hb.mono HC11.out.size))
  clear hb HR11 HM11 HC11
  go_wp2_with fail
  refine (lockSum_any [49, 50, 51, 52, 53, 54, 55, 56, 57] v3 (by decide)).mono ?_
  rintro _ v4 ⟨rfl, rfl⟩
  rw [k8_sum]
  have hx := HX.out
  have hl := HL.out
  go_wp2_with fail
  go_ret
  exact ⟨rfl, HC12.out⟩
end Go.Proofs.YtojhapnodjabdaaGreatDoor
