/- The reference's lines of a text: walked. -/
import Derived.Test.YtoioeekfnnoaoaaGreatDoorSm
import Derived.Test.YtoioeekfnnoaoaaGreatDoorBr
namespace Go.Proofs.YtoioeekfnnoaoaaGreatDoor
open Go.RowKit Rs Sz
attribute [local go_sem ↓] Go.wp_at_zero Go.wp_at_succ
theorem Sz.app_done {α : Type} {enc : α → List Value} {K : Nat} {T : TypeId} {v : Value} {l : List α} {w wr wq W5 : World} {o : Obj} (hB : Hid (Below w.heap.size w wr ∧ w.heap.size ≤ wr.heap.size)) (hq : Below wr.heap.size wr wq) (hO : Hid (Rg.Own enc K wr w.heap.size T v l)) (hg : (wq.alloc o).grownBy W5 v.ownBlock) :
    Hid (Below w.heap.size w W5 ∧ w.heap.size ≤ W5.heap.size) := by
  have hs : w.heap.size ≤ wq.heap.size := Nat.le_trans hB.out.2 hq.size
  have h1 : Below w.heap.size w (wq.alloc o) := (hB.out.1.trans (hq.mono hB.out.2)).alloc hs _
  have e : (wq.alloc o).heap.size = wq.heap.size + 1 := by simp
  have h2 : w.heap.size ≤ (wq.alloc o).heap.size := by omega
  exact ⟨h1.trans (Rg.grown_below (Rg.own_below hO.out (hq.alloc hq.size _)) h2 hg), Nat.le_trans h2 hg.size⟩
theorem Sz.piece_ofS (s : List UInt8) (f i : Nat) : (⟨s.toArray⟩ : ByteArray).extract f i = ⟨((s.drop f).take (i - f)).toArray⟩ := ByteArray.extract_mk ..
theorem Sz.joinL_len (ls : List (List UInt8)) : ls.length ≤ (joinL ls).length := by
  induction ls with
  | nil => exact Nat.le_refl _
  | cons a l ih => rw [joinL_cons]; simp only [List.length_append, List.length_cons, List.length_nil]; omega
theorem Sz.scan_len {s : List UInt8} {i fr : Nat} {out : List (List UInt8)} (h : Scan s i out fr) : out.length ≤ i := by
  have h1 := joinL_len out
  have h2 : (joinL out).length ≤ fr := by rw [h.2.2.1, List.length_take]; omega
  have := h.1
  omega
def Sz.RowsRet (w : World) (s : List UInt8) (e : Ending) (w' : World) : Prop := Below w.heap.size w w' ∧ w.heap.size ≤ w'.heap.size ∧ if endB s = true then ∃ A n c, e = .returned (.tuple #[.slice A n c, .bool true]) ∧ (linesL s).length = n ∧ n ≤ s.length ∧ Rg.Row encT 1 w' A (linesL s) else e = .returned (.tuple #[.slice none 0 0, .bool false])
set_option maxRecDepth 100000 in
set_option maxHeartbeats 1600000 in
theorem refRows_any (s : List UInt8) (w : World) (hs : s.length ≤ 100000) :
    Calls Tryz.prog 46 #[.string ⟨s.toArray⟩] w (Sz.RowsRet w s) := by
  obtain ⟨R, hR⟩ : ∃ R, endB s = R := ⟨_, rfl⟩
  have HSD : Hid (∀ out fr, Scan s s.length out fr → R = true → out = linesL s) := fun out fr h e => scan_done h (hR.trans e)
  have HRR := Lib.hid hR
  by_cases h0 : s = []
  · have HT : Hid (R = true) := by show _ = _; rw [← hR, h0]; rfl
    have hne : (s == []) = true := by rw [h0]; rfl
    clear hR h0
    go_enter Tryz.func46, Tryz.ntmps46
    go_wp2_with fail
    clear hne
    go_loopw [4, 5, 6] (fun v f i wr => ∃ (k fr : Nat) (out : List (List UInt8)), k ≤ s.length ∧ f = .int .i64 fr ∧ i = .int .i64 k ∧ Hid (Scan s k out fr) ∧ Hid (Rg.Own encT 1 wr w.heap.size 9 v out) ∧ Hid (Below w.heap.size w wr ∧ w.heap.size ≤ wr.heap.size)) (fun _ _ i _ => s.length - (intOf i).toNat)
    case atStart => exact ⟨0, 0, [], Nat.zero_le _, rfl, rfl, scan_start s, Rg.own_nil _ _ _, Below.refl _ _, Nat.le_refl _⟩
    case round =>
      obtain ⟨k, fr, out, hk, rfl, rfl, HSC, HO, HB⟩ := hrel
      by_cases hlt : k < s.length
      · obtain ⟨b, hb, hbl⟩ := byte_at s k hlt
        cases hb10 : b == 10
        · have HS2 : Hid (Scan s (k + 1) out fr) := scan_more HSC.out hlt (by rw [hbl]; exact fun e => by rw [e] at hb10; cases hb10)
          have d1 : ((b.toNat : Int) == 10) = false := by
            refine beq_eq_false_iff_ne.2 fun e => ?_
            have : b = 10 := UInt8.toNat_inj.1 (by show b.toNat = 10; omega)
            rw [this] at hb10; cases hb10
          clear hbl hb10
          go_wp2_with fail
          go_roundw
          case rel => exact ⟨k + 1, fr, out, by omega, rfl, by go_num, HS2, HO, HB⟩
          case measure => simp [intOf]; omega
        · have hb1 : b = 10 := by simpa using hb10
          have HS2 := Lib.hid (scan_end HSC.out hlt (hbl.trans hb1))
          have d1 : ((b.toNat : Int) == 10) = true := by rw [hb1]; rfl
          have hy := piece_ofS s fr k
          have hfr : fr ≤ k := HSC.out.1
          obtain ⟨r, hr⟩ : ∃ r, (s.drop fr).take (k - fr) = r := ⟨_, rfl⟩
          rw [hr] at hy HS2
          have HSZ : Hid (out.length + 1 ≤ 1000000) := by have := scan_len HSC.out; show _ ≤ _; omega
          clear hbl hb10 hb1 hr
          go_wp2_with (at_builtin; refine Rg.wpList_app sliceTx rfl (.tmp 27) (.tmp 32) rfl w.heap.size _ out [r] rfl (Rg.own_below HO.out ((Below.refl _ _).alloc (Nat.le_refl _) _)) _ _ rfl (Rg.news_new wr _ _ _ (by rfl)) (Nat.zero_lt_succ _) HSZ.out ?b2 ?_)
          case b2 => have := HB.out.2; simp; omega
          intro v5 W5 ho5 hg5 hz5
          have HB5 := app_done HB (Below.refl _ _) HO hg5
          have HO5 := Lib.hid ho5
          clear ho5 hg5 hz5 HO HB hy
          go_wp2_with fail
          go_roundw
          case rel => exact ⟨k + 1, k + 1, out ++ [r], by omega, by go_num, by go_num, HS2, HO5, HB5⟩
          case measure => simp [intOf]; omega
      · obtain rfl : k = s.length := by omega
        have hsl := scan_len HSC.out
        have he := HSD.out _ _ HSC.out HT.out
        have ho := HO.out
        rw [he] at ho hsl
        obtain ⟨C, d, rfl, hrow, _, _⟩ := Rg.row_own fitsT ho
        have HROW := Lib.hid hrow
        have HSL := Lib.hid hsl
        clear ho hrow he hsl
        go_wp2_with fail
        go_ret2
        refine ⟨HB.out.1, HB.out.2, ?_⟩
        rw [HRR.out, HT.out, if_pos rfl]
        exact ⟨C, _, d, rfl, rfl, HSL.out, HROW.out⟩
  · obtain ⟨n, hn⟩ : ∃ n, s.length = n + 1 := ⟨s.length - 1, by have := List.length_pos_iff.2 h0; omega⟩
    obtain ⟨c, hc, hcl⟩ := byte_at s n (by omega)
    have hend : endB s = (c == 10) := by
      unfold endB
      rw [List.isEmpty_eq_false_iff.2 h0, Bool.false_or, List.getLast?_eq_getElem?, hn, Nat.add_sub_cancel, List.getElem?_eq_getElem (by omega), hcl]
      rfl
    have hne : (s == []) = false := beq_eq_false_iff_ne.2 h0
    have e1 : (s.length : Int) - 1 = (n : Int) := by omega
    have hnl : n < s.length := by omega
    rw [hR] at hend
    clear hR h0 hcl
    cases hc10 : c == 10
    · have d0 : ((c.toNat : Int) != 10) = true := by
        rw [bne_iff_ne]
        intro e
        have : c = 10 := UInt8.toNat_inj.1 (by show c.toNat = 10; omega)
        rw [this] at hc10; cases hc10
      have HT : Hid (R = false) := hend.trans hc10
      clear hend hc10
      go_enter Tryz.func46, Tryz.ntmps46
      go_wp2_with fail
      go_ret2
      refine ⟨Below.refl _ _, Nat.le_refl _, ?_⟩
      rw [HRR.out, HT.out, if_neg (by decide)]
      rfl
    have d0 : ((c.toNat : Int) != 10) = false := by
      have : c = 10 := by simpa using hc10
      rw [this]; rfl
    have HT : Hid (R = true) := hend.trans hc10
    clear hend hc10
    go_enter Tryz.func46, Tryz.ntmps46
    go_wp2_with fail
    clear hne e1 hnl hc d0
    clear hn
    go_loopw [4, 5, 6] (fun v f i wr => ∃ (k fr : Nat) (out : List (List UInt8)), k ≤ s.length ∧ f = .int .i64 fr ∧ i = .int .i64 k ∧ Hid (Scan s k out fr) ∧ Hid (Rg.Own encT 1 wr w.heap.size 9 v out) ∧ Hid (Below w.heap.size w wr ∧ w.heap.size ≤ wr.heap.size)) (fun _ _ i _ => s.length - (intOf i).toNat)
    case atStart => exact ⟨0, 0, [], Nat.zero_le _, rfl, rfl, scan_start s, Rg.own_nil _ _ _, Below.refl _ _, Nat.le_refl _⟩
    case round =>
      obtain ⟨k, fr, out, hk, rfl, rfl, HSC, HO, HB⟩ := hrel
      by_cases hlt : k < s.length
      · obtain ⟨b, hb, hbl⟩ := byte_at s k hlt
        cases hb10 : b == 10
        · have HS2 : Hid (Scan s (k + 1) out fr) := scan_more HSC.out hlt (by rw [hbl]; exact fun e => by rw [e] at hb10; cases hb10)
          have d1 : ((b.toNat : Int) == 10) = false := by
            refine beq_eq_false_iff_ne.2 fun e => ?_
            have : b = 10 := UInt8.toNat_inj.1 (by show b.toNat = 10; omega)
            rw [this] at hb10; cases hb10
          clear hbl hb10
          go_wp2_with fail
          go_roundw
          case rel => exact ⟨k + 1, fr, out, by omega, rfl, by go_num, HS2, HO, HB⟩
          case measure => simp [intOf]; omega
        · have hb1 : b = 10 := by simpa using hb10
          have HS2 := Lib.hid (scan_end HSC.out hlt (hbl.trans hb1))
          have d1 : ((b.toNat : Int) == 10) = true := by rw [hb1]; rfl
          have hy := piece_ofS s fr k
          have hfr : fr ≤ k := HSC.out.1
          obtain ⟨r, hr⟩ : ∃ r, (s.drop fr).take (k - fr) = r := ⟨_, rfl⟩
          rw [hr] at hy HS2
          have HSZ : Hid (out.length + 1 ≤ 1000000) := by have := scan_len HSC.out; show _ ≤ _; omega
          clear hbl hb10 hb1 hr
          go_wp2_with (at_builtin; refine Rg.wpList_app sliceTx rfl (.tmp 27) (.tmp 32) rfl w.heap.size _ out [r] rfl (Rg.own_below HO.out ((Below.refl _ _).alloc (Nat.le_refl _) _)) _ _ rfl (Rg.news_new wr _ _ _ (by rfl)) (Nat.zero_lt_succ _) HSZ.out ?b2 ?_)
          case b2 => have := HB.out.2; simp; omega
          intro v5 W5 ho5 hg5 hz5
          have HB5 := app_done HB (Below.refl _ _) HO hg5
          have HO5 := Lib.hid ho5
          clear ho5 hg5 hz5 HO HB hy
          go_wp2_with fail
          go_roundw
          case rel => exact ⟨k + 1, k + 1, out ++ [r], by omega, by go_num, by go_num, HS2, HO5, HB5⟩
          case measure => simp [intOf]; omega
      · obtain rfl : k = s.length := by omega
        have hsl := scan_len HSC.out
        have he := HSD.out _ _ HSC.out HT.out
        have ho := HO.out
        rw [he] at ho hsl
        obtain ⟨C, d, rfl, hrow, _, _⟩ := Rg.row_own fitsT ho
        have HROW := Lib.hid hrow
        have HSL := Lib.hid hsl
        clear ho hrow he hsl
        go_wp2_with fail
        go_ret2
        refine ⟨HB.out.1, HB.out.2, ?_⟩
        rw [HRR.out, HT.out, if_pos rfl]
        exact ⟨C, _, d, rfl, rfl, HSL.out, HROW.out⟩
end Go.Proofs.YtoioeekfnnoaoaaGreatDoor
