/- A line as a field; the lines of a text: walked. -/
import Derived.Test.YtmhobdlhmkbkdaaDoorSc
namespace Go.Proofs.YtmhobdlhmkbkdaaDoor
open Go.RowKit
attribute [local go_sem ↓] Go.wp_at_zero Go.wp_at_succ
def FieldRet (w : World) (n : Int) (R : Option Sz.Fld) (e : Ending) (w' : World) : Prop :=
  Below w.heap.size w w' ∧ match R with
    | some f => e = .returned (.agg #[.string ⟨f.key.toArray⟩, .string ⟨f.val.toArray⟩, .int .i64 n])
    | none => e = panAt n 2
theorem cutMark_any (s : List UInt8) (w : World) (hm : MaxOk w) (hl : s.length ≤ 1000000) :
    Calls Tryd.prog 43 #[.string ⟨s.toArray⟩, .string ⟨#[58, 32]⟩] w fun e w' => e = .returned (.tuple #[.string ⟨(Lib.cut s Sz.mark).1.toArray⟩, .string ⟨(Lib.cut s Sz.mark).2.1.toArray⟩, .bool (Lib.cut s Sz.mark).2.2]) ∧ Below w.heap.size w w' := by
  obtain ⟨m, hm⟩ := hm
  exact (Tryd.strings_Cut ⟨s.toArray⟩ ⟨#[58, 32]⟩ m w (by show s.length < _; omega) hm).mono fun e w' ⟨h1, n, h2⟩ => ⟨h1, h2 ▸ below_drewN (Below.refl _ _) n⟩
theorem field_cut (s : List UInt8) (n : Int) : Sz.fieldP s n = if (Lib.cut s Sz.mark).2.2 && (Sz.keyB (Lib.cut s Sz.mark).1 && Sz.valB (Lib.cut s Sz.mark).2.1) then some ⟨(Lib.cut s Sz.mark).1, (Lib.cut s Sz.mark).2.1, n⟩ else none := by
  unfold Sz.fieldP Lib.cut
  by_cases h : 0 ≤ Lib.index s Sz.mark
  · rw [if_pos h]
    show (if _ ∧ _ ∧ _ then _ else _) = if (true && _) = true then _ else _
    rw [Bool.true_and]
    show _ = if (Sz.keyB (s.take (Lib.index s Sz.mark).toNat) && Sz.valB (s.drop ((Lib.index s Sz.mark).toNat + 2))) = true then some (⟨s.take (Lib.index s Sz.mark).toNat, s.drop ((Lib.index s Sz.mark).toNat + 2), n⟩ : Sz.Fld) else none
    by_cases h1 : Sz.keyB (s.take (Lib.index s Sz.mark).toNat) = true
    · by_cases h2 : Sz.valB (s.drop ((Lib.index s Sz.mark).toNat + 2)) = true
      · rw [if_pos ⟨h, h1, h2⟩, if_pos (by rw [h1, h2]; rfl)]
      · rw [if_neg (fun hh => h2 hh.2.2), if_neg (by rw [h1, Bool.true_and]; exact h2)]
    · rw [if_neg (fun hh => h1 hh.2.1), if_neg (by rw [Bool.and_eq_true]; exact fun hh => h1 hh.1)]
  · rw [if_neg (fun hh => h hh.1), if_neg h]; rfl
theorem cut_le (s : List UInt8) : (Lib.cut s Sz.mark).1.length ≤ s.length ∧ (Lib.cut s Sz.mark).2.1.length ≤ s.length := by
  unfold Lib.cut
  split
  · show (s.take (Lib.index s Sz.mark).toNat).length ≤ s.length ∧ (s.drop ((Lib.index s Sz.mark).toNat + Sz.mark.length)).length ≤ s.length
    rw [List.length_take, List.length_drop]; omega
  · exact ⟨Nat.le_refl _, Nat.zero_le _⟩
set_option maxRecDepth 100000 in
set_option maxHeartbeats 1600000 in
theorem fieldOf_any (s : List UInt8) (n : Int) (w : World) (hw : MaxOk w) (hs : s.length ≤ 1000000) :
    Calls Tryd.prog 36 #[.string ⟨s.toArray⟩, .int .i64 n] w (FieldRet w n (Sz.fieldP s n)) := by
  obtain ⟨R, hR⟩ : ∃ R, Sz.fieldP s n = R := ⟨_, rfl⟩
  rw [hR]
  rw [field_cut] at hR
  obtain ⟨W1, hW1⟩ : ∃ W, w.alloc (.cells #[.string ⟨#[]⟩, .string ⟨#[]⟩, .int .i64 0] 43) = W := ⟨_, rfl⟩
  have HC3 : Hid (∀ u, Below W1.heap.size W1 u → u.cell? ⟨w.heap.size, 0, none⟩ = some (.string ⟨#[]⟩) ∧ u.cell? ⟨w.heap.size, 1, none⟩ = some (.string ⟨#[]⟩) ∧ u.cell? ⟨w.heap.size, 2, none⟩ = some (.int .i64 0) ∧ u.frozen? ⟨w.heap.size, 0, none⟩ = false ∧ u.frozen? ⟨w.heap.size, 1, none⟩ = false ∧ u.frozen? ⟨w.heap.size, 2, none⟩ = false) := fun u hb => cell_three hW1 hb
  have HBW : Hid (Below w.heap.size w W1) := alloc_low hW1
  have hcut := cutMark_any s W1 (maxOk_below hw HBW.out) hs
  obtain ⟨hl1, hl2⟩ := cut_le s
  obtain ⟨c, hc⟩ : ∃ c, Lib.cut s Sz.mark = c := ⟨_, rfl⟩
  obtain ⟨k, v, f⟩ := c
  rw [hc] at hR hcut hl1 hl2
  dsimp only at hR hcut hl1 hl2
  have HCUT := Lib.hid hcut
  have HL1 : Hid (k.length ≤ 1000000) := Nat.le_trans hl1 hs
  have HL2 : Hid (v.length ≤ 1000000) := Nat.le_trans hl2 hs
  clear hcut hc hl1 hl2 hs hw
  cases f
  · have HR : Hid (R = none) := hR.symm
    clear hR
    go_enter Tryd.func36, Tryd.ntmps36
    go_wp2_with fail
    clear hW1
    refine HCUT.out.mono ?_
    rintro _ u ⟨rfl, hb⟩
    have HB : Hid (Below w.heap.size w u) := HBW.out.trans (hb.mono HBW.out.size)
    clear hb
    go_wp2_with fail
    refine (requireAt_no _).mono ?_
    rintro _ z ⟨rfl, rfl⟩
    go_wp2_with fail
    exact ⟨rfl, by show FieldRet w n R _ _; rw [HR.out]; exact ⟨HB.out, rfl⟩⟩
  · cases hk : Sz.keyB k
    · have HR : Hid (R = none) := by rw [hk] at hR; exact hR.symm
      have HK := Lib.hid hk
      clear hR hk
      go_enter Tryd.func36, Tryd.ntmps36
      go_wp2_with fail
      clear hW1
      refine HCUT.out.mono ?_
      rintro _ u ⟨rfl, hb⟩
      have HB : Hid (Below w.heap.size w u) := HBW.out.trans (hb.mono HBW.out.size)
      clear hb
      go_wp2_with fail
      refine (isKey_any k _ HL1.out).mono ?_
      rintro _ z ⟨rfl, rfl⟩
      rw [HK.out]
      go_wp2_with fail
      refine (requireAt_no _).mono ?_
      rintro _ z ⟨rfl, rfl⟩
      go_wp2_with fail
      exact ⟨rfl, by show FieldRet w n R _ _; rw [HR.out]; exact ⟨HB.out, rfl⟩⟩
    · have HK := Lib.hid hk
      cases hv : Sz.valB v
      · have HR : Hid (R = none) := by rw [hk, hv] at hR; exact hR.symm
        have HV := Lib.hid hv
        clear hR hk hv
        go_enter Tryd.func36, Tryd.ntmps36
        go_wp2_with fail
        clear hW1
        refine HCUT.out.mono ?_
        rintro _ u ⟨rfl, hb⟩
        have HB : Hid (Below w.heap.size w u) := HBW.out.trans (hb.mono HBW.out.size)
        clear hb
        go_wp2_with fail
        refine (isKey_any k _ HL1.out).mono ?_
        rintro _ z ⟨rfl, rfl⟩
        rw [HK.out]
        go_wp2_with fail
        refine (isValue_any v _ HL2.out).mono ?_
        rintro _ z ⟨rfl, rfl⟩
        rw [HV.out]
        go_wp2_with fail
        refine (requireAt_no _).mono ?_
        rintro _ z ⟨rfl, rfl⟩
        go_wp2_with fail
        exact ⟨rfl, by show FieldRet w n R _ _; rw [HR.out]; exact ⟨HB.out, rfl⟩⟩
      · have HR : Hid (R = some ⟨k, v, n⟩) := by rw [hk, hv] at hR; exact hR.symm
        have HV := Lib.hid hv
        clear hR hk hv
        go_enter Tryd.func36, Tryd.ntmps36
        go_wp2_with fail
        clear hW1
        refine HCUT.out.mono ?_
        rintro _ u ⟨rfl, hb⟩
        have HB := Lib.hid hb
        clear hb
        go_wp2_with fail
        refine (isKey_any k _ HL1.out).mono ?_
        rintro _ z ⟨rfl, rfl⟩
        rw [HK.out]
        go_wp2_with fail
        refine (isValue_any v _ HL2.out).mono ?_
        rintro _ z ⟨rfl, rfl⟩
        rw [HV.out]
        go_wp2_with fail
        refine (requireAt_yes _).mono ?_
        rintro _ z ⟨rfl, rfl⟩
        go_wp2_with fail
        refine (fClone_any k v n _ (Nat.le_trans HL1.out (by decide)) (Nat.le_trans HL2.out (by decide))).mono ?_
        rintro _ u3 ⟨rfl, hb3⟩
        have HB3 : Hid (Below W1.heap.size W1 u3) := HB.out.trans (hb3.mono HB.out.size)
        clear hb3
        obtain ⟨b0, b1, b2, f0, f1, f2⟩ := HC3.out u3 HB3.out
        have HBV : Hid (Below w.heap.size w (((u3.setCell ⟨w.heap.size, 0, none⟩ (.string ⟨k.toArray⟩)).setCell ⟨w.heap.size, 1, none⟩ (.string ⟨v.toArray⟩)).setCell ⟨w.heap.size, 2, none⟩ (.int .i64 n))) :=
          (((HBW.out.trans (HB3.out.mono HBW.out.size)).setCell (Nat.le_refl _) _).setCell (Nat.le_refl _) _).setCell (Nat.le_refl _) _
        have g0 : (((u3.setCell ⟨w.heap.size, 0, none⟩ (.string ⟨k.toArray⟩)).setCell ⟨w.heap.size, 1, none⟩ (.string ⟨v.toArray⟩)).setCell ⟨w.heap.size, 2, none⟩ (.int .i64 n)).cell? ⟨w.heap.size, 0, none⟩ = some (.string ⟨k.toArray⟩) := by simp [go_sem, b0]
        have g1 : (((u3.setCell ⟨w.heap.size, 0, none⟩ (.string ⟨k.toArray⟩)).setCell ⟨w.heap.size, 1, none⟩ (.string ⟨v.toArray⟩)).setCell ⟨w.heap.size, 2, none⟩ (.int .i64 n)).cell? ⟨w.heap.size, 1, none⟩ = some (.string ⟨v.toArray⟩) := by simp [go_sem, b1]
        have g2 : (((u3.setCell ⟨w.heap.size, 0, none⟩ (.string ⟨k.toArray⟩)).setCell ⟨w.heap.size, 1, none⟩ (.string ⟨v.toArray⟩)).setCell ⟨w.heap.size, 2, none⟩ (.int .i64 n)).cell? ⟨w.heap.size, 2, none⟩ = some (.int .i64 n) := by simp [go_sem, b2]
        go_wp2_with fail
        generalize ((u3.setCell ⟨w.heap.size, 0, none⟩ (.string ⟨k.toArray⟩)).setCell ⟨w.heap.size, 1, none⟩ (.string ⟨v.toArray⟩)).setCell ⟨w.heap.size, 2, none⟩ (.int .i64 n) = V at *
        refine bodyPost_ret (v := .agg #[.string ⟨k.toArray⟩, .string ⟨v.toArray⟩, .int .i64 n]) ?_ rfl ?_
        · simp [results, Tryd.results36, go_sem, g0, g1, g2]
        · rw [HR.out]; exact ⟨HBV.out, rfl⟩
end Go.Proofs.YtmhobdlhmkbkdaaDoor
