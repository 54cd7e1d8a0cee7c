/- Print of stanzas, walked. -/
import Derived.Test.YtmhobdlhmkbkdaaDoorUb
import Derived.Test.YtmhobdlhmkbkdaaDoorShelfW
namespace Go.Proofs.YtmhobdlhmkbkdaaDoor
open Go.RowKit Go.Maps Sz
attribute [local go_sem ↓] Go.wp_at_zero Go.wp_at_succ
/-- What the builder in block w.heap.size holds, and that all that was there is as it was. -/
def Sz.Bld (w : World) (t : List UInt8) (u : World) : Prop := Lib.IsBuilderF 64 5 w.heap.size w.heap.size (Lib.byteCells t) u ∧ Below w.heap.size w u
theorem Sz.bld_new {w W1 : World} (h : w.alloc (.cells #[.pointer none, .slice none 0 0] 64) = W1) : Bld w [] W1 := by
  subst h
  exact ⟨Lib.IsBuilderF.of (Lib.fresh_isBuilder _ _ w), (Below.refl _ _).alloc (Nat.le_refl _) _⟩
theorem Sz.byteCells_app (t s : List UInt8) : Lib.byteCells t ++ Lib.strCells ⟨s.toArray⟩ = Lib.byteCells (t ++ s) := by
  unfold Lib.byteCells Lib.strCells
  simp
theorem Sz.bld_at {u u' : World} {B b : Nat} {p : Value} {bs : List Value} (h : Lib.BuilderAtF 64 5 B b p bs u) (hb : Below u.heap.size u u') : Lib.BuilderAtF 64 5 B b p bs u' := by
  have hlt := h.lt
  obtain ⟨hB, v, hk, hown, hne⟩ := h
  refine ⟨hB, v, (hb.block _ hlt).trans hk, hown.kept (row := none) ⟨hb.os, hb.tape, hb.output, hb.size, fun k hk _ => hb.block k hk⟩ ?_, hne⟩
  cases v.ownBlock with
  | none => exact Or.inl rfl
  | some x => exact Or.inr (by simp)
theorem Sz.bld_below {w u u' : World} {t : List UInt8} (h : Bld w t u) (hb : Below u.heap.size u u') : Bld w t u' :=
  ⟨h.1.elim (fun x => .inl (bld_at x hb)) (fun x => .inr (bld_at x hb)), h.2.trans (hb.mono h.2.size)⟩
theorem Sz.bld_lt {w u : World} {t : List UInt8} (h : Bld w t u) : w.heap.size < u.heap.size := h.1.elim (fun x => x.lt) (fun x => x.lt)
theorem Sz.bld_write {w u : World} {t : List UInt8} (h : Bld w t u) (s : List UInt8) (hl : t.length + s.length ≤ 10000000) :
    Calls Tryd.prog 25 #[.pointer (some ⟨w.heap.size, 0, none⟩), .string ⟨s.toArray⟩] u fun e u' => e = .returned (.tuple #[.int .i64 s.length, .nilIface]) ∧ Bld w (t ++ s) u' ∧ Lib.OthersKept 5 (some w.heap.size) u u' := by
  refine (Tryd.Builder_WriteString_kc w.heap.size w.heap.size (Lib.byteCells t) ⟨s.toArray⟩ u h.1 (by
    have : (Lib.byteCells t).length = t.length := by unfold Lib.byteCells; simp
    rw [this]; show t.length + s.toArray.size ≤ _; rw [List.size_toArray]; omega) h.2.size).mono ?_
  rintro e u' ⟨rfl, ⟨hb, hB, hk⟩, _⟩
  refine ⟨by show _ = Ending.returned (.tuple #[.int .i64 s.toArray.size, .nilIface]); rfl, ⟨?_, h.2.trans hB⟩, hk⟩
  rw [← byteCells_app]
  exact .inr hb
theorem Sz.bld_string {w u : World} {t : List UInt8} (h : Bld w t u) :
    Calls Tryd.prog 26 #[.pointer (some ⟨w.heap.size, 0, none⟩)] u fun e u' => e = .returned (.string ⟨t.toArray⟩) ∧ Bld w t u' := by
  refine (Tryd.Builder_String_any_k w.heap.size w.heap.size t u h.1 h.2.size).mono ?_
  rintro e u' ⟨rfl, hb, hB, _⟩
  exact ⟨rfl, hb, h.2.trans hB⟩
/-- A field in a block of one's own. -/
def Sz.FBk (b : Nat) (k v : List UInt8) (n : Int) (u : World) : Prop := u.heap[b]? = some (.cells #[.string ⟨k.toArray⟩, .string ⟨v.toArray⟩, .int .i64 n] 43 (0, 0))
theorem Sz.fbk_new {w W1 : World} {k v : List UInt8} {n : Int} (h : w.alloc (.cells #[.string ⟨k.toArray⟩, .string ⟨v.toArray⟩, .int .i64 n] 43) = W1) : FBk w.heap.size k v n W1 := by
  subst h; exact heap_alloc_new w _
theorem Sz.fbk_cells {b : Nat} {k v : List UInt8} {n : Int} {u : World} (h : FBk b k v n u) : u.cell? ⟨b, 0, none⟩ = some (.string ⟨k.toArray⟩) ∧ u.cell? ⟨b, 1, none⟩ = some (.string ⟨v.toArray⟩) ∧ u.cell? ⟨b, 2, none⟩ = some (.int .i64 n) := by
  unfold FBk at h
  refine ⟨?_, ?_, ?_⟩ <;> simp [World.cell?, h]
theorem Sz.fbk_kept {b c : Nat} {k v : List UInt8} {n : Int} {u u' : World} (h : FBk b k v n u) (hk : Lib.OthersKept 5 (some c) u u') (hne : c < b) : FBk b k v n u' :=
  hk b _ h (by simp; omega) (fun cs fz e => by
    have := (Obj.cells.inj e).2.1
    exact absurd this (by decide))
/-! Lengths of what is written. -/
theorem Sz.stanzaT_take (l : List Fld) (i : Nat) (hi : i < l.length) : stanzaT (l.take (i + 1)) = stanzaT (l.take i) ++ fieldT l[i] := by
  rw [List.take_succ_eq_append_getElem hi, stanzaT_snoc]
theorem Sz.stanzaT_le (l : List Fld) (i : Nat) : (stanzaT (l.take i)).length ≤ (stanzaT l).length := by
  have h : stanzaT l = stanzaT (l.take i) ++ stanzaT (l.drop i) := by
    unfold stanzaT; rw [← List.flatMap_append, List.take_append_drop]
  rw [h, List.length_append]; omega
theorem Sz.textS_take (t : List (List Fld)) (k : Nat) (hk : k < t.length) : textS (t.take (k + 1)) = textS (t.take k) ++ (if k = 0 then [] else [10]) ++ stanzaT t[k] := by
  rw [List.take_succ_eq_append_getElem hk, textS_snoc]
  by_cases h : k = 0
  · subst h; rw [if_pos rfl]; rfl
  · rw [if_neg h, if_neg]
    simp; exact ⟨h, fun e => by subst e; simp at hk⟩
theorem Sz.textS_app_le (a : List (List Fld)) : ∀ n (b : List (List Fld)), b.length = n → (textS a).length ≤ (textS (a ++ b)).length
  | 0, b, h => by rw [List.length_eq_zero_iff.1 h, List.append_nil]; exact Nat.le_refl _
  | n + 1, b, h => by
    rcases List.eq_nil_or_concat b with rfl | ⟨c, x, rfl⟩
    · simp at h
    · rw [List.concat_eq_append] at h ⊢
      have hc : c.length = n := by simp at h; exact h
      have ih := textS_app_le a n c hc
      rw [← List.append_assoc, textS_snoc, List.length_append]
      split
      · rename_i he
        have : a ++ c = [] := by simpa using he
        rw [this] at ih
        have h0 : (textS ([] : List (List Fld))).length = 0 := rfl
        omega
      · rw [List.length_append]; omega
theorem Sz.textS_le (t : List (List Fld)) (k : Nat) : (textS (t.take k)).length ≤ (textS t).length := by
  have := textS_app_le (t.take k) _ (t.drop k) rfl
  rwa [List.take_append_drop] at this
theorem Sz.grid_at {w : World} {A : Option Addr} {t : List (List Fld)} (h : Gr.Row encF 3 w A t) (k : Nat) (hk : k < t.length) : ∃ ad C n c, A = some ad ∧ t[k].length = n ∧ Rg.Row encF 3 w C t[k] ∧ ∀ u, Below w.heap.size w u → u.cell? (ad.add k) = some (.slice C n c) := by
  obtain ⟨ds, h1, h2, h3⟩ := h
  have hkd : k < ds.length := by omega
  obtain ⟨ad, e, _, _⟩ := h1 (by omega)
  obtain ⟨q1, q2⟩ := h3 k ds[k] t[k] (List.getElem?_eq_getElem hkd) (List.getElem?_eq_getElem hk)
  refine ⟨ad, ds[k].1, ds[k].2.1, ds[k].2.2, e, q1.symm, q2, fun u hb => ?_⟩
  obtain ⟨ad', x, e', hx, _, hc⟩ := Rg.row_at (Rg.row_below h1 hb) k hkd
  rw [e] at e'; cases e'
  have := hc 0 _ rfl
  rw [if_pos rfl, Nat.mul_one] at this
  rw [hx]; exact this
set_option maxRecDepth 100000 in
set_option maxHeartbeats 3200000 in
theorem stanzaPrint_any (A : Option Addr) (n c : Nat) (t : List (List Fld)) (w : World) (hn : t.length = n) (hr : Gr.Row encF 3 w A t) (hl : n ≤ 1000000) (hls : ∀ l ∈ t, l.length ≤ 1000000) (ht : (textS t).length ≤ 1000000) :
    Calls Tryd.prog 11 #[.slice A n c] w fun e w' => e = .returned (.string ⟨(textS t).toArray⟩) ∧ Below w.heap.size w w' := by
  obtain ⟨R, hR⟩ : ∃ R, textS t = R := ⟨_, rfl⟩
  rw [hR] at ht
  rw [hR]
  have HRT := Lib.hid hR
  obtain ⟨W1, hW1⟩ : ∃ W, w.alloc (.cells #[.pointer none, .slice none 0 0] 64) = W := ⟨_, rfl⟩
  have HB0 : Hid (Bld w [] W1) := bld_new hW1
  have HR := Lib.hid hr
  have HN := Lib.hid hn
  have HL := Lib.hid hls
  have HT := Lib.hid ht
  have HTS : Hid (∀ k, (textS (t.take k)).length ≤ R.length) := fun k => by rw [← hR]; exact textS_le t k
  clear hr hn hls ht hR
  go_enter Tryd.func11, Tryd.ntmps11
  go_wp2_with fail
  clear hW1
  go_loopw [10] (fun i wr => ∃ k : Nat, k ≤ n ∧ i = .int .i64 k ∧ Hid (Bld w (textS (t.take k)) wr)) (fun i _ => n - (intOf i).toNat)
  case atStart => exact ⟨0, Nat.zero_le _, rfl, HB0.out⟩
  case round =>
    obtain ⟨k, hk, rfl, HW⟩ := hrel
    by_cases hlt : k < n
    · have hlr : k < t.length := by rw [HN.out]; exact hlt
      obtain ⟨ad, C, m, d, rfl, hm, hrow, hcell⟩ := grid_at HR.out k hlr
      have hc := hcell _ HW.out.2
      have htk := textS_take t k hlr
      have hle := HTS.out (k + 1)
      have hll := HL.out _ (List.getElem_mem hlr)
      obtain ⟨l, hlk⟩ : ∃ l, t[k] = l := ⟨_, rfl⟩
      rw [hlk] at hm hrow htk hll
      rw [htk, List.length_append, List.length_append] at hle
      obtain ⟨T1, hT1⟩ : ∃ T, textS (t.take k) = T := ⟨_, rfl⟩
      rw [hT1] at htk hle HW
      have HROW := Lib.hid hrow
      have HM := Lib.hid hm
      have hm1 : m ≤ 1000000 := by rw [← hm]; exact hll
      clear hcell hlk hm hrow hll hT1
      by_cases hk0 : k = 0
      · have d0 : decide (0 < k) = false := decide_eq_false (by omega)
        have HB1 : Hid (Bld w T1 wr) := HW.out
        have HTK : Hid (textS (t.take (k + 1)) = T1 ++ stanzaT l) := by show _ = _; rw [htk, if_pos hk0, List.append_nil]
        have HLN : Hid (T1.length + (stanzaT l).length ≤ R.length) := by show _ ≤ _; rw [if_pos hk0] at hle; have h0 : ([] : List UInt8).length = 0 := rfl; omega
        clear htk hle hk0
        go_wp2_with fail
        go_loopw [20] (fun j wr => ∃ i : Nat, i ≤ m ∧ j = .int .i64 i ∧ Hid (Bld w (T1 ++ stanzaT (l.take i)) wr)) (fun j _ => m - (intOf j).toNat)
        case atStart => exact ⟨0, Nat.zero_le _, rfl, by show Bld w (T1 ++ []) _; rw [List.append_nil]; exact HB1.out⟩
        case round =>
          obtain ⟨i, hi, rfl, HI⟩ := hrel
          by_cases hlt2 : i < m
          · have hli : i < l.length := by rw [HM.out]; exact hlt2
            obtain ⟨ae, rfl, _, c0, c1, c2⟩ := field_at (Rg.row_below HROW.out HI.out.2) i hli
            have hst := stanzaT_take l i hli
            have hsl := stanzaT_le l (i + 1)
            obtain ⟨f, hf⟩ : ∃ f, l[i] = f := ⟨_, rfl⟩
            rw [hf] at c0 c1 c2 hst
            obtain ⟨fk, fv, fl⟩ := f
            have hft : fieldT ⟨fk, fv, fl⟩ = fk ++ [58, 32] ++ fv ++ [10] := rfl
            rw [hst, hft] at hsl
            have HNX : Hid (T1 ++ stanzaT (l.take (i + 1)) = T1 ++ stanzaT (l.take i) ++ fk ++ [58, 32] ++ fv ++ [10]) := by show _ = _; rw [hst, hft]; simp only [List.append_assoc]
            obtain ⟨S, hS⟩ : ∃ S, T1 ++ stanzaT (l.take i) = S := ⟨_, rfl⟩
            rw [hS] at HNX HI
            have HSL : Hid (S.length + fk.length + 2 + fv.length + 1 ≤ 1000000) := by
              have h1 := HLN.out; have h2 := HT.out
              show _ ≤ _
              rw [← hS]; simp only [List.length_append, List.length_cons, List.length_nil] at hsl ⊢; omega
            dsimp only at c0 c1 c2
            obtain ⟨V, hV⟩ : ∃ V, wr.alloc (.cells #[.string ⟨fk.toArray⟩, .string ⟨fv.toArray⟩, .int .i64 fl] 43) = V := ⟨_, rfl⟩
            have HF0 : Hid (FBk wr.heap.size fk fv fl V) := fbk_new hV
            have HBV : Hid (Bld w S V) := bld_below HI.out (alloc_low hV)
            have HLT : Hid (w.heap.size < wr.heap.size) := bld_lt HI.out
            obtain ⟨v0, v1, v2⟩ := fbk_cells HF0.out
            have x1 := Lib.hid (bld_write HBV.out fk (by have := HSL.out; omega))
            clear hst hsl hf hft hS
            go_wp2_with fail
            clear hV v0 v1 v2
            refine x1.out.mono ?_
            rintro _ y1 ⟨rfl, hb, hkp⟩
            have HY1 := Lib.hid hb
            have HF1 := Lib.hid (fbk_kept HF0.out hkp HLT.out)
            obtain ⟨v0, v1, v2⟩ := fbk_cells HF1.out
            clear hb hkp
            clear x1
            go_wp2_with fail
            clear v0 v1 v2
            refine (bld_write HY1.out [58, 32] (by have := HSL.out; simp only [List.length_append, List.length_cons, List.length_nil]; omega)).mono ?_
            rintro _ y2 ⟨rfl, hb, hkp⟩
            have HY2 := Lib.hid hb
            have HF2 := Lib.hid (fbk_kept HF1.out hkp HLT.out)
            obtain ⟨v0, v1, v2⟩ := fbk_cells HF2.out
            clear hb hkp
            go_wp2_with fail
            clear v0 v1 v2
            refine (bld_write HY2.out fv (by have := HSL.out; simp only [List.length_append, List.length_cons, List.length_nil]; omega)).mono ?_
            rintro _ y3 ⟨rfl, hb, hkp⟩
            have HY3 := Lib.hid hb
            have HF3 := Lib.hid (fbk_kept HF2.out hkp HLT.out)
            obtain ⟨v0, v1, v2⟩ := fbk_cells HF3.out
            clear hb hkp
            go_wp2_with fail
            clear v0 v1 v2
            refine (bld_write HY3.out [10] (by have := HSL.out; simp only [List.length_append, List.length_cons, List.length_nil]; omega)).mono ?_
            rintro _ y4 ⟨rfl, hb, hkp⟩
            have HY4 := Lib.hid hb
            clear hb hkp
            go_wp2_with fail
            go_roundw
            case rel => exact ⟨i + 1, by omega, by go_num, by show Bld w _ _; rw [HNX.out]; exact HY4.out⟩
            case measure => simp [intOf]; omega
          · obtain rfl : i = m := by omega
            have HE : Hid (Bld w (textS (t.take (k + 1))) wr) := by
              have h := HI.out
              rw [List.take_of_length_le (by rw [HM.out]; exact Nat.le_refl _), ← HTK.out] at h
              exact h
            go_wp2_with fail
            go_roundw
            case rel => exact ⟨k + 1, by omega, by go_num, HE⟩
            case measure => simp [intOf]; omega
      · have d0 : decide (0 < k) = true := decide_eq_true (by omega)
        have HTK : Hid (textS (t.take (k + 1)) = (T1 ++ [10]) ++ stanzaT l) := by show _ = _; rw [htk, if_neg hk0]
        have hl1 : (T1 ++ [10]).length + (stanzaT l).length ≤ R.length := by rw [if_neg hk0] at hle; rw [List.length_append]; exact hle
        have hl2 : T1.length + ([10] : List UInt8).length ≤ 10000000 := by have := HT.out; rw [List.length_append] at hl1; omega
        have HL2 := Lib.hid hl2
        obtain ⟨T2, hT2⟩ : ∃ T, T1 ++ [10] = T := ⟨_, rfl⟩
        rw [hT2] at HTK hl1
        have HLN : Hid (T2.length + (stanzaT l).length ≤ R.length) := hl1
        clear htk hle hk0 hl1 hl2
        go_wp2_with fail
        refine (bld_write HW.out [10] HL2.out).mono ?_
        rintro _ u1 ⟨rfl, hb, _⟩
        rw [hT2] at hb
        have HB1 := Lib.hid hb
        clear hb hT2
        go_wp2_with fail
        go_loopw [20] (fun j wr => ∃ i : Nat, i ≤ m ∧ j = .int .i64 i ∧ Hid (Bld w (T2 ++ stanzaT (l.take i)) wr)) (fun j _ => m - (intOf j).toNat)
        case atStart => exact ⟨0, Nat.zero_le _, rfl, by show Bld w (T2 ++ []) _; rw [List.append_nil]; exact HB1.out⟩
        case round =>
          obtain ⟨i, hi, rfl, HI⟩ := hrel
          by_cases hlt2 : i < m
          · have hli : i < l.length := by rw [HM.out]; exact hlt2
            obtain ⟨ae, rfl, _, c0, c1, c2⟩ := field_at (Rg.row_below HROW.out HI.out.2) i hli
            have hst := stanzaT_take l i hli
            have hsl := stanzaT_le l (i + 1)
            obtain ⟨f, hf⟩ : ∃ f, l[i] = f := ⟨_, rfl⟩
            rw [hf] at c0 c1 c2 hst
            obtain ⟨fk, fv, fl⟩ := f
            have hft : fieldT ⟨fk, fv, fl⟩ = fk ++ [58, 32] ++ fv ++ [10] := rfl
            rw [hst, hft] at hsl
            have HNX : Hid (T2 ++ stanzaT (l.take (i + 1)) = T2 ++ stanzaT (l.take i) ++ fk ++ [58, 32] ++ fv ++ [10]) := by show _ = _; rw [hst, hft]; simp only [List.append_assoc]
            obtain ⟨S, hS⟩ : ∃ S, T2 ++ stanzaT (l.take i) = S := ⟨_, rfl⟩
            rw [hS] at HNX HI
            have HSL : Hid (S.length + fk.length + 2 + fv.length + 1 ≤ 1000000) := by
              have h1 := HLN.out; have h2 := HT.out
              show _ ≤ _
              rw [← hS]; simp only [List.length_append, List.length_cons, List.length_nil] at hsl ⊢; omega
            dsimp only at c0 c1 c2
            obtain ⟨V, hV⟩ : ∃ V, wr.alloc (.cells #[.string ⟨fk.toArray⟩, .string ⟨fv.toArray⟩, .int .i64 fl] 43) = V := ⟨_, rfl⟩
            have HF0 : Hid (FBk wr.heap.size fk fv fl V) := fbk_new hV
            have HBV : Hid (Bld w S V) := bld_below HI.out (alloc_low hV)
            have HLT : Hid (w.heap.size < wr.heap.size) := bld_lt HI.out
            obtain ⟨v0, v1, v2⟩ := fbk_cells HF0.out
            have x1 := Lib.hid (bld_write HBV.out fk (by have := HSL.out; omega))
            clear hst hsl hf hft hS
            go_wp2_with fail
            clear hV v0 v1 v2
            refine x1.out.mono ?_
            rintro _ y1 ⟨rfl, hb, hkp⟩
            have HY1 := Lib.hid hb
            have HF1 := Lib.hid (fbk_kept HF0.out hkp HLT.out)
            obtain ⟨v0, v1, v2⟩ := fbk_cells HF1.out
            clear hb hkp
            clear x1
            go_wp2_with fail
            clear v0 v1 v2
            refine (bld_write HY1.out [58, 32] (by have := HSL.out; simp only [List.length_append, List.length_cons, List.length_nil]; omega)).mono ?_
            rintro _ y2 ⟨rfl, hb, hkp⟩
            have HY2 := Lib.hid hb
            have HF2 := Lib.hid (fbk_kept HF1.out hkp HLT.out)
            obtain ⟨v0, v1, v2⟩ := fbk_cells HF2.out
            clear hb hkp
            go_wp2_with fail
            clear v0 v1 v2
            refine (bld_write HY2.out fv (by have := HSL.out; simp only [List.length_append, List.length_cons, List.length_nil]; omega)).mono ?_
            rintro _ y3 ⟨rfl, hb, hkp⟩
            have HY3 := Lib.hid hb
            have HF3 := Lib.hid (fbk_kept HF2.out hkp HLT.out)
            obtain ⟨v0, v1, v2⟩ := fbk_cells HF3.out
            clear hb hkp
            go_wp2_with fail
            clear v0 v1 v2
            refine (bld_write HY3.out [10] (by have := HSL.out; simp only [List.length_append, List.length_cons, List.length_nil]; omega)).mono ?_
            rintro _ y4 ⟨rfl, hb, hkp⟩
            have HY4 := Lib.hid hb
            clear hb hkp
            go_wp2_with fail
            go_roundw
            case rel => exact ⟨i + 1, by omega, by go_num, by show Bld w _ _; rw [HNX.out]; exact HY4.out⟩
            case measure => simp [intOf]; omega
          · obtain rfl : i = m := by omega
            have HE : Hid (Bld w (textS (t.take (k + 1))) wr) := by
              have h := HI.out
              rw [List.take_of_length_le (by rw [HM.out]; exact Nat.le_refl _), ← HTK.out] at h
              exact h
            go_wp2_with fail
            go_roundw
            case rel => exact ⟨k + 1, by omega, by go_num, HE⟩
            case measure => simp [intOf]; omega
    · obtain rfl : k = n := by omega
      have HE : Hid (Bld w R wr) := by
        have h := HW.out
        rw [List.take_of_length_le (by rw [HN.out]; exact Nat.le_refl _), HRT.out] at h
        exact h
      go_wp2_with fail
      refine (bld_string HE.out).mono ?_
      rintro _ u2 ⟨rfl, hb2⟩
      have HB2 := Lib.hid hb2
      clear hb2
      go_wp2_with fail
      go_ret
      exact ⟨rfl, HB2.out.2⟩
end Go.Proofs.YtmhobdlhmkbkdaaDoor
