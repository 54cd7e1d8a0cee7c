/- A range as a term: conditionsOf, termOf, walked. A term out of a range, its versions counted, the range that it tells: walked. A term's range; what an atom must be; Check and Same of atoms: walked. Check and Same of atoms, walked. -/
import Derived.Test.YtkdildgdodnbbaaGreatDoorTa
import Derived.Defers
import Derived.Recover
namespace Go.Proofs.YtkdildgdodnbbaaGreatDoor
open Go.RowKit Rs At
attribute [local go_sem ↓] Go.wp_at_zero Go.wp_at_succ

theorem boundA_at (s : List UInt8) (b : Bool) (r : List UInt8) (w : World) (hs : s.length ≤ 10) (hr : (if b then s ++ [61] else s) = r) :
    Calls Tryz.prog 97 #[.string ⟨s.toArray⟩, .bool b] w fun e w' => e = .returned (.string ⟨r.toArray⟩) ∧ w = w' := by
  subst hr; exact boundA_any s b w hs
theorem newsD (w : World) (c : Cond) (T : TypeId) : ∀ j u, (Rg.flat encD [c])[j]? = some u → (w.alloc (.cells #[.string ⟨c.1.toArray⟩, .string ⟨c.2.toArray⟩] T)).cell? ((⟨w.heap.size, 0, none⟩ : Addr).add j) = some u :=
  Rg.news_new w T _ _ (by rfl)
theorem drow_new (w : World) (T : TypeId) (l : List Cond) (cs : Array Value) (h : cs.toList = Rg.flat encD l) : DRow (w.alloc (.cells cs T)) (some ⟨w.heap.size, 0, none⟩) l := fun _ => by
  refine ⟨_, rfl, by simp, fun i hi j v hv => ?_⟩
  have hj : j < 2 := (List.getElem?_eq_some_iff.1 hv).1
  rw [← Rg.add_j]
  exact Rg.news_new w T l cs h _ _ ((Rg.flat_get fitsD l i hi j hj).trans hv)
/-- A Span's own block. -/
def Bx4 (b : Nat) (lo hi : List UInt8) (li hn : Bool) (u : World) : Prop := u.cell? ⟨b, 0, none⟩ = some (.string ⟨lo.toArray⟩) ∧ u.cell? ⟨b, 1, none⟩ = some (.string ⟨hi.toArray⟩) ∧ u.cell? ⟨b, 2, none⟩ = some (.bool li) ∧ u.cell? ⟨b, 3, none⟩ = some (.bool hn)
theorem bx4_below {b B : Nat} {lo hi : List UInt8} {li hn : Bool} {u u' : World} (h : Bx4 b lo hi li hn u) (hb : b < B) (hbl : Below B u u') : Bx4 b lo hi li hn u' := by
  obtain ⟨h0, h1, h2, h3⟩ := h
  refine ⟨?_, ?_, ?_, ?_⟩
  · rw [hbl.cell hb]; exact h0
  · rw [hbl.cell hb]; exact h1
  · rw [hbl.cell hb]; exact h2
  · rw [hbl.cell hb]; exact h3
theorem bx4_new (w : World) (lo hi : List UInt8) (li hn : Bool) (T : TypeId) : Bx4 w.heap.size lo hi li hn (w.alloc (.cells #[.string ⟨lo.toArray⟩, .string ⟨hi.toArray⟩, .bool li, .bool hn] T)) := by
  refine ⟨?_, ?_, ?_, ?_⟩ <;> rw [World.cell?_alloc_mark] <;> rfl
theorem conds_eq {lo hi : List UInt8} {li hn : Bool} (h1 : (lo == hi) = true) (h2 : lo.isEmpty = false) : conds ⟨lo, hi, li, hn⟩ = [([61], lo)] := by
  unfold conds
  rw [if_pos ⟨by simpa using h1, by intro e; dsimp only at e; subst e; cases h2⟩]
theorem conds_ne {lo hi : List UInt8} {li hn : Bool} (h1 : (lo == hi) = false ∨ lo.isEmpty = true) : conds ⟨lo, hi, li, hn⟩ = (if lo.isEmpty then [] else [(if li then [62, 61] else [62], lo)]) ++ (if hi.isEmpty then [] else [(if hn then [60, 61] else [60], hi)]) := by
  unfold conds
  rw [if_neg (by
    rintro ⟨e1, e2⟩
    dsimp only at e1 e2
    rcases h1 with h1 | h1
    · rw [e1] at h1; simp at h1
    · exact e2 (List.isEmpty_iff.1 h1))]
  dsimp only
  congr 1
  · cases lo <;> rfl
  · cases hi <;> rfl
set_option maxRecDepth 100000 in
set_option maxHeartbeats 6400000 in
theorem conditionsOf_any (lo hi : List UInt8) (li hn : Bool) (w : World) :
    Calls Tryz.prog 76 #[.agg #[.string ⟨lo.toArray⟩, .string ⟨hi.toArray⟩, .bool li, .bool hn]] w (CondsRet w (conds ⟨lo, hi, li, hn⟩)) := by
  obtain ⟨R, hR⟩ : ∃ R, conds ⟨lo, hi, li, hn⟩ = R := ⟨_, rfl⟩
  rw [hR]
  obtain ⟨b, hb⟩ : ∃ b, w.heap.size = b := ⟨_, rfl⟩
  obtain ⟨W1, hW1⟩ : ∃ W, w.alloc (.cells #[.string ⟨lo.toArray⟩, .string ⟨hi.toArray⟩, .bool li, .bool hn] 83) = W := ⟨_, rfl⟩
  have HX1 : Hid (Bx4 b lo hi li hn W1) := by rw [← hW1, ← hb]; exact bx4_new w lo hi li hn _
  have HW1 : Hid (Below w.heap.size w W1) := by rw [← hW1]; exact (Below.refl _ _).alloc (Nat.le_refl _) _
  have hb1 : b < W1.heap.size := by rw [← hW1, ← hb]; simp
  obtain ⟨k0, k1, k2, k3⟩ := HX1.out
  cases he : lo == hi <;> cases hle : lo.isEmpty
  case true.false =>
    have HR : Hid (R = [([61], lo)]) := by rw [← hR]; exact conds_eq he hle
    clear hR
    go_enter Tryz.func76, Tryz.ntmps76
    go_wp2_with fail
    skip
    clear hb hW1
    go_wp2_with fail
    go_ret
    rw [HR.out]
    refine ⟨_, _, _, rfl, rfl, ?_, fun a ha => by cases ha; exact HW1.out.size, HW1.out.alloc HW1.out.size _⟩
    exact drow_new W1 _ _ _ (by rfl)
  case false.false =>
    obtain ⟨sg, hsg⟩ : ∃ s : List UInt8, (if li then [62, 61] else [62]) = s := ⟨_, rfl⟩
    obtain ⟨sh, hsh⟩ : ∃ s : List UInt8, (if hn then [60, 61] else [60]) = s := ⟨_, rfl⟩
    have HR : Hid (R = (if lo.isEmpty then [] else [(if li then [62, 61] else [62], lo)]) ++ (if hi.isEmpty then [] else [(if hn then [60, 61] else [60], hi)])) := by rw [← hR]; exact conds_ne (Or.inl he)
    have HSG : Hid ((if li then [62] ++ [61] else [62]) = sg) := hsg
    have HSH : Hid ((if hn then [60] ++ [61] else [60]) = sh) := hsh
    clear hR
    cases hhe : hi.isEmpty
    · have HRR : Hid (R = ([(sg, lo)] ++ [(sh, hi)])) := by show _ = _; rw [HR.out, hle, hhe, hsg, hsh]; rfl
      clear hsg hsh HR
      go_enter Tryz.func76, Tryz.ntmps76
      go_wp2_with fail
      clear hb hW1
      have HX := HX1
      have HO : Hid (DOwn W1 W1.heap.size (.slice none 0 0) []) := Rg.own_nil _ _ _
      have HBL : Hid (Below W1.heap.size W1 W1 ∧ W1.heap.size ≤ W1.heap.size) := ⟨Below.refl _ _, Nat.le_refl _⟩
      have hbW : b < W1.heap.size := hb1
      go_wp2_with fail
      go_region_held3 (fun w' => w'.cell? ⟨b, 0, none⟩ = some (.string ⟨lo.toArray⟩) ∧ w'.cell? ⟨b, 1, none⟩ = some (.string ⟨hi.toArray⟩) ∧ w'.cell? ⟨b, 2, none⟩ = some (.bool li) ∧ w'.cell? ⟨b, 3, none⟩ = some (.bool hn))
        (first
          | exact bx4_below HX.out hbW (Below.refl _ _).drew
          | exact bx4_below HX.out hbW ((Below.refl _ _).drew.alloc (Nat.le_refl _) _)
          | exact HX5.out)
        (first
          | (go_at_call 97; refine (boundA_at [62] li sg _ (by decide) HSG.out).mono ?_; rintro _ w' ⟨rfl, rfl⟩)
          | (refine Rg.step_app sliceD (by rfl) (.tmp 21) (.tmp 28) (by rfl) W1.heap.size (.slice none 0 0) [] [(sg, lo)] (by rfl) (Rg.own_below HO.out ((Below.refl _ _).drew.alloc (Nat.le_refl _) _)) _ _ (by rfl) (newsD _ (sg, lo) _) (Nat.zero_lt_succ _) (by simp) (app_low HBL) ?_; intro v5 W5 ho5 hg5 hz5; have HB5 := app_done2 HBL HO hg5; have HX5 := Lib.hid (bx4_below HX1.out hb1 HB5.out.1)))
      have HO5 := Lib.hid ho5
      clear ho5 hg5 hz5 HO HBL HX
      obtain ⟨k0, k1, k2, k3⟩ := HX5.out

      have HX := HX5
      have HO := HO5
      have HBL := HB5
      have hbW : b < W5.heap.size := Nat.lt_of_lt_of_le hb1 HB5.out.2
      clear HX5 HO5 HB5
      go_wp2_with fail
      go_region_held3 (fun w' => w'.cell? ⟨b, 0, none⟩ = some (.string ⟨lo.toArray⟩) ∧ w'.cell? ⟨b, 1, none⟩ = some (.string ⟨hi.toArray⟩) ∧ w'.cell? ⟨b, 2, none⟩ = some (.bool li) ∧ w'.cell? ⟨b, 3, none⟩ = some (.bool hn))
        (first
          | exact bx4_below HX.out hbW (Below.refl _ _).drew
          | exact bx4_below HX.out hbW ((Below.refl _ _).drew.alloc (Nat.le_refl _) _)
          | exact HX6.out)
        (first
          | (go_at_call 97; refine (boundA_at [60] hn sh _ (by decide) HSH.out).mono ?_; rintro _ w' ⟨rfl, rfl⟩)
          | (refine Rg.step_app sliceD (by rfl) (.tmp 33) (.tmp 40) (by rfl) W1.heap.size v5 ([] ++ [(sg, lo)]) [(sh, hi)] (by rfl) (Rg.own_below HO.out ((Below.refl _ _).drew.alloc (Nat.le_refl _) _)) _ _ (by rfl) (newsD _ (sh, hi) _) (Nat.zero_lt_succ _) (by simp) (app_low HBL) ?_; intro v6 W6 ho6 hg6 hz6; have HB6 := app_done2 HBL HO hg6; have HX6 := Lib.hid (bx4_below HX1.out hb1 HB6.out.1)))
      have HO6 := Lib.hid ho6
      clear ho6 hg6 hz6 HO HBL HX
      obtain ⟨k0, k1, k2, k3⟩ := HX6.out

      have HOK : Hid (DOwn W6 W1.heap.size v6 R) := by show DOwn _ _ _ _; rw [HRR.out]; exact HO6.out
      have HBK := HB6
      clear HO6 HB6
      obtain ⟨C, d, rfl, h1, h2⟩ := drow_own HOK.out
      have H1 := Lib.hid h1
      have H2 := Lib.hid h2
      clear h1 h2 HOK
      go_wp2_with fail
      go_ret
      refine ⟨C, _, d, rfl, rfl, ?_, fun a ha => ?_, ?_⟩
      · exact H1.out
      · have := H2.out a ha; have := HW1.out.size; omega
      · exact HW1.out.trans (HBK.out.1.mono HW1.out.size)
    · have HRR : Hid (R = ([(sg, lo)] ++ [])) := by show _ = _; rw [HR.out, hle, hhe, hsg, hsh]; rfl
      clear hsg hsh HR
      go_enter Tryz.func76, Tryz.ntmps76
      go_wp2_with fail
      clear hb hW1
      have HX := HX1
      have HO : Hid (DOwn W1 W1.heap.size (.slice none 0 0) []) := Rg.own_nil _ _ _
      have HBL : Hid (Below W1.heap.size W1 W1 ∧ W1.heap.size ≤ W1.heap.size) := ⟨Below.refl _ _, Nat.le_refl _⟩
      have hbW : b < W1.heap.size := hb1
      go_wp2_with fail
      go_region_held3 (fun w' => w'.cell? ⟨b, 0, none⟩ = some (.string ⟨lo.toArray⟩) ∧ w'.cell? ⟨b, 1, none⟩ = some (.string ⟨hi.toArray⟩) ∧ w'.cell? ⟨b, 2, none⟩ = some (.bool li) ∧ w'.cell? ⟨b, 3, none⟩ = some (.bool hn))
        (first
          | exact bx4_below HX.out hbW (Below.refl _ _).drew
          | exact bx4_below HX.out hbW ((Below.refl _ _).drew.alloc (Nat.le_refl _) _)
          | exact HX5.out)
        (first
          | (go_at_call 97; refine (boundA_at [62] li sg _ (by decide) HSG.out).mono ?_; rintro _ w' ⟨rfl, rfl⟩)
          | (refine Rg.step_app sliceD (by rfl) (.tmp 21) (.tmp 28) (by rfl) W1.heap.size (.slice none 0 0) [] [(sg, lo)] (by rfl) (Rg.own_below HO.out ((Below.refl _ _).drew.alloc (Nat.le_refl _) _)) _ _ (by rfl) (newsD _ (sg, lo) _) (Nat.zero_lt_succ _) (by simp) (app_low HBL) ?_; intro v5 W5 ho5 hg5 hz5; have HB5 := app_done2 HBL HO hg5; have HX5 := Lib.hid (bx4_below HX1.out hb1 HB5.out.1)))
      have HO5 := Lib.hid ho5
      clear ho5 hg5 hz5 HO HBL HX
      obtain ⟨k0, k1, k2, k3⟩ := HX5.out

      have HOK : Hid (DOwn W5 W1.heap.size v5 R) := by show DOwn _ _ _ _; rw [HRR.out]; exact HO5.out
      have HBK := HB5
      clear HO5 HB5
      obtain ⟨C, d, rfl, h1, h2⟩ := drow_own HOK.out
      have H1 := Lib.hid h1
      have H2 := Lib.hid h2
      clear h1 h2 HOK
      go_wp2_with fail
      go_ret
      refine ⟨C, _, d, rfl, rfl, ?_, fun a ha => ?_, ?_⟩
      · exact H1.out
      · have := H2.out a ha; have := HW1.out.size; omega
      · exact HW1.out.trans (HBK.out.1.mono HW1.out.size)
  case false.true =>
    obtain ⟨sg, hsg⟩ : ∃ s : List UInt8, (if li then [62, 61] else [62]) = s := ⟨_, rfl⟩
    obtain ⟨sh, hsh⟩ : ∃ s : List UInt8, (if hn then [60, 61] else [60]) = s := ⟨_, rfl⟩
    have HR : Hid (R = (if lo.isEmpty then [] else [(if li then [62, 61] else [62], lo)]) ++ (if hi.isEmpty then [] else [(if hn then [60, 61] else [60], hi)])) := by rw [← hR]; exact conds_ne (Or.inl he)
    have HSG : Hid ((if li then [62] ++ [61] else [62]) = sg) := hsg
    have HSH : Hid ((if hn then [60] ++ [61] else [60]) = sh) := hsh
    clear hR
    cases hhe : hi.isEmpty
    · have HRR : Hid (R = ([] ++ [(sh, hi)])) := by show _ = _; rw [HR.out, hle, hhe, hsg, hsh]; rfl
      clear hsg hsh HR
      go_enter Tryz.func76, Tryz.ntmps76
      go_wp2_with fail
      clear hb hW1
      have HX := HX1
      have HO : Hid (DOwn W1 W1.heap.size (.slice none 0 0) []) := Rg.own_nil _ _ _
      have HBL : Hid (Below W1.heap.size W1 W1 ∧ W1.heap.size ≤ W1.heap.size) := ⟨Below.refl _ _, Nat.le_refl _⟩
      have hbW : b < W1.heap.size := hb1
      go_wp2_with fail
      go_region_held3 (fun w' => w'.cell? ⟨b, 0, none⟩ = some (.string ⟨lo.toArray⟩) ∧ w'.cell? ⟨b, 1, none⟩ = some (.string ⟨hi.toArray⟩) ∧ w'.cell? ⟨b, 2, none⟩ = some (.bool li) ∧ w'.cell? ⟨b, 3, none⟩ = some (.bool hn))
        (first
          | exact bx4_below HX.out hbW (Below.refl _ _).drew
          | exact bx4_below HX.out hbW ((Below.refl _ _).drew.alloc (Nat.le_refl _) _)
          | exact HX6.out)
        (first
          | (go_at_call 97; refine (boundA_at [60] hn sh _ (by decide) HSH.out).mono ?_; rintro _ w' ⟨rfl, rfl⟩)
          | (refine Rg.step_app sliceD (by rfl) (.tmp 33) (.tmp 40) (by rfl) W1.heap.size (.slice none 0 0) [] [(sh, hi)] (by rfl) (Rg.own_below HO.out ((Below.refl _ _).drew.alloc (Nat.le_refl _) _)) _ _ (by rfl) (newsD _ (sh, hi) _) (Nat.zero_lt_succ _) (by simp) (app_low HBL) ?_; intro v6 W6 ho6 hg6 hz6; have HB6 := app_done2 HBL HO hg6; have HX6 := Lib.hid (bx4_below HX1.out hb1 HB6.out.1)))
      have HO6 := Lib.hid ho6
      clear ho6 hg6 hz6 HO HBL HX
      obtain ⟨k0, k1, k2, k3⟩ := HX6.out

      have HOK : Hid (DOwn W6 W1.heap.size v6 R) := by show DOwn _ _ _ _; rw [HRR.out]; exact HO6.out
      have HBK := HB6
      clear HO6 HB6
      obtain ⟨C, d, rfl, h1, h2⟩ := drow_own HOK.out
      have H1 := Lib.hid h1
      have H2 := Lib.hid h2
      clear h1 h2 HOK
      go_wp2_with fail
      go_ret
      refine ⟨C, _, d, rfl, rfl, ?_, fun a ha => ?_, ?_⟩
      · exact H1.out
      · have := H2.out a ha; have := HW1.out.size; omega
      · exact HW1.out.trans (HBK.out.1.mono HW1.out.size)
    · have HRR : Hid (R = ([] ++ [])) := by show _ = _; rw [HR.out, hle, hhe, hsg, hsh]; rfl
      clear hsg hsh HR
      go_enter Tryz.func76, Tryz.ntmps76
      go_wp2_with fail
      clear hb hW1
      have HX := HX1
      have HO : Hid (DOwn W1 W1.heap.size (.slice none 0 0) []) := Rg.own_nil _ _ _
      have HBL : Hid (Below W1.heap.size W1 W1 ∧ W1.heap.size ≤ W1.heap.size) := ⟨Below.refl _ _, Nat.le_refl _⟩
      have hbW : b < W1.heap.size := hb1
      go_wp2_with fail
      go_ret
      rw [HRR.out]
      exact ⟨none, 0, 0, rfl, rfl, Rg.row_nil _ _, fun a ha => (by cases ha), HW1.out⟩
  case true.true =>
    obtain ⟨sg, hsg⟩ : ∃ s : List UInt8, (if li then [62, 61] else [62]) = s := ⟨_, rfl⟩
    obtain ⟨sh, hsh⟩ : ∃ s : List UInt8, (if hn then [60, 61] else [60]) = s := ⟨_, rfl⟩
    have HR : Hid (R = (if lo.isEmpty then [] else [(if li then [62, 61] else [62], lo)]) ++ (if hi.isEmpty then [] else [(if hn then [60, 61] else [60], hi)])) := by rw [← hR]; exact conds_ne (Or.inr hle)
    have HSG : Hid ((if li then [62] ++ [61] else [62]) = sg) := hsg
    have HSH : Hid ((if hn then [60] ++ [61] else [60]) = sh) := hsh
    clear hR
    cases hhe : hi.isEmpty
    · have HRR : Hid (R = ([] ++ [(sh, hi)])) := by show _ = _; rw [HR.out, hle, hhe, hsg, hsh]; rfl
      clear hsg hsh HR
      go_enter Tryz.func76, Tryz.ntmps76
      go_wp2_with fail
      clear hb hW1
      have HX := HX1
      have HO : Hid (DOwn W1 W1.heap.size (.slice none 0 0) []) := Rg.own_nil _ _ _
      have HBL : Hid (Below W1.heap.size W1 W1 ∧ W1.heap.size ≤ W1.heap.size) := ⟨Below.refl _ _, Nat.le_refl _⟩
      have hbW : b < W1.heap.size := hb1
      go_wp2_with fail
      go_region_held3 (fun w' => w'.cell? ⟨b, 0, none⟩ = some (.string ⟨lo.toArray⟩) ∧ w'.cell? ⟨b, 1, none⟩ = some (.string ⟨hi.toArray⟩) ∧ w'.cell? ⟨b, 2, none⟩ = some (.bool li) ∧ w'.cell? ⟨b, 3, none⟩ = some (.bool hn))
        (first
          | exact bx4_below HX.out hbW (Below.refl _ _).drew
          | exact bx4_below HX.out hbW ((Below.refl _ _).drew.alloc (Nat.le_refl _) _)
          | exact HX6.out)
        (first
          | (go_at_call 97; refine (boundA_at [60] hn sh _ (by decide) HSH.out).mono ?_; rintro _ w' ⟨rfl, rfl⟩)
          | (refine Rg.step_app sliceD (by rfl) (.tmp 33) (.tmp 40) (by rfl) W1.heap.size (.slice none 0 0) [] [(sh, hi)] (by rfl) (Rg.own_below HO.out ((Below.refl _ _).drew.alloc (Nat.le_refl _) _)) _ _ (by rfl) (newsD _ (sh, hi) _) (Nat.zero_lt_succ _) (by simp) (app_low HBL) ?_; intro v6 W6 ho6 hg6 hz6; have HB6 := app_done2 HBL HO hg6; have HX6 := Lib.hid (bx4_below HX1.out hb1 HB6.out.1)))
      have HO6 := Lib.hid ho6
      clear ho6 hg6 hz6 HO HBL HX
      obtain ⟨k0, k1, k2, k3⟩ := HX6.out

      have HOK : Hid (DOwn W6 W1.heap.size v6 R) := by show DOwn _ _ _ _; rw [HRR.out]; exact HO6.out
      have HBK := HB6
      clear HO6 HB6
      obtain ⟨C, d, rfl, h1, h2⟩ := drow_own HOK.out
      have H1 := Lib.hid h1
      have H2 := Lib.hid h2
      clear h1 h2 HOK
      go_wp2_with fail
      go_ret
      refine ⟨C, _, d, rfl, rfl, ?_, fun a ha => ?_, ?_⟩
      · exact H1.out
      · have := H2.out a ha; have := HW1.out.size; omega
      · exact HW1.out.trans (HBK.out.1.mono HW1.out.size)
    · have HRR : Hid (R = ([] ++ [])) := by show _ = _; rw [HR.out, hle, hhe, hsg, hsh]; rfl
      clear hsg hsh HR
      go_enter Tryz.func76, Tryz.ntmps76
      go_wp2_with fail
      clear hb hW1
      have HX := HX1
      have HO : Hid (DOwn W1 W1.heap.size (.slice none 0 0) []) := Rg.own_nil _ _ _
      have HBL : Hid (Below W1.heap.size W1 W1 ∧ W1.heap.size ≤ W1.heap.size) := ⟨Below.refl _ _, Nat.le_refl _⟩
      have hbW : b < W1.heap.size := hb1
      go_wp2_with fail
      go_ret
      rw [HRR.out]
      exact ⟨none, 0, 0, rfl, rfl, Rg.row_nil _ _, fun a ha => (by cases ha), HW1.out⟩
end Go.Proofs.YtkdildgdodnbbaaGreatDoor
namespace Go.Proofs.YtkdildgdodnbbaaGreatDoor
open Go.RowKit Rs At

theorem tfresh {w : World} {B : Nat} {v : Value} {t : List (List Cond)} {C : Option Addr} {M : Nat} (h : TOwn w B v t) (hM : w.heap.size ≤ M) (hC : ∀ a, C = some a → M ≤ a.block) (P : Prop) : P → ∀ a, C = some a → v.ownBlock ≠ some a.block := fun _ a ha e => by
  obtain ⟨ds, h1, _, _⟩ := h
  have := (Rg.own_lt h1 a.block e).2
  have := hC a ha
  omega
theorem term_snoc (l : List Sp) (k : Nat) (hk : k < l.length) (s : Sp) (hs : l[k] = s) : (l.take (k + 1)).map conds = (l.take k).map conds ++ [conds s] := by
  rw [List.take_succ_eq_append_getElem hk, List.map_append, hs]; rfl
set_option maxRecDepth 100000 in
set_option maxHeartbeats 1600000 in
theorem termOf_any (A : Option Addr) (n c : Nat) (l : List Sp) (w : World) (hn : l.length = n) (hr : SRow w A l) (hl : n ≤ 1000) :
    Calls Tryz.prog 49 #[.slice A n c] w (TermRet w (termOf l)) := by
  have HR := Lib.hid hr
  have HN := Lib.hid hn
  clear hr hn
  go_enter Tryz.func49, Tryz.ntmps49
  go_wp2_with fail
  go_loopw [3, 8] (fun v i wr => ∃ k : Nat, k ≤ n ∧ i = .int .i64 k ∧ Hid (TOwn wr w.heap.size v ((l.take k).map conds)) ∧ Hid (Below w.heap.size w wr ∧ w.heap.size ≤ wr.heap.size)) (fun _ i _ => n - (intOf i).toNat)
  case atStart => exact ⟨0, Nat.zero_le _, rfl, tOwn_nil _ _, Below.refl _ _, Nat.le_refl _⟩
  case round =>
    obtain ⟨k, hk, rfl, HT, HB⟩ := hrel
    by_cases hlt : k < n
    · have hlr : k < l.length := by rw [HN.out]; exact hlt
      obtain ⟨ad, lo, hi, li, hh, rfl, hs, _, c0, c1, c2, c3⟩ := srow_at (srow_below HR.out HB.out.1) k hlr
      have HS := Lib.hid (term_snoc l k hlr _ hs)
      have hsz : ((l.take k).map conds).length + 1 ≤ 1000000 := by rw [List.length_map, List.length_take]; omega
      have HSZ := Lib.hid hsz
      obtain ⟨tk, htk⟩ : ∃ x, (l.take k).map conds = x := ⟨_, rfl⟩
      rw [htk] at HS HSZ HT
      clear hs hsz htk
      go_wp2_with fail
      refine (conditionsOf_any lo hi li hh _).mono ?_
      rintro _ u2 ⟨C, m, d, rfl, hm, hrow, hf, hb⟩
      have HM := Lib.hid hm
      have HROW := Lib.hid hrow
      have HBU : Hid (Below wr.heap.size wr u2) := ((Below.refl _ _).alloc (Nat.le_refl _) _).trans (hb.mono (by simp))
      have HF : Hid (∀ a, C = some a → wr.heap.size ≤ a.block) := fun a ha => by have := hf a ha; simp at this; omega
      clear hm hrow hf hb c0 c1 c2 c3
      go_wp2_with (at_builtin; refine wpList_tapp rfl (.tmp 12) (.tmp 15) rfl w.heap.size _ tk (conds ⟨lo, hi, li, hh⟩) C m d rfl rfl (tOwn_below HT.out HBU.out) HM.out HROW.out (tfresh HT.out (Nat.le_refl _) HF.out _) HSZ.out (Nat.le_trans HB.out.2 HBU.out.size) ?_)
      intro v5 W5 hT5 hb5 hz5
      have HT5 : Hid (TOwn W5 w.heap.size v5 ((l.take (k + 1)).map conds)) := by show TOwn _ _ _ _; rw [HS.out]; exact hT5
      have HB5 : Hid (Below w.heap.size w W5 ∧ w.heap.size ≤ W5.heap.size) := ⟨(HB.out.1.trans (HBU.out.mono HB.out.2)).trans hb5, Nat.le_trans (Nat.le_trans HB.out.2 HBU.out.size) hz5⟩
      clear hT5 hb5 hz5 HROW HF HM HBU
      go_wp2_with fail
      go_roundw
      case rel => exact ⟨k + 1, by omega, by go_num, HT5, HB5⟩
      case measure => simp [intOf]; omega
    · obtain rfl : k = n := by omega
      have hT : TOwn wr w.heap.size u3 (termOf l) := by
        have := HT.out
        rw [List.take_of_length_le (by rw [HN.out]; exact Nat.le_refl _)] at this
        exact this
      obtain ⟨C, d, rfl, h1⟩ := trow_own hT
      have H1 := Lib.hid h1
      clear h1 hT HT
      go_wp2_with fail
      go_ret
      exact ⟨C, _, d, rfl, rfl, H1.out, HB.out.1⟩
theorem vers_snoc (t : List (List Cond)) (k : Nat) (hk : k < t.length) : vers (t.take (k + 1)) = vers (t.take k) + t[k].length := by
  unfold vers
  rw [List.take_succ_eq_append_getElem hk, List.map_append, List.sum_append, List.map_cons, List.map_nil, List.sum_cons, List.sum_nil, Nat.add_zero]
theorem vers_take (t : List (List Cond)) (k : Nat) : vers (t.take k) ≤ vers t := by
  unfold vers
  conv => rhs; rw [← List.take_append_drop k t]
  rw [List.map_append, List.sum_append]; omega
set_option maxRecDepth 100000 in
set_option maxHeartbeats 1600000 in
theorem versions_any (A : Option Addr) (n c : Nat) (t : List (List Cond)) (w : World) (hn : t.length = n) (hr : TRow w A t) (hl : n ≤ 100000) (hv : vers t ≤ 100000000) :
    Calls Tryz.prog 101 #[.slice A n c] w fun e w' => e = .returned (.int .i64 (vers t)) ∧ w = w' := by
  have HR := Lib.hid hr
  have HN := Lib.hid hn
  have HV := Lib.hid hv
  clear hr hn hv
  go_enter Tryz.func101, Tryz.ntmps101
  go_wp2_with fail
  go_loop [3, 8] (fun v i => ∃ k x : Nat, k ≤ n ∧ x ≤ 100000000 ∧ i = .int .i64 k ∧ v = .int .i64 x ∧ Hid (vers (t.take k) = x)) (fun _ i => n - (intOf i).toNat)
  case atStart => exact ⟨0, 0, Nat.zero_le _, Nat.zero_le _, rfl, rfl, rfl⟩
  case round =>
    obtain ⟨k, x, hk, hx, rfl, rfl, HX⟩ := hrel
    by_cases hlt : k < n
    · have hlr : k < t.length := by rw [HN.out]; exact hlt
      obtain ⟨ad, C, m, d, rfl, _, hc, hm, _⟩ := trow_at HR.out k hlr
      have hs := vers_snoc t k hlr
      have ht := vers_take t (k + 1)
      rw [hs, HX.out, hm] at ht
      have hle : x + m ≤ 100000000 := Nat.le_trans ht HV.out
      have HS : Hid (vers (t.take (k + 1)) = x + m) := by show _ = _; rw [hs, HX.out, hm]
      clear hs ht hm
      go_wp2_with fail
      go_round
      case rel => exact ⟨k + 1, x + m, by omega, hle, by go_num, by go_num, HS⟩
      case measure => simp [intOf]; omega
    · obtain rfl : k = n := by omega
      have HE : Hid (vers t = x) := by show _ = _; rw [← HX.out, List.take_of_length_le (by rw [HN.out]; exact Nat.le_refl _)]
      go_wp2_with fail
      go_ret
      exact ⟨by rw [HE.out]; rfl, rfl⟩
/-- What a function that tells a range, or raises what is wrong, hands back. -/
def HoldRet (w0 : World) (L : List Ent) (x : Int × List (Rm.P Cut)) (e : Ending) (u' : World) : Prop := (x.1 = 0 → ∃ C n d, e = .returned (.slice C n d) ∧ St w0 u' (⟨C, n, x.2.map spOf⟩ :: L)) ∧ (x.1 ≠ 0 → e = pan x.1 ∧ St w0 u' L)
theorem hAlt_step (r : List (Rm.P Cut)) (c : Cond) (l : List Cond) : hAlt r (c :: l) = if ofE c.1 c.2 = 0 then hAlt (andR r (ofR c.1 c.2)) l else (ofE c.1 c.2, []) := rfl
theorem hTerm_step (r : List (Rm.P Cut)) (a : List Cond) (t : List (List Cond)) : hTerm r (a :: t) = if (hAlt allR a).1 = 0 then hTerm (orR r (hAlt allR a).2) t else ((hAlt allR a).1, []) := rfl
theorem st_front {w0 u : World} {x : Ent} {L : List Ent} (h : St w0 u (x :: L)) : St w0 u L := ⟨h.1, h.2.1, fun y hy => h.2.2 y (List.mem_cons_of_mem _ hy)⟩
theorem st_two {w0 u : World} {x y : Ent} {L : List Ent} (h : St w0 u (x :: y :: L)) : St w0 u (x :: L) := ⟨h.1, h.2.1, fun z hz => by
  rcases List.mem_cons.1 hz with rfl | hz
  · exact h.2.2 _ (by simp)
  · exact h.2.2 z (by simp [hz])⟩
set_option maxRecDepth 100000 in
set_option maxHeartbeats 3200000 in
theorem holdsAll_any {w0 w : World} {L : List Ent} (hS : St w0 w L) (A : Option Addr) (n c : Nat) (l : List Cond) (hn : l.length = n) (hr : DRow w A l) (hl : n ≤ 100000) :
    Calls Tryz.prog 130 #[.slice A n c] w (HoldRet w0 L (hAlt allR l)) := by
  have HR := Lib.hid hr
  have HN := Lib.hid hn
  obtain ⟨R, hR⟩ : ∃ R, hAlt allR l = R := ⟨_, rfl⟩
  rw [hR]
  have HRR := Lib.hid hR
  have HS0 : Hid (St w w []) := ⟨st_max hS, Below.refl _ _, fun x hx => (by cases hx)⟩
  have HS := Lib.hid hS
  clear hr hn hR hS
  go_enter Tryz.func130, Tryz.ntmps130
  go_wp2_with fail
  refine (s_all HS0.out allR rfl).mono ?_
  rintro _ u1 ⟨C1, n1, d1, rfl, hs⟩
  have HS1 := Lib.hid hs
  clear hs HS0
  go_wp2_with fail
  go_loopw [3, 11] (fun v i wr => ∃ (k : Nat) (C : Option Addr) (m d : Nat) (r : List (Rm.P Cut)), k ≤ n ∧ i = .int .i64 k ∧ v = .slice C m d ∧ Hid (St w wr [⟨C, m, r.map spOf⟩]) ∧ Hid (Rs.Good r) ∧ Hid (hAlt r (l.drop k) = R)) (fun _ i _ => n - (intOf i).toNat)
  case atStart => exact ⟨0, C1, n1, d1, allR, Nat.zero_le _, rfl, rfl, HS1, goodAll, HRR.out⟩
  case round =>
    clear HS1
    obtain ⟨k, C, m, d, r, hk, rfl, rfl, HW, HG, HH⟩ := hrel
    by_cases hlt : k < n
    · have hlr : k < l.length := by rw [HN.out]; exact hlt
      obtain ⟨ad, rfl, _, c0, c1⟩ := drow_at (Rg.row_below HR.out HW.out.2.1) k hlr
      have hd : l.drop k = l[k] :: l.drop (k + 1) := List.drop_eq_getElem_cons hlr
      obtain ⟨sg, ver, hc⟩ : ∃ s v, l[k] = (s, v) := ⟨_, _, rfl⟩
      rw [hc] at c0 c1 hd
      have hh := HH.out
      rw [hd, hAlt_step] at hh
      dsimp only at hh c0 c1
      obtain ⟨x, hx⟩ : ∃ x, ofR sg ver = x := ⟨_, rfl⟩
      obtain ⟨y, hy⟩ : ∃ y, ofE sg ver = y := ⟨_, rfl⟩
      have HGX : Hid (Rs.Good x) := by show Rs.Good _; rw [← hx]; exact ofR_good _ _
      rw [hx, hy] at hh
      have HX := Lib.hid hx
      have HY := Lib.hid hy
      have HHH := Lib.hid hh
      have HW1 := Lib.hid (st_alloc HW.out (.cells #[.string ⟨sg.toArray⟩, .string ⟨ver.toArray⟩] 142))
      clear hd hc hh hx hy HH
      go_wp2_with fail
      refine (s_of HW1.out sg ver x y HX.out HY.out).mono ?_
      rintro _ u2 ⟨C2, n2, d2, rfl, hs⟩
      have HS2 := Lib.hid hs
      clear hs HW1 c0 c1
      by_cases hy0 : y = 0
      · subst hy0
        go_wp2_with fail
        refine (require_yes _).mono ?_
        rintro _ u3 ⟨rfl, rfl⟩
        go_wp2_with fail
        refine (s_and HS2.out 1 0 rfl rfl HG.out HGX.out _ _ _ rfl).mono ?_
        rintro _ u4 ⟨C4, n4, d4, rfl, hs⟩
        have HS4 : Hid (St w u4 [⟨C4, n4, (andR r x).map spOf⟩]) := st_two (st_two hs)
        have HG4 : Hid (Rs.Good (andR r x)) := goodA HG.out HGX.out
        have HH4 : Hid (hAlt (andR r x) (l.drop (k + 1)) = R) := by show _ = _; have h := HHH.out; first | rwa [if_pos rfl] at h | rwa [if_pos trivial] at h
        clear hs HS2
        go_wp2_with fail
        go_roundw
        case rel => exact ⟨k + 1, C4, n4, d4, andR r x, by omega, by go_num, rfl, HS4, HG4, HH4⟩
        case measure => simp [intOf]; omega
      · have hne : (y == 0) = false := by simpa using hy0
        have HRE : Hid (R = (y, [])) := by show _ = _; have h := HHH.out; rw [if_neg hy0] at h; exact h.symm
        have HY0 := Lib.hid hy0
        clear hy0
        go_wp2_with fail
        refine (require_no _).mono ?_
        rintro _ u3 ⟨rfl, rfl⟩
        go_wp2_with fail
        rw [HRE.out]
        exact ⟨rfl, fun h => absurd h HY0.out, fun _ => ⟨rfl, st_step HS.out HS2.out.2.1⟩⟩
    · obtain rfl : k = n := by omega
      have HRE : Hid (R = (0, r)) := by show _ = _; rw [← HH.out, List.drop_eq_nil_of_le (by rw [HN.out]; exact Nat.le_refl _)]; rfl
      go_wp2_with fail
      go_ret
      rw [HRE.out]
      exact ⟨fun _ => ⟨C, m, d, rfl, st_new HS.out HW.out.2.1 (st_row HW.out 0 rfl).1 (st_row HW.out 0 rfl).2⟩, fun h => absurd rfl h⟩
end Go.Proofs.YtkdildgdodnbbaaGreatDoor
namespace Go.Proofs.YtkdildgdodnbbaaGreatDoor
open Go.RowKit Rs At

theorem good_nil : Rs.Good [] := ⟨trivial, fun p hp => (by cases hp), by decide⟩
theorem hAlt_good : ∀ (l : List Cond) (r : List (Rm.P Cut)), Rs.Good r → Rs.Good (hAlt r l).2
  | [], r, h => h
  | c :: l, r, h => by
    rw [hAlt_step]
    split
    · exact hAlt_good l _ (goodA h (ofR_good _ _))
    · exact good_nil
theorem hTerm_good : ∀ (t : List (List Cond)) (r : List (Rm.P Cut)), Rs.Good r → Rs.Good (hTerm r t).2
  | [], r, h => h
  | a :: t, r, h => by
    rw [hTerm_step]
    split
    · exact hTerm_good t _ (goodO h (hAlt_good a _ goodAll))
    · exact good_nil
theorem srow_nil (w : World) (A : Option Addr) : SRow w A [] := fun h => absurd h (by simp)
set_option maxRecDepth 100000 in
set_option maxHeartbeats 3200000 in
theorem holds_any {w0 w : World} {L : List Ent} (hS : St w0 w L) (A : Option Addr) (n c : Nat) (t : List (List Cond)) (hn : t.length = n) (hr : TRow w A t) (hl : n ≤ 100000) (hv : ∀ l ∈ t, l.length ≤ 100000) :
    Calls Tryz.prog 107 #[.slice A n c] w (HoldRet w0 L (hTerm [] t)) := by
  have HR := Lib.hid hr
  have HN := Lib.hid hn
  have HV := Lib.hid hv
  obtain ⟨R, hR⟩ : ∃ R, hTerm [] t = R := ⟨_, rfl⟩
  rw [hR]
  have HRR := Lib.hid hR
  have HS0 : Hid (St w w [⟨none, 0, ([] : List (Rm.P Cut)).map spOf⟩]) := ⟨st_max hS, Below.refl _ _, fun x hx => by rw [List.mem_singleton.1 hx]; exact ⟨srow_nil _ _, rfl⟩⟩
  have HS := Lib.hid hS
  clear hr hn hR hS hv
  go_enter Tryz.func107, Tryz.ntmps107
  go_wp2_with fail
  go_loopw [3, 8] (fun v i wr => ∃ (k : Nat) (C : Option Addr) (m d : Nat) (r : List (Rm.P Cut)), k ≤ n ∧ i = .int .i64 k ∧ v = .slice C m d ∧ Hid (St w wr [⟨C, m, r.map spOf⟩]) ∧ Hid (Rs.Good r) ∧ Hid (hTerm r (t.drop k) = R)) (fun _ i _ => n - (intOf i).toNat)
  case atStart => exact ⟨0, none, 0, 0, [], Nat.zero_le _, rfl, rfl, HS0, good_nil, HRR.out⟩
  case round =>
    clear HS0
    obtain ⟨k, C, m, d, r, hk, rfl, rfl, HW, HG, HH⟩ := hrel
    by_cases hlt : k < n
    · have hlr : k < t.length := by rw [HN.out]; exact hlt
      obtain ⟨ad, C1, n1, d1, rfl, _, c0, hm1, hrow⟩ := trow_at (tRow_below HR.out HW.out.2.1) k hlr
      have hd : t.drop k = t[k] :: t.drop (k + 1) := List.drop_eq_getElem_cons hlr
      have hvl := HV.out _ (List.getElem_mem hlr)
      obtain ⟨l, hll⟩ : ∃ l, t[k] = l := ⟨_, rfl⟩
      rw [hll] at hd hm1 hrow hvl
      have hh := HH.out
      rw [hd, hTerm_step] at hh
      obtain ⟨x, hx⟩ : ∃ x, hAlt allR l = x := ⟨_, rfl⟩
      have HGX : Hid (Rs.Good x.2) := by show Rs.Good _; rw [← hx]; exact hAlt_good l _ goodAll
      rw [hx] at hh
      have HX := Lib.hid hx
      have HHH := Lib.hid hh
      have HM1 := Lib.hid hm1
      have HROW := Lib.hid hrow
      have h1l : n1 ≤ 100000 := by rw [← hm1]; exact hvl
      clear hd hll hh hx HH hm1 hrow hvl
      go_wp2_with fail
      refine (holdsAll_any HW.out C1 n1 d1 l HM1.out HROW.out h1l).mono ?_
      rw [HX.out]
      rintro e u2 ⟨hy, hnn⟩
      by_cases h0 : x.1 = 0
      · obtain ⟨C2, n2, d2, rfl, hs⟩ := hy h0
        have HS2 := Lib.hid hs
        have H0 := Lib.hid h0
        clear hs hy hnn c0 h0
        go_wp2_with fail
        refine (s_or HS2.out 1 0 rfl rfl HG.out HGX.out _ _ _ rfl).mono ?_
        rintro _ u4 ⟨C4, n4, d4, rfl, hs⟩
        have HS4 : Hid (St w u4 [⟨C4, n4, (orR r x.2).map spOf⟩]) := st_two (st_two hs)
        have HG4 : Hid (Rs.Good (orR r x.2)) := goodO HG.out HGX.out
        have HH4 : Hid (hTerm (orR r x.2) (t.drop (k + 1)) = R) := by show _ = _; have h := HHH.out; rwa [if_pos H0.out] at h
        clear hs HS2
        go_wp2_with fail
        go_roundw
        case rel => exact ⟨k + 1, C4, n4, d4, orR r x.2, by omega, by go_num, rfl, HS4, HG4, HH4⟩
        case measure => simp [intOf]; omega
      · obtain ⟨rfl, hs⟩ := hnn h0
        have HRE : Hid (R = (x.1, [])) := by show _ = _; have h := HHH.out; rw [if_neg h0] at h; exact h.symm
        have HS2 := Lib.hid hs
        have H0 := Lib.hid h0
        clear hs hy hnn c0 h0
        go_wp2_with fail
        rw [HRE.out]
        exact ⟨rfl, fun h => absurd h H0.out, fun _ => ⟨rfl, st_step HS.out HS2.out.2.1⟩⟩
    · obtain rfl : k = n := by omega
      have HRE : Hid (R = (0, r)) := by show _ = _; rw [← HH.out, List.drop_eq_nil_of_le (by rw [HN.out]; exact Nat.le_refl _)]; rfl
      go_wp2_with fail
      go_ret
      rw [HRE.out]
      exact ⟨fun _ => ⟨C, m, d, rfl, st_new HS.out HW.out.2.1 (st_row HW.out 0 rfl).1 (st_row HW.out 0 rfl).2⟩, fun h => absurd rfl h⟩
/-! What an atom must be. -/
/-- An atom's own block. -/
def Bx2 (b : Nat) (name : List UInt8) (A : Option Addr) (n c : Nat) (u : World) : Prop := u.cell? ⟨b, 0, none⟩ = some (.string ⟨name.toArray⟩) ∧ u.cell? ⟨b, 1, none⟩ = some (.slice A n c)
theorem bx2_below {b B : Nat} {name : List UInt8} {A : Option Addr} {n c : Nat} {u u' : World} (h : Bx2 b name A n c u) (hb : b < B) (hbl : Below B u u') : Bx2 b name A n c u' := by
  obtain ⟨h0, h1⟩ := h
  refine ⟨?_, ?_⟩
  · rw [hbl.cell hb]; exact h0
  · rw [hbl.cell hb]; exact h1
theorem bx2_new (w : World) (name : List UInt8) (A : Option Addr) (n c : Nat) (T : TypeId) : Bx2 w.heap.size name A n c (w.alloc (.cells #[.string ⟨name.toArray⟩, .slice A n c] T)) := by
  refine ⟨?_, ?_⟩ <;> rw [World.cell?_alloc_mark] <;> rfl
theorem conds_len (s : Sp) : (conds s).length ≤ 2 := by
  unfold conds
  split
  · show 1 ≤ 2; decide
  · have h1 : ∀ (p : Prop) [Decidable p] (c : Cond), (if p then [] else [c]).length ≤ 1 := fun p _ c => by split <;> simp
    have a1 := h1 (s.lo = []) (if s.li then [62, 61] else [62], s.lo)
    have a2 := h1 (s.hi = []) (if s.hn then [60, 61] else [60], s.hi)
    rw [List.length_append]; omega
theorem vers_le : ∀ l : List Sp, vers (termOf l) ≤ l.length * 2
  | [] => by decide
  | s :: l => by
    have h1 := vers_le l
    have h2 := conds_len s
    have e : vers (termOf (s :: l)) = (conds s).length + vers (termOf l) := rfl
    rw [e, List.length_cons]; omega
set_option maxRecDepth 100000 in
set_option maxHeartbeats 3200000 in
theorem requireAtom_any (name : List UInt8) (A : Option Addr) (n c : Nat) (l : List Sp) (w : World) (hw : MaxOk w) (hm : name.length ≤ maxLen) (hn : l.length = n) (hr : SRow w A l) (hl : n ≤ 1000) :
    Calls Tryz.prog 80 #[.agg #[.string ⟨name.toArray⟩, .slice A n c]] w fun e w' => e = okOr' (checkA ⟨name, l⟩) ∧ Below w.heap.size w w' := by
  obtain ⟨K, hK⟩ : ∃ K, checkA ⟨name, l⟩ = K := ⟨_, rfl⟩
  rw [hK]
  have HKN : Hid (nameB name = false → K = 3) := fun h => by rw [← hK]; unfold checkA; rw [if_neg (by rw [h]; decide)]
  have HKR : Hid (nameB name = true → checkR l ≠ 0 → K = checkR l) := fun h h2 => by rw [← hK]; unfold checkA; rw [if_pos h, if_neg h2]
  have HKV : Hid (nameB name = true → checkR l = 0 → K = if 16 < vers (termOf l) then 4 else 0) := fun h h2 => by rw [← hK]; unfold checkA; rw [if_pos h, if_pos h2]
  obtain ⟨b, hb⟩ : ∃ b, w.heap.size = b := ⟨_, rfl⟩
  obtain ⟨W1, hW1⟩ : ∃ W, w.alloc (.cells #[.string ⟨name.toArray⟩, .slice A n c] 32) = W := ⟨_, rfl⟩
  have HX1 : Hid (Bx2 b name A n c W1) := by rw [← hW1, ← hb]; exact bx2_new w name A n c _
  have HW1 : Hid (Below w.heap.size w W1) := by rw [← hW1]; exact (Below.refl _ _).alloc (Nat.le_refl _) _
  have HS0 : Hid (St w W1 [⟨A, n, l⟩]) := ⟨hw, HW1.out, fun x hx => by rw [List.mem_singleton.1 hx]; exact ⟨srow_below hr HW1.out, hn⟩⟩
  have hb1 : b < W1.heap.size := by rw [← hW1, ← hb]; simp
  have HNM := Lib.hid hm
  have HN := Lib.hid hn
  clear hw hr hK hm hn
  obtain ⟨k0, k1⟩ := HX1.out
  obtain ⟨nb, hnb⟩ : ∃ x, nameB name = x := ⟨_, rfl⟩
  obtain ⟨cr, hcr⟩ : ∃ x, checkR l = x := ⟨_, rfl⟩
  rw [hnb] at HKN HKR HKV
  rw [hcr] at HKR HKV
  have HNB := Lib.hid hnb
  have HCR := Lib.hid hcr
  clear hnb hcr
  go_enter Tryz.func80, Tryz.ntmps80
  go_wp2_with fail
  clear hb hW1
  refine (nameA_any name _ HNM.out).mono ?_
  rintro _ u1 ⟨rfl, rfl⟩
  rw [HNB.out]
  cases nb
  · have HK := Lib.hid (HKN.out rfl)
    go_wp2_with fail
    refine (require_no _).mono ?_
    rintro _ u2 ⟨rfl, rfl⟩
    go_wp2_with fail
    exact ⟨rfl, by rw [HK.out]; rfl, HW1.out⟩
  · have HKR2 := Lib.hid (HKR.out rfl)
    have HKV2 := Lib.hid (HKV.out rfl)
    clear HKR HKV HKN
    go_wp2_with fail
    refine (require_yes _).mono ?_
    rintro _ u2 ⟨rfl, rfl⟩
    go_wp2_with fail
    refine (rcheck_any A n c l _ (st_max HS0.out) HN.out (st_row HS0.out 0 rfl).1 hl).mono ?_
    rintro _ u3 ⟨rfl, hb3⟩
    rw [HCR.out]
    have HS3 := Lib.hid (st_step HS0.out hb3)
    have HX3 := Lib.hid (bx2_below HX1.out hb1 hb3)
    have hb4 : b < u3.heap.size := Nat.lt_of_lt_of_le hb1 hb3.size
    clear hb3 k0 k1
    obtain ⟨k0, k1⟩ := HX3.out
    by_cases hc0 : cr = 0
    · subst hc0
      have HK := Lib.hid (HKV2.out rfl)
      have hvl : vers (termOf l) ≤ 2000 := by have := vers_le l; have := HN.out; omega
      have HVL := Lib.hid hvl
      clear hvl
      go_wp2_with fail
      refine (require_yes _).mono ?_
      rintro _ u4 ⟨rfl, rfl⟩
      go_wp2_with fail
      refine (termOf_any A n c l _ HN.out (st_row HS3.out 0 rfl).1 hl).mono ?_
      rintro _ u5 ⟨C, m, d, rfl, hm, hrow, hb5⟩
      have HM := Lib.hid hm
      have HROW := Lib.hid hrow
      have HS5 := Lib.hid (st_step HS3.out hb5)
      clear hm hrow hb5
      have hml : m ≤ 1000 := by rw [← HM.out]; show (l.map conds).length ≤ 1000; rw [List.length_map, HN.out]; exact hl
      obtain ⟨x, hx⟩ : ∃ x, vers (termOf l) = x := ⟨_, rfl⟩
      rw [hx] at HK HVL
      have HX := Lib.hid hx
      clear hx
      go_wp2_with fail
      refine (versions_any C m d (termOf l) _ HM.out HROW.out (by omega) (by rw [HX.out]; have := HVL.out; omega)).mono ?_
      rintro _ u6 ⟨rfl, rfl⟩
      rw [HX.out]
      by_cases h16 : 16 < x
      · have d0 : decide ((x : Int) ≤ 16) = false := decide_eq_false (by omega)
        have HK4 : Hid (K = 4) := by show _ = _; rw [HK.out, if_pos h16]
        clear h16
        go_wp2_with fail
        refine (require_no _).mono ?_
        rintro _ u7 ⟨rfl, rfl⟩
        go_wp2_with fail
        exact ⟨rfl, by rw [HK4.out]; rfl, HS5.out.2.1⟩
      · have d0 : decide ((x : Int) ≤ 16) = true := decide_eq_true (by omega)
        have HK4 : Hid (K = 0) := by show _ = _; rw [HK.out, if_neg h16]
        clear h16
        go_wp2_with fail
        refine (require_yes _).mono ?_
        rintro _ u7 ⟨rfl, rfl⟩
        go_wp2_with fail
        go_end0
        exact ⟨by rw [HK4.out]; rfl, HS5.out.2.1⟩
    · have HK := Lib.hid (HKR2.out hc0)
      clear HKR2 HKV2
      have hne : (cr == 0) = false := by simpa using hc0
      have HC0 := Lib.hid hc0
      clear hc0
      go_wp2_with fail
      refine (require_no _).mono ?_
      rintro _ u4 ⟨rfl, rfl⟩
      go_wp2_with fail
      exact ⟨rfl, by rw [HK.out, okOr_ne HC0.out], HS3.out.2.1⟩
end Go.Proofs.YtkdildgdodnbbaaGreatDoor
namespace Go.Proofs.YtkdildgdodnbbaaGreatDoor
open Go.RowKit Rs At

theorem aCheck_panic (p : Addr) (x : Int) (n : Int) (w : World) (hc : w.cell? p = some (.int .i64 x)) (hz : w.frozen? p = false) :
    CallsD Tryz.prog 79 #[.pointer (some p)] (.panicking [{ v := .iface 27 (.int .i64 n), recovered := false }]) w fun e u' w' =>
      e = .returned (.tuple #[]) ∧ u' = .panicking [{ v := .iface 27 (.int .i64 n), recovered := true }] ∧ w' = w.setCell p (.int .i64 n) := by
  refine callsD_of_wpS Tryz.func79 rfl fun c₀ cs hu => ?_
  apply wpS_region
  simp [wpOpsS, go_sem, recoverD, hu, Tryz.ntmps79]
  refine (raised_err n _).mono ?_
  rintro e w' ⟨rfl, rfl⟩
  simp [go_sem, hc, hz, bodyPostS, results, Tryz.results79]
theorem aCheck_idle (p : Addr) (x : Int) (w : World) (hc : w.cell? p = some (.int .i64 x)) (hz : w.frozen? p = false) :
    CallsD Tryz.prog 79 #[.pointer (some p)] .returning w fun e u' w' => e = .returned (.tuple #[]) ∧ u' = .returning ∧ w' = w.setCell p (.int .i64 0) := by
  refine callsD_of_wpS Tryz.func79 rfl fun c₀ cs hu => ?_
  apply wpS_region
  simp [wpOpsS, go_sem, recoverD, hu, Tryz.ntmps79]
  refine (raised_nil _).mono ?_
  rintro e w' ⟨rfl, rfl⟩
  cases c₀
  simp_all [go_sem, bodyPostS, results, Tryz.results79]
theorem aParse_panic (p : Addr) (x : Int) (n : Int) (w : World) (hc : w.cell? p = some (.int .i64 x)) (hz : w.frozen? p = false) :
    CallsD Tryz.prog 105 #[.pointer (some p)] (.panicking [{ v := .iface 27 (.int .i64 n), recovered := false }]) w fun e u' w' =>
      e = .returned (.tuple #[]) ∧ u' = .panicking [{ v := .iface 27 (.int .i64 n), recovered := true }] ∧ w' = w.setCell p (.int .i64 n) := by
  refine callsD_of_wpS Tryz.func105 rfl fun c₀ cs hu => ?_
  apply wpS_region
  simp [wpOpsS, go_sem, recoverD, hu, Tryz.ntmps105]
  refine (raised_err n _).mono ?_
  rintro e w' ⟨rfl, rfl⟩
  simp [go_sem, hc, hz, bodyPostS, results, Tryz.results105]
theorem aParse_idle (p : Addr) (x : Int) (w : World) (hc : w.cell? p = some (.int .i64 x)) (hz : w.frozen? p = false) :
    CallsD Tryz.prog 105 #[.pointer (some p)] .returning w fun e u' w' => e = .returned (.tuple #[]) ∧ u' = .returning ∧ w' = w.setCell p (.int .i64 0) := by
  refine callsD_of_wpS Tryz.func105 rfl fun c₀ cs hu => ?_
  apply wpS_region
  simp [wpOpsS, go_sem, recoverD, hu, Tryz.ntmps105]
  refine (raised_nil _).mono ?_
  rintro e w' ⟨rfl, rfl⟩
  cases c₀
  simp_all [go_sem, bodyPostS, results, Tryz.results105]
set_option maxRecDepth 100000 in
set_option maxHeartbeats 1600000 in
theorem atomCheck_any (name : List UInt8) (A : Option Addr) (n c : Nat) (l : List Sp) (w : World) (hw : MaxOk w) (hm : name.length ≤ maxLen) (hn : l.length = n) (hr : SRow w A l) (hl : n ≤ 1000) :
    Calls Tryz.prog 53 #[.agg #[.string ⟨name.toArray⟩, .slice A n c]] w fun e w' => e = .returned (.int .i64 (checkA ⟨name, l⟩)) ∧ Below w.heap.size w w' := by
  have hmf : ∀ (fn : Fn) (first cap : Array Value) (w : World), (Instr.makeFunc fn first cap).run Tryz.prog w = .ok (.func fn first cap) w := fun _ _ _ _ => rfl
  obtain ⟨K, hK⟩ : ∃ K, checkA ⟨name, l⟩ = K := ⟨_, rfl⟩
  rw [hK]
  obtain ⟨W1, hW1⟩ : ∃ W, w.alloc (.cells #[.string ⟨name.toArray⟩, .slice A n c] 32) = W := ⟨_, rfl⟩
  have HX1 : Hid (Bx2 w.heap.size name A n c W1) := by rw [← hW1]; exact bx2_new w name A n c _
  have HW1 := Lib.hid (alloc_low hW1)
  have hs1 : W1.heap.size = w.heap.size + 1 := by rw [← hW1]; simp
  obtain ⟨W2, hW2⟩ : ∃ W, W1.alloc (.cells #[.int .i64 0] 27) = W := ⟨_, rfl⟩
  have HW2 := Lib.hid (alloc_low hW2)
  have HX2 : Hid (Bx2 w.heap.size name A n c W2) := bx2_below HX1.out (by omega) HW2.out
  have HB2 : Hid (Below w.heap.size w W2) := HW1.out.trans (HW2.out.mono HW1.out.size)
  have HM2 : Hid (MaxOk W2) := maxOk_below hw HB2.out
  have HR2 : Hid (SRow W2 A l) := srow_below hr HB2.out
  have HN := Lib.hid hn
  have HNM := Lib.hid hm
  have HK := Lib.hid hK
  have hq := HW2
  obtain ⟨k0, k1⟩ := HX2.out
  have HE2 := Lib.hid hW2
  clear hw hr hK hn hm hq HX1
  go_enter_defers Tryz.func53, Tryz.ntmps53
  go_wp2_with fail
  have HS1 := Lib.hid hs1
  clear hW1 hW2 hs1
  refine (requireAtom_any name A n c l _ HM2.out HNM.out HN.out HR2.out hl).mono ?_
  rintro _ w1 ⟨rfl, hb⟩
  rw [HK.out]
  have hb1 : Below (W1.heap.size + 1) (W1.alloc (.cells #[.int .i64 0] 27)) w1 := by have h := hb; rw [← HE2.out] at h; simpa using h
  obtain ⟨hcell, hfro⟩ := cell_int W1 w1 _ _ hb1
  have HBW : Hid (Below w.heap.size w w1) := HB2.out.trans (hb.mono HB2.out.size)
  rw [HS1.out] at hcell hfro
  clear hb hb1 k0 k1
  by_cases hk : K = 0
  · subst hk
    rw [okOr_zero]
    go_wp2_with fail
    refine leaves_cons (f := 79) (args := #[.pointer (some ⟨w.heap.size + 1, 0, none⟩)]) (by simp) (by simp [go_sem]) ?_
    refine (aCheck_idle ⟨w.heap.size + 1, 0, none⟩ 0 _ ?_ ?_).mono ?_
    · simp [go_sem, hcell]
    · simp [go_sem, hfro]
    rintro e u' w3 ⟨rfl, rfl, rfl⟩
    simp [Leaves, settle, results, Tryz.results53, go_sem, hcell]
    exact (HBW.out.setCell (Nat.le_succ _) _).setCell (Nat.le_succ _) _
  · rw [okOr_ne hk]
    go_wp2_with fail
    refine leaves_cons (f := 79) (args := #[.pointer (some ⟨w.heap.size + 1, 0, none⟩)]) (by simp) (by simp [go_sem]) ?_
    refine (aCheck_panic ⟨w.heap.size + 1, 0, none⟩ 0 _ _ ?_ ?_).mono ?_
    · simp [go_sem, hcell]
    · simp [go_sem, hfro]
    rintro e u' w3 ⟨rfl, rfl, rfl⟩
    simp [Leaves, settle, results, Tryz.results53, go_sem, hcell]
    exact HBW.out.setCell (Nat.le_succ _) _
set_option maxRecDepth 100000 in
set_option maxHeartbeats 1600000 in
theorem atomSame_any (na nb : List UInt8) (A B : Option Addr) (n m c d : Nat) (l k : List Sp) (w : World) (hn : l.length = n) (hm : k.length = m) (hr : SRow w A l) (hq : SRow w B k) (hl : n ≤ 1000) (hk : m ≤ 1000) :
    Calls Tryz.prog 60 #[.agg #[.string ⟨na.toArray⟩, .slice A n c], .agg #[.string ⟨nb.toArray⟩, .slice B m d]] w fun e w' => e = .returned (.bool (decide ((⟨na, l⟩ : Atm) = ⟨nb, k⟩))) ∧ Below w.heap.size w w' := by
  obtain ⟨R, hR⟩ : ∃ R, decide ((⟨na, l⟩ : Atm) = ⟨nb, k⟩) = R := ⟨_, rfl⟩
  rw [hR]
  have hb2 : Below w.heap.size w ((w.alloc (.cells #[.string ⟨na.toArray⟩, .slice A n c] 32)).alloc (.cells #[.string ⟨nb.toArray⟩, .slice B m d] 32)) := ((Below.refl _ _).alloc (Nat.le_refl _) _).alloc (by simp) _
  have HB := Lib.hid hb2
  have HR := Lib.hid (srow_below hr hb2)
  have HQ := Lib.hid (srow_below hq hb2)
  subst hn hm
  clear hb2 hr hq
  cases he : na == nb
  · have HF : Hid (R = false) := by
      show _ = _; rw [← hR]; refine decide_eq_false fun e => ?_
      have := (Atm.mk.inj e).1
      rw [this] at he; simp at he
    clear hR
    go_enter Tryz.func60, Tryz.ntmps60
    go_wp2_with fail
    go_ret
    exact ⟨by rw [HF.out]; rfl, HB.out⟩
  · have HT : Hid (R = decide (l = k)) := by
      show _ = _; rw [← hR]
      have e1 : na = nb := by simpa using he
      rw [Bool.eq_iff_iff]; simp [e1]
    clear hR
    go_enter Tryz.func60, Tryz.ntmps60
    go_wp2_with fail
    refine (same_any A c l B d k _ HR.out HQ.out (by omega) (by omega)).mono ?_
    rintro _ u ⟨rfl, hb⟩
    have HBU : Hid (Below w.heap.size w u) := HB.out.trans (hb.mono HB.out.size)
    rw [← HT.out]
    clear hb
    go_wp2_with fail
    go_ret
    exact ⟨rfl, HBU.out⟩
end Go.Proofs.YtkdildgdodnbbaaGreatDoor
