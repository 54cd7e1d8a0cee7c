/- Part 22 of what the laws lean on. -/
import Derived.Test.YtkplahkkmmoppaaGreatDoorK21
set_option maxRecDepth 100000
set_option maxHeartbeats 6400000
namespace Go.Proofs.YtkplahkkmmoppaaGreatDoor
open Go.RowKit Go.Maps Sz
attribute [local go_sem ↓] Go.wp_at_zero Go.wp_at_succ
theorem Sz.s5_order {u : World} (A : Option Addr) (n c : Nat) (l : List Fld) (B : Option Addr) (m d : Nat) (ks : List (List UInt8)) (hn : l.length = n) (hr : Rg.Row encF 3 u A l) (hl : n ≤ 100000) (hs : Short l) (hm : ks.length = m) (hk : Rg.Row encT 1 u B ks) (hml : m ≤ 100000) (hks : ShortT ks) {i e0 : Int} (hX : ordP ks 0 (-1) l = (i, e0)) :
  Calls Tryz.prog 108 #[.slice A n c, .slice B m d] u fun e w' => e = .returned (.tuple #[.int .i64 i, .int .i64 e0]) ∧ Below u.heap.size u w' :=
 (stanzaOrder_any A n c l B m d ks u hn hr hl hs hm hk hml hks).mono fun e w' ⟨he, hb⟩ => by
  rw [hX] at he
  exact ⟨he, hb⟩
theorem Sz.short_of {l : List Fld} (h : l.all (fun f => decide (f.key.length ≤ 140737488355328) && decide (f.val.length ≤ 140737488355328)) = true) : Short l := fun f hf => by
 have := List.all_eq_true.1 h f hf
 rw [Bool.and_eq_true, decide_eq_true_eq, decide_eq_true_eq] at this
 exact this
theorem Sz.below_alloc {w u : World} {B : Nat} (h : Below B w u) (hB : B ≤ w.heap.size) (o : Obj) : Below B w (u.alloc o) := h.alloc (Nat.le_trans hB h.size) _
theorem Sz.shortT_of {l : List (List UInt8)} (h : l.all (fun k => decide (k.length ≤ 140737488355328)) = true) : ShortT l := fun k hk => by
 have := List.all_eq_true.1 h k hk
 rwa [decide_eq_true_eq] at this
theorem Sz.s5_print {u : World} (A : Option Addr) (n c : Nat) (t : List (List Fld)) (hn : t.length = n) (hr : Gr.Row encF 3 u A t) (hl : n ≤ 1000000) (hls : ∀ l ∈ t, l.length ≤ 1000000) {T : List UInt8} (hT : textS t = T) (ht : T.length ≤ 1000000) :
  Calls Tryz.prog 35 #[.slice A n c] u fun e w' => e = .returned (.string ⟨T.toArray⟩) ∧ Below u.heap.size u w' :=
 (stanzaPrint_any A n c t u hn hr hl hls (by rw [hT]; exact ht)).mono fun e w' ⟨he, hb⟩ => by
  rw [hT] at he; exact ⟨he, hb⟩
theorem Rg.row_new {α : Type} {enc : α → List Value} {K : Nat} (hf : Rg.Fits enc K) (w : World) (T : TypeId) (l : List α) (cs : Array Value) (h : cs.toList = Rg.flat enc l) {b : Nat} (hb : w.heap.size = b) : Rg.Row enc K (w.alloc (.cells cs T)) (some ⟨b, 0, none⟩) l := by
 subst hb
 intro _
 refine ⟨_, rfl, by simp, fun i hi j v hv => ?_⟩
 have hj : j < K := by rw [← hf.len l[i]]; exact (List.getElem?_eq_some_iff.1 hv).1
 rw [← Rg.add_j]
 exact Rg.news_new w T l cs h _ _ ((Rg.flat_get hf l i hi j hj).trans hv)
end Go.Proofs.YtkplahkkmmoppaaGreatDoor
namespace Go.Proofs.YtkplahkkmmoppaaGreatDoor
open Go.RowKit Rs At Pg
namespace Pg
theorem pRows_mono {B B' : Nat} {u : World} {p : Pk} {D C G : Option Addr} (h : PRows B u p D C G) (hB : B' ≤ B) : PRows B' u p D C G :=
 ⟨⟨drowF_mono h.1.1 hB, fun a ha => Nat.le_trans hB (h.1.2 a ha)⟩, ⟨h.2.1.1, fun a ha => Nat.le_trans hB (h.2.1.2 a ha)⟩, ⟨h.2.2.1, fun a ha => Nat.le_trans hB (h.2.2.2 a ha)⟩⟩
abbrev zeroC : Array Value := #[.string ⟨#[]⟩, .string ⟨#[]⟩, .slice none 0 0, .slice none 0 0, .slice none 0 0, .float .f64 0]
theorem zero_rows (B : Nat) (u : World) : PRows B u zeroP none none none :=
 ⟨⟨⟨[], fun h => absurd h (by decide), ⟨rfl, fun i a d h => by simp at h⟩, fun i a h => by simp at h⟩, fun a h => by cases h⟩, ⟨⟨[], fun h => absurd h (by decide), ⟨rfl, fun i a d h => by simp at h⟩⟩, fun a h => by cases h⟩, ⟨fun h => absurd h (by decide), fun a h => by cases h⟩⟩
theorem pblk_new {T : TypeId} {w W : World} (h : w.alloc (.cells zeroC T) = W) : PBlk T w.heap.size (w.heap.size + 1) zeroP W :=
 ⟨none, 0, none, 0, none, 0, by rw [← h]; exact heap_alloc_new w _, zero_rows _ _⟩
abbrev stP (u : World) (b : Nat) (p : Pk) (D C G : Option Addr) (dc cc gc : Nat) : World :=
 (((((u.setCell ⟨b, 0, none⟩ (.string ⟨p.name.toArray⟩)).setCell ⟨b, 1, none⟩ (.string ⟨p.ver.toArray⟩)).setCell ⟨b, 2, none⟩ (.slice D p.deps.length dc)).setCell ⟨b, 3, none⟩ (.slice C p.confl.length cc)).setCell ⟨b, 4, none⟩ (.slice G p.prov.length gc)).setCell ⟨b, 5, none⟩ (.float .f64 p.wt)
theorem stP_heap {u : World} {b : Nat} {T : TypeId} (h : u.heap[b]? = some (.cells zeroC T (0, 0))) (p : Pk) (D C G : Option Addr) (dc cc gc : Nat) : (stP u b p D C G dc cc gc).heap[b]? = some (.cells (pCells p D C G dc cc gc) T (0, 0)) := by
 unfold stP
 exact (set_heap (set_heap (set_heap (set_heap (set_heap (set_heap h)))))).trans rfl
theorem stP_but (u : World) (b : Nat) (p : Pk) (D C G : Option Addr) (dc cc gc : Nat) : But (some b) u (stP u b p D C G dc cc gc) :=
 but_trans (but_trans (but_trans (but_trans (but_trans (but_set u ⟨b, 0, none⟩ _) (but_set _ ⟨b, 1, none⟩ _)) (but_set _ ⟨b, 2, none⟩ _)) (but_set _ ⟨b, 3, none⟩ _)) (but_set _ ⟨b, 4, none⟩ _)) (but_set _ ⟨b, 5, none⟩ _)
theorem zero_nob {T : TypeId} {b : Nat} {u : World} (h : u.heap[b]? = some (.cells zeroC T (0, 0))) : ∀ j x, u.cell? ⟨b, j, none⟩ = some x → NoB x := six_nob (p := zeroP) (D := none) (C := none) (G := none) (dc := 0) (cc := 0) (gc := 0) h
theorem stP_below {B : Nat} {w u : World} {b : Nat} (h : Below B w u) (hb : B ≤ b) (p : Pk) (D C G : Option Addr) (dc cc gc : Nat) : Below B w (stP u b p D C G dc cc gc) :=
 (((((h.setCell (p := ⟨b, 0, none⟩) hb _).setCell (p := ⟨b, 1, none⟩) hb _).setCell (p := ⟨b, 2, none⟩) hb _).setCell (p := ⟨b, 3, none⟩) hb _).setCell (p := ⟨b, 4, none⟩) hb _).setCell (p := ⟨b, 5, none⟩) hb _
theorem six_cells {u : World} {b : Nat} {T : TypeId} {x0 x1 x2 x3 x4 x5 : Value} (h : u.heap[b]? = some (.cells #[x0, x1, x2, x3, x4, x5] T (0, 0))) : u.cell? ⟨b, 0, none⟩ = some x0 ∧ u.cell? ⟨b, 1, none⟩ = some x1 ∧ u.cell? ⟨b, 2, none⟩ = some x2 ∧ u.cell? ⟨b, 3, none⟩ = some x3 ∧ u.cell? ⟨b, 4, none⟩ = some x4 ∧ u.cell? ⟨b, 5, none⟩ = some x5 := by
 refine ⟨?_, ?_, ?_, ?_, ?_, ?_⟩ <;> simp [World.cell?, h]
theorem six_free {u : World} {b : Nat} {T : TypeId} {cs : Array Value} (h : u.heap[b]? = some (.cells cs T (0, 0))) (j : Nat) : u.frozen? ⟨b, j, none⟩ = false := by
 simp [World.frozen?, h]
end Pg
def Pg.ReadRet (w : World) (R : Except (Int × Int) Pk) (e : Ending) (w' : World) : Prop := Below w.heap.size w w' ∧ match R with
 | .ok p => ∃ D dc C cc G gc, e = .returned (.agg (pCells p D C G dc cc gc)) ∧ PRows w.heap.size w' p D C G
 | .error x => e = panAt x.1 x.2
theorem Pg.res_read {u : World} {b : Nat} (h : u.heap[b]? = some (.cells zeroC 34 (0, 0))) (p : Pk) (D C G : Option Addr) (dc cc gc : Nat) {tmps : Array Value} (ht : tmps.getD 2 undef = .pointer (some ⟨b, 0, none⟩)) :
  (results Tryz.f61 tmps).run Tryz.prog (stP u b p D C G dc cc gc) = .ok (.agg (pCells p D C G dc cc gc)) (stP u b p D C G dc cc gc) := by
 obtain ⟨g0, g1, g2, g3, g4, g5⟩ := six_cells (stP_heap h p D C G dc cc gc)
 have hr : Tryz.f61.results = #[.cell 2 34] := Tryz.results61
 simp only [results, hr]
 generalize stP u b p D C G dc cc gc = V at *
 simp only [Array.getD_eq_getD_getElem?] at ht ⊢
 simp [go_sem, ht, g0, g1, g2, g3, g4, g5]
attribute [local go_sem ↓] Go.wp_at_zero Go.wp_at_succ
attribute [local go_sem] Pg.run_store_float
theorem pkgRead_any (A : Option Addr) (n c : Nat) (l : List Sz.Fld) (w : World) (hk : KOk w) (hn : l.length = n) (hr : Rg.Row Sz.encF 3 w A l) (hl : n ≤ 1000) (hs : Sz.Short l) (hv : ∀ f ∈ l, f.val.length ≤ 1000) :
  Calls Tryz.prog 61 #[.slice A n c] w (Pg.ReadRet w (readP l)) := by
 obtain ⟨R, hR⟩ : ∃ R, readP l = R := ⟨_, rfl⟩
 rw [hR]
 unfold readP at hR
 obtain ⟨W1, hW1⟩ : ∃ W, w.alloc (.cells zeroC 34) = W := ⟨_, rfl⟩
 have HW1 : Hid (Below w.heap.size w W1) := alloc_low hW1
 have HZ : Hid (∀ u, Below W1.heap.size W1 u → u.heap[w.heap.size]? = some (.cells zeroC 34 (0, 0))) := fun u hb => (hb.block _ (by rw [← hW1]; simp)).trans (by rw [← hW1]; exact heap_alloc_new w _)
 obtain ⟨b1, hb1⟩ : ∃ b, W1.heap.size = b := ⟨_, rfl⟩
 obtain ⟨W2, hW2⟩ : ∃ W, W1.alloc (.cells #[.string ⟨#[80, 97, 99, 107, 97, 103, 101]⟩, .string ⟨#[86, 101, 114, 115, 105, 111, 110]⟩, .string ⟨#[68, 101, 112, 101, 110, 100, 115]⟩, .string ⟨#[67, 111, 110, 102, 108, 105, 99, 116, 115]⟩, .string ⟨#[80, 114, 111, 118, 105, 100, 101, 115]⟩, .string ⟨#[87, 101, 105, 103, 104, 116]⟩] 9) = W := ⟨_, rfl⟩
 have HW12 : Hid (Below W1.heap.size W1 W2) := alloc_low hW2
 have HW2 : Hid (Below w.heap.size w W2) := HW1.out.trans (HW12.out.mono HW1.out.size)
 have hkr : Rg.Row encT 1 W2 (some ⟨b1, 0, none⟩) keys6 := by rw [← hW2]; exact Rg.row_new fitsT W1 9 keys6 _ rfl hb1
 obtain ⟨X, hX⟩ : ∃ X, Sz.ordP keys6 0 (-1) l = X := ⟨_, rfl⟩
 rw [hX] at hR
 obtain ⟨i0, e0⟩ := X
 dsimp only at hR
 have HO := Lib.hid (Sz.s5_order (u := W2) A n c l (some ⟨b1, 0, none⟩) 6 6 keys6 hn (Rg.row_below hr HW2.out) (Nat.le_trans hl (by decide)) hs rfl hkr (by decide) (Sz.shortT_of (by decide +kernel)) hX)
 have HS := Lib.hid hs
 have HV := Lib.hid hv
 have HN := Lib.hid hn
 have HR0 := Lib.hid hr
 have HL := Lib.hid hl
 have HK := Lib.hid hk
 have HR := Lib.hid hR
 have HB1 : Hid (w.heap.size < b1) := by rw [← hb1, ← hW1]; show _ < _; simp
 have HSZ1 := Lib.hid hb1
 clear hR hs hv hn hr hl hk hX hkr
 go_enter Tryz.func61, Tryz.ntmps61
 go_wp2_with fail
 clear hW1 hW2 hb1
 refine HO.out.mono ?_
 rintro _ u1 ⟨rfl, hb⟩
 have HU1 : Hid (Below W1.heap.size W1 u1) := HW12.out.trans (hb.mono HW12.out.size)
 have HWU1 : Hid (Below w.heap.size w u1) := HW2.out.trans (hb.mono HW2.out.size)
 clear hb HO
 by_cases he : e0 = 0
 case neg =>
  have HF : Hid (R = .error (i0, e0)) := by show _ = _; rw [← HR.out, if_neg he]
  have d0 : (e0 == 0) = false := beq_eq_false_iff_ne.2 he
  clear he
  go_wp2_with fail
  refine (requireAt_no _).mono ?_
  rintro _ u2 ⟨rfl, rfl⟩
  go_wp2_with fail
  exact ⟨rfl, HWU1.out, by rw [HF.out]⟩
 subst he
 have HR2 : Hid ((if ((Sz.getF l kPkg).isSome && (Sz.getF l kVer).isSome) = true then readR 0 zeroP l else .error (0, 10)) = R) := by show _ = _; rw [← HR.out]; rfl
 have HH1 : Hid (∀ u, Below w.heap.size w u → Calls Tryz.prog 110 #[.slice A n c, .string ⟨#[80, 97, 99, 107, 97, 103, 101]⟩] u fun e w' => e = .returned (.bool (Sz.getF l kPkg).isSome) ∧ Below u.heap.size u w') := fun u hb => pkgHas_any A n c l kPkg u HN.out (Rg.row_below HR0.out hb) (Nat.le_trans HL.out (by decide)) HS.out
 have HH2 : Hid (∀ u, Below w.heap.size w u → Calls Tryz.prog 110 #[.slice A n c, .string ⟨#[86, 101, 114, 115, 105, 111, 110]⟩] u fun e w' => e = .returned (.bool (Sz.getF l kVer).isSome) ∧ Below u.heap.size u w') := fun u hb => pkgHas_any A n c l kVer u HN.out (Rg.row_below HR0.out hb) (Nat.le_trans HL.out (by decide)) HS.out
 obtain ⟨x, hx⟩ : ∃ x, (Sz.getF l kPkg).isSome = x := ⟨_, rfl⟩
 obtain ⟨y, hy⟩ : ∃ x, (Sz.getF l kVer).isSome = x := ⟨_, rfl⟩
 rw [hx, hy] at HR2
 rw [hx] at HH1
 rw [hy] at HH2
 clear hx hy HR
 go_wp2_with fail
 refine (requireAt_yes _).mono ?_
 rintro _ u2 ⟨rfl, rfl⟩
 go_wp2_with fail
 refine (HH1.out _ HWU1.out).mono ?_
 rintro _ u2 ⟨rfl, hb⟩
 have HU2 : Hid (Below W1.heap.size W1 u2) := HU1.out.trans (hb.mono HU1.out.size)
 have HWU2 : Hid (Below w.heap.size w u2) := HWU1.out.trans (hb.mono HWU1.out.size)
 clear hb HH1 HU1 HWU1
 cases x
 ·have HF : Hid (R = .error (0, 10)) := HR2.out.symm
  go_wp2_with fail
  refine (requireAt_no _).mono ?_
  rintro _ u3 ⟨rfl, rfl⟩
  go_wp2_with fail
  exact ⟨rfl, HWU2.out, by rw [HF.out]⟩
 go_wp2_with fail
 refine (HH2.out _ HWU2.out).mono ?_
 rintro _ u3 ⟨rfl, hb⟩
 have HU3 : Hid (Below W1.heap.size W1 u3) := HU2.out.trans (hb.mono HU2.out.size)
 have HWU3 : Hid (Below w.heap.size w u3) := HWU2.out.trans (hb.mono HWU2.out.size)
 clear hb HH2 HU2 HWU2
 cases y
 ·have HF : Hid (R = .error (0, 10)) := HR2.out.symm
  go_wp2_with fail
  refine (requireAt_no _).mono ?_
  rintro _ u3 ⟨rfl, rfl⟩
  go_wp2_with fail
  exact ⟨rfl, HWU3.out, by rw [HF.out]⟩
 have HR3 : Hid (readR 0 zeroP l = R) := HR2.out
 clear HR2
 go_wp2_with fail
 refine (requireAt_yes _).mono ?_
 rintro _ u4 ⟨rfl, rfl⟩
 obtain ⟨b, hb⟩ : ∃ b, u3.heap.size = b := ⟨_, rfl⟩
 obtain ⟨U, hU⟩ : ∃ U, u3.alloc (.cells zeroC 34) = U := ⟨_, rfl⟩
 have HPB : Hid (PBlk 34 b (b + 1) zeroP U) := by rw [← hb]; exact pblk_new hU
 have HUb : Hid (Below W1.heap.size W1 U ∧ Below w.heap.size w U) := ⟨HU3.out.trans ((alloc_low hU).mono HU3.out.size), HWU3.out.trans ((alloc_low hU).mono HWU3.out.size)⟩
 have HSB : Hid (W1.heap.size ≤ b ∧ w.heap.size ≤ b ∧ U.heap.size = b + 1) := ⟨by rw [← hb]; exact HU3.out.size, by rw [← hb]; exact HWU3.out.size, by rw [← hU, ← hb]; simp⟩
 clear HU3 HWU3
 go_wp2_with fail
 clear hU hb
 go_loopw [28] (fun i wr => ∃ (k : Nat) (p : Pk), k ≤ n ∧ i = .int .i64 k ∧ Hid (PBlk 34 b (b + 1) p wr) ∧ Hid (Below b U wr ∧ b + 1 ≤ wr.heap.size) ∧ Hid (readR k p (l.drop k) = R)) (fun i _ => n - (intOf i).toNat)
 case atStart => exact ⟨0, zeroP, Nat.zero_le _, rfl, HPB, ⟨Below.refl _ _, Nat.le_of_eq HSB.out.2.2.symm⟩, by show readR _ _ (l.drop 0) = R; rw [List.drop_zero, HR3.out]⟩
 case round =>
  obtain ⟨k, p, hk, rfl, HP, HBW, HE⟩ := hrel
  have HWW : Hid (Below w.heap.size w wr) := HUb.out.2.trans (HBW.out.1.mono HSB.out.2.1)
  have HL2 := HL.out
  by_cases hlt : k < n
  ·have HLT := Lib.hid hlt
   have hlr : k < l.length := by rw [HN.out]; exact hlt
   obtain ⟨ad, rfl, _, q0, q1, q2⟩ := Sz.field_at (Rg.row_below HR0.out HWW.out) k hlr
   have hvv := HV.out _ (List.getElem_mem hlr)
   have he := HE.out
   rw [List.drop_eq_getElem_cons hlr] at he
   obtain ⟨f, hf⟩ : ∃ f, l[k] = f := ⟨_, rfl⟩
   rw [hf] at hvv he q0 q1 q2
   obtain ⟨fk, fv, fl⟩ := f
   dsimp only at hvv q0 q1 q2
   obtain ⟨V, hV⟩ : ∃ V, wr.alloc (.cells #[.string ⟨fk.toArray⟩, .string ⟨fv.toArray⟩, .int .i64 fl] 82) = V := ⟨_, rfl⟩
   have HVB : Hid (Below wr.heap.size wr V) := alloc_low hV
   have HPV := Lib.hid (pblk_below HP.out HVB.out)
   have HBV : Hid (Below b U V ∧ b + 1 ≤ V.heap.size) := ⟨HBW.out.1.trans (HVB.out.mono (Nat.le_trans (Nat.le_succ _) HBW.out.2)), Nat.le_trans HBW.out.2 HVB.out.size⟩
   obtain ⟨v0, v1, v2, _⟩ := Sz.tri_cells (Sz.tri_new hV)
   have HT := Lib.hid (pkgTake_any b (b + 1) fk fv k p V (kOk_below HK.out (HWW.out.trans (HVB.out.mono HWW.out.size))) HPV.out (Nat.lt_succ_self b) HBV.out.2 hvv)
   obtain ⟨E, hE⟩ : ∃ E, takeR p fk fv = E := ⟨_, rfl⟩
   rw [hE] at HT
   cases E with
   | error e =>
    have HF : Hid (R = .error ((k : Int), e)) := by show _ = _; rw [← he]; exact readR_error hE
    clear he hf hvv hE
    go_wp2_with fail
    refine HT.out.mono ?_
    rintro r u5 ⟨hb5, rfl⟩
    have HU5 : Hid (Below w.heap.size w u5) := HUb.out.2.trans ((HBV.out.1.trans hb5).mono HSB.out.2.1)
    clear hb5
    go_wp2_with fail
    exact ⟨rfl, HU5.out, by rw [HF.out]⟩
   | ok q =>
    have HE2 : Hid (readR (k + 1) q (l.drop (k + 1)) = R) := by show _ = _; rw [← he]; exact (readR_ok (f := ⟨fk, fv, fl⟩) hE).symm
    clear he hf hvv hE
    go_wp2_with fail
    refine HT.out.mono ?_
    rintro r u5 ⟨hb5, rfl, hp5⟩
    have HP5 := Lib.hid hp5
    have HB5 : Hid (Below b U u5 ∧ b + 1 ≤ u5.heap.size) := ⟨HBV.out.1.trans hb5, Nat.le_trans HBV.out.2 hb5.size⟩
    clear hb5 hp5 HT HP HPV HBW HBV hV v0 v1 v2 q0 q1 q2
    go_wp2_with fail
    go_roundw
    case rel => exact ⟨k + 1, q, (by have := HLT.out; omega), by go_num, HP5, HB5, HE2⟩
    case measure => have := HLT.out; simp [intOf]; omega
  ·obtain rfl : k = n := by omega
   have HF : Hid (R = .ok p) := by show _ = _; rw [← HE.out, List.drop_eq_nil_of_le (by rw [HN.out]; exact Nat.le_refl _)]; rfl
   obtain ⟨D, dc, C, cc, G, gc, h1, h2⟩ := HP.out
   obtain ⟨g0, g1, g2, g3, g4, g5⟩ := six_cells h1
   have HPR := Lib.hid h2
   have HZR : Hid (wr.heap[w.heap.size]? = some (.cells zeroC 34 (0, 0))) := HZ.out _ (HUb.out.1.trans (HBW.out.1.mono HSB.out.1))
   obtain ⟨k0, k1, k2, k3, k4, k5⟩ := six_cells HZR.out
   have z0 := six_free HZR.out 0
   have z1 := six_free HZR.out 1
   have z2 := six_free HZR.out 2
   have z3 := six_free HZR.out 3
   have z4 := six_free HZR.out 4
   have z5 := six_free HZR.out 5
   clear h1 h2
   go_wp2_with fail
   (try simp only [Exit.inBlock, Exit.then])
   refine bodyPost_ret (res_read HZR.out p D C G dc cc gc rfl) rfl ?_
   refine ⟨stP_below HWW.out (Nat.le_refl _) p D C G dc cc gc, ?_⟩
   rw [HF.out]
   exact ⟨D, dc, C, cc, G, gc, rfl, pRows_mono (pRows_but HPR.out (stP_but wr w.heap.size p D C G dc cc gc) (Nat.lt_succ_of_le HSB.out.2.1) (zero_nob HZR.out)) (Nat.le_succ_of_le HSB.out.2.1)⟩
end Go.Proofs.YtkplahkkmmoppaaGreatDoor
namespace Go.Proofs.YtkplahkkmmoppaaGreatDoor
open Go.RowKit Rs At Pg
attribute [local go_sem ↓] Go.wp_at_zero Go.wp_at_succ
attribute [local go_sem] Pg.run_store_float
theorem pFrom_placed (p q : Addr) (x y k n : Int) (w : World) (hc : ∀ u, Below w.heap.size w u → u.cell? p = some (.int .i64 x)) (hz : ∀ u, Below w.heap.size w u → u.frozen? p = false) (hc2 : ∀ u, Below w.heap.size w u → (u.setCell p (.int .i64 k)).cell? q = some (.int .i64 y)) (hz2 : ∀ u, Below w.heap.size w u → (u.setCell p (.int .i64 k)).frozen? q = false) :
  CallsD Tryz.prog 59 #[.pointer (some p), .pointer (some q)] (.panicking [{ v := .iface 164 (.agg #[.int .i64 k, .int .i64 n]), recovered := false }]) w fun e u' w' =>
   e = .returned (.tuple #[]) ∧ u' = .panicking [{ v := .iface 164 (.agg #[.int .i64 k, .int .i64 n]), recovered := true }] ∧ ∃ u, Below w.heap.size w u ∧ w' = (u.setCell p (.int .i64 k)).setCell q (.int .i64 n) := by
 refine callsD_of_wpS Tryz.func59 rfl fun c₀ cs hu => ?_
 apply wpS_region
 simp [wpOpsS, go_sem, recoverD, hu, Tryz.ntmps59]
 refine (raisedAt_placed k n _).mono ?_
 rintro e w' ⟨rfl, hb⟩
 simp [go_sem, hc _ hb, hz _ hb, hc2 _ hb, hz2 _ hb, bodyPostS, results, Tryz.results59]
 exact ⟨w', hb, rfl⟩
theorem pFrom_idle (p q : Addr) (x y : Int) (w : World) (hc : w.cell? p = some (.int .i64 x)) (hz : w.frozen? p = false) (hc2 : (w.setCell p (.int .i64 0)).cell? q = some (.int .i64 y)) (hz2 : (w.setCell p (.int .i64 0)).frozen? q = false) :
  CallsD Tryz.prog 59 #[.pointer (some p), .pointer (some q)] .returning w fun e u' w' => e = .returned (.tuple #[]) ∧ u' = .returning ∧ w' = (w.setCell p (.int .i64 0)).setCell q (.int .i64 0) := by
 refine callsD_of_wpS Tryz.func59 rfl fun c₀ cs hu => ?_
 apply wpS_region
 simp [wpOpsS, go_sem, recoverD, hu, Tryz.ntmps59]
 refine (raisedAt_nil _).mono ?_
 rintro e w' ⟨rfl, rfl⟩
 cases c₀
 simp_all [go_sem, bodyPostS, results, Tryz.results59]
def Pg.FromRet (w : World) (X : Int × Int × Pk) (e : Ending) (w' : World) : Prop := Below w.heap.size w w' ∧ ∃ D dc C cc G gc, e = .returned (.tuple #[.agg (pCells X.2.2 D C G dc cc gc), .int .i64 X.2.1, .int .i64 X.1]) ∧ PRows w.heap.size w' X.2.2 D C G
def Pg.P3 (b : Nat) (u : World) : Prop := u.heap[b]? = some (.cells zeroC 34 (0, 0)) ∧ Sz.P2 (b + 1) u
theorem Pg.p3_of {w W0 W1 W2 u : World} (h0 : w.alloc (.cells zeroC 34) = W0) (h1 : W0.alloc (.cells #[.int .i64 0] 3) = W1) (h2 : W1.alloc (.cells #[.int .i64 0] 36) = W2) (hb : Below W2.heap.size W2 u) : P3 w.heap.size u := by
 have hs0 : W0.heap.size = w.heap.size + 1 := by rw [← h0]; simp
 have hs1 : W1.heap.size = w.heap.size + 2 := by rw [← h1]; simp [hs0]
 have hs2 : W2.heap.size = w.heap.size + 3 := by rw [← h2]; simp [hs1]
 refine ⟨?_, by rw [← hs0]; exact Sz.p2_of h1 h2 hb⟩
 rw [hb.block _ (by omega), (alloc_low h2).block _ (by omega), (alloc_low h1).block _ (by omega), ← h0]
 exact heap_alloc_new w _
theorem Pg.p3_far {u : World} {b j k : Nat} {x : Value} (h : u.heap[b]? = some (.cells zeroC 34 (0, 0))) (hne : k ≠ b) : (u.setCell ⟨k, j, none⟩ x).heap[b]? = some (.cells zeroC 34 (0, 0)) :=
 (Below.heap_setCell u ⟨k, j, none⟩ x b (fun e => hne e.symm)).trans h
theorem Pg.p2_kept {u v : World} {b : Nat} (h : Sz.P2 b u) (h1 : v.heap[b]? = u.heap[b]?) (h2 : v.heap[b + 1]? = u.heap[b + 1]?) : Sz.P2 b v := ⟨h1.trans h.1, h2.trans h.2⟩
theorem Pg.stP_far (u : World) (b k : Nat) (p : Pk) (D C G : Option Addr) (dc cc gc : Nat) (hk : k < u.heap.size) (hne : k ≠ b) : (stP u b p D C G dc cc gc).heap[k]? = u.heap[k]? :=
 (stP_but u b p D C G dc cc gc).2 k hk (fun e => hne (Option.some.inj e).symm)
theorem Pg.int_nob {u : World} {b : Nat} {x : Int} {T : TypeId} (h : u.heap[b]? = some (.cells #[.int .i64 x] T (0, 0))) : ∀ j y, u.cell? ⟨b, j, none⟩ = some y → NoB y := fun j y hy z e => by
 subst e
 have := Sz.cell_of_ints h rfl hy
 cases this
theorem Pg.two_far {u : World} {b c : Nat} {cs : Array Value} {T : TypeId} {x y : Value} (h : u.heap[b]? = some (.cells cs T (0, 0))) (h1 : c ≠ b) (h2 : c + 1 ≠ b) : ((u.setCell ⟨c, 0, none⟩ x).setCell ⟨c + 1, 0, none⟩ y).heap[b]? = some (.cells cs T (0, 0)) :=
 (Below.heap_setCell _ ⟨c + 1, 0, none⟩ y b (fun e => h2 e.symm)).trans ((Below.heap_setCell u ⟨c, 0, none⟩ x b (fun e => h1 e.symm)).trans h)
theorem Pg.rows_two {B b : Nat} {u : World} {p : Pk} {D C G : Option Addr} {x y : Int} (h : PRows B u p D C G) (h2 : Sz.P2 b u) (hlt : b + 1 < B) : PRows B ((u.setCell ⟨b, 0, none⟩ (.int .i64 x)).setCell ⟨b + 1, 0, none⟩ (.int .i64 y)) p D C G := by
 have r1 := pRows_but h (but_set u ⟨b, 0, none⟩ (.int .i64 x)) (Nat.lt_of_succ_lt hlt) (int_nob h2.1)
 have e2 : (u.setCell ⟨b, 0, none⟩ (.int .i64 x)).heap[b + 1]? = some (.cells #[.int .i64 0] 36 (0, 0)) := (Below.heap_setCell u ⟨b, 0, none⟩ _ (b + 1) (by show b + 1 ≠ b; omega)).trans h2.2
 exact pRows_but r1 (but_set _ ⟨b + 1, 0, none⟩ (.int .i64 y)) hlt (int_nob e2)
theorem pkgFrom_any (A : Option Addr) (n c : Nat) (l : List Sz.Fld) (w : World) (hk : KOk w) (hn : l.length = n) (hr : Rg.Row Sz.encF 3 w A l) (hl : n ≤ 1000) (hs : Sz.Short l) (hv : ∀ f ∈ l, f.val.length ≤ 1000) :
  Calls Tryz.prog 17 #[.slice A n c] w (Pg.FromRet w (fromP l)) := by
 have hmf : ∀ (fn : Fn) (first cap : Array Value) (w : World), (Instr.makeFunc fn first cap).run Tryz.prog w = .ok (.func fn first cap) w := fun _ _ _ _ => rfl
 obtain ⟨X, hX⟩ : ∃ X, fromP l = X := ⟨_, rfl⟩
 rw [hX]
 unfold fromP at hX
 obtain ⟨W0, hW0⟩ : ∃ W, w.alloc (.cells zeroC 34) = W := ⟨_, rfl⟩
 obtain ⟨W1, hW1⟩ : ∃ W, W0.alloc (.cells #[.int .i64 0] 3) = W := ⟨_, rfl⟩
 obtain ⟨W2, hW2⟩ : ∃ W, W1.alloc (.cells #[.int .i64 0] 36) = W := ⟨_, rfl⟩
 have HPC : Hid (∀ u, Below W2.heap.size W2 u → P3 w.heap.size u) := fun u hb => p3_of hW0 hW1 hW2 hb
 have hs0 : W0.heap.size = w.heap.size + 1 := by rw [← hW0]; simp
 have hs1 : W1.heap.size = w.heap.size + 1 + 1 := by rw [← hW1]; simp [hs0]
 have hs2 : W2.heap.size = w.heap.size + 3 := by rw [← hW2]; simp [hs1]
 have HSZ2 := Lib.hid hs2
 have HBW : Hid (Below w.heap.size w W2) := (alloc_low hW0).trans (((alloc_low hW1).trans ((alloc_low hW2).mono (alloc_low hW1).size)).mono (alloc_low hW0).size)
 have HRD := Lib.hid (pkgRead_any A n c l W2 (kOk_below hk HBW.out) hn (Rg.row_below hr HBW.out) hl hs hv)
 obtain ⟨R, hR⟩ : ∃ R, readP l = R := ⟨_, rfl⟩
 rw [hR] at HRD hX
 clear hk hn hr hl hs hv hR hs2
 go_enter_defers Tryz.func17, Tryz.ntmps17
 go_wp2_with fail
 clear hW0 hW1 hW2
 refine HRD.out.mono ?_
 rintro e z1 ⟨hb, hr⟩
 have HB := Lib.hid hb
 clear hb HRD
 cases R with
 | ok p =>
  obtain ⟨D, dc, C, cc, G, gc, rfl, hrows⟩ : ∃ D dc C cc G gc, e = .returned (.agg (pCells p D C G dc cc gc)) ∧ PRows W2.heap.size z1 p D C G := hr
  have HX : Hid (X = (0, 0, p)) := hX.symm
  have h3 := HPC.out _ HB.out
  have HSZ : Hid (w.heap.size + 3 ≤ z1.heap.size) := by have := HB.out.size; rw [HSZ2.out] at this; exact this
  have HP2 : Hid (Sz.P2 (w.heap.size + 1) (stP z1 w.heap.size p D C G dc cc gc)) := p2_kept h3.2 (stP_far _ _ _ _ _ _ _ _ _ _ (by have := HSZ.out; omega) (by omega)) (stP_far _ _ _ _ _ _ _ _ _ _ (by have := HSZ.out; omega) (by omega))
  obtain ⟨k0, k1, k2, k3, k4, k5⟩ := six_cells h3.1
  have z0 := six_free h3.1 0
  have z1' := six_free h3.1 1
  have z2 := six_free h3.1 2
  have z3 := six_free h3.1 3
  have z4 := six_free h3.1 4
  have z5 := six_free h3.1 5
  have HZ0 := Lib.hid h3.1
  have HRW := Lib.hid hrows
  have HS : Hid (PRows w.heap.size (stP z1 w.heap.size p D C G dc cc gc) p D C G) := pRows_mono (pRows_but hrows (stP_but z1 w.heap.size p D C G dc cc gc) (by rw [HSZ2.out]; omega) (zero_nob h3.1)) (by rw [HSZ2.out]; omega)
  have HSW : Hid (PRows W2.heap.size (stP z1 w.heap.size p D C G dc cc gc) p D C G) := pRows_but hrows (stP_but z1 w.heap.size p D C G dc cc gc) (by rw [HSZ2.out]; omega) (zero_nob h3.1)
  have HBS : Hid (Below w.heap.size w (stP z1 w.heap.size p D C G dc cc gc)) := stP_below (HBW.out.trans (HB.out.mono HBW.out.size)) (Nat.le_refl _) p D C G dc cc gc
  have HHS := Lib.hid (stP_heap h3.1 p D C G dc cc gc)
  obtain ⟨V, hV⟩ : ∃ V, stP z1 w.heap.size p D C G dc cc gc = V := ⟨_, rfl⟩
  rw [hV] at HP2 HS HSW HBS HHS
  obtain ⟨c0, f0, c1, f1⟩ := Sz.p2_cells HP2.out
  obtain ⟨d0, g0, d1, g1⟩ := Sz.p2_after HP2.out (.int .i64 0)
  have HP22 := Lib.hid (Sz.p2_again HP2.out)
  unfold stP at hV
  clear h3 hrows hX
  go_wp2_with fail
  have HV2 : Hid (((V.setCell ⟨w.heap.size + 1, 0, none⟩ (.int .i64 0)).setCell ⟨w.heap.size + 1 + 1, 0, none⟩ (.int .i64 0)).heap[w.heap.size]? = some (.cells (pCells p D C G dc cc gc) 34 (0, 0))) := two_far (c := w.heap.size + 1) HHS.out (by omega) (by omega)
  have HR2 := Lib.hid (rows_two (x := 0) (y := 0) HSW.out HP2.out (show w.heap.size + 1 + 1 < W2.heap.size by rw [HSZ2.out]; omega))
  have HB2 : Hid (Below w.heap.size w ((V.setCell ⟨w.heap.size + 1, 0, none⟩ (.int .i64 0)).setCell ⟨w.heap.size + 1 + 1, 0, none⟩ (.int .i64 0))) := (HBS.out.setCell (by show w.heap.size ≤ w.heap.size + 1; omega) _).setCell (by show w.heap.size ≤ w.heap.size + 1 + 1; omega) _
  generalize (V.setCell ⟨w.heap.size + 1, 0, none⟩ (.int .i64 0)).setCell ⟨w.heap.size + 1 + 1, 0, none⟩ (.int .i64 0) = V2 at *
  obtain ⟨k0, m0, k1, m1⟩ := Sz.p2_cells HP22.out
  obtain ⟨l0, o0, l1, o1⟩ := Sz.p2_after HP22.out (.int .i64 0)
  obtain ⟨q0, q1⟩ := Sz.p2_both HP22.out (.int .i64 0) (.int .i64 0)
  have HV4 := Lib.hid (two_far (c := w.heap.size + 1) (x := .int .i64 0) (y := .int .i64 0) HV2.out (by omega) (by omega))
  have HR4 := Lib.hid (rows_two (x := 0) (y := 0) HR2.out HP22.out (show w.heap.size + 1 + 1 < W2.heap.size by rw [HSZ2.out]; omega))
  obtain ⟨s0, s1, s2, s3, s4, s5⟩ := six_cells HV4.out
  refine leaves_cons (f := 59) (args := #[.pointer (some ⟨w.heap.size + 1, 0, none⟩), .pointer (some ⟨w.heap.size + 1 + 1, 0, none⟩)]) (by simp) (by simp [go_sem]) ?_
  refine (pFrom_idle ⟨w.heap.size + 1, 0, none⟩ ⟨w.heap.size + 1 + 1, 0, none⟩ 0 0 _ k0 m0 l1 o1).mono ?_
  rintro e u' w3 ⟨rfl, rfl, rfl⟩
  simp [Leaves, settle, results, Tryz.results17, go_sem, q0, q1, s0, s1, s2, s3, s4, s5]
  rw [HX.out]
  exact ⟨(HB2.out.setCell (by show w.heap.size ≤ w.heap.size + 1; omega) _).setCell (by show w.heap.size ≤ w.heap.size + 1 + 1; omega) _, D, dc, C, cc, G, gc, rfl, pRows_mono HR4.out (by rw [HSZ2.out]; omega)⟩
 | error x =>
  obtain ⟨i0, k⟩ := x
  obtain rfl : e = panAt i0 k := hr
  have HX : Hid (X = (k, i0, zeroP)) := hX.symm
  clear hX
  go_wp2_with fail
  refine leaves_cons (f := 59) (args := #[.pointer (some ⟨w.heap.size + 1, 0, none⟩), .pointer (some ⟨w.heap.size + 1 + 1, 0, none⟩)]) (by simp) (by simp [go_sem]) ?_
  refine (pFrom_placed ⟨w.heap.size + 1, 0, none⟩ ⟨w.heap.size + 1 + 1, 0, none⟩ 0 0 i0 k _ (fun u hb => (Sz.p2_cells (HPC.out _ (HB.out.trans (hb.mono HB.out.size))).2).1) (fun u hb => (Sz.p2_cells (HPC.out _ (HB.out.trans (hb.mono HB.out.size))).2).2.1) (fun u hb => (Sz.p2_after (HPC.out _ (HB.out.trans (hb.mono HB.out.size))).2 _).2.2.1) (fun u hb => (Sz.p2_after (HPC.out _ (HB.out.trans (hb.mono HB.out.size))).2 _).2.2.2)).mono ?_
  rintro e u' w3 ⟨rfl, rfl, u, hb, rfl⟩
  have HBU := Lib.hid (HB.out.trans (hb.mono HB.out.size))
  obtain ⟨q0, q1⟩ := Sz.p2_both (HPC.out _ HBU.out).2 (.int .i64 i0) (.int .i64 k)
  obtain ⟨k0, k1, k2, k3, k4, k5⟩ := six_cells (p3_far (j := 0) (x := .int .i64 k) (p3_far (j := 0) (x := .int .i64 i0) (HPC.out _ HBU.out).1 (show w.heap.size + 1 ≠ w.heap.size by omega)) (show w.heap.size + 1 + 1 ≠ w.heap.size by omega))
  simp [Leaves, settle, results, Tryz.results17, go_sem, q0, q1, k0, k1, k2, k3, k4, k5]
  rw [HX.out]
  exact ⟨((HBW.out.trans (HBU.out.mono HBW.out.size)).setCell (by show w.heap.size ≤ w.heap.size + 1; omega) _).setCell (by show w.heap.size ≤ w.heap.size + 1 + 1; omega) _, none, 0, none, 0, none, 0, rfl, zero_rows _ _⟩
end Go.Proofs.YtkplahkkmmoppaaGreatDoor
namespace Go.Proofs.YtkplahkkmmoppaaGreatDoor
open Go.RowKit Rs At Pg
namespace Pg
def gvT (g : Gv) : List UInt8 := if g.ver = [] then g.name else g.name ++ [32, 61, 32] ++ g.ver
def depT (d : List Atm) : List UInt8 := Lib.join (d.map textA) [32, 111, 114, 32]
def ATxt (l : List Atm) : Prop := ∀ a ∈ l, a.name.length ≤ 100 ∧ a.rng.length ≤ 64 ∧ checkR a.rng = 0
def GTxt (l : List Gv) : Prop := ∀ g ∈ l, g.name.length ≤ 1000 ∧ g.ver.length ≤ 1000
def DTxt (t : List (List Atm)) : Prop := ∀ d ∈ t, d.length ≤ 1000 ∧ ATxt d ∧ (depT d).length ≤ 1000000
end Pg
attribute [local go_sem ↓] Go.wp_at_zero Go.wp_at_succ
theorem giveText_any (g : Gv) (w : World) (h1 : g.name.length ≤ 1000) (h2 : g.ver.length ≤ 1000) :
  Calls Tryz.prog 57 #[.agg #[.string ⟨g.name.toArray⟩, .string ⟨g.ver.toArray⟩]] w fun e w' => e = .returned (.string ⟨(gvT g).toArray⟩) ∧ Below w.heap.size w w' := by
 obtain ⟨nm, v⟩ := g
 dsimp only at h1 h2 ⊢
 obtain ⟨R, hR⟩ : ∃ R, gvT ⟨nm, v⟩ = R := ⟨_, rfl⟩
 rw [hR]
 unfold gvT at hR
 dsimp only at hR
 obtain ⟨V, hV⟩ : ∃ V, w.alloc (.cells #[.string ⟨nm.toArray⟩, .string ⟨v.toArray⟩] 72) = V := ⟨_, rfl⟩
 have HB : Hid (Below w.heap.size w V) := alloc_low hV
 obtain ⟨c0, c1⟩ := cell_pair hV (Below.refl _ _)
 by_cases e2 : v = []
 ·have e : (v == []) = true := by rw [e2]; rfl
  rw [if_pos e2] at hR
  subst hR
  clear e2
  go_enter Tryz.func57, Tryz.ntmps57
  go_wp2_with fail
  refine (clone_any nm _ (by omega)).mono ?_
  rintro _ u ⟨rfl, hb⟩
  have HU : Hid (Below w.heap.size w u) := HB.out.trans (hb.mono HB.out.size)
  clear hb
  go_wp2_with fail
  go_ret
  exact ⟨rfl, HU.out⟩
 ·have e : (v == []) = false := beq_eq_false_iff_ne.2 e2
  rw [if_neg e2] at hR
  have HR := Lib.hid hR
  have q1 := cat_run { data := nm.toArray } { data := #[32, 61, 32] } (by show nm.toArray.size + 3 ≤ _; rw [List.size_toArray]; omega)
  have q2 := cat_run ({ data := nm.toArray } ++ { data := #[32, 61, 32] }) { data := v.toArray } (by rw [ByteArray.size_append]; show nm.toArray.size + 3 + v.toArray.size ≤ _; rw [List.size_toArray, List.size_toArray]; omega)
  clear e2 hR
  go_enter Tryz.func57, Tryz.ntmps57
  go_wp2_with fail
  go_ret
  rw [← HR.out]
  exact ⟨congrArg (fun x => Ending.returned (Value.string x)) (cat3 nm [32, 61, 32] v), HB.out⟩
theorem joinAtoms_any (sep : List UInt8) (A : Option Addr) (n c : Nat) (l : List Atm) (w : World) (hw : MaxOk w) (hn : l.length = n) (hr : ARow w A l) (hl : n ≤ 1000) (hg : ATxt l) (hj : (Lib.join (l.map textA) sep).length ≤ 1000000) :
  Calls Tryz.prog 55 #[.slice A n c, .func (.func 31) #[] #[], .string ⟨sep.toArray⟩] w fun e w' => e = .returned (.string ⟨(Lib.join (l.map textA) sep).toArray⟩) ∧ Below w.heap.size w w' := by
 have HM := Lib.hid hw
 have HR := Lib.hid hr
 have HN := Lib.hid hn
 have HG := Lib.hid hg
 have HJ := Lib.hid hj
 clear hw hr hn hg hj
 go_enter Tryz.func55, Tryz.ntmps55
 go_wp2_with fail
 go_loopw [7, 12] (fun v i wr => ∃ k : Nat, k ≤ n ∧ i = .int .i64 k ∧ Hid (Rg.Own encT 1 wr w.heap.size 9 v ((l.take k).map textA)) ∧ Hid (Below w.heap.size w wr ∧ w.heap.size ≤ wr.heap.size)) (fun _ i _ => n - (intOf i).toNat)
 case atStart => exact ⟨0, Nat.zero_le _, rfl, Rg.own_nil _ _ _, Below.refl _ _, Nat.le_refl _⟩
 case round =>
  obtain ⟨k, hk, rfl, HO, HB⟩ := hrel
  by_cases hlt : k < n
  ·have hlr : k < l.length := by rw [HN.out]; exact hlt
   have hgk := HG.out _ (List.getElem_mem hlr)
   obtain ⟨ad, C, m, d, rfl, hm, hs, hc⟩ := arow_at HR.out k hlr
   obtain ⟨c0, c1⟩ := hc _ HB.out.1
   obtain ⟨a, ha⟩ : ∃ a, l[k] = a := ⟨_, rfl⟩
   have HS := Lib.hid (text_snoc textA l k hlr _ ha)
   obtain ⟨tk, htk⟩ : ∃ x, (l.take k).map textA = x := ⟨_, rfl⟩
   have hsz : tk.length + 1 ≤ 1000000 := by rw [← htk, List.length_map, List.length_take]; omega
   rw [htk] at HS HO
   have HSZ := Lib.hid hsz
   clear htk hsz
   rw [ha] at hm hs hgk c0
   obtain ⟨nm, r⟩ := a
   dsimp only at hm hs hgk c0
   obtain ⟨V, hV⟩ : ∃ V, wr.alloc (.cells #[.string ⟨nm.toArray⟩, .slice C m d] 66) = V := ⟨_, rfl⟩
   have HVB : Hid (Below wr.heap.size wr V) := alloc_low hV
   have HVW : Hid (Below w.heap.size w V) := HB.out.1.trans (HVB.out.mono HB.out.2)
   obtain ⟨v0, v1⟩ := cell_pair hV (Below.refl _ _)
   have HT := Lib.hid (atomText_any nm C m d r V (maxOk_below HM.out HVW.out) hgk.1 hm (srow_below hs HVW.out) (by rw [← hm]; exact hgk.2.1) hgk.2.2)
   clear hc ha hm hs hgk HVW
   obtain ⟨X, hX⟩ : ∃ X, textA ⟨nm, r⟩ = X := ⟨_, rfl⟩
   rw [hX] at HT HS
   clear hX
   go_wp2_with fail
   refine HT.out.mono ?_
   rintro _ u2 ⟨rfl, hb⟩
   have HBU : Hid (Below wr.heap.size wr u2) := HVB.out.trans (hb.mono HVB.out.size)
   clear hb HT
   go_wp2_with (at_builtin; refine Rg.wpList_app sliceTx rfl (.tmp 16) (.tmp 20) rfl w.heap.size _ tk [X] rfl (Rg.own_below HO.out (HBU.out.alloc HBU.out.size _)) _ _ rfl (Rg.news_new u2 _ _ _ (by rfl)) (Nat.zero_lt_succ _) HSZ.out ?b2 ?_)
   case b2 => have := HB.out.2; have := HBU.out.size; simp; omega
   intro v5 W5 ho5 hg5 hz5
   have HB5 := app_done4 HB HBU.out HO hg5
   have HO5 : Hid (Rg.Own encT 1 W5 w.heap.size 9 v5 ((l.take (k + 1)).map textA)) := by show Rg.Own _ _ _ _ _ _ _; rw [HS.out]; exact ho5
   clear ho5 hg5 hz5 HO HB HBU HVB
   go_wp2_with fail
   go_roundw
   case rel => exact ⟨k + 1, by omega, by go_num, HO5, HB5⟩
   case measure => simp [intOf]; omega
  ·obtain rfl : k = n := by omega
   have HOO : Hid (Rg.Own encT 1 wr w.heap.size 9 u7 (l.map textA)) := by
    have := HO.out
    rwa [List.take_of_length_le (by rw [HN.out]; exact Nat.le_refl _)] at this
   have HLN : Hid ((l.map textA).length ≤ 100000) := by show _ ≤ _; rw [List.length_map, HN.out]; omega
   clear HO
   go_wp2_with fail
   refine (join_any sep HOO.out HLN.out HJ.out).mono ?_
   rintro _ u ⟨rfl, hb⟩
   have HBU : Hid (Below w.heap.size w u) := HB.out.1.trans (hb.mono HB.out.2)
   clear hb
   go_wp2_with fail
   go_ret
   exact ⟨rfl, HBU.out⟩
theorem depText_any (A : Option Addr) (n c : Nat) (l : List Atm) (w : World) (hw : MaxOk w) (hn : l.length = n) (hr : ARow w A l) (hl : n ≤ 1000) (hg : ATxt l) (hj : (depT l).length ≤ 1000000) :
  Calls Tryz.prog 32 #[.slice A n c] w fun e w' => e = .returned (.string ⟨(depT l).toArray⟩) ∧ Below w.heap.size w w' := by
 have HJ := Lib.hid (joinAtoms_any [32, 111, 114, 32] A n c l w hw hn hr hl hg hj)
 clear hw hn hr hl hg hj
 go_enter Tryz.func32, Tryz.ntmps32
 go_wp2_with fail
 refine HJ.out.mono ?_
 rintro _ u ⟨rfl, hb⟩
 have HU := Lib.hid hb
 clear hb
 go_wp2_with fail
 go_ret
 exact ⟨rfl, HU.out⟩
theorem joinGives_any (sep : List UInt8) (A : Option Addr) (n c : Nat) (l : List Gv) (w : World) (hw : MaxOk w) (hn : l.length = n) (hr : GRow w A l) (hl : n ≤ 1000) (hg : GTxt l) (hj : (Lib.join (l.map gvT) sep).length ≤ 1000000) :
  Calls Tryz.prog 56 #[.slice A n c, .func (.func 57) #[] #[], .string ⟨sep.toArray⟩] w fun e w' => e = .returned (.string ⟨(Lib.join (l.map gvT) sep).toArray⟩) ∧ Below w.heap.size w w' := by
 have HM := Lib.hid hw
 have HR := Lib.hid hr
 have HN := Lib.hid hn
 have HG := Lib.hid hg
 have HJ := Lib.hid hj
 clear hw hr hn hg hj
 go_enter Tryz.func56, Tryz.ntmps56
 go_wp2_with fail
 go_loopw [7, 12] (fun v i wr => ∃ k : Nat, k ≤ n ∧ i = .int .i64 k ∧ Hid (Rg.Own encT 1 wr w.heap.size 9 v ((l.take k).map gvT)) ∧ Hid (Below w.heap.size w wr ∧ w.heap.size ≤ wr.heap.size)) (fun _ i _ => n - (intOf i).toNat)
 case atStart => exact ⟨0, Nat.zero_le _, rfl, Rg.own_nil _ _ _, Below.refl _ _, Nat.le_refl _⟩
 case round =>
  obtain ⟨k, hk, rfl, HO, HB⟩ := hrel
  by_cases hlt : k < n
  ·have hlr : k < l.length := by rw [HN.out]; exact hlt
   have hgk := HG.out _ (List.getElem_mem hlr)
   obtain ⟨ad, rfl, hc⟩ := grow_at HR.out k hlr
   obtain ⟨c0, c1⟩ := hc _ HB.out.1
   obtain ⟨a, ha⟩ : ∃ a, l[k] = a := ⟨_, rfl⟩
   have HS := Lib.hid (text_snoc gvT l k hlr _ ha)
   obtain ⟨tk, htk⟩ : ∃ x, (l.take k).map gvT = x := ⟨_, rfl⟩
   have hsz : tk.length + 1 ≤ 1000000 := by rw [← htk, List.length_map, List.length_take]; omega
   rw [htk] at HS HO
   have HSZ := Lib.hid hsz
   clear htk hsz
   rw [ha] at hgk c0 c1
   obtain ⟨V, hV⟩ : ∃ V, wr.alloc (.cells #[.string ⟨a.name.toArray⟩, .string ⟨a.ver.toArray⟩] 72) = V := ⟨_, rfl⟩
   have HVB : Hid (Below wr.heap.size wr V) := alloc_low hV
   obtain ⟨v0, v1⟩ := cell_pair hV (Below.refl _ _)
   have HT := Lib.hid (giveText_any a V hgk.1 hgk.2)
   clear hc ha hgk
   obtain ⟨X, hX⟩ : ∃ X, gvT a = X := ⟨_, rfl⟩
   rw [hX] at HT HS
   clear hX
   go_wp2_with fail
   refine HT.out.mono ?_
   rintro _ u2 ⟨rfl, hb⟩
   have HBU : Hid (Below wr.heap.size wr u2) := HVB.out.trans (hb.mono HVB.out.size)
   clear hb HT
   go_wp2_with (at_builtin; refine Rg.wpList_app sliceTx rfl (.tmp 16) (.tmp 20) rfl w.heap.size _ tk [X] rfl (Rg.own_below HO.out (HBU.out.alloc HBU.out.size _)) _ _ rfl (Rg.news_new u2 _ _ _ (by rfl)) (Nat.zero_lt_succ _) HSZ.out ?b2 ?_)
   case b2 => have := HB.out.2; have := HBU.out.size; simp; omega
   intro v5 W5 ho5 hg5 hz5
   have HB5 := app_done4 HB HBU.out HO hg5
   have HO5 : Hid (Rg.Own encT 1 W5 w.heap.size 9 v5 ((l.take (k + 1)).map gvT)) := by show Rg.Own _ _ _ _ _ _ _; rw [HS.out]; exact ho5
   clear ho5 hg5 hz5 HO HB HBU HVB
   go_wp2_with fail
   go_roundw
   case rel => exact ⟨k + 1, by omega, by go_num, HO5, HB5⟩
   case measure => simp [intOf]; omega
  ·obtain rfl : k = n := by omega
   have HOO : Hid (Rg.Own encT 1 wr w.heap.size 9 u7 (l.map gvT)) := by
    have := HO.out
    rwa [List.take_of_length_le (by rw [HN.out]; exact Nat.le_refl _)] at this
   have HLN : Hid ((l.map gvT).length ≤ 100000) := by show _ ≤ _; rw [List.length_map, HN.out]; omega
   clear HO
   go_wp2_with fail
   refine (join_any sep HOO.out HLN.out HJ.out).mono ?_
   rintro _ u ⟨rfl, hb⟩
   have HBU : Hid (Below w.heap.size w u) := HB.out.1.trans (hb.mono HB.out.2)
   clear hb
   go_wp2_with fail
   go_ret
   exact ⟨rfl, HBU.out⟩
theorem joinDeps_any (sep : List UInt8) (A : Option Addr) (n c : Nat) (l : List (List Atm)) (w : World) (hw : MaxOk w) (hn : l.length = n) (hr : Pg.DRow w A l) (hl : n ≤ 1000) (hg : DTxt l) (hj : (Lib.join (l.map depT) sep).length ≤ 1000000) :
  Calls Tryz.prog 54 #[.slice A n c, .func (.func 32) #[] #[], .string ⟨sep.toArray⟩] w fun e w' => e = .returned (.string ⟨(Lib.join (l.map depT) sep).toArray⟩) ∧ Below w.heap.size w w' := by
 have HM := Lib.hid hw
 have HR := Lib.hid hr
 have HN := Lib.hid hn
 have HG := Lib.hid hg
 have HJ := Lib.hid hj
 clear hw hr hn hg hj
 go_enter Tryz.func54, Tryz.ntmps54
 go_wp2_with fail
 go_loopw [7, 12] (fun v i wr => ∃ k : Nat, k ≤ n ∧ i = .int .i64 k ∧ Hid (Rg.Own encT 1 wr w.heap.size 9 v ((l.take k).map depT)) ∧ Hid (Below w.heap.size w wr ∧ w.heap.size ≤ wr.heap.size)) (fun _ i _ => n - (intOf i).toNat)
 case atStart => exact ⟨0, Nat.zero_le _, rfl, Rg.own_nil _ _ _, Below.refl _ _, Nat.le_refl _⟩
 case round =>
  obtain ⟨k, hk, rfl, HO, HB⟩ := hrel
  by_cases hlt : k < n
  ·have hlr : k < l.length := by rw [HN.out]; exact hlt
   have hgk := HG.out _ (List.getElem_mem hlr)
   obtain ⟨ad, C, m, d, rfl, hm, hs, hc⟩ := drowD_at HR.out k hlr
   have c0 := hc _ HB.out.1
   obtain ⟨a, ha⟩ : ∃ a, l[k] = a := ⟨_, rfl⟩
   have HS := Lib.hid (text_snoc depT l k hlr _ ha)
   obtain ⟨tk, htk⟩ : ∃ x, (l.take k).map depT = x := ⟨_, rfl⟩
   have hsz : tk.length + 1 ≤ 1000000 := by rw [← htk, List.length_map, List.length_take]; omega
   rw [htk] at HS HO
   have HSZ := Lib.hid hsz
   clear htk hsz
   rw [ha] at hm hs hgk
   have HVB : Hid (Below wr.heap.size wr wr) := Below.refl _ _
   have HT := Lib.hid (depText_any C m d a wr (maxOk_below HM.out HB.out.1) hm (arow_below hs HB.out.1) (by rw [← hm]; exact hgk.1) hgk.2.1 hgk.2.2)
   clear hc ha hm hs hgk
   obtain ⟨X, hX⟩ : ∃ X, depT a = X := ⟨_, rfl⟩
   rw [hX] at HT HS
   clear hX
   go_wp2_with fail
   refine HT.out.mono ?_
   rintro _ u2 ⟨rfl, hb⟩
   have HBU : Hid (Below wr.heap.size wr u2) := HVB.out.trans (hb.mono HVB.out.size)
   clear hb HT
   go_wp2_with (at_builtin; refine Rg.wpList_app sliceTx rfl (.tmp 16) (.tmp 20) rfl w.heap.size _ tk [X] rfl (Rg.own_below HO.out (HBU.out.alloc HBU.out.size _)) _ _ rfl (Rg.news_new u2 _ _ _ (by rfl)) (Nat.zero_lt_succ _) HSZ.out ?b2 ?_)
   case b2 => have := HB.out.2; have := HBU.out.size; simp; omega
   intro v5 W5 ho5 hg5 hz5
   have HB5 := app_done4 HB HBU.out HO hg5
   have HO5 : Hid (Rg.Own encT 1 W5 w.heap.size 9 v5 ((l.take (k + 1)).map depT)) := by show Rg.Own _ _ _ _ _ _ _; rw [HS.out]; exact ho5
   clear ho5 hg5 hz5 HO HB HBU HVB
   go_wp2_with fail
   go_roundw
   case rel => exact ⟨k + 1, by omega, by go_num, HO5, HB5⟩
   case measure => simp [intOf]; omega
  ·obtain rfl : k = n := by omega
   have HOO : Hid (Rg.Own encT 1 wr w.heap.size 9 u7 (l.map depT)) := by
    have := HO.out
    rwa [List.take_of_length_le (by rw [HN.out]; exact Nat.le_refl _)] at this
   have HLN : Hid ((l.map depT).length ≤ 100000) := by show _ ≤ _; rw [List.length_map, HN.out]; omega
   clear HO
   go_wp2_with fail
   refine (join_any sep HOO.out HLN.out HJ.out).mono ?_
   rintro _ u ⟨rfl, hb⟩
   have HBU : Hid (Below w.heap.size w u) := HB.out.1.trans (hb.mono HB.out.2)
   clear hb
   go_wp2_with fail
   go_ret
   exact ⟨rfl, HBU.out⟩
end Go.Proofs.YtkplahkkmmoppaaGreatDoor
namespace Go.Proofs.YtkplahkkmmoppaaGreatDoor
open Go.RowKit Rs At Pg
def Pg.hasL (l : List Sp) (v : List UInt8) : Bool := hasR (l.map Sp.piece) v
def Pg.givM (g : Gv) (a : Atm) : Bool := decide (g.name = a.name) && (if g.ver = [] then decide (a.rng = allR.map spOf) else hasL a.rng g.ver)
def Pg.metP (p : Pk) (a : Atm) : Bool := (decide (p.name = a.name) && hasL a.rng p.ver) || p.prov.any (fun g => givM g a)
attribute [local go_sem ↓] Go.wp_at_zero Go.wp_at_succ
theorem giveMeets_any (g : Gv) (nm : List UInt8) (A : Option Addr) (n c : Nat) (l : List Sp) (w : World) (hw : MaxOk w) (hn : l.length = n) (hr : SRow w A l) (hl : n ≤ 64) (hk : checkR l = 0) (hv : g.ver = [] ∨ Vm.check g.ver = 0) :
  Calls Tryz.prog 74 #[.agg #[.string ⟨g.name.toArray⟩, .string ⟨g.ver.toArray⟩], .agg #[.string ⟨nm.toArray⟩, .slice A n c]] w fun e w' => e = .returned (.bool (givM g ⟨nm, l⟩)) ∧ Below w.heap.size w w' := by
 obtain ⟨gn, gv⟩ := g
 dsimp only at hv ⊢
 obtain ⟨R, hR⟩ : ∃ R, givM ⟨gn, gv⟩ ⟨nm, l⟩ = R := ⟨_, rfl⟩
 rw [hR]
 unfold givM at hR
 dsimp only at hR
 obtain ⟨V, hV⟩ : ∃ V, w.alloc (.cells #[.string ⟨gn.toArray⟩, .string ⟨gv.toArray⟩] 72) = V := ⟨_, rfl⟩
 obtain ⟨b, hb⟩ : ∃ b, V.heap.size = b := ⟨_, rfl⟩
 obtain ⟨U, hU⟩ : ∃ U, V.alloc (.cells #[.string ⟨nm.toArray⟩, .slice A n c] 66) = U := ⟨_, rfl⟩
 have HX1 : Hid (Bx2 b nm A n c U) := by rw [← hU, ← hb]; exact bx2_new V nm A n c _
 have HVU : Hid (Below V.heap.size V U) := alloc_low hU
 have hb1 : b < U.heap.size := by rw [← hU, ← hb]; simp
 have HB : Hid (Below w.heap.size w U) := (alloc_low hV).trans (HVU.out.mono (alloc_low hV).size)
 have HMX : Hid (MaxOk U) := maxOk_below hw HB.out
 have HR1 : Hid (SRow U A l) := srow_below hr HB.out
 have HN := Lib.hid hn
 have HK := Lib.hid hk
 have HR := Lib.hid hR
 obtain ⟨c0, c1⟩ := cell_pair hV HVU.out
 obtain ⟨k0, k1⟩ := HX1.out
 clear hw hn hr hk hR
 by_cases e1 : gn = nm
 case neg =>
  have d1 : (gn != nm) = true := by simp [e1]
  have d0 : (gn == nm) = false := beq_eq_false_iff_ne.2 e1
  have HF : Hid (R = false) := by show _ = _; rw [← HR.out, decide_eq_false e1, Bool.false_and]
  clear e1
  go_enter Tryz.func74, Tryz.ntmps74
  go_wp2_with fail
  go_ret
  exact ⟨by rw [HF.out]; rfl, HB.out⟩
 have d1 : (gn != nm) = false := by simp [e1]
 have d0 : (gn == nm) = true := beq_iff_eq.2 e1
 by_cases e2 : gv = []
 ·have e : (gv == []) = true := by rw [e2]; rfl
  obtain ⟨sm, hsm⟩ : ∃ x, decide (l = allR.map spOf) = x := ⟨_, rfl⟩
  have HSM := Lib.hid hsm
  have HF : Hid (sm = R) := by show _ = _; rw [← HR.out, decide_eq_true e1, if_pos e2, Bool.true_and]; exact hsm.symm
  clear e1 e2 hsm hv
  go_enter Tryz.func74, Tryz.ntmps74
  go_wp2_with fail
  clear hb hV hU c0 c1
  have HS1 : Hid (St U U.drew [⟨A, n, l⟩]) := ⟨HMX.out, (Below.refl _ _).drew, fun x hx => by rw [List.mem_singleton.1 hx]; exact ⟨srow_below HR1.out (Below.refl _ _).drew, HN.out⟩⟩
  go_region_held3 (fun w' => w'.cell? ⟨b, 0, none⟩ = some (.string ⟨nm.toArray⟩) ∧ w'.cell? ⟨b, 1, none⟩ = some (.slice A n c))
   (first
    | exact bx2_below HX1.out hb1 HS1.out.2.1
    | exact bx2_below HX1.out hb1 HS2.out.2.1
    | exact bx2_below HX1.out hb1 HS3.out.2.1)
   (first
    | (go_at_call 29; refine (s_all HS1.out allR rfl).mono ?_; rintro _ u2 ⟨C, m2, d, rfl, hs⟩; have HS2 := Lib.hid hs; have hm2 : m2 = 1 := (st_row hs 0 rfl).2.symm; have HM2 := Lib.hid hm2; clear hs hm2)
    | (go_at_call 82; refine (s_same HS2.out 1 0 rfl rfl (by omega) (by rw [HM2.out]; decide) _ _ sm HSM.out).mono ?_; rintro _ u3 ⟨rfl, hs⟩; have HS3 := Lib.hid hs; clear hs))
  go_wp2_with fail
  go_ret
  exact ⟨by rw [← HF.out]; rfl, HB.out.trans (HS3.out.2.1.mono HB.out.size)⟩
 ·have e : (gv == []) = false := beq_eq_false_iff_ne.2 e2
  have hv2 : Vm.check gv = 0 := hv.resolve_left e2
  have HF : Hid (hasR (l.map Sp.piece) gv = R) := by show _ = _; rw [← HR.out, decide_eq_true e1, if_neg e2, Bool.true_and]; rfl
  have HS : Hid (St U U [⟨A, n, l⟩]) := ⟨HMX.out, Below.refl _ _, fun x hx => by rw [List.mem_singleton.1 hx]; exact ⟨HR1.out, HN.out⟩⟩
  have HH := Lib.hid (s4_has HS.out 0 rfl HK.out c gv hv2 R HF.out)
  clear e1 e2 hv hv2
  go_enter Tryz.func74, Tryz.ntmps74
  go_wp2_with fail
  clear hb hV hU c0 c1
  refine HH.out.mono ?_
  rintro _ u2 ⟨rfl, hs⟩
  have HS2 := Lib.hid hs.2.1
  clear hs
  go_wp2_with fail
  go_ret
  exact ⟨rfl, HB.out.trans (HS2.out.mono HB.out.size)⟩
theorem meets1_any (g : Gv) (b : Nat) (nm : List UInt8) (A : Option Addr) (n c : Nat) (l : List Sp) (w : World) (hw : MaxOk w) (hn : l.length = n) (hr : SRow w A l) (hl : n ≤ 64) (hk : checkR l = 0) (hv : g.ver = [] ∨ Vm.check g.ver = 0) (hx : Bx2 b nm A n c w) (hb : b < w.heap.size) :
  Calls Tryz.prog 73 #[.agg #[.string ⟨g.name.toArray⟩, .string ⟨g.ver.toArray⟩], .pointer (some ⟨b, 0, none⟩)] w fun e w' => e = .returned (.bool (givM g ⟨nm, l⟩)) ∧ Below w.heap.size w w' := by
 obtain ⟨V, hV⟩ : ∃ V, w.alloc (.cells #[.string ⟨g.name.toArray⟩, .string ⟨g.ver.toArray⟩] 72) = V := ⟨_, rfl⟩
 have HB : Hid (Below w.heap.size w V) := alloc_low hV
 have HG := Lib.hid (giveMeets_any g nm A n c l V (maxOk_below hw HB.out) hn (srow_below hr HB.out) hl hk hv)
 obtain ⟨c0, c1⟩ := cell_pair hV (Below.refl _ _)
 obtain ⟨k0, k1⟩ := bx2_below hx hb HB.out
 clear hw hn hr hl hk hv hx hb
 go_enter Tryz.func73, Tryz.ntmps73
 go_wp2_with fail
 refine HG.out.mono ?_
 rintro _ u ⟨rfl, hb⟩
 have HU : Hid (Below w.heap.size w u) := HB.out.trans (hb.mono HB.out.size)
 clear hb
 go_wp2_with fail
 go_ret
 exact ⟨rfl, HU.out⟩
theorem idxGive_any (A : Option Addr) (n c : Nat) (l : List Gv) (b : Nat) (nm : List UInt8) (B : Option Addr) (m d : Nat) (r : List Sp) (w : World) (hw : MaxOk w) (hn : l.length = n) (hr : GRow w A l) (hl : n ≤ 1000000) (ho : ∀ g ∈ l, g.ver = [] ∨ Vm.check g.ver = 0) (hm : r.length = m) (hq : SRow w B r) (hm2 : m ≤ 64) (hk : checkR r = 0) (hx : Bx2 b nm B m d w) (hb : b < w.heap.size) :
  Calls Tryz.prog 121 #[.slice A n c, .func (.func 73) #[] #[.pointer (some ⟨b, 0, none⟩)]] w (IdxRet w (l.any fun g => givM g ⟨nm, r⟩)) := by
 have HR := Lib.hid hr
 have HN := Lib.hid hn
 have HO := Lib.hid ho
 have HC := Lib.hid (fun (g : Gv) (hv : g.ver = [] ∨ Vm.check g.ver = 0) (W : World) (h : Below w.heap.size w W) => meets1_any g b nm B m d r W (maxOk_below hw h) hm (srow_below hq h) hm2 hk hv (bx2_below hx hb h) (Nat.lt_of_lt_of_le hb h.size))
 obtain ⟨X, hX⟩ : ∃ X, (l.any fun g => givM g ⟨nm, r⟩) = X := ⟨_, rfl⟩
 rw [hX]
 obtain ⟨f, hf⟩ : ∃ f : Gv → Bool, (fun g => givM g ⟨nm, r⟩) = f := ⟨_, rfl⟩
 rw [hf] at hX
 have HF : Hid (∀ g, givM g ⟨nm, r⟩ = f g) := fun g => by rw [← hf]
 have HX : Hid (X = l.any f) := hX.symm
 clear hw hr hn ho hm hq hm2 hk hx hb hX hf
 go_enter Tryz.func121, Tryz.ntmps121
 go_wp2_with fail
 go_loopw [8] (fun i wr => ∃ k : Nat, k ≤ n ∧ i = .int .i64 k ∧ Hid ((l.take k).any f = false) ∧ Hid (Below w.heap.size w wr)) (fun i _ => n - (intOf i).toNat)
 case atStart => exact ⟨0, Nat.zero_le _, rfl, rfl, Below.refl _ _⟩
 case round =>
  obtain ⟨k, hk, rfl, HA, HB⟩ := hrel
  by_cases hlt : k < n
  ·have hlr : k < l.length := by rw [HN.out]; exact hlt
   obtain ⟨ad, rfl, hc⟩ := grow_at HR.out k hlr
   obtain ⟨c0, c1⟩ := hc _ HB.out
   have HS : Hid ((l.take (k + 1)).any f = ((l.take k).any f || f l[k])) := by show _ = _; rw [List.take_succ_eq_append_getElem hlr, List.any_append]; simp
   have HY : Hid (f l[k] = true → X = true) := fun h => by rw [HX.out]; exact List.any_eq_true.2 ⟨_, List.getElem_mem hlr, h⟩
   have hov := HO.out _ (List.getElem_mem hlr)
   generalize l[k] = g at c0 c1 HS HY hov
   have HG := HC.out g hov wr HB.out
   rw [HF.out] at HG
   have HC2 := Lib.hid HG
   clear HG hc hlr hov
   go_wp2_with fail
   refine HC2.out.mono ?_
   rintro _ w1 ⟨rfl, hbl⟩
   have HB1 : Hid (Below w.heap.size w w1) := HB.out.trans (hbl.mono HB.out.size)
   clear hbl c0 c1 HC2
   cases hp : f g
   ·have HA2 : Hid ((l.take (k + 1)).any f = false) := by show _ = _; rw [HS.out, HA.out]; exact hp
    clear hp
    go_wp2_with fail
    go_roundw
    case rel => exact ⟨k + 1, by omega, by go_num, HA2.out, HB1.out⟩
    case measure => simp [intOf]; omega
   ·have HXT : Hid (X = true) := HY.out hp
    clear hp
    go_wp2_with fail
    go_ret
    exact ⟨⟨k, rfl, by rw [HXT.out]; exact decide_eq_true (by omega)⟩, HB1.out⟩
  ·have HXF : Hid (X = false) := by
    show _ = _
    have := HA.out
    rw [List.take_of_length_le (by rw [HN.out]; omega)] at this
    rw [HX.out]; exact this
   go_wp2_with fail
   go_ret
   exact ⟨⟨-1, rfl, by rw [HXF.out]; rfl⟩, HB.out⟩
theorem hasGive_any (A : Option Addr) (n c : Nat) (l : List Gv) (b : Nat) (nm : List UInt8) (B : Option Addr) (m d : Nat) (r : List Sp) (w : World) (hw : MaxOk w) (hn : l.length = n) (hr : GRow w A l) (hl : n ≤ 1000000) (ho : ∀ g ∈ l, g.ver = [] ∨ Vm.check g.ver = 0) (hm : r.length = m) (hq : SRow w B r) (hm2 : m ≤ 64) (hk : checkR r = 0) (hx : Bx2 b nm B m d w) (hb : b < w.heap.size) :
  Calls Tryz.prog 72 #[.slice A n c, .func (.func 73) #[] #[.pointer (some ⟨b, 0, none⟩)]] w fun e w' => e = .returned (.bool (l.any fun g => givM g ⟨nm, r⟩)) ∧ Below w.heap.size w w' := by
 have HC := Lib.hid (idxGive_any A n c l b nm B m d r w hw hn hr hl ho hm hq hm2 hk hx hb)
 obtain ⟨X, hX⟩ : ∃ X, (l.any fun g => givM g ⟨nm, r⟩) = X := ⟨_, rfl⟩
 rw [hX] at HC ⊢
 clear hw hn hr hl ho hm hq hm2 hk hx hb hX
 go_enter Tryz.func72, Tryz.ntmps72
 go_wp2_with fail
 refine HC.out.mono ?_
 rintro _ w1 ⟨⟨m, rfl, hm⟩, hb⟩
 have HB := Lib.hid hb
 clear hb
 cases X
 all_goals
  go_wp2_with fail
  go_ret
  exact ⟨rfl, HB.out⟩
theorem pkgMeets_any (p : Pk) (D C G : Option Addr) (dn dc cn cc gn gc : Nat) (nm : List UInt8) (B : Option Addr) (m d : Nat) (r : List Sp) (w : World) (hw : MaxOk w) (hg : GRow w G p.prov) (hgn : p.prov.length = gn) (hgl : gn ≤ 1000000) (ho : ∀ g ∈ p.prov, g.ver = [] ∨ Vm.check g.ver = 0) (hv : Vm.check p.ver = 0) (hm : r.length = m) (hq : SRow w B r) (hm2 : m ≤ 64) (hk : checkR r = 0) :
  Calls Tryz.prog 26 #[.agg #[.string ⟨p.name.toArray⟩, .string ⟨p.ver.toArray⟩, .slice D dn dc, .slice C cn cc, .slice G gn gc, .float .f64 p.wt], .agg #[.string ⟨nm.toArray⟩, .slice B m d]] w fun e w' => e = .returned (.bool (metP p ⟨nm, r⟩)) ∧ Below w.heap.size w w' := by
 have hmf : ∀ (fn : Fn) (first cap : Array Value) (w : World), (Instr.makeFunc fn first cap).run Tryz.prog w = .ok (.func fn first cap) w := fun _ _ _ _ => rfl
 obtain ⟨pn, pv, deps, confl, prov, wt⟩ := p
 dsimp only at hg hgn ho hv ⊢
 obtain ⟨R, hR⟩ : ∃ R, metP ⟨pn, pv, deps, confl, prov, wt⟩ ⟨nm, r⟩ = R := ⟨_, rfl⟩
 rw [hR]
 unfold metP at hR
 dsimp only at hR
 obtain ⟨V, hV⟩ : ∃ V, w.alloc (.cells #[.string ⟨pn.toArray⟩, .string ⟨pv.toArray⟩, .slice D dn dc, .slice C cn cc, .slice G gn gc, .float .f64 wt] 34) = V := ⟨_, rfl⟩
 obtain ⟨b, hb⟩ : ∃ b, V.heap.size = b := ⟨_, rfl⟩
 obtain ⟨U, hU⟩ : ∃ U, V.alloc (.cells #[.string ⟨nm.toArray⟩, .slice B m d] 66) = U := ⟨_, rfl⟩
 have HV := Lib.hid hV
 have HX1 : Hid (Bx2 b nm B m d U) := by rw [← hU, ← hb]; exact bx2_new V nm B m d _
 have HVU : Hid (Below V.heap.size V U) := alloc_low hU
 have hb1 : b < U.heap.size := by rw [← hU, ← hb]; simp
 have HB : Hid (Below w.heap.size w U) := (alloc_low hV).trans (HVU.out.mono (alloc_low hV).size)
 have HC := Lib.hid (fun (W : World) (h : Below U.heap.size U W) => hasGive_any G gn gc prov b nm B m d r W (maxOk_below hw (HB.out.trans (h.mono HB.out.size))) hgn (Rg.row_below hg (HB.out.trans (h.mono HB.out.size))) hgl ho hm (srow_below hq (HB.out.trans (h.mono HB.out.size))) hm2 hk (bx2_below HX1.out hb1 h) (Nat.lt_of_lt_of_le hb1 h.size))
 obtain ⟨y, hy⟩ : ∃ y, (prov.any fun g => givM g ⟨nm, r⟩) = y := ⟨_, rfl⟩
 rw [hy] at HC hR
 obtain ⟨x, hx⟩ : ∃ x, hasL r pv = x := ⟨_, rfl⟩
 rw [hx] at hR
 have HS : Hid (St U U [⟨B, m, r⟩]) := ⟨maxOk_below hw HB.out, Below.refl _ _, fun x hx => by rw [List.mem_singleton.1 hx]; exact ⟨srow_below hq HB.out, hm⟩⟩
 have HH := Lib.hid (s4_has HS.out 0 rfl hk d pv hv x hx)
 have HR := Lib.hid hR
 clear hw hg hgn hgl ho hv hm hq hm2 hk hR hy hx
 by_cases e1 : pn = nm
 case neg =>
  have d0 : (pn == nm) = false := beq_eq_false_iff_ne.2 e1
  have HF : Hid (y = R) := by show _ = _; rw [← HR.out, decide_eq_false e1, Bool.false_and, Bool.false_or]
  obtain ⟨c0, -, -, -, c4, -⟩ := cell_six HV.out HVU.out
  obtain ⟨k0, k1⟩ := HX1.out
  clear e1
  go_enter Tryz.func26, Tryz.ntmps26
  go_wp2_with fail
  refine (HC.out _ (Below.refl _ _)).mono ?_
  rintro _ u ⟨rfl, hb2⟩
  have HU : Hid (Below w.heap.size w u) := HB.out.trans (hb2.mono HB.out.size)
  clear hb2
  go_wp2_with fail
  go_ret
  exact ⟨by rw [← HF.out]; rfl, HU.out⟩
 have d0 : (pn == nm) = true := beq_iff_eq.2 e1
 have HR2 : Hid ((x || y) = R) := by show _ = _; rw [← HR.out, decide_eq_true e1, Bool.true_and]
 obtain ⟨c0, c1, -, -, -, -⟩ := cell_six HV.out HVU.out
 obtain ⟨k0, k1⟩ := HX1.out
 clear e1 HR
 go_enter Tryz.func26, Tryz.ntmps26
 go_wp2_with fail
 clear hV hU c0 c1 k0 k1
 refine HH.out.mono ?_
 rintro _ u ⟨rfl, hs⟩
 have HU := Lib.hid hs.2.1
 have HUW : Hid (Below w.heap.size w u) := HB.out.trans (HU.out.mono HB.out.size)
 clear hs
 cases x
 case true =>
  have HF : Hid (true = R) := HR2.out
  go_wp2_with fail
  go_ret
  exact ⟨by rw [← HF.out]; rfl, HUW.out⟩
 have HF : Hid (y = R) := HR2.out
 obtain ⟨-, -, -, -, c4, -⟩ := cell_six HV.out (HVU.out.trans (HU.out.mono HVU.out.size))
 go_wp2_with fail
 refine (HC.out _ HU.out).mono ?_
 rintro _ u2 ⟨rfl, hb2⟩
 have HU2 : Hid (Below w.heap.size w u2) := HUW.out.trans (hb2.mono HUW.out.size)
 clear hb2
 go_wp2_with fail
 go_ret
 exact ⟨by rw [← HF.out]; rfl, HU2.out⟩
end Go.Proofs.YtkplahkkmmoppaaGreatDoor
