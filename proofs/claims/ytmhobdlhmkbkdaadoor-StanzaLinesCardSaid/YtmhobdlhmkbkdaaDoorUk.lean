/- What each statement of the stanzas looks at first: walked. -/
import Derived.Test.YtmhobdlhmkbkdaaDoorUj
namespace Go.Proofs.YtmhobdlhmkbkdaaDoor
open Go.RowKit Go.Maps Sz
attribute [local go_sem ↓] Go.wp_at_zero Go.wp_at_succ
theorem Sz.s5_parse {u : World} (hm : MaxOk u) (s : List UInt8) {k n : Int} {r : List (List Fld)} {m : Nat} (hX : parseS s = (k, n, r)) (hl : r.length = m) :
    Calls Tryd.prog 8 #[.string ⟨s.toArray⟩] u fun e w' => ∃ A c, e = .returned (.tuple #[.slice A m c, .int .i64 n, .int .i64 k]) ∧ Gr.Row encF 3 w' A r ∧ Below u.heap.size u w' :=
  (stanzaParse_any s u hm).mono fun e w' ⟨A, c, he, hr, hb⟩ => by
    rw [hX] at he hr
    exact ⟨A, c, by rw [he, ← hl], hr, hb⟩
theorem Sz.s5_get {u : World} (A : Option Addr) (n c : Nat) (l : List Fld) (key : List UInt8) (hn : l.length = n) (hr : Rg.Row encF 3 u A l) (hl : n ≤ 100000) (hs : Short l) {g : Fld} {b : Bool} (hg : (getF l key).getD ⟨[], [], 0⟩ = g) (hb : (getF l key).isSome = b) :
    Calls Tryd.prog 15 #[.slice A n c, .string ⟨key.toArray⟩] u fun e w' => e = .returned (.tuple #[.agg #[.string ⟨g.key.toArray⟩, .string ⟨g.val.toArray⟩, .int .i64 g.line], .bool b]) ∧ Below u.heap.size u w' :=
  (stanzaGet_any A n c l key u hn hr hl hs).mono fun e w' ⟨he, hbb⟩ => by
    rw [hg, hb] at he
    exact ⟨he, hbb⟩
theorem Sz.s5_order {u : World} (A : Option Addr) (n c : Nat) (l : List Fld) (B : Option Addr) (m d : Nat) (ks : List (List UInt8)) (hn : l.length = n) (hr : Rg.Row encF 3 u A l) (hl : n ≤ 100000) (hs : Short l) (hm : ks.length = m) (hk : Rg.Row encT 1 u B ks) (hml : m ≤ 100000) (hks : ShortT ks) {i e0 : Int} (hX : ordP ks 0 (-1) l = (i, e0)) :
    Calls Tryd.prog 12 #[.slice A n c, .slice B m d] u fun e w' => e = .returned (.tuple #[.int .i64 i, .int .i64 e0]) ∧ Below u.heap.size u w' :=
  (stanzaOrder_any A n c l B m d ks u hn hr hl hs hm hk hml hks).mono fun e w' ⟨he, hb⟩ => by
    rw [hX] at he
    exact ⟨he, hb⟩
theorem Sz.p5a : parseS [65, 58, 32, 49, 10, 66, 58, 32, 10, 10, 65, 58, 32, 120, 32, 121, 10] = (0, 0, [[⟨[65], [49], 0⟩, ⟨[66], [], 1⟩], [⟨[65], [120, 32, 121], 3⟩]]) := by decide +kernel
theorem Sz.p5b : parseS [65, 58, 32, 49, 10, 65, 58, 32, 50, 10] = (6, 1, []) := by decide +kernel
theorem Sz.p5c : parseS [10, 65, 58, 32, 49, 10] = (2, 0, []) := by decide +kernel
theorem Sz.p5d : parseS [65, 58, 32, 49, 10, 10] = (2, 1, []) := by decide +kernel
theorem Sz.p5e : parseS [65, 58, 32, 49, 10, 66, 58, 50, 10] = (2, 1, []) := by decide +kernel
theorem Sz.t5a : textS [[⟨[65], [49], 0⟩, ⟨[66], [], 1⟩], [⟨[65], [120, 32, 121], 3⟩]] = [65, 58, 32, 49, 10, 66, 58, 32, 10, 10, 65, 58, 32, 120, 32, 121, 10] := by decide +kernel
theorem Sz.short_of {l : List Fld} (h : l.all (fun f => decide (f.key.length ≤ 140737488355328) && decide (f.val.length ≤ 140737488355328)) = true) : Short l := fun f hf => by
  have := List.all_eq_true.1 h f hf
  rw [Bool.and_eq_true, decide_eq_true_eq, decide_eq_true_eq] at this
  exact this
theorem Sz.below_alloc {w u : World} {B : Nat} (h : Below B w u) (hB : B ≤ w.heap.size) (o : Obj) : Below B w (u.alloc o) := h.alloc (Nat.le_trans hB h.size) _
theorem Sz.shortT_of {l : List (List UInt8)} (h : l.all (fun k => decide (k.length ≤ 140737488355328)) = true) : ShortT l := fun k hk => by
  have := List.all_eq_true.1 h k hk
  rwa [decide_eq_true_eq] at this
theorem Sz.s5_print {u : World} (A : Option Addr) (n c : Nat) (t : List (List Fld)) (hn : t.length = n) (hr : Gr.Row encF 3 u A t) (hl : n ≤ 1000000) (hls : ∀ l ∈ t, l.length ≤ 1000000) {T : List UInt8} (hT : textS t = T) (ht : T.length ≤ 1000000) :
    Calls Tryd.prog 11 #[.slice A n c] u fun e w' => e = .returned (.string ⟨T.toArray⟩) ∧ Below u.heap.size u w' :=
  (stanzaPrint_any A n c t u hn hr hl hls (by rw [hT]; exact ht)).mono fun e w' ⟨he, hb⟩ => by
    rw [hT] at he; exact ⟨he, hb⟩
theorem Gr.row_grow {w w' : World} {A : Option Addr} {t : List (List Fld)} (h : Gr.Row encF 3 w A t) (hb : Below w.heap.size w w') : Gr.Row encF 3 w' A t := Gr.row_below h hb
/-- A grid of two rows, seen from its parts. -/
theorem Gr.row_two {w : World} {A C D : Option Addr} {n m c d : Nat} {l r : List Fld} (h : Rg.Row encO 1 w A [(C, n, c), (D, m, d)]) (h1 : Rg.Row encF 3 w C l) (h2 : Rg.Row encF 3 w D r) (hn : l.length = n) (hm : r.length = m) : Gr.Row encF 3 w A [l, r] := by
  refine ⟨_, h, rfl, fun i dd x e1 e2 => ?_⟩
  match i with
  | 0 => cases e1; cases e2; exact ⟨hn.symm, h1⟩
  | 1 => cases e1; cases e2; exact ⟨hm.symm, h2⟩
  | i + 2 => simp at e1
theorem Rg.row_new {α : Type} {enc : α → List Value} {K : Nat} (hf : Rg.Fits enc K) (w : World) (T : TypeId) (l : List α) (cs : Array Value) (h : cs.toList = Rg.flat enc l) {b : Nat} (hb : w.heap.size = b) : Rg.Row enc K (w.alloc (.cells cs T)) (some ⟨b, 0, none⟩) l := by
  subst hb
  intro _
  refine ⟨_, rfl, by simp, fun i hi j v hv => ?_⟩
  have hj : j < K := by rw [← hf.len l[i]]; exact (List.getElem?_eq_some_iff.1 hv).1
  rw [← Rg.add_j]
  exact Rg.news_new w T l cs h _ _ ((Rg.flat_get hf l i hi j hj).trans hv)
set_option maxRecDepth 100000 in
set_option maxHeartbeats 6400000 in
theorem known5_any (w : World) (hw : MaxOk w) : Calls Tryd.prog 7 #[] w fun e w' => e = .returned (.bool true) ∧ Below w.heap.size w w' := by
  have HM := Lib.hid hw
  clear hw
  go_enter Tryd.func7, Tryd.ntmps7
  go_wp2_with fail
  refine (s5_parse HM.out _ p5a (m := 2) rfl).mono ?_
  rintro _ u1 ⟨A, c, rfl, hr, hb⟩
  have HB1 := Lib.hid hb
  have HG := Lib.hid hr
  clear hr hb
  go_wp2_with fail
  refine (s5_parse (maxOk_below HM.out HB1.out) _ p5b (m := 0) rfl).mono ?_
  rintro _ u2 ⟨A2, c2, rfl, _, hb⟩
  have HB2 := Lib.hid hb
  clear hb
  go_wp2_with fail
  refine (s5_parse (maxOk_below HM.out (HB1.out.trans (HB2.out.mono HB1.out.size))) _ p5c (m := 0) rfl).mono ?_
  rintro _ u3 ⟨A3, c3, rfl, _, hb⟩
  have HB3 := Lib.hid (HB2.out.trans (hb.mono HB2.out.size))
  clear hb HB2
  go_wp2_with fail
  refine (s5_parse (maxOk_below HM.out (HB1.out.trans (HB3.out.mono HB1.out.size))) _ p5d (m := 0) rfl).mono ?_
  rintro _ u4 ⟨A4, c4, rfl, _, hb⟩
  have HB4 := Lib.hid (HB3.out.trans (hb.mono HB3.out.size))
  clear hb HB3
  go_wp2_with fail
  refine (s5_parse (maxOk_below HM.out (HB1.out.trans (HB4.out.mono HB1.out.size))) _ p5e (m := 0) rfl).mono ?_
  rintro _ u5 ⟨A5, c5, rfl, _, hb⟩
  have HB5 := Lib.hid (HB4.out.trans (hb.mono HB4.out.size))
  clear hb HB4
  obtain ⟨ad, C0, n0, d0, rfl, hn0, hr0, hc0⟩ := grid_at HG.out 0 (by decide)
  obtain ⟨ad', C1, n1, d1, e1, hn1, hr1, hc1⟩ := grid_at HG.out 1 (by decide)
  cases e1
  obtain rfl : (2 : Nat) = n0 := hn0
  obtain rfl : (1 : Nat) = n1 := hn1
  have h0 : ad.add 0 = ad := by cases ad; rfl
  rw [h0] at hc0
  have HR0 : Hid (Rg.Row encF 3 u1 C0 [⟨[65], [49], 0⟩, ⟨[66], [], 1⟩]) := hr0
  have HR1 : Hid (Rg.Row encF 3 u1 C1 [⟨[65], [120, 32, 121], 3⟩]) := hr1
  have HC : Hid (∀ u, Below u1.heap.size u1 u → u.cell? ad = some (.slice C0 2 d0) ∧ u.cell? ⟨ad.block, ad.off + 1, none⟩ = some (.slice C1 1 d1)) := fun u hb => ⟨hc0 u hb, hc1 u hb⟩
  have HS0 : Hid (Short [⟨[65], [49], 0⟩, ⟨[66], [], 1⟩]) := short_of (by decide)
  have HS1 : Hid (Short [⟨[65], [120, 32, 121], 3⟩]) := short_of (by decide)
  obtain ⟨a0, a1⟩ := HC.out _ HB5.out
  clear hr0 hr1 hc0 hc1 h0
  go_wp2_with fail
  refine (s5_get C0 2 d0 _ [66] rfl (Rg.row_below HR0.out HB5.out) (by decide) HS0.out (g := ⟨[66], [], 1⟩) (b := true) (by decide) (by decide)).mono ?_
  rintro _ u6 ⟨rfl, hb⟩
  have HB6 := Lib.hid (HB5.out.trans (hb.mono HB5.out.size))
  clear hb a0 a1
  obtain ⟨a0, a1⟩ := HC.out _ (below_alloc HB6.out (Nat.le_refl _) (.cells #[.string ⟨#[66]⟩, .string ⟨#[]⟩, .int .i64 1] 43))
  go_wp2_with fail
  have HX0 : Hid (Tri u6.heap.size [66] [] 1 43 (u6.alloc (.cells #[.string ⟨#[66]⟩, .string ⟨#[]⟩, .int .i64 1] 43))) := tri_new rfl
  have HB6a := Lib.hid (below_alloc HB6.out (Nat.le_refl _) (.cells #[.string ⟨#[66]⟩, .string ⟨#[]⟩, .int .i64 1] 43))
  generalize u6.alloc (.cells #[.string ⟨#[66]⟩, .string ⟨#[]⟩, .int .i64 1] 43) = v6 at *
  refine (s5_get C1 1 d1 _ [66] rfl (Rg.row_below HR1.out HB6a.out) (by decide) HS1.out (g := ⟨[], [], 0⟩) (b := false) (by decide) (by decide)).mono ?_
  rintro _ u7 ⟨rfl, hb⟩
  have HX1 := Lib.hid (tri_below HX0.out hb)
  have HB7 := Lib.hid (HB6a.out.trans (hb.mono HB6a.out.size))
  clear hb a0 a1 HX0
  obtain ⟨a0, a1⟩ := HC.out _ (below_alloc HB7.out (Nat.le_refl _) (.cells #[.string ⟨#[]⟩, .string ⟨#[]⟩, .int .i64 0] 43))
  go_wp2_with fail
  have HB7a := Lib.hid (below_alloc (below_alloc HB7.out (Nat.le_refl _) (.cells #[.string ⟨#[]⟩, .string ⟨#[]⟩, .int .i64 0] 43)) (Nat.le_refl _) (.cells #[.string ⟨#[66]⟩, .string ⟨#[65]⟩] 9))
  have HK1 := Lib.hid (Rg.row_new fitsT (u7.alloc (.cells #[.string ⟨#[]⟩, .string ⟨#[]⟩, .int .i64 0] 43)) 9 [[66], [65]] #[.string ⟨#[66]⟩, .string ⟨#[65]⟩] rfl (b := u7.heap.size + 1) (by simp))
  have HX2 := Lib.hid (tri_below (tri_below HX1.out ((Below.refl _ _).alloc (Nat.le_refl _) (.cells #[.string ⟨#[]⟩, .string ⟨#[]⟩, .int .i64 0] 43))) ((Below.refl _ _).alloc (Nat.le_refl _) (.cells #[.string ⟨#[66]⟩, .string ⟨#[65]⟩] 9)))
  obtain ⟨b7, hb7⟩ : ∃ b, u7.heap.size + 1 = b := ⟨_, rfl⟩
  rw [hb7] at HK1 ⊢
  generalize (u7.alloc (.cells #[.string ⟨#[]⟩, .string ⟨#[]⟩, .int .i64 0] 43)).alloc (.cells #[.string ⟨#[66]⟩, .string ⟨#[65]⟩] 9) = v7 at *
  refine (s5_order C0 2 d0 _ (some ⟨b7, 0, none⟩) 2 2 [[66], [65]] rfl (Rg.row_below HR0.out HB7a.out) (by decide) HS0.out rfl HK1.out (by decide) (shortT_of (by decide)) (i := 1) (e0 := 7) (by decide)).mono ?_
  rintro _ u8 ⟨rfl, hb⟩
  have HX3 := Lib.hid (tri_below HX2.out hb)
  have HB8 := Lib.hid (HB7a.out.trans (hb.mono HB7a.out.size))
  clear hb a0 a1 HX1 HX2 HK1 hb7
  obtain ⟨a0, a1⟩ := HC.out _ HB8.out
  go_wp2_with fail
  have HB8a := Lib.hid (below_alloc HB8.out (Nat.le_refl _) (.cells #[.string ⟨#[65]⟩] 9))
  have HK2 := Lib.hid (Rg.row_new fitsT u8 9 [[65]] #[.string ⟨#[65]⟩] rfl rfl)
  have HX4 := Lib.hid (tri_below HX3.out ((Below.refl _ _).alloc (Nat.le_refl _) (.cells #[.string ⟨#[65]⟩] 9)))
  obtain ⟨b8, hb8⟩ : ∃ b, u8.heap.size = b := ⟨_, rfl⟩
  rw [hb8] at HK2 ⊢
  generalize u8.alloc (.cells #[.string ⟨#[65]⟩] 9) = v8 at *
  refine (s5_order C0 2 d0 _ (some ⟨b8, 0, none⟩) 1 1 [[65]] rfl (Rg.row_below HR0.out HB8a.out) (by decide) HS0.out rfl HK2.out (by decide) (shortT_of (by decide)) (i := 1) (e0 := 10) (by decide)).mono ?_
  rintro _ u9 ⟨rfl, hb⟩
  have HX5 := Lib.hid (tri_below HX4.out hb)
  have HB9 := Lib.hid (HB8a.out.trans (hb.mono HB8a.out.size))
  clear hb a0 a1 HX3 HX4 HK2 hb8
  go_wp2_with fail
  have l1 : Below u9.heap.size u9 (u9.alloc (.cells #[.string ⟨#[65]⟩, .string ⟨#[49]⟩, .int .i64 0, .string ⟨#[66]⟩, .string ⟨#[]⟩, .int .i64 1] 46)) := (Below.refl _ _).alloc (Nat.le_refl _) _
  have l2 : Below (u9.alloc (.cells #[.string ⟨#[65]⟩, .string ⟨#[49]⟩, .int .i64 0, .string ⟨#[66]⟩, .string ⟨#[]⟩, .int .i64 1] 46)).heap.size (u9.alloc (.cells #[.string ⟨#[65]⟩, .string ⟨#[49]⟩, .int .i64 0, .string ⟨#[66]⟩, .string ⟨#[]⟩, .int .i64 1] 46)) ((u9.alloc (.cells #[.string ⟨#[65]⟩, .string ⟨#[49]⟩, .int .i64 0, .string ⟨#[66]⟩, .string ⟨#[]⟩, .int .i64 1] 46)).alloc (.cells #[.string ⟨#[65]⟩, .string ⟨#[120, 32, 121]⟩, .int .i64 3] 46)) := (Below.refl _ _).alloc (Nat.le_refl _) _
  have l3 : Below ((u9.alloc (.cells #[.string ⟨#[65]⟩, .string ⟨#[49]⟩, .int .i64 0, .string ⟨#[66]⟩, .string ⟨#[]⟩, .int .i64 1] 46)).alloc (.cells #[.string ⟨#[65]⟩, .string ⟨#[120, 32, 121]⟩, .int .i64 3] 46)).heap.size ((u9.alloc (.cells #[.string ⟨#[65]⟩, .string ⟨#[49]⟩, .int .i64 0, .string ⟨#[66]⟩, .string ⟨#[]⟩, .int .i64 1] 46)).alloc (.cells #[.string ⟨#[65]⟩, .string ⟨#[120, 32, 121]⟩, .int .i64 3] 46)) (((u9.alloc (.cells #[.string ⟨#[65]⟩, .string ⟨#[49]⟩, .int .i64 0, .string ⟨#[66]⟩, .string ⟨#[]⟩, .int .i64 1] 46)).alloc (.cells #[.string ⟨#[65]⟩, .string ⟨#[120, 32, 121]⟩, .int .i64 3] 46)).alloc (.cells #[.slice (some ⟨u9.heap.size, 0, none⟩) 2 2, .slice (some ⟨u9.heap.size + 1, 0, none⟩) 1 1] 33)) := (Below.refl _ _).alloc (Nat.le_refl _) _
  have r1 := Rg.row_new fitsF u9 46 [(⟨[65], [49], 0⟩ : Fld), ⟨[66], [], 1⟩] #[.string ⟨#[65]⟩, .string ⟨#[49]⟩, .int .i64 0, .string ⟨#[66]⟩, .string ⟨#[]⟩, .int .i64 1] rfl rfl
  have r2 := Rg.row_new fitsF (u9.alloc (.cells #[.string ⟨#[65]⟩, .string ⟨#[49]⟩, .int .i64 0, .string ⟨#[66]⟩, .string ⟨#[]⟩, .int .i64 1] 46)) 46 [(⟨[65], [120, 32, 121], 3⟩ : Fld)] #[.string ⟨#[65]⟩, .string ⟨#[120, 32, 121]⟩, .int .i64 3] rfl (b := u9.heap.size + 1) (by simp)
  have r3 := Rg.row_new fitsO ((u9.alloc (.cells #[.string ⟨#[65]⟩, .string ⟨#[49]⟩, .int .i64 0, .string ⟨#[66]⟩, .string ⟨#[]⟩, .int .i64 1] 46)).alloc (.cells #[.string ⟨#[65]⟩, .string ⟨#[120, 32, 121]⟩, .int .i64 3] 46)) 33 [((some ⟨u9.heap.size, 0, none⟩, 2, 2) : Desc), (some ⟨u9.heap.size + 1, 0, none⟩, 1, 1)] #[.slice (some ⟨u9.heap.size, 0, none⟩) 2 2, .slice (some ⟨u9.heap.size + 1, 0, none⟩) 1 1] rfl (b := u9.heap.size + 1 + 1) (by simp)
  have HGR := Lib.hid (Gr.row_two r3 (Rg.row_below (Rg.row_below r1 l2) l3) (Rg.row_below r2 l3) rfl rfl)
  have HX6 := Lib.hid (tri_below (tri_below (tri_below HX5.out l1) l2) l3)
  have HB9a : Hid (Below u1.heap.size u1 (((u9.alloc (.cells #[.string ⟨#[65]⟩, .string ⟨#[49]⟩, .int .i64 0, .string ⟨#[66]⟩, .string ⟨#[]⟩, .int .i64 1] 46)).alloc (.cells #[.string ⟨#[65]⟩, .string ⟨#[120, 32, 121]⟩, .int .i64 3] 46)).alloc (.cells #[.slice (some ⟨u9.heap.size, 0, none⟩) 2 2, .slice (some ⟨u9.heap.size + 1, 0, none⟩) 1 1] 33))) := ((HB9.out.trans (l1.mono HB9.out.size)).trans (l2.mono (Nat.le_trans HB9.out.size l1.size))).trans (l3.mono (Nat.le_trans (Nat.le_trans HB9.out.size l1.size) l2.size))
  clear l1 l2 l3 r1 r2 r3
  obtain ⟨b9, hb9⟩ : ∃ b, u9.heap.size + 1 + 1 = b := ⟨_, rfl⟩
  rw [hb9] at HGR ⊢
  generalize ((u9.alloc (.cells #[.string ⟨#[65]⟩, .string ⟨#[49]⟩, .int .i64 0, .string ⟨#[66]⟩, .string ⟨#[]⟩, .int .i64 1] 46)).alloc (.cells #[.string ⟨#[65]⟩, .string ⟨#[120, 32, 121]⟩, .int .i64 3] 46)).alloc (.cells #[.slice (some ⟨u9.heap.size, 0, none⟩) 2 2, .slice (some ⟨u9.heap.size + 1, 0, none⟩) 1 1] 33) = v9 at *
  have HLS : Hid (∀ x ∈ [[(⟨[65], [49], 0⟩ : Fld), ⟨[66], [], 1⟩], [⟨[65], [120, 32, 121], 3⟩]], x.length ≤ 100000) := by
    intro x hx
    have h : [[(⟨[65], [49], 0⟩ : Fld), ⟨[66], [], 1⟩], [⟨[65], [120, 32, 121], 3⟩]].all (fun x => decide (x.length ≤ 100000)) = true := by decide
    have := List.all_eq_true.1 h x hx
    rwa [decide_eq_true_eq] at this
  refine (same5_any (some ad) (some ⟨b9, 0, none⟩) 2 c 2 2 _ _ v9 rfl rfl (Gr.row_grow HG.out HB9a.out) HGR.out (by decide) (by decide) HLS.out HLS.out).mono ?_
  rintro _ u10 ⟨rfl, hb⟩
  rw [decide_eq_true rfl]
  have HX7 := Lib.hid (tri_below HX6.out hb)
  have HB10 := Lib.hid (HB9a.out.trans (hb.mono HB9a.out.size))
  clear hb HX5 HX6 HGR hb9
  go_wp2_with fail
  refine (s5_print (some ad) 2 c _ rfl (Gr.row_grow HG.out HB10.out) (by decide) (fun l hl => Nat.le_trans (HLS.out l hl) (by decide)) t5a (by decide)).mono ?_
  rintro _ u11 ⟨rfl, hb⟩
  have HX8 := Lib.hid (tri_below HX7.out hb)
  have HB11 := Lib.hid (HB10.out.trans (hb.mono HB10.out.size))
  obtain ⟨x0, x1, x2, _⟩ := tri_cells HX8.out
  clear hb HX7
  go_wp2_with fail
  go_ret
  exact ⟨rfl, HB1.out.trans (HB11.out.mono HB1.out.size)⟩
end Go.Proofs.YtmhobdlhmkbkdaaDoor
