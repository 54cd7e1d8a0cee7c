/- The law StanzaOrder, walked. -/
import Derived.Test.YtmhobdlhmkbkdaaDoorUk
namespace Go.Proofs.YtmhobdlhmkbkdaaDoor
open Go.RowKit Go.Maps Sz
attribute [local go_sem ↓] Go.wp_at_zero Go.wp_at_succ
theorem Sz.s5_refOrder {u : World} (A : Option Addr) (n c : Nat) (l : List Fld) (B : Option Addr) (m d : Nat) (ks : List (List UInt8)) (hn : l.length = n) (hr : Rg.Row encF 3 u A l) (hl : n ≤ 100000) (hm : ks.length = m) (hk : Rg.Row encT 1 u B ks) (hml : m ≤ 100000) {i e0 : Int} (hX : ordP ks 0 (-1) l = (i, e0)) :
    Calls Tryd.prog 14 #[.slice A n c, .slice B m d] u fun e w' => e = .returned (.tuple #[.int .i64 i, .int .i64 e0]) ∧ Below u.heap.size u w' :=
  (refOrder_any A n c l B m d ks u hn hr hl hm hk hml).mono fun e w' ⟨he, hb⟩ => by
    rw [hX] at he
    exact ⟨he, hb⟩
theorem Sz.s5_refGet {u : World} (A : Option Addr) (n c : Nat) (l : List Fld) (key : List UInt8) (hn : l.length = n) (hr : Rg.Row encF 3 u A l) (hl : n ≤ 100000) {g : Fld} {b : Bool} (hg : (getF l key).getD ⟨[], [], 0⟩ = g) (hb : (getF l key).isSome = b) :
    Calls Tryd.prog 16 #[.slice A n c, .string ⟨key.toArray⟩] u fun e w' => e = .returned (.tuple #[.agg #[.string ⟨g.key.toArray⟩, .string ⟨g.val.toArray⟩, .int .i64 g.line], .bool b]) ∧ Below u.heap.size u w' :=
  (refGet_any A n c l key u hn hr hl).mono fun e w' ⟨he, hbb⟩ => by
    rw [hg, hb] at he
    exact ⟨he, hbb⟩
set_option maxRecDepth 100000 in
set_option maxHeartbeats 6400000 in
theorem lawStanzaOrder_any (A : Option Addr) (n c : Nat) (l : List Fld) (B : Option Addr) (m d : Nat) (ks : List (List UInt8)) (key : List UInt8) (w : World) (hw : MaxOk w) (hn : l.length = n) (hr : Rg.Row encF 3 w A l) (hnm : n ≤ maxLen) (hs : Short l) (hm : ks.length = m) (hk : Rg.Row encT 1 w B ks) (hmm : m ≤ maxLen) (hks : ShortT ks) :
    Calls Tryd.prog 4 #[.slice A n c, .slice B m d, .string ⟨key.toArray⟩] w fun e w' => e = .returned (.bool true) ∧ Below w.heap.size w w' := by
  unfold maxLen at hnm hmm
  have HM := Lib.hid hw
  have HN := Lib.hid hn
  have HMM := Lib.hid hm
  have HR := Lib.hid hr
  have HK := Lib.hid hk
  have HS := Lib.hid hs
  have HKS := Lib.hid hks
  clear hw hn hm hr hk hs hks
  by_cases h1 : 30 < n
  · have d0 : decide ((30 : Int) < (n : Int)) = true := decide_eq_true (by omega)
    clear h1
    go_enter Tryd.func4, Tryd.ntmps4
    go_wp2_with fail
    refine (known5_any _ HM.out).mono ?_
    rintro _ u1 ⟨rfl, hb⟩
    have HB1 := Lib.hid hb
    clear hb
    go_wp2_with fail
    go_ret
    exact ⟨rfl, HB1.out⟩
  have d0 : decide ((30 : Int) < (n : Int)) = false := decide_eq_false (by omega)
  by_cases h2 : 30 < m
  · have d1 : decide ((30 : Int) < (m : Int)) = true := decide_eq_true (by omega)
    clear h1 h2
    go_enter Tryd.func4, Tryd.ntmps4
    go_wp2_with fail
    refine (known5_any _ HM.out).mono ?_
    rintro _ u1 ⟨rfl, hb⟩
    have HB1 := Lib.hid hb
    clear hb
    go_wp2_with fail
    go_ret
    exact ⟨rfl, HB1.out⟩
  have d1 : decide ((30 : Int) < (m : Int)) = false := decide_eq_false (by omega)
  have hl : n ≤ 100000 := by omega
  have hml : m ≤ 100000 := by omega
  obtain ⟨X, hX⟩ : ∃ X, ordP ks 0 (-1) l = X := ⟨_, rfl⟩
  obtain ⟨i, e0⟩ := X
  have HX := Lib.hid hX
  obtain ⟨g, hg⟩ : ∃ g, (getF l key).getD ⟨[], [], 0⟩ = g := ⟨_, rfl⟩
  obtain ⟨b, hbs⟩ : ∃ b, (getF l key).isSome = b := ⟨_, rfl⟩
  have HGG := Lib.hid hg
  have HBS := Lib.hid hbs
  obtain ⟨gk, gv, gl⟩ := g
  clear h1 h2 hX hg hbs
  go_enter Tryd.func4, Tryd.ntmps4
  go_wp2_with fail
  refine (known5_any _ HM.out).mono ?_
  rintro _ u1 ⟨rfl, hb⟩
  have HB1 := Lib.hid hb
  clear hb
  go_wp2_with fail
  refine (to5_any A n c l _ HN.out (Rg.row_below HR.out HB1.out) hl).mono ?_
  rintro _ u2 ⟨C2, d2, rfl, hr2, hb⟩
  have HR2 := Lib.hid hr2
  have HB2 := Lib.hid (HB1.out.trans (hb.mono HB1.out.size))
  clear hb hr2
  go_wp2_with fail
  refine (s5_order C2 n d2 l B m d ks HN.out HR2.out hl HS.out HMM.out (Rg.row_below HK.out HB2.out) hml HKS.out HX.out).mono ?_
  rintro _ u3 ⟨rfl, hb⟩
  have HB3 := Lib.hid (HB2.out.trans (hb.mono HB2.out.size))
  clear hb
  go_wp2_with fail
  refine (s5_refOrder A n c l B m d ks HN.out (Rg.row_below HR.out HB3.out) hl HMM.out (Rg.row_below HK.out HB3.out) hml HX.out).mono ?_
  rintro _ u4 ⟨rfl, hb⟩
  have HB4 := Lib.hid (HB3.out.trans (hb.mono HB3.out.size))
  clear hb
  go_wp2_with fail
  refine (to5_any A n c l _ HN.out (Rg.row_below HR.out HB4.out) hl).mono ?_
  rintro _ u5 ⟨C5, d5, rfl, hr5, hb⟩
  have HR5 := Lib.hid hr5
  have HB5 := Lib.hid (HB4.out.trans (hb.mono HB4.out.size))
  clear hb hr5
  go_wp2_with fail
  refine (s5_get C5 n d5 l key HN.out HR5.out hl HS.out HGG.out HBS.out).mono ?_
  rintro _ u6 ⟨rfl, hb⟩
  have HB6 := Lib.hid (HB5.out.trans (hb.mono HB5.out.size))
  clear hb
  go_wp2_with fail
  have HX0 : Hid (Tri u6.heap.size gk gv gl 43 (u6.alloc (.cells #[.string ⟨gk.toArray⟩, .string ⟨gv.toArray⟩, .int .i64 gl] 43))) := tri_new rfl
  have HB6a := Lib.hid (below_alloc HB6.out (Nat.le_refl _) (.cells #[.string ⟨gk.toArray⟩, .string ⟨gv.toArray⟩, .int .i64 gl] 43))
  generalize u6.alloc (.cells #[.string ⟨gk.toArray⟩, .string ⟨gv.toArray⟩, .int .i64 gl] 43) = v6 at *
  refine (s5_refGet A n c l key HN.out (Rg.row_below HR.out HB6a.out) hl HGG.out HBS.out).mono ?_
  rintro _ u7 ⟨rfl, hb⟩
  have HX1 := Lib.hid (tri_below HX0.out hb)
  have HB7 := Lib.hid (HB6a.out.trans (hb.mono HB6a.out.size))
  clear hb
  have HB7a := Lib.hid (below_alloc HB7.out (Nat.le_refl _) (.cells #[.string ⟨gk.toArray⟩, .string ⟨gv.toArray⟩, .int .i64 gl] 46))
  obtain ⟨x0, x1, x2, _⟩ := tri_cells (tri_below HX1.out ((Below.refl _ _).alloc (Nat.le_refl _) (.cells #[.string ⟨gk.toArray⟩, .string ⟨gv.toArray⟩, .int .i64 gl] 46)))
  obtain ⟨y0, y1, y2, _⟩ := tri_cells (tri_new (w := u7) (k := gk) (v := gv) (n := gl) (T := 46) rfl)
  have e1 : (i == i) = true := by simp
  have e2 : (e0 == e0) = true := by simp
  have e3 : (b == b) = true := by simp
  have e4 : (gk == gk) = true := by simp
  have e5 : (gv == gv) = true := by simp
  have e6 : (gl == gl) = true := by simp
  go_wp2_with fail
  go_ret
  exact ⟨rfl, HB7a.out⟩
end Go.Proofs.YtmhobdlhmkbkdaaDoor
