/- slices.Grow of no slice, slices.Concat of two rows of clauses: walked. -/
import Derived.Test.YtjkmdghlhodhiaaEl
import Derived.Test.YtjkmdghlhodhiaaEdc
import Derived.Test.YtjkmdghlhodhiaaOf
import Derived.Lib.AppendZerosOnto
import Derived.Lib.SliceRun
namespace Go.Proofs.Ytjkmdghlhodhiaa.Up
open Go.RowKit Cl
theorem cD_run (V : Option Addr) (k vc : Nat) : ∀ W : World, (Instr.sliceAt 29 (.slice V k vc) none (some (.int .i64 0)) none).run Try.prog W = .ok (.slice V 0 vc) W := by
  intro W
  have i2 : (0 : Int) ≤ (vc : Int) := by omega
  go_simp
theorem in_cat {w : World} {d1 d2 : List Desc} {l p : List (List Int)} (h1 : Gr.In encI 1 w d1 l) (h2 : Gr.In encI 1 w d2 p) : Gr.In encI 1 w (d1 ++ d2) (l ++ p) := by
  refine ⟨by rw [List.length_append, List.length_append, h1.1, h2.1], fun i d x e1 e2 => ?_⟩
  by_cases h : i < d1.length
  · rw [List.getElem?_append_left h] at e1
    rw [List.getElem?_append_left (by rw [← h1.1]; exact h)] at e2
    exact h1.2 i d x e1 e2
  · rw [List.getElem?_append_right (by omega)] at e1
    rw [List.getElem?_append_right (by rw [← h1.1]; omega), ← h1.1] at e2
    exact h2.2 _ d x e1 e2
theorem caps_cat {d1 d2 : List Desc} (h1 : Caps d1) (h2 : Caps d2) : Caps (d1 ++ d2) := fun x hx => by
  rcases List.mem_append.1 hx with hx | hx
  · exact h1 x hx
  · exact h2 x hx
end Go.Proofs.Ytjkmdghlhodhiaa.Up
namespace Go.Proofs.Ytjkmdghlhodhiaa
open Go.RowKit Cl Up
attribute [local go_sem ↓] Go.wp_at_zero Go.wp_at_succ
set_option maxHeartbeats 400000 in
theorem grow_zero (w : World) : Calls Try.prog 40 #[.slice none 0 0, .int .i64 0] w fun e w' => e = .returned (.slice none 0 0) ∧ w = w' := by
  go_enter Try.func40, Try.ntmps40
  go_wp2_with fail
  go_ret
  exact ⟨rfl, rfl⟩
set_option maxRecDepth 100000 in
set_option maxHeartbeats 1600000 in
theorem grow_some (k : Nat) (h0 : 0 < k) (hk : k ≤ 100000) (w : World) : Calls Try.prog 40 #[.slice none 0 0, .int .i64 k] w fun e w' => ∃ v, e = .returned v ∧ Rg.Own encO 1 w' w.heap.size 47 v [] ∧ Below w.heap.size w w' ∧ w.heap.size ≤ w'.heap.size := by
  obtain ⟨i0, z, hi0, hz0, hz1, hz2, hb⟩ := sliceCC.info
  have hold : (Builtin.firstCells i0.size 0 (.slice none 0 0)).run Try.prog w.drew = .ok (#[] : Array Value) w.drew := run_firstCells_none w.drew i0.size 0 0 0
  have hrz : ∀ ty, (Builtin.append_ #[29, 3] ty #[.slice none 0 0, .int .i64 k]).run Try.prog w = _ := fun ty =>
    Lib.run_append_grow_zeros w 29 3 ty 47 i0 z .i64 .i64 sliceCC.under (by kernel_rfl) hi0 hz0 none 0 0 [] hold k h0 (by omega) (by omega) (by omega)
      (by have : k * i0.bytes ≤ 100000 * 1000 := Nat.mul_le_mul hk hb
          omega)
      (growslice_fits (by omega) (by
        have : (0 + k) * i0.bytes ≤ 100000 * 1000 := Nat.mul_le_mul (by omega) hb
        omega))
  obtain ⟨G, hG⟩ : ∃ G, grownCap w (0 + k) 0 47 = G := ⟨_, rfl⟩
  have hGn : 0 + k ≤ G := by rw [← hG]; exact grownCap_ge w _ _ _
  have hGm : G ≤ maxLen := by rw [← hG]; exact grownCap_le_maxLen w _ _ _ (by unfold maxLen; omega)
  rw [hG] at hrz
  obtain ⟨cs, hcs⟩ : ∃ c, ([] : List Value).toArray ++ Builtin.zeroCells z.cells k ++ Builtin.zeroCells z.cells (G - (0 + k)) = c := ⟨_, rfl⟩
  have hsz : cs.size = G * 1 := by rw [← hcs]; simp [Builtin.zeroCells, hz1]; omega
  rw [hcs, Nat.zero_add] at hrz
  obtain ⟨W, hW⟩ : ∃ W, w.drew.alloc (.cells cs 47) = W := ⟨_, rfl⟩
  rw [hW] at hrz
  have HO : Hid (Rg.Own encO 1 W w.heap.size 47 (.slice (some ⟨w.heap.size, 0, none⟩) 0 G) []) := by
    show World.ownsRow _ _ _ _ _ _ _
    refine ⟨rfl, .inr ⟨w.heap.size, G, cs, rfl, Nat.le_refl _, ?_, Nat.zero_le _, hGm, hsz, by simp [Rg.flat]⟩⟩
    rw [← hW]; exact heap_alloc_new w.drew _
  have HB : Hid (Below w.heap.size w W) := by rw [← hW]; exact ((Below.refl _ w).drew).alloc (Nat.le_refl _) _
  have hD := cD_run (some ⟨w.heap.size, 0, none⟩) k G
  have k0 : (0 : Int) < (k : Int) := by omega
  have k1 : ¬ ((k : Int) < 0) := by omega
  have wk : IntKind.i64.wrap ((k : Int) - 0) = (k : Int) := (IntWalk.i64_in _ (by omega)).trans (by omega)
  have wk2 : IntKind.i64.wrap (k : Int) = (k : Int) := IntWalk.i64_in _ (by omega)
  clear hold hi0 hz0 hz1 hz2 hb hG hGn hGm hcs hsz hW
  go_enter Try.func40, Try.ntmps40
  go_wp2_with (at_builtin; refine Lib.wpList_append_run _ rfl _ _ _ _ rfl _ _ rfl rfl _ _ (hrz _) ?_)
  all_goals go_ret
  all_goals exact ⟨_, rfl, HO.out, HB.out, HB.out.size⟩
theorem grow_any (k : Nat) (hk : k ≤ 100000) (w : World) : Calls Try.prog 40 #[.slice none 0 0, .int .i64 k] w fun e w' => ∃ v, e = .returned v ∧ Rg.Own encO 1 w' w.heap.size 47 v [] ∧ Below w.heap.size w w' ∧ w.heap.size ≤ w'.heap.size := by
  by_cases h : k = 0
  · subst h
    refine (grow_zero w).mono ?_
    rintro e w' ⟨rfl, rfl⟩
    exact ⟨_, rfl, Rg.own_nil _ _ _, Below.refl _ _, Nat.le_refl _⟩
  · exact grow_some k (by omega) hk w
set_option maxRecDepth 100000 in
set_option maxHeartbeats 3200000 in
theorem concat_any (b : Nat) (A B : Option Addr) (ll kk c d : Nat) (l p : List (List Int)) (w : World) (hl : l.length = ll) (hg : CRow w A l) (hk : p.length = kk) (hp : CRow w B p) (hl1 : ll ≤ 40000) (hk1 : kk ≤ 40000) (hb0 : b < w.heap.size) (hc0 : w.cell? ⟨b, 0, none⟩ = some (.slice A ll c)) (hc1 : w.cell? ⟨b, 1, none⟩ = some (.slice B kk d)) :
    Calls Try.prog 27 #[.slice (some ⟨b, 0, none⟩) 2 2] w fun e w' => ∃ C q, e = .returned (.slice C (ll + kk) q) ∧ CRow w' C (l ++ p) ∧ ll + kk ≤ q ∧ Below w.heap.size w w' ∧ w.heap.size ≤ w'.heap.size := by
  obtain ⟨d1, ha1, ha2, ha3⟩ := hg
  obtain ⟨d2, hp1, hp2, hp3⟩ := hp
  have hn1 : d1.length = ll := ha2.1.trans hl
  have hn2 : d2.length = kk := hp2.1.trans hk
  have HR1 := Lib.hid ha1
  have HR2 := Lib.hid hp1
  have HI : Hid (Gr.In encI 1 w (d1 ++ d2) (l ++ p)) := in_cat ha2 hp2
  have HCP : Hid (Caps (d1 ++ d2)) := caps_cat ha3 hp3
  have HN1 := Lib.hid hn1
  have HN2 := Lib.hid hn2
  have HC0 : Hid (∀ u, Below w.heap.size w u → u.cell? ⟨b, 0, none⟩ = some (.slice A ll c)) := fun u hu => (hu.cell (p := ⟨b, 0, none⟩) hb0).trans hc0
  have HC1 : Hid (∀ u, Below w.heap.size w u → u.cell? ⟨b, 1, none⟩ = some (.slice B kk d)) := fun u hu => (hu.cell (p := ⟨b, 1, none⟩) hb0).trans hc1
  obtain ⟨m, hm⟩ : ∃ m, ll + kk = m := ⟨_, rfl⟩
  have HM := Lib.hid hm
  have w1 : IntKind.i64.wrap (0 + (ll : Int)) = (ll : Int) := (IntWalk.i64_in _ (by omega)).trans (by omega)
  have w1' : IntKind.i64.wrap (ll : Int) = (ll : Int) := IntWalk.i64_in _ (by omega)
  have w2 : IntKind.i64.wrap ((ll : Int) + (kk : Int)) = (m : Int) := (IntWalk.i64_in _ (by omega)).trans (by omega)
  have n1 : ¬ ((ll : Int) < 0) := by omega
  have n2 : ¬ ((m : Int) < 0) := by omega
  have HGR := Lib.hid (grow_any m (by omega) w)
  rw [hm]
  clear ha1 ha2 ha3 hp1 hp2 hp3 hn1 hn2 hl hk hm hb0
  go_enter Try.func27, Try.ntmps27
  go_wp2_with fail
  go_loopw [3, 11] (fun s i wr => w = wr ∧ ((i = .int .i64 0 ∧ s = .int .i64 0) ∨ (i = .int .i64 1 ∧ s = .int .i64 ll) ∨ (i = .int .i64 2 ∧ s = .int .i64 m))) (fun _ i _ => 2 - (intOf i).toNat)
  case atStart => exact ⟨rfl, .inl ⟨rfl, rfl⟩⟩
  case round =>
    obtain ⟨rfl, ⟨rfl, rfl⟩ | ⟨rfl, rfl⟩ | ⟨rfl, rfl⟩⟩ := hrel
    · go_wp2_with fail
      go_roundw
      case rel => exact ⟨trivial, .inr (.inl ⟨rfl, rfl⟩)⟩
      case measure => simp [intOf]
    · go_wp2_with fail
      go_roundw
      case rel => exact ⟨trivial, .inr (.inr ⟨rfl, rfl⟩)⟩
      case measure => simp [intOf]
    · clear hc0 hc1
      go_wp2_with (go_at_call 40; refine HGR.out.mono ?_)
      rintro _ u ⟨v, rfl, ho, hb, hz⟩
      have HO := Lib.hid ho
      have HB := Lib.hid (And.intro hb hz)
      clear ho hb hz HGR
      go_wp2_with fail
      go_loopw [6, 27] (fun v i wr => ∃ D : List Desc, Hid (Rg.Own encO 1 wr w.heap.size 47 v D) ∧ Hid (Below w.heap.size w wr ∧ w.heap.size ≤ wr.heap.size) ∧ ((i = .int .i64 0 ∧ Hid (D = [])) ∨ (i = .int .i64 1 ∧ Hid (D = d1)) ∨ (i = .int .i64 2 ∧ Hid (D = d1 ++ d2)))) (fun _ i _ => 2 - (intOf i).toNat)
      case atStart => exact ⟨[], HO.out, HB.out, .inl ⟨rfl, rfl⟩⟩
      case round =>
        clear HO HB
        obtain ⟨D, HO, HB, ⟨rfl, HD⟩ | ⟨rfl, HD⟩ | ⟨rfl, HD⟩⟩ := hrel
        · have c0 := HC0.out _ HB.out.1
          have hr := Rg.row_below HR1.out HB.out.1
          have HS : Hid (D.length + d1.length ≤ 1000000) := by show _ ≤ _; rw [HD.out, HN1.out]; show 0 + ll ≤ _; omega
          have HE : Hid (D ++ d1 = d1) := by show _ = _; rw [HD.out]; rfl
          go_wp2_with (at_builtin; refine Rg.wpList_appS sliceCC rfl (.tmp 31) (.tmp 32) rfl w.heap.size _ D d1 rfl HO.out A ll c HN1.out rfl hr HS.out HB.out.2 ?_)
          intro v5 W5 ho5 hg5 hz5
          have HB5 : Hid (Below w.heap.size w W5 ∧ w.heap.size ≤ W5.heap.size) := ⟨HB.out.1.trans (Rg.grown_below HO.out HB.out.2 hg5), Nat.le_trans HB.out.2 hz5⟩
          have HO5 := Lib.hid ho5
          clear ho5 hg5 hz5 hr c0 HB HO
          go_wp2_with fail
          go_roundw
          case rel => exact ⟨D ++ d1, HO5.out, HB5.out, .inr (.inl ⟨rfl, HE.out⟩)⟩
          case measure => simp [intOf]
        · have c1 := HC1.out _ HB.out.1
          have hr := Rg.row_below HR2.out HB.out.1
          have HS : Hid (D.length + d2.length ≤ 1000000) := by show _ ≤ _; rw [HD.out, HN1.out, HN2.out]; omega
          have HE : Hid (D ++ d2 = d1 ++ d2) := by show _ = _; rw [HD.out]
          go_wp2_with (at_builtin; refine Rg.wpList_appS sliceCC rfl (.tmp 31) (.tmp 32) rfl w.heap.size _ D d2 rfl HO.out B kk d HN2.out rfl hr HS.out HB.out.2 ?_)
          intro v5 W5 ho5 hg5 hz5
          have HB5 : Hid (Below w.heap.size w W5 ∧ w.heap.size ≤ W5.heap.size) := ⟨HB.out.1.trans (Rg.grown_below HO.out HB.out.2 hg5), Nat.le_trans HB.out.2 hz5⟩
          have HO5 := Lib.hid ho5
          clear ho5 hg5 hz5 hr c1 HB HO
          go_wp2_with fail
          go_roundw
          case rel => exact ⟨D ++ d2, HO5.out, HB5.out, .inr (.inr ⟨rfl, HE.out⟩)⟩
          case measure => simp [intOf]
        · have ho := HO.out
          rw [HD.out] at ho
          obtain ⟨C, q, e, hr, hq, _⟩ := Rg.row_own fitsO ho
          have hlen : (d1 ++ d2).length = m := by rw [List.length_append, HN1.out, HN2.out]; exact HM.out
          rw [hlen] at e hq
          subst e
          have HRR := Lib.hid hr
          have HQ := Lib.hid hq
          clear hr hq hlen
          go_wp2_with fail
          go_ret
          exact ⟨C, q, rfl, ⟨d1 ++ d2, HRR.out, Gr.in_below HI.out HB.out.1, HCP.out⟩, HQ.out, HB.out.1, HB.out.2⟩
end Go.Proofs.Ytjkmdghlhodhiaa
