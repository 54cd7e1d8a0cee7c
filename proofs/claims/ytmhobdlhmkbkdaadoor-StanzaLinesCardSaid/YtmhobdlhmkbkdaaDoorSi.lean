/- A field is added to the reader's last stanza: walked. -/
import Derived.Test.YtmhobdlhmkbkdaaDoorSh
namespace Go.Proofs.YtmhobdlhmkbkdaaDoor
open Go.RowKit Go.Maps Sz
attribute [local go_sem ↓] Go.wp_at_zero Go.wp_at_succ
def Sz.AddRet (w : World) (B d : Nat) (v0 : Value) (ds : List Desc) (acc : List (List Fld)) (last : List Fld) (f : Fld) (e : Ending) (w' : World) : Prop :=
  Keeps B d w w' ∧ w.heap.size ≤ w'.heap.size ∧ if (last.map Fld.key).contains f.key then e = panAt f.line 6 else
    e = .returned (.tuple #[]) ∧ ∃ u1 m, B ≤ m ∧ DrO w' B d v0 u1 (.map (some m)) ds acc (last ++ [f]) ∧ KSet w' m ((last ++ [f]).map Fld.key)
/-- The block of the field that came. -/
def Sz.FB (b : Nat) (f : Fld) (u : World) : Prop := u.cell? ⟨b, 0, none⟩ = some (.string ⟨f.key.toArray⟩) ∧ u.cell? ⟨b, 1, none⟩ = some (.string ⟨f.val.toArray⟩) ∧ u.cell? ⟨b, 2, none⟩ = some (.int .i64 f.line) ∧ u.heap[b]? = some (.cells #[.string ⟨f.key.toArray⟩, .string ⟨f.val.toArray⟩, .int .i64 f.line] 43 (0, 0))
theorem Sz.fb_of {b : Nat} {f : Fld} {u : World} (h : u.heap[b]? = some (.cells #[.string ⟨f.key.toArray⟩, .string ⟨f.val.toArray⟩, .int .i64 f.line] 43 (0, 0))) : FB b f u := by
  refine ⟨?_, ?_, ?_, h⟩ <;> simp [World.cell?, h]
theorem Sz.below_turned {u W : World} {B m : Nat} (hg : u.grownBy W (some m)) (hm : B ≤ m) (hB : B ≤ u.heap.size) : Below B u W := by
  obtain ⟨g1, g2, g3, g4, g5⟩ := hg
  refine ⟨?_, ?_, ?_, g4, fun k hk => g5 k (Nat.lt_of_lt_of_le hk hB) (fun e => by have := Option.some.inj e; omega)⟩
  · first | exact g1 | exact g1.symm
  · first | exact g2 | exact g2.symm
  · first | exact g3 | exact g3.symm
theorem Sz.kset_far {w W : World} {B d m : Nat} {v0 v1 v2 : Value} {ds : List Desc} {acc : List (List Fld)} {last : List Fld} {ks : List (List UInt8)} (h : DrO w B d v0 v1 v2 ds acc last) (hk : KSet w m ks) (hg : w.grownBy W v1.ownBlock) (x : Value) : KSet (W.setCell ⟨d, 1, none⟩ x) m ks := by
  have hk0 := hk
  obtain ⟨n, D, ⟨es, clock, hm, _⟩, _⟩ := hk
  have hlt : m < w.heap.size := (Array.getElem?_eq_some_iff.1 hm).1
  have hdm : d ≠ m := fun e => by
    have h1 := h.2.1
    rw [e, hm] at h1; cases h1
  have n1 : v1.ownBlock ≠ some m := fun e => by
    obtain ⟨cs, fr, hc⟩ := own_cells h.2.2.2.2.2.1 e
    rw [hm] at hc; cases hc
  exact kset_kept hk0 (((set_grown W ⟨d, 1, none⟩ x).block m (Nat.lt_of_lt_of_le hlt hg.size) (fun e => hdm (Option.some.inj e).symm)).trans (hg.block m hlt (fun e => n1 e.symm)))
set_option maxRecDepth 100000 in
set_option maxHeartbeats 3200000 in
theorem draftAdd_more {w : World} {B d : Nat} {v0 v1 v2 : Value} {ds : List Desc} {acc : List (List Fld)} {last : List Fld} (f : Fld) (h : DrO w B d v0 v1 v2 ds acc last) (hsz : last.length + 1 ≤ 1000000) (hk : f.key.length ≤ 1000000) (hB : B ≤ w.heap.size)
    (hl : last ≠ []) (hm : ∃ m, v2 = .map (some m) ∧ B ≤ m ∧ KSet w m (last.map Fld.key)) :
    Calls Tryd.prog 35 #[.pointer (some ⟨d, 0, none⟩), .agg #[.string ⟨f.key.toArray⟩, .string ⟨f.val.toArray⟩, .int .i64 f.line]] w (Sz.AddRet w B d v0 ds acc last f) := by
  obtain ⟨W1, hW1⟩ : ∃ W, w.alloc (.cells #[.string ⟨f.key.toArray⟩, .string ⟨f.val.toArray⟩, .int .i64 f.line] 43) = W := ⟨_, rfl⟩
  have HB1 : Hid (Below w.heap.size w W1) := alloc_low hW1
  have HF1 : Hid (FB w.heap.size f W1) := fb_of (by rw [← hW1]; exact heap_alloc_new w _)
  have hs1 : W1.heap.size = w.heap.size + 1 := by rw [← hW1]; simp
  have HLT : Hid (w.heap.size < W1.heap.size) := by show _ < _; omega
  have H1 := Lib.hid (dro_below h HB1.out)
  have HD0 : Hid (B ≤ w.heap.size ∧ d < w.heap.size) := ⟨hB, dro_lt h⟩
  have HK := Lib.hid hk
  have HSZ := Lib.hid hsz
  obtain ⟨A, c, hv, hrow, _, _⟩ := Rg.row_own fitsF h.2.2.2.2.2.1
  obtain ⟨n, hn⟩ : ∃ n, last.length = n := ⟨_, rfl⟩
  rw [hn] at hv
  subst hv
  have HN := Lib.hid hn
  obtain ⟨d0, d1, d2, f0, f1, f2⟩ := dro_cells H1.out
  obtain ⟨m, rfl, hbm, hks⟩ := hm
  have hmw : m < w.heap.size := by
    obtain ⟨_, _, ⟨_, _, hh, _⟩, _⟩ := hks
    exact (Array.getElem?_eq_some_iff.1 hh).1
  have HM : Hid (B ≤ m ∧ m < W1.heap.size ∧ w.heap.size ≠ m) := ⟨hbm, by omega, by omega⟩
  have HKS : Hid (KSet W1 m (last.map Fld.key)) := kset_below hks HB1.out hmw
  have hne : ((n : Int) == 0) = false := by
    have : last.length ≠ 0 := fun e => hl (List.length_eq_zero_iff.1 e)
    rw [hn] at this
    simp; omega
  clear h hn hsz hk hB hrow hl hbm hks hs1 hmw
  go_enter Tryd.func35, Tryd.ntmps35
  go_wp2_with fail
  clear hW1 hne
  have HBX : Hid (Keeps B d w W1 ∧ w.heap.size ≤ W1.heap.size) := ⟨keeps_of <| HB1.out.mono HD0.out.1, HB1.out.size⟩
  have HX := H1
  have HFX := HF1
  have HLX := HLT
  clear H1 HF1 HLT
  generalize W1 = WX at *
  obtain ⟨b0, b1, b2, _⟩ := HFX.out
  obtain ⟨tw, htw⟩ : ∃ t, (last.map Fld.key).contains f.key = t := ⟨_, rfl⟩
  have HTW := Lib.hid htw
  have l0 := kset_look (kset_below HKS.out (Below.refl WX.heap.size WX).drew (HM.out.2.1)) HK.out
  have l1 := kset_look (w := (WX.alloc (.cells #[] 91)).drew) (kset_below HKS.out ((Below.refl WX.heap.size WX).alloc (Nat.le_refl _) (.cells #[] 91)).drew (HM.out.2.1)) HK.out
  rw [htw] at l0 l1
  clear htw
  go_region_held3 (fun w' => w'.cell? ⟨d, 2, none⟩ = some (.map (some m)) ∧ w'.cell? ⟨w.heap.size, 0, none⟩ = some (.string ⟨f.key.toArray⟩)) (go_keep) (fail)
  clear l0 l1
  all_goals (
    have HB3 : Hid (Below WX.heap.size WX ((WX.alloc (.cells #[] 91)).drew)) := ((Below.refl WX.heap.size WX).alloc (Nat.le_refl _) (.cells #[] 91)).drew
    generalize (WX.alloc (.cells #[] 91)).drew = W3 at *
    have H3 := Lib.hid (dro_below HX.out HB3.out)
    have HF3 : Hid (FB w.heap.size f W3) := fb_of ((HB3.out.block _ HLX.out).trans HFX.out.2.2.2)
    have HK3 : Hid (KSet W3 m (last.map Fld.key)) := kset_below HKS.out HB3.out (HM.out.2.1)
    have HBW3 : Hid (Keeps B d w W3 ∧ w.heap.size ≤ W3.heap.size) := ⟨keeps_trans HBX.out.1 <| keeps_of (HB3.out.mono (Nat.le_trans HD0.out.1 HBX.out.2)), Nat.le_trans HBX.out.2 HB3.out.size⟩
    clear d0 d1 d2 f0 f1 f2 b0 b1 b2 HBX HKS
    obtain ⟨d0, d1, d2, f0, f1, f2⟩ := dro_cells H3.out
    obtain ⟨b0, b1, b2, _⟩ := HF3.out
    cases tw
    case true =>
      go_wp2_with fail
      refine (requireAt_no _).mono ?_
      rintro _ z ⟨rfl, rfl⟩
      go_wp2_with fail
      exact ⟨rfl, by show AddRet w B d v0 ds acc last f _ _; exact ⟨HBW3.out.1, HBW3.out.2, by rw [if_pos HTW.out]⟩⟩
    case false =>
      go_wp2_with fail
      refine (requireAt_yes _).mono ?_
      rintro _ z ⟨rfl, rfl⟩
      have hk3d : KSet W3.drew m (last.map Fld.key) := kset_kept HK3.out rfl
      obtain ⟨W5, hr5, hk5, ht5⟩ := kset_put hk3d HK.out (by rw [List.length_map]; have := HSZ.out; omega)
      have H5 := Lib.hid (dro_map (dro_below H3.out (Below.refl _ _).drew) hk3d ht5)
      have HK5 := Lib.hid hk5
      have hbm : w.heap.size ≠ m := HM.out.2.2
      have HF5 : Hid (FB w.heap.size f W5) := fb_of ((ht5.grown.block w.heap.size (by have := HLX.out; have := HB3.out.size; show _ < W3.heap.size; omega) (fun e => hbm (Option.some.inj e))).trans HF3.out.2.2.2)
      have HB5 : Hid (Keeps B d w W5 ∧ w.heap.size ≤ W5.heap.size) := ⟨keeps_trans HBW3.out.1 <| keeps_of <| (Below.refl _ W3).drew.trans (below_turned ht5.grown HM.out.1 (Nat.le_trans HD0.out.1 HBW3.out.2)), Nat.le_trans HBW3.out.2 ht5.grown.size⟩
      obtain ⟨e0, e1, e2, k0, k1, k2⟩ := dro_cells H5.out
      obtain ⟨g0, g1, g2, _⟩ := HF5.out
      clear hk3d hk5 ht5 hbm
      go_wp2_with fail
      go_region_held3 (fun w' => w'.cell? ⟨d, 2, none⟩ = some (.map (some m)) ∧ w'.cell? ⟨w.heap.size, 0, none⟩ = some (.string ⟨f.key.toArray⟩)) (go_keep) (fail)
      all_goals (
        clear d0 d1 d2 f0 f1 f2 b0 b1 b2 hr5
        have HB0 : Hid (B ≤ W5.heap.size) := Nat.le_trans HD0.out.1 HB5.out.2
        have hbA : Below W5.heap.size W5 (W5.alloc (.cells #[.string ⟨f.key.toArray⟩, .string ⟨f.val.toArray⟩, .int .i64 f.line] 43)) := (Below.refl _ _).alloc (Nat.le_refl _) _
        have a1 := (dro_cells (dro_below H5.out hbA)).2.1
        have HNE : Hid ((Value.slice A n c).ownBlock ≠ some d) := own_ne H5.out.2.2.2.2.2.1 H5.out.2.1 neF
        have hbB : w.heap.size < W5.heap.size := (Array.getElem?_eq_some_iff.1 HF5.out.2.2.2).1
        have hfa := fb_of ((hbA.block _ hbB).trans HF5.out.2.2.2)
        obtain ⟨q0, q1, q2, _⟩ := hfa
        clear hbA hbB
        go_wp2_with fail
        go_region_law (refine Rg.step_app_at fitsF sliceF (by rfl) (.tmp 42) (.tmp 44) (by rfl) B (.slice A n c) last [f] (by rfl) (Rg.own_below H5.out.2.2.2.2.2.1 ((Below.refl _ _).drew.alloc (Nat.le_refl _) _)) _ _ (by rfl) (Rg.news_new _ _ [f] _ (by rfl)) (Nat.zero_lt_succ _) HSZ.out (Nat.le_trans HB0.out (by simp)) ?_; intro g cap W6 ho6 hg6 hl6; have HO6 := Lib.hid ho6; have HG6 := Lib.hid hg6; have HL6 := Lib.hid hl6; obtain ⟨x0, x1, x2, y0, y1, y2⟩ := dro_far H5.out ((Below.refl _ _).drew.alloc (Nat.le_refl _) _) hg6 HNE.out; clear ho6 hg6 hl6)
        all_goals (
          have HGW : Hid (W5.grownBy W6 (Value.slice A n c).ownBlock) := grown_of ((Below.refl _ _).drew.alloc (Nat.le_refl _) _) HG6.out
          have HBW6 := Lib.hid (own_base H5.out.2.2.2.2.2.1 HB0.out ((Below.refl _ _).drew.alloc (Nat.le_refl _) _) HG6.out)
          have HD := Lib.hid (dro_add H5.out HO6.out HGW.out (HL6.out.imp id (fun h => by rw [h]; simp)))
          have HKF := Lib.hid (kset_far H5.out HK5.out HGW.out (.slice (some ⟨g, 0, none⟩) (last.length + [f].length) cap))
          go_wp2_with fail
          exact bodyPost_ret (v := .tuple #[]) (by simp [results, Tryd.results35, go_sem]) rfl ⟨keeps_set (keeps_trans HB5.out.1 (keeps_of HBW6.out)) _, Nat.le_trans HB5.out.2 (by simpa using HGW.out.size), by rw [if_neg (by rw [HTW.out]; decide)]; exact ⟨rfl, _, m, HM.out.1, HD.out, by rw [List.map_append]; exact HKF.out⟩⟩)))
set_option maxRecDepth 100000 in
set_option maxHeartbeats 3200000 in
theorem draftAdd_first {w : World} {B d : Nat} {v0 v1 v2 : Value} {ds : List Desc} {acc : List (List Fld)} {last : List Fld} (f : Fld) (h : DrO w B d v0 v1 v2 ds acc last) (hsz : last.length + 1 ≤ 1000000) (hk : f.key.length ≤ 1000000) (hB : B ≤ w.heap.size)
    (hl : last = []) :
    Calls Tryd.prog 35 #[.pointer (some ⟨d, 0, none⟩), .agg #[.string ⟨f.key.toArray⟩, .string ⟨f.val.toArray⟩, .int .i64 f.line]] w (Sz.AddRet w B d v0 ds acc last f) := by
  obtain ⟨W1, hW1⟩ : ∃ W, w.alloc (.cells #[.string ⟨f.key.toArray⟩, .string ⟨f.val.toArray⟩, .int .i64 f.line] 43) = W := ⟨_, rfl⟩
  have HB1 : Hid (Below w.heap.size w W1) := alloc_low hW1
  have HF1 : Hid (FB w.heap.size f W1) := fb_of (by rw [← hW1]; exact heap_alloc_new w _)
  have hs1 : W1.heap.size = w.heap.size + 1 := by rw [← hW1]; simp
  have HLT : Hid (w.heap.size < W1.heap.size) := by show _ < _; omega
  have H1 := Lib.hid (dro_below h HB1.out)
  have HD0 : Hid (B ≤ w.heap.size ∧ d < w.heap.size) := ⟨hB, dro_lt h⟩
  have HK := Lib.hid hk
  have HSZ := Lib.hid hsz
  obtain ⟨A, c, hv, hrow, _, _⟩ := Rg.row_own fitsF h.2.2.2.2.2.1
  obtain ⟨n, hn⟩ : ∃ n, last.length = n := ⟨_, rfl⟩
  rw [hn] at hv
  subst hv
  have HN := Lib.hid hn
  obtain ⟨d0, d1, d2, f0, f1, f2⟩ := dro_cells H1.out
  have HD2 := Lib.hid (dro_keys (dro_below H1.out ((Below.refl W1.heap.size W1).alloc (Nat.le_refl _) (.map #[] 0))) (.map (some W1.heap.size)))
  have hds := set_grown (W1.alloc (.map #[] 0)) ⟨d, 2, none⟩ (.map (some W1.heap.size))
  have hd1 : d < W1.heap.size := by have := HD0.out.2; omega
  have hnd : ∀ k, k ≠ d → ((W1.alloc (.map #[] 0)).setCell ⟨d, 2, none⟩ (.map (some W1.heap.size))).heap[k]? = (W1.alloc (.map #[] 0)).heap[k]? := fun k hk => by
    exact Below.heap_setCell _ _ _ _ (fun e => hk (by simp [e]))
  have hks0 : KSet ((W1.alloc (.map #[] 0)).setCell ⟨d, 2, none⟩ (.map (some W1.heap.size))) W1.heap.size [] := kset_kept (kset_made W1) (hnd _ (by omega))
  have hfb : FB w.heap.size f ((W1.alloc (.map #[] 0)).setCell ⟨d, 2, none⟩ (.map (some W1.heap.size))) := fb_of ((hnd _ (by have := HD0.out.2; omega)).trans ((((Below.refl W1.heap.size W1).alloc (Nat.le_refl _) (.map #[] 0)).block _ HLT.out).trans HF1.out.2.2.2))
  have hsx : ((W1.alloc (.map #[] 0)).setCell ⟨d, 2, none⟩ (.map (some W1.heap.size))).heap.size = W1.heap.size + 1 := by simp [World.setCell]
  have hbx : Keeps B d w ((W1.alloc (.map #[] 0)).setCell ⟨d, 2, none⟩ (.map (some W1.heap.size))) := keeps_set (keeps_of ((HB1.out.mono HD0.out.1).alloc (by have := HD0.out; omega) _)) _
  have HM0 : Hid (B ≤ W1.heap.size ∧ w.heap.size ≠ W1.heap.size) := ⟨by have := HD0.out; omega, by omega⟩
  have HKS0 := Lib.hid hks0
  have HFX0 := Lib.hid hfb
  have HBX0 := Lib.hid hbx
  have HSX := Lib.hid hsx
  subst hl
  obtain rfl : n = 0 := by rw [← hn]; rfl
  clear h hn hsz hk hB hrow hs1 hds hd1 hnd hks0 hfb hsx hbx
  have hmk : (Instr.makeMap 76 none).run Tryd.prog W1 = .ok (.map (some W1.heap.size)) (W1.alloc (.map #[] 0)) := rfl
  obtain ⟨_, _, m2, _, _, m5⟩ := dro_cells (dro_below H1.out ((Below.refl W1.heap.size W1).alloc (Nat.le_refl _) (.map #[] 0)))
  go_enter Tryd.func35, Tryd.ntmps35
  go_wp2_with fail
  clear hW1 hmk m2 m5 d0 d1 d2 f0 f1 f2
  obtain ⟨m, hm⟩ : ∃ m, W1.heap.size = m := ⟨_, rfl⟩
  obtain ⟨WX, hWX⟩ : ∃ W, (W1.alloc (.map #[] 0)).setCell ⟨d, 2, none⟩ (.map (some W1.heap.size)) = W := ⟨_, rfl⟩
  have HX : Hid (DrO WX B d v0 (.slice A 0 c) (.map (some m)) ds acc []) := by show DrO _ _ _ _ _ _ _ _ _; rw [← hWX, ← hm]; exact HD2.out
  have HKS : Hid (KSet WX m (([] : List Fld).map Fld.key)) := by show KSet _ _ _; rw [← hWX, ← hm]; exact HKS0.out
  have HFX : Hid (FB w.heap.size f WX) := by show FB _ _ _; rw [← hWX]; exact HFX0.out
  have HBX : Hid (Keeps B d w WX ∧ w.heap.size ≤ WX.heap.size) := by
    have h1 := HLT.out
    have h2 := HSX.out
    rw [hWX] at h2
    exact ⟨by rw [← hWX]; exact HBX0.out, by omega⟩
  have HLX : Hid (w.heap.size < WX.heap.size) := by
    have h1 := HLT.out
    have h2 := HSX.out
    rw [hWX] at h2
    show _ < _
    omega
  have HM : Hid (B ≤ m ∧ m < WX.heap.size ∧ w.heap.size ≠ m) := by
    have h2 := HSX.out
    rw [hWX] at h2
    have h3 := HM0.out
    rw [hm] at h2 h3
    exact ⟨h3.1, by omega, h3.2⟩
  rw [hWX]
  clear HD2 HM0 HKS0 HFX0 HBX0 HSX H1 HF1 HB1 HLT
  have HN0 : Hid (([] : List Fld).length = 0) := rfl
  clear hWX hm HN
  have HN := HN0
  clear HN0
  obtain ⟨d0, d1, d2, f0, f1, f2⟩ := dro_cells HX.out
  obtain ⟨b0, b1, b2, _⟩ := HFX.out
  obtain ⟨tw, htw⟩ : ∃ t, (([] : List Fld).map Fld.key).contains f.key = t := ⟨_, rfl⟩
  have HTW := Lib.hid htw
  have l0 := kset_look (kset_below HKS.out (Below.refl WX.heap.size WX).drew (HM.out.2.1)) HK.out
  have l1 := kset_look (w := (WX.alloc (.cells #[] 91)).drew) (kset_below HKS.out ((Below.refl WX.heap.size WX).alloc (Nat.le_refl _) (.cells #[] 91)).drew (HM.out.2.1)) HK.out
  rw [htw] at l0 l1
  clear htw
  go_region_held3 (fun w' => w'.cell? ⟨d, 2, none⟩ = some (.map (some m)) ∧ w'.cell? ⟨w.heap.size, 0, none⟩ = some (.string ⟨f.key.toArray⟩)) (go_keep) (fail)
  clear l0 l1
  all_goals (
    have HB3 : Hid (Below WX.heap.size WX ((WX.alloc (.cells #[] 91)).drew)) := ((Below.refl WX.heap.size WX).alloc (Nat.le_refl _) (.cells #[] 91)).drew
    generalize (WX.alloc (.cells #[] 91)).drew = W3 at *
    have H3 := Lib.hid (dro_below HX.out HB3.out)
    have HF3 : Hid (FB w.heap.size f W3) := fb_of ((HB3.out.block _ HLX.out).trans HFX.out.2.2.2)
    have HK3 : Hid (KSet W3 m (([] : List Fld).map Fld.key)) := kset_below HKS.out HB3.out (HM.out.2.1)
    have HBW3 : Hid (Keeps B d w W3 ∧ w.heap.size ≤ W3.heap.size) := ⟨keeps_trans HBX.out.1 <| keeps_of (HB3.out.mono (Nat.le_trans HD0.out.1 HBX.out.2)), Nat.le_trans HBX.out.2 HB3.out.size⟩
    clear d0 d1 d2 f0 f1 f2 b0 b1 b2 HBX HKS
    obtain ⟨d0, d1, d2, f0, f1, f2⟩ := dro_cells H3.out
    obtain ⟨b0, b1, b2, _⟩ := HF3.out
    cases tw
    case true =>
      go_wp2_with fail
      refine (requireAt_no _).mono ?_
      rintro _ z ⟨rfl, rfl⟩
      go_wp2_with fail
      exact ⟨rfl, by show AddRet w B d v0 ds acc ([] : List Fld) f _ _; exact ⟨HBW3.out.1, HBW3.out.2, by rw [if_pos HTW.out]⟩⟩
    case false =>
      go_wp2_with fail
      refine (requireAt_yes _).mono ?_
      rintro _ z ⟨rfl, rfl⟩
      have hk3d : KSet W3.drew m (([] : List Fld).map Fld.key) := kset_kept HK3.out rfl
      obtain ⟨W5, hr5, hk5, ht5⟩ := kset_put hk3d HK.out (by rw [List.length_map]; have := HSZ.out; omega)
      have H5 := Lib.hid (dro_map (dro_below H3.out (Below.refl _ _).drew) hk3d ht5)
      have HK5 := Lib.hid hk5
      have hbm : w.heap.size ≠ m := HM.out.2.2
      have HF5 : Hid (FB w.heap.size f W5) := fb_of ((ht5.grown.block w.heap.size (by have := HLX.out; have := HB3.out.size; show _ < W3.heap.size; omega) (fun e => hbm (Option.some.inj e))).trans HF3.out.2.2.2)
      have HB5 : Hid (Keeps B d w W5 ∧ w.heap.size ≤ W5.heap.size) := ⟨keeps_trans HBW3.out.1 <| keeps_of <| (Below.refl _ W3).drew.trans (below_turned ht5.grown HM.out.1 (Nat.le_trans HD0.out.1 HBW3.out.2)), Nat.le_trans HBW3.out.2 ht5.grown.size⟩
      obtain ⟨e0, e1, e2, k0, k1, k2⟩ := dro_cells H5.out
      obtain ⟨g0, g1, g2, _⟩ := HF5.out
      clear hk3d hk5 ht5 hbm
      go_wp2_with fail
      go_region_held3 (fun w' => w'.cell? ⟨d, 2, none⟩ = some (.map (some m)) ∧ w'.cell? ⟨w.heap.size, 0, none⟩ = some (.string ⟨f.key.toArray⟩)) (go_keep) (fail)
      all_goals (
        clear d0 d1 d2 f0 f1 f2 b0 b1 b2 hr5
        have HB0 : Hid (B ≤ W5.heap.size) := Nat.le_trans HD0.out.1 HB5.out.2
        have hbA : Below W5.heap.size W5 (W5.alloc (.cells #[.string ⟨f.key.toArray⟩, .string ⟨f.val.toArray⟩, .int .i64 f.line] 43)) := (Below.refl _ _).alloc (Nat.le_refl _) _
        have a1 := (dro_cells (dro_below H5.out hbA)).2.1
        have HNE : Hid ((Value.slice A 0 c).ownBlock ≠ some d) := own_ne H5.out.2.2.2.2.2.1 H5.out.2.1 neF
        have hbB : w.heap.size < W5.heap.size := (Array.getElem?_eq_some_iff.1 HF5.out.2.2.2).1
        have hfa := fb_of ((hbA.block _ hbB).trans HF5.out.2.2.2)
        obtain ⟨q0, q1, q2, _⟩ := hfa
        clear hbA hbB
        go_wp2_with fail
        go_region_law (refine Rg.step_app_at fitsF sliceF (by rfl) (.tmp 42) (.tmp 44) (by rfl) B (.slice A 0 c) ([] : List Fld) [f] (by rfl) (Rg.own_below H5.out.2.2.2.2.2.1 ((Below.refl _ _).drew.alloc (Nat.le_refl _) _)) _ _ (by rfl) (Rg.news_new _ _ [f] _ (by rfl)) (Nat.zero_lt_succ _) HSZ.out (Nat.le_trans HB0.out (by simp)) ?_; intro g cap W6 ho6 hg6 hl6; have HO6 := Lib.hid ho6; have HG6 := Lib.hid hg6; have HL6 := Lib.hid hl6; obtain ⟨x0, x1, x2, y0, y1, y2⟩ := dro_far H5.out ((Below.refl _ _).drew.alloc (Nat.le_refl _) _) hg6 HNE.out; clear ho6 hg6 hl6)
        all_goals (
          have HGW : Hid (W5.grownBy W6 (Value.slice A 0 c).ownBlock) := grown_of ((Below.refl _ _).drew.alloc (Nat.le_refl _) _) HG6.out
          have HBW6 := Lib.hid (own_base H5.out.2.2.2.2.2.1 HB0.out ((Below.refl _ _).drew.alloc (Nat.le_refl _) _) HG6.out)
          have HD := Lib.hid (dro_add H5.out HO6.out HGW.out (HL6.out.imp id (fun h => by rw [h]; simp)))
          have HKF := Lib.hid (kset_far H5.out HK5.out HGW.out (.slice (some ⟨g, 0, none⟩) (([] : List Fld).length + [f].length) cap))
          go_wp2_with fail
          exact bodyPost_ret (v := .tuple #[]) (by simp [results, Tryd.results35, go_sem]) rfl ⟨keeps_set (keeps_trans HB5.out.1 (keeps_of HBW6.out)) _, Nat.le_trans HB5.out.2 (by simpa using HGW.out.size), by rw [if_neg (by rw [HTW.out]; decide)]; exact ⟨rfl, _, m, HM.out.1, HD.out, by rw [List.map_append]; exact HKF.out⟩⟩)))
end Go.Proofs.YtmhobdlhmkbkdaaDoor
