/- Part 18 of what the laws lean on. -/
import Derived.Test.YtkplahkkmmoppaaGreatDoorK17
set_option maxRecDepth 100000
set_option maxHeartbeats 3200000
namespace Go.Proofs.YtkplahkkmmoppaaGreatDoor
open Go.RowKit Go.Maps Sz
attribute [local go_sem ↓] Go.wp_at_zero Go.wp_at_succ
def Sz.AddRet (w : World) (B d : Nat) (v0 : Value) (ds : List Desc) (acc : List (List Fld)) (last : List Fld) (f : Fld) (e : Ending) (w' : World) : Prop :=
 Keeps B d w w' ∧ w.heap.size ≤ w'.heap.size ∧ if (last.map Fld.key).contains f.key then e = panAt f.line 6 else
  e = .returned (.tuple #[]) ∧ ∃ u1 m, B ≤ m ∧ DrO w' B d v0 u1 (.map (some m)) ds acc (last ++ [f]) ∧ KSet w' m ((last ++ [f]).map Fld.key)
def Sz.FB (b : Nat) (f : Fld) (u : World) : Prop := u.cell? ⟨b, 0, none⟩ = some (.string ⟨f.key.toArray⟩) ∧ u.cell? ⟨b, 1, none⟩ = some (.string ⟨f.val.toArray⟩) ∧ u.cell? ⟨b, 2, none⟩ = some (.int .i64 f.line) ∧ u.heap[b]? = some (.cells #[.string ⟨f.key.toArray⟩, .string ⟨f.val.toArray⟩, .int .i64 f.line] 82 (0, 0))
theorem Sz.fb_of {b : Nat} {f : Fld} {u : World} (h : u.heap[b]? = some (.cells #[.string ⟨f.key.toArray⟩, .string ⟨f.val.toArray⟩, .int .i64 f.line] 82 (0, 0))) : FB b f u := by
 refine ⟨?_, ?_, ?_, h⟩ <;> simp [World.cell?, h]
theorem Sz.below_turned {u W : World} {B m : Nat} (hg : u.grownBy W (some m)) (hm : B ≤ m) (hB : B ≤ u.heap.size) : Below B u W := by
 obtain ⟨g1, g2, g3, g4, g5⟩ := hg
 refine ⟨?_, ?_, ?_, g4, fun k hk => g5 k (Nat.lt_of_lt_of_le hk hB) (fun e => by have := Option.some.inj e; omega)⟩
 ·first | exact g1 | exact g1.symm
 ·first | exact g2 | exact g2.symm
 ·first | exact g3 | exact g3.symm
theorem Sz.kset_far {w W : World} {B d m : Nat} {v0 v1 v2 : Value} {ds : List Desc} {acc : List (List Fld)} {last : List Fld} {ks : List (List UInt8)} (h : DrO w B d v0 v1 v2 ds acc last) (hk : KSet w m ks) (hg : w.grownBy W v1.ownBlock) (x : Value) : KSet (W.setCell ⟨d, 1, none⟩ x) m ks := by
 have hk0 := hk
 obtain ⟨n, D, ⟨es, clock, hm, _⟩, _⟩ := hk
 have hlt : m < w.heap.size := (Array.getElem?_eq_some_iff.1 hm).1
 have hdm : d ≠ m := fun e => by
  have h1 := h.2.1
  rw [e, hm] at h1; cases h1
 have n1 : v1.ownBlock ≠ some m := fun e => by
  obtain ⟨cs, fr, hc⟩ := own_cells h.2.2.2.2.2.1 e
  rw [hm] at hc; cases hc
 exact kset_kept hk0 (((set_grown W ⟨d, 1, none⟩ x).block m (Nat.lt_of_lt_of_le hlt hg.size) (fun e => hdm (Option.some.inj e).symm)).trans (hg.block m hlt (fun e => n1 e.symm)))
theorem draftAdd_more {w : World} {B d : Nat} {v0 v1 v2 : Value} {ds : List Desc} {acc : List (List Fld)} {last : List Fld} (f : Fld) (h : DrO w B d v0 v1 v2 ds acc last) (hsz : last.length + 1 ≤ 1000000) (hk : f.key.length ≤ 1000000) (hB : B ≤ w.heap.size)
  (hl : last ≠ []) (hm : ∃ m, v2 = .map (some m) ∧ B ≤ m ∧ KSet w m (last.map Fld.key)) :
  Calls Tryz.prog 133 #[.pointer (some ⟨d, 0, none⟩), .agg #[.string ⟨f.key.toArray⟩, .string ⟨f.val.toArray⟩, .int .i64 f.line]] w (Sz.AddRet w B d v0 ds acc last f) := by
 obtain ⟨W1, hW1⟩ : ∃ W, w.alloc (.cells #[.string ⟨f.key.toArray⟩, .string ⟨f.val.toArray⟩, .int .i64 f.line] 82) = W := ⟨_, rfl⟩
 have HB1 : Hid (Below w.heap.size w W1) := alloc_low hW1
 have HF1 : Hid (FB w.heap.size f W1) := fb_of (by rw [← hW1]; exact heap_alloc_new w _)
 have hs1 : W1.heap.size = w.heap.size + 1 := by rw [← hW1]; simp
 have HLT : Hid (w.heap.size < W1.heap.size) := by show _ < _; omega
 have H1 := Lib.hid (dro_below h HB1.out)
 have HD0 : Hid (B ≤ w.heap.size ∧ d < w.heap.size) := ⟨hB, dro_lt h⟩
 have HK := Lib.hid hk
 have HSZ := Lib.hid hsz
 obtain ⟨A, c, hv, hrow, _, _⟩ := Rg.row_own fitsF h.2.2.2.2.2.1
 obtain ⟨n, hn⟩ : ∃ n, last.length = n := ⟨_, rfl⟩
 rw [hn] at hv
 subst hv
 have HN := Lib.hid hn
 obtain ⟨d0, d1, d2, f0, f1, f2⟩ := dro_cells H1.out
 obtain ⟨m, rfl, hbm, hks⟩ := hm
 have hmw : m < w.heap.size := by
  obtain ⟨_, _, ⟨_, _, hh, _⟩, _⟩ := hks
  exact (Array.getElem?_eq_some_iff.1 hh).1
 have HM : Hid (B ≤ m ∧ m < W1.heap.size ∧ w.heap.size ≠ m) := ⟨hbm, by omega, by omega⟩
 have HKS : Hid (KSet W1 m (last.map Fld.key)) := kset_below hks HB1.out hmw
 have hne : ((n : Int) == 0) = false := by
  have : last.length ≠ 0 := fun e => hl (List.length_eq_zero_iff.1 e)
  rw [hn] at this
  simp; omega
 clear h hn hsz hk hB hrow hl hbm hks hs1 hmw
 go_enter Tryz.func133, Tryz.ntmps133
 go_wp2_with fail
 clear hW1 hne
 have HBX : Hid (Keeps B d w W1 ∧ w.heap.size ≤ W1.heap.size) := ⟨keeps_of <| HB1.out.mono HD0.out.1, HB1.out.size⟩
 have HX := H1
 have HFX := HF1
 have HLX := HLT
 clear H1 HF1 HLT
 generalize W1 = WX at *
 obtain ⟨b0, b1, b2, _⟩ := HFX.out
 obtain ⟨tw, htw⟩ : ∃ t, (last.map Fld.key).contains f.key = t := ⟨_, rfl⟩
 have HTW := Lib.hid htw
 have l0 := kset_look (kset_below HKS.out (Below.refl WX.heap.size WX).drew (HM.out.2.1)) HK.out
 have l1 := kset_look (w := (WX.alloc (.cells #[] 241)).drew) (kset_below HKS.out ((Below.refl WX.heap.size WX).alloc (Nat.le_refl _) (.cells #[] 241)).drew (HM.out.2.1)) HK.out
 rw [htw] at l0 l1
 clear htw
 go_region_held3 (fun w' => w'.cell? ⟨d, 2, none⟩ = some (.map (some m)) ∧ w'.cell? ⟨w.heap.size, 0, none⟩ = some (.string ⟨f.key.toArray⟩)) (go_keep) (fail)
 clear l0 l1
 all_goals (
  have HB3 : Hid (Below WX.heap.size WX ((WX.alloc (.cells #[] 241)).drew)) := ((Below.refl WX.heap.size WX).alloc (Nat.le_refl _) (.cells #[] 241)).drew
  generalize (WX.alloc (.cells #[] 241)).drew = W3 at *
  have H3 := Lib.hid (dro_below HX.out HB3.out)
  have HF3 : Hid (FB w.heap.size f W3) := fb_of ((HB3.out.block _ HLX.out).trans HFX.out.2.2.2)
  have HK3 : Hid (KSet W3 m (last.map Fld.key)) := kset_below HKS.out HB3.out (HM.out.2.1)
  have HBW3 : Hid (Keeps B d w W3 ∧ w.heap.size ≤ W3.heap.size) := ⟨keeps_trans HBX.out.1 <| keeps_of (HB3.out.mono (Nat.le_trans HD0.out.1 HBX.out.2)), Nat.le_trans HBX.out.2 HB3.out.size⟩
  clear d0 d1 d2 f0 f1 f2 b0 b1 b2 HBX HKS
  obtain ⟨d0, d1, d2, f0, f1, f2⟩ := dro_cells H3.out
  obtain ⟨b0, b1, b2, _⟩ := HF3.out
  cases tw
  case true =>
   go_wp2_with fail
   refine (requireAt_no _).mono ?_
   rintro _ z ⟨rfl, rfl⟩
   go_wp2_with fail
   exact ⟨rfl, by show AddRet w B d v0 ds acc last f _ _; exact ⟨HBW3.out.1, HBW3.out.2, by rw [if_pos HTW.out]⟩⟩
  case false =>
   go_wp2_with fail
   refine (requireAt_yes _).mono ?_
   rintro _ z ⟨rfl, rfl⟩
   have hk3d : KSet W3.drew m (last.map Fld.key) := kset_kept HK3.out rfl
   obtain ⟨W5, hr5, hk5, ht5⟩ := kset_put hk3d HK.out (by rw [List.length_map]; have := HSZ.out; omega)
   have H5 := Lib.hid (dro_map (dro_below H3.out (Below.refl _ _).drew) hk3d ht5)
   have HK5 := Lib.hid hk5
   have hbm : w.heap.size ≠ m := HM.out.2.2
   have HF5 : Hid (FB w.heap.size f W5) := fb_of ((ht5.grown.block w.heap.size (by have := HLX.out; have := HB3.out.size; show _ < W3.heap.size; omega) (fun e => hbm (Option.some.inj e))).trans HF3.out.2.2.2)
   have HB5 : Hid (Keeps B d w W5 ∧ w.heap.size ≤ W5.heap.size) := ⟨keeps_trans HBW3.out.1 <| keeps_of <| (Below.refl _ W3).drew.trans (below_turned ht5.grown HM.out.1 (Nat.le_trans HD0.out.1 HBW3.out.2)), Nat.le_trans HBW3.out.2 ht5.grown.size⟩
   obtain ⟨e0, e1, e2, k0, k1, k2⟩ := dro_cells H5.out
   obtain ⟨g0, g1, g2, _⟩ := HF5.out
   clear hk3d hk5 ht5 hbm
   go_wp2_with fail
   go_region_held3 (fun w' => w'.cell? ⟨d, 2, none⟩ = some (.map (some m)) ∧ w'.cell? ⟨w.heap.size, 0, none⟩ = some (.string ⟨f.key.toArray⟩)) (go_keep) (fail)
   all_goals (
    clear d0 d1 d2 f0 f1 f2 b0 b1 b2 hr5
    have HB0 : Hid (B ≤ W5.heap.size) := Nat.le_trans HD0.out.1 HB5.out.2
    have hbA : Below W5.heap.size W5 (W5.alloc (.cells #[.string ⟨f.key.toArray⟩, .string ⟨f.val.toArray⟩, .int .i64 f.line] 82)) := (Below.refl _ _).alloc (Nat.le_refl _) _
    have a1 := (dro_cells (dro_below H5.out hbA)).2.1
    have HNE : Hid ((Value.slice A n c).ownBlock ≠ some d) := own_ne H5.out.2.2.2.2.2.1 H5.out.2.1 neF
    have hbB : w.heap.size < W5.heap.size := (Array.getElem?_eq_some_iff.1 HF5.out.2.2.2).1
    have hfa := fb_of ((hbA.block _ hbB).trans HF5.out.2.2.2)
    obtain ⟨q0, q1, q2, _⟩ := hfa
    clear hbA hbB
    go_wp2_with fail
    go_region_law (refine Rg.step_app_at fitsF sliceF (by rfl) (.tmp 42) (.tmp 44) (by rfl) B (.slice A n c) last [f] (by rfl) (Rg.own_below H5.out.2.2.2.2.2.1 ((Below.refl _ _).drew.alloc (Nat.le_refl _) _)) _ _ (by rfl) (Rg.news_new _ _ [f] _ (by rfl)) (Nat.zero_lt_succ _) HSZ.out (Nat.le_trans HB0.out (by simp)) ?_; intro g cap W6 ho6 hg6 hl6; have HO6 := Lib.hid ho6; have HG6 := Lib.hid hg6; have HL6 := Lib.hid hl6; obtain ⟨x0, x1, x2, y0, y1, y2⟩ := dro_far H5.out ((Below.refl _ _).drew.alloc (Nat.le_refl _) _) hg6 HNE.out; clear ho6 hg6 hl6)
    all_goals (
     have HGW : Hid (W5.grownBy W6 (Value.slice A n c).ownBlock) := grown_of ((Below.refl _ _).drew.alloc (Nat.le_refl _) _) HG6.out
     have HBW6 := Lib.hid (own_base H5.out.2.2.2.2.2.1 HB0.out ((Below.refl _ _).drew.alloc (Nat.le_refl _) _) HG6.out)
     have HD := Lib.hid (dro_add H5.out HO6.out HGW.out (HL6.out.imp id (fun h => by rw [h]; simp)))
     have HKF := Lib.hid (kset_far H5.out HK5.out HGW.out (.slice (some ⟨g, 0, none⟩) (last.length + [f].length) cap))
     go_wp2_with fail
     exact bodyPost_ret (v := .tuple #[]) (by simp [results, Tryz.results133, go_sem]) rfl ⟨keeps_set (keeps_trans HB5.out.1 (keeps_of HBW6.out)) _, Nat.le_trans HB5.out.2 (by simpa using HGW.out.size), by rw [if_neg (by rw [HTW.out]; decide)]; exact ⟨rfl, _, m, HM.out.1, HD.out, by rw [List.map_append]; exact HKF.out⟩⟩)))
theorem draftAdd_first {w : World} {B d : Nat} {v0 v1 v2 : Value} {ds : List Desc} {acc : List (List Fld)} {last : List Fld} (f : Fld) (h : DrO w B d v0 v1 v2 ds acc last) (hsz : last.length + 1 ≤ 1000000) (hk : f.key.length ≤ 1000000) (hB : B ≤ w.heap.size)
  (hl : last = []) :
  Calls Tryz.prog 133 #[.pointer (some ⟨d, 0, none⟩), .agg #[.string ⟨f.key.toArray⟩, .string ⟨f.val.toArray⟩, .int .i64 f.line]] w (Sz.AddRet w B d v0 ds acc last f) := by
 obtain ⟨W1, hW1⟩ : ∃ W, w.alloc (.cells #[.string ⟨f.key.toArray⟩, .string ⟨f.val.toArray⟩, .int .i64 f.line] 82) = W := ⟨_, rfl⟩
 have HB1 : Hid (Below w.heap.size w W1) := alloc_low hW1
 have HF1 : Hid (FB w.heap.size f W1) := fb_of (by rw [← hW1]; exact heap_alloc_new w _)
 have hs1 : W1.heap.size = w.heap.size + 1 := by rw [← hW1]; simp
 have HLT : Hid (w.heap.size < W1.heap.size) := by show _ < _; omega
 have H1 := Lib.hid (dro_below h HB1.out)
 have HD0 : Hid (B ≤ w.heap.size ∧ d < w.heap.size) := ⟨hB, dro_lt h⟩
 have HK := Lib.hid hk
 have HSZ := Lib.hid hsz
 obtain ⟨A, c, hv, hrow, _, _⟩ := Rg.row_own fitsF h.2.2.2.2.2.1
 obtain ⟨n, hn⟩ : ∃ n, last.length = n := ⟨_, rfl⟩
 rw [hn] at hv
 subst hv
 have HN := Lib.hid hn
 obtain ⟨d0, d1, d2, f0, f1, f2⟩ := dro_cells H1.out
 have HD2 := Lib.hid (dro_keys (dro_below H1.out ((Below.refl W1.heap.size W1).alloc (Nat.le_refl _) (.map #[] 0))) (.map (some W1.heap.size)))
 have hds := set_grown (W1.alloc (.map #[] 0)) ⟨d, 2, none⟩ (.map (some W1.heap.size))
 have hd1 : d < W1.heap.size := by have := HD0.out.2; omega
 have hnd : ∀ k, k ≠ d → ((W1.alloc (.map #[] 0)).setCell ⟨d, 2, none⟩ (.map (some W1.heap.size))).heap[k]? = (W1.alloc (.map #[] 0)).heap[k]? := fun k hk => by
  exact Below.heap_setCell _ _ _ _ (fun e => hk (by simp [e]))
 have hks0 : KSet ((W1.alloc (.map #[] 0)).setCell ⟨d, 2, none⟩ (.map (some W1.heap.size))) W1.heap.size [] := kset_kept (kset_made W1) (hnd _ (by omega))
 have hfb : FB w.heap.size f ((W1.alloc (.map #[] 0)).setCell ⟨d, 2, none⟩ (.map (some W1.heap.size))) := fb_of ((hnd _ (by have := HD0.out.2; omega)).trans ((((Below.refl W1.heap.size W1).alloc (Nat.le_refl _) (.map #[] 0)).block _ HLT.out).trans HF1.out.2.2.2))
 have hsx : ((W1.alloc (.map #[] 0)).setCell ⟨d, 2, none⟩ (.map (some W1.heap.size))).heap.size = W1.heap.size + 1 := by simp [World.setCell]
 have hbx : Keeps B d w ((W1.alloc (.map #[] 0)).setCell ⟨d, 2, none⟩ (.map (some W1.heap.size))) := keeps_set (keeps_of ((HB1.out.mono HD0.out.1).alloc (by have := HD0.out; omega) _)) _
 have HM0 : Hid (B ≤ W1.heap.size ∧ w.heap.size ≠ W1.heap.size) := ⟨by have := HD0.out; omega, by omega⟩
 have HKS0 := Lib.hid hks0
 have HFX0 := Lib.hid hfb
 have HBX0 := Lib.hid hbx
 have HSX := Lib.hid hsx
 subst hl
 obtain rfl : n = 0 := by rw [← hn]; rfl
 clear h hn hsz hk hB hrow hs1 hds hd1 hnd hks0 hfb hsx hbx
 have hmk : (Instr.makeMap 195 none).run Tryz.prog W1 = .ok (.map (some W1.heap.size)) (W1.alloc (.map #[] 0)) := rfl
 obtain ⟨_, _, m2, _, _, m5⟩ := dro_cells (dro_below H1.out ((Below.refl W1.heap.size W1).alloc (Nat.le_refl _) (.map #[] 0)))
 go_enter Tryz.func133, Tryz.ntmps133
 go_wp2_with fail
 clear hW1 hmk m2 m5 d0 d1 d2 f0 f1 f2
 obtain ⟨m, hm⟩ : ∃ m, W1.heap.size = m := ⟨_, rfl⟩
 obtain ⟨WX, hWX⟩ : ∃ W, (W1.alloc (.map #[] 0)).setCell ⟨d, 2, none⟩ (.map (some W1.heap.size)) = W := ⟨_, rfl⟩
 have HX : Hid (DrO WX B d v0 (.slice A 0 c) (.map (some m)) ds acc []) := by show DrO _ _ _ _ _ _ _ _ _; rw [← hWX, ← hm]; exact HD2.out
 have HKS : Hid (KSet WX m (([] : List Fld).map Fld.key)) := by show KSet _ _ _; rw [← hWX, ← hm]; exact HKS0.out
 have HFX : Hid (FB w.heap.size f WX) := by show FB _ _ _; rw [← hWX]; exact HFX0.out
 have HBX : Hid (Keeps B d w WX ∧ w.heap.size ≤ WX.heap.size) := by
  have h1 := HLT.out
  have h2 := HSX.out
  rw [hWX] at h2
  exact ⟨by rw [← hWX]; exact HBX0.out, by omega⟩
 have HLX : Hid (w.heap.size < WX.heap.size) := by
  have h1 := HLT.out
  have h2 := HSX.out
  rw [hWX] at h2
  show _ < _
  omega
 have HM : Hid (B ≤ m ∧ m < WX.heap.size ∧ w.heap.size ≠ m) := by
  have h2 := HSX.out
  rw [hWX] at h2
  have h3 := HM0.out
  rw [hm] at h2 h3
  exact ⟨h3.1, by omega, h3.2⟩
 rw [hWX]
 clear HD2 HM0 HKS0 HFX0 HBX0 HSX H1 HF1 HB1 HLT
 have HN0 : Hid (([] : List Fld).length = 0) := rfl
 clear hWX hm HN
 have HN := HN0
 clear HN0
 obtain ⟨d0, d1, d2, f0, f1, f2⟩ := dro_cells HX.out
 obtain ⟨b0, b1, b2, _⟩ := HFX.out
 obtain ⟨tw, htw⟩ : ∃ t, (([] : List Fld).map Fld.key).contains f.key = t := ⟨_, rfl⟩
 have HTW := Lib.hid htw
 have l0 := kset_look (kset_below HKS.out (Below.refl WX.heap.size WX).drew (HM.out.2.1)) HK.out
 have l1 := kset_look (w := (WX.alloc (.cells #[] 241)).drew) (kset_below HKS.out ((Below.refl WX.heap.size WX).alloc (Nat.le_refl _) (.cells #[] 241)).drew (HM.out.2.1)) HK.out
 rw [htw] at l0 l1
 clear htw
 go_region_held3 (fun w' => w'.cell? ⟨d, 2, none⟩ = some (.map (some m)) ∧ w'.cell? ⟨w.heap.size, 0, none⟩ = some (.string ⟨f.key.toArray⟩)) (go_keep) (fail)
 clear l0 l1
 all_goals (
  have HB3 : Hid (Below WX.heap.size WX ((WX.alloc (.cells #[] 241)).drew)) := ((Below.refl WX.heap.size WX).alloc (Nat.le_refl _) (.cells #[] 241)).drew
  generalize (WX.alloc (.cells #[] 241)).drew = W3 at *
  have H3 := Lib.hid (dro_below HX.out HB3.out)
  have HF3 : Hid (FB w.heap.size f W3) := fb_of ((HB3.out.block _ HLX.out).trans HFX.out.2.2.2)
  have HK3 : Hid (KSet W3 m (([] : List Fld).map Fld.key)) := kset_below HKS.out HB3.out (HM.out.2.1)
  have HBW3 : Hid (Keeps B d w W3 ∧ w.heap.size ≤ W3.heap.size) := ⟨keeps_trans HBX.out.1 <| keeps_of (HB3.out.mono (Nat.le_trans HD0.out.1 HBX.out.2)), Nat.le_trans HBX.out.2 HB3.out.size⟩
  clear d0 d1 d2 f0 f1 f2 b0 b1 b2 HBX HKS
  obtain ⟨d0, d1, d2, f0, f1, f2⟩ := dro_cells H3.out
  obtain ⟨b0, b1, b2, _⟩ := HF3.out
  cases tw
  case true =>
   go_wp2_with fail
   refine (requireAt_no _).mono ?_
   rintro _ z ⟨rfl, rfl⟩
   go_wp2_with fail
   exact ⟨rfl, by show AddRet w B d v0 ds acc ([] : List Fld) f _ _; exact ⟨HBW3.out.1, HBW3.out.2, by rw [if_pos HTW.out]⟩⟩
  case false =>
   go_wp2_with fail
   refine (requireAt_yes _).mono ?_
   rintro _ z ⟨rfl, rfl⟩
   have hk3d : KSet W3.drew m (([] : List Fld).map Fld.key) := kset_kept HK3.out rfl
   obtain ⟨W5, hr5, hk5, ht5⟩ := kset_put hk3d HK.out (by rw [List.length_map]; have := HSZ.out; omega)
   have H5 := Lib.hid (dro_map (dro_below H3.out (Below.refl _ _).drew) hk3d ht5)
   have HK5 := Lib.hid hk5
   have hbm : w.heap.size ≠ m := HM.out.2.2
   have HF5 : Hid (FB w.heap.size f W5) := fb_of ((ht5.grown.block w.heap.size (by have := HLX.out; have := HB3.out.size; show _ < W3.heap.size; omega) (fun e => hbm (Option.some.inj e))).trans HF3.out.2.2.2)
   have HB5 : Hid (Keeps B d w W5 ∧ w.heap.size ≤ W5.heap.size) := ⟨keeps_trans HBW3.out.1 <| keeps_of <| (Below.refl _ W3).drew.trans (below_turned ht5.grown HM.out.1 (Nat.le_trans HD0.out.1 HBW3.out.2)), Nat.le_trans HBW3.out.2 ht5.grown.size⟩
   obtain ⟨e0, e1, e2, k0, k1, k2⟩ := dro_cells H5.out
   obtain ⟨g0, g1, g2, _⟩ := HF5.out
   clear hk3d hk5 ht5 hbm
   go_wp2_with fail
   go_region_held3 (fun w' => w'.cell? ⟨d, 2, none⟩ = some (.map (some m)) ∧ w'.cell? ⟨w.heap.size, 0, none⟩ = some (.string ⟨f.key.toArray⟩)) (go_keep) (fail)
   all_goals (
    clear d0 d1 d2 f0 f1 f2 b0 b1 b2 hr5
    have HB0 : Hid (B ≤ W5.heap.size) := Nat.le_trans HD0.out.1 HB5.out.2
    have hbA : Below W5.heap.size W5 (W5.alloc (.cells #[.string ⟨f.key.toArray⟩, .string ⟨f.val.toArray⟩, .int .i64 f.line] 82)) := (Below.refl _ _).alloc (Nat.le_refl _) _
    have a1 := (dro_cells (dro_below H5.out hbA)).2.1
    have HNE : Hid ((Value.slice A 0 c).ownBlock ≠ some d) := own_ne H5.out.2.2.2.2.2.1 H5.out.2.1 neF
    have hbB : w.heap.size < W5.heap.size := (Array.getElem?_eq_some_iff.1 HF5.out.2.2.2).1
    have hfa := fb_of ((hbA.block _ hbB).trans HF5.out.2.2.2)
    obtain ⟨q0, q1, q2, _⟩ := hfa
    clear hbA hbB
    go_wp2_with fail
    go_region_law (refine Rg.step_app_at fitsF sliceF (by rfl) (.tmp 42) (.tmp 44) (by rfl) B (.slice A 0 c) ([] : List Fld) [f] (by rfl) (Rg.own_below H5.out.2.2.2.2.2.1 ((Below.refl _ _).drew.alloc (Nat.le_refl _) _)) _ _ (by rfl) (Rg.news_new _ _ [f] _ (by rfl)) (Nat.zero_lt_succ _) HSZ.out (Nat.le_trans HB0.out (by simp)) ?_; intro g cap W6 ho6 hg6 hl6; have HO6 := Lib.hid ho6; have HG6 := Lib.hid hg6; have HL6 := Lib.hid hl6; obtain ⟨x0, x1, x2, y0, y1, y2⟩ := dro_far H5.out ((Below.refl _ _).drew.alloc (Nat.le_refl _) _) hg6 HNE.out; clear ho6 hg6 hl6)
    all_goals (
     have HGW : Hid (W5.grownBy W6 (Value.slice A 0 c).ownBlock) := grown_of ((Below.refl _ _).drew.alloc (Nat.le_refl _) _) HG6.out
     have HBW6 := Lib.hid (own_base H5.out.2.2.2.2.2.1 HB0.out ((Below.refl _ _).drew.alloc (Nat.le_refl _) _) HG6.out)
     have HD := Lib.hid (dro_add H5.out HO6.out HGW.out (HL6.out.imp id (fun h => by rw [h]; simp)))
     have HKF := Lib.hid (kset_far H5.out HK5.out HGW.out (.slice (some ⟨g, 0, none⟩) (([] : List Fld).length + [f].length) cap))
     go_wp2_with fail
     exact bodyPost_ret (v := .tuple #[]) (by simp [results, Tryz.results133, go_sem]) rfl ⟨keeps_set (keeps_trans HB5.out.1 (keeps_of HBW6.out)) _, Nat.le_trans HB5.out.2 (by simpa using HGW.out.size), by rw [if_neg (by rw [HTW.out]; decide)]; exact ⟨rfl, _, m, HM.out.1, HD.out, by rw [List.map_append]; exact HKF.out⟩⟩)))
end Go.Proofs.YtkplahkkmmoppaaGreatDoor
namespace Go.Proofs.YtkplahkkmmoppaaGreatDoor.Sz
open Go.RowKit Go.Maps
theorem suffix_end (s : List UInt8) : Lib.hasSuffix s [10] = (s.getLast? == some 10) := by
 unfold Lib.hasSuffix
 rcases List.eq_nil_or_concat s with rfl | ⟨t, c, rfl⟩
 ·rfl
 ·unfold List.isSuffixOf
  rw [List.concat_eq_append, List.reverse_append]
  show (10 == c && true) = _
  rw [Bool.and_true, List.getLast?_concat]
  show (10 == c) = (c == 10)
  rw [Bool.eq_iff_iff, beq_iff_eq, beq_iff_eq]; exact eq_comm
theorem keeps_cell {B d : Nat} {w w' : World} (h : Keeps B d w w') {a : Addr} (h1 : a.block < B) (h2 : a.block ≠ d) : w'.cell? a = w.cell? a := by
 unfold World.cell?
 rw [h.2 _ h1 h2]
theorem draft_no_text {w : World} {B d : Nat} {v0 v1 v2 : Value} {ds : List Desc} {acc : List (List Fld)} {last : List Fld} (h : DrO w B d v0 v1 v2 ds acc last) (h0 : ∀ x, v0 ≠ .string x) (h1 : ∀ x, v1 ≠ .string x) (h2 : ∀ x, v2 ≠ .string x)
  {a : Addr} {x : ByteArray} (hc : w.cell? a = some (.string x)) : a.block ≠ d := fun e => by
 have hb := h.2.1
 unfold World.cell? at hc
 rw [e, hb] at hc
 dsimp only at hc
 split at hc
 ·cases hc
 ·match h3 : a.off with
  | 0 => rw [h3] at hc; exact h0 x (Option.some.inj hc)
  | 1 => rw [h3] at hc; exact h1 x (Option.some.inj hc)
  | 2 => rw [h3] at hc; exact h2 x (Option.some.inj hc)
  | k + 3 => rw [h3] at hc; simp at hc
end Go.Proofs.YtkplahkkmmoppaaGreatDoor.Sz
namespace Go.Proofs.YtkplahkkmmoppaaGreatDoor
open Go.RowKit Go.Maps Sz
attribute [local go_sem ↓] Go.wp_at_zero Go.wp_at_succ
def Sz.ReadRet (w : World) (R : Int × Int × List (List Fld)) (e : Ending) (w' : World) : Prop :=
 Below w.heap.size w w' ∧ if R.1 = 0 then ∃ A c ds, e = .returned (.slice A R.2.2.length c) ∧ Rg.Row encO 1 w' A ds ∧ Gr.In encF 3 w' ds R.2.2 ∧ ∀ x ∈ ds, x.2.1 ≤ x.2.2 else e = panAt R.2.1 R.1
def Sz.KeysOk (w : World) (B : Nat) (v2 : Value) (last : List Fld) : Prop := last = [] ∨ ∃ m, v2 = .map (some m) ∧ B ≤ m ∧ KSet w m (last.map Fld.key)
theorem Sz.readRet_bad {w w' : World} {k n : Int} {l : List (List Fld)} (hk : k ≠ 0) (hb : Below w.heap.size w w') : ReadRet w (k, n, l) (panAt n k) w' := ⟨hb, by show if k = 0 then _ else _; rw [if_neg hk]⟩
theorem Sz.hasK_eq (l : List Fld) (k : List UInt8) : hasK l k = (l.map Fld.key).contains k := by
 induction l with
 | nil => rfl
 | cons f l ih =>
  rw [List.map_cons, List.contains_cons, ← ih]
  show (f.key == k || _) = _
  rw [show (f.key == k) = (k == f.key) by rw [Bool.eq_iff_iff, beq_iff_eq, beq_iff_eq]; exact eq_comm]; rfl
theorem Sz.key_len {k : List UInt8} (h : keyB k = true) : k.length ≤ 1000000 := by
 unfold keyB at h
 rw [Bool.and_eq_true, Bool.and_eq_true, decide_eq_true_eq] at h
 omega
theorem parseIn_some (s : List UInt8) (w : World) (hw : MaxOk w) (hs : s.length ≤ 65536) (h0 : s ≠ []) (h1 : Lib.hasSuffix s [10] = true) :
  Calls Tryz.prog 86 #[.string ⟨s.toArray⟩] w (Sz.ReadRet w (readL 0 (linesL s) [] [])) := by
 obtain ⟨R, hR⟩ : ∃ R, readL 0 (linesL s) [] [] = R := ⟨_, rfl⟩
 rw [hR]
 obtain ⟨W1, hW1⟩ : ∃ W, w.alloc (.cells #[.slice none 0 0, .slice none 0 0, .map none] 197) = W := ⟨_, rfl⟩
 have HB1 : Hid (Below w.heap.size w W1) := alloc_low hW1
 have HD1 : Hid (∀ B, DrO W1 B w.heap.size (.slice none 0 0) (.slice none 0 0) (.map none) [] [] []) := fun B => by rw [← hW1]; exact dro_new
 have HLN := Lib.hid (linesOf_any s W1 (maxOk_below hw HB1.out) (by omega))
 have HM1 : Hid (MaxOk W1) := maxOk_below hw HB1.out
 have HR := Lib.hid hR
 have HMW := Lib.hid hw
 have dl : decide ((s.length : Int) ≤ 65536) = true := decide_eq_true (by omega)
 have HSL := Lib.hid hs
 have hne : (s == []) = false := beq_eq_false_iff_ne.2 h0
 have hse : decide (s.length = 0) = false := decide_eq_false (fun e => h0 (List.length_eq_zero_iff.1 e))
 have HSF := Lib.hid h1
 clear h1 h0
 clear hw hR hs
 go_enter Tryz.func86, Tryz.ntmps86
 go_wp2_with fail
 refine (require_yes _).mono ?_
 rintro _ z ⟨rfl, rfl⟩
 go_wp2_with fail
 refine (Tryz.strings_HasSuffix ⟨s.toArray⟩ ⟨#[10]⟩ _ (by show s.length ≤ _; have := HSL.out; omega)).mono ?_
 rintro _ z ⟨rfl, hz⟩
 obtain rfl := hz.symm
 clear hz
 rw [show Lib.hasSuffix (⟨s.toArray⟩ : ByteArray).data.toList (⟨#[10]⟩ : ByteArray).data.toList = true from HSF.out]
 go_wp2_with fail
 refine (require_yes _).mono ?_
 rintro _ z ⟨rfl, rfl⟩
 go_wp2_with fail
 clear hW1
 refine HLN.out.mono ?_
 rintro _ u ⟨A, n, c, rfl, hn, hnl, hrow, hb⟩
 obtain ⟨D, hD⟩ : ∃ D, w.heap.size = D := ⟨_, rfl⟩
 have HD := Lib.hid hD
 have HDu : Hid (DrO u u.heap.size D (.slice none 0 0) (.slice none 0 0) (.map none) [] [] []) := by show DrO _ _ _ _ _ _ _ _ _; rw [← hD]; exact dro_below (HD1.out _) hb
 have HN := Lib.hid hn
 have HNL := Lib.hid hnl
 have HROW := Lib.hid hrow
 have HBu : Hid (Below D w u ∧ w.heap.size ≤ u.heap.size) := ⟨by rw [← hD]; exact HB1.out.trans (hb.mono HB1.out.size), Nat.le_trans HB1.out.size hb.size⟩
 have HMu : Hid (MaxOk u) := maxOk_below HM1.out hb
 rw [hD]
 clear hn hrow hb dl hnl hD HLN HD1 HB1
 go_wp2_with fail
 go_loopw [22] (fun i wr => ∃ (k : Nat) (acc : List (List Fld)) (last : List Fld) (ds : List Desc) (v0 v1 v2 : Value), i = .int .i64 k ∧ k ≤ n ∧ Hid (DrO wr u.heap.size D v0 v1 v2 ds acc last) ∧ Hid (KeysOk wr u.heap.size v2 last) ∧ Hid (readL k ((linesL s).drop k) acc last = R) ∧ Hid (Keeps u.heap.size D u wr ∧ u.heap.size ≤ wr.heap.size) ∧ Hid (ds.length + last.length ≤ k)) (fun i _ => n - (intOf i).toNat)
 case atStart => exact ⟨0, [], [], [], _, _, _, rfl, Nat.zero_le _, HDu, Or.inl rfl, HR, ⟨keeps_of (Below.refl _ _), Nat.le_refl _⟩, Nat.zero_le _⟩
 case round =>
  obtain ⟨k, acc, last, ds, v0, v1, v2, rfl, hk, HDR, HKO, HRD, HKP, HLE⟩ := hrel
  by_cases hlt : k < n
  ·have hlr : k < (linesL s).length := by rw [HN.out]; exact hlt
   obtain ⟨ad, hA, hblk, hcell⟩ := txt_at HROW.out k hlr
   subst hA
   have hnd : ad.block ≠ D := by
    have := draft_no_text HDu.out (fun x h => by cases h) (fun x h => by cases h) (fun x h => by cases h) hcell
    rwa [Rs.add_block] at this
   have cw := (keeps_cell HKP.out.1 (a := ad.add k) (by rw [Rs.add_block]; exact hblk) (by rw [Rs.add_block]; exact hnd)).trans hcell
   have HLL : Hid ((linesL s)[k].length ≤ 65536) := Nat.le_trans (line_le (List.getElem_mem hlr)) HSL.out
   have hrd := HRD.out
   rw [List.drop_eq_getElem_cons hlr] at hrd
   have hrl : ((linesL s).drop (k + 1)).length = n - (k + 1) := by rw [List.length_drop, HN.out]
   obtain ⟨rest, hrest⟩ : ∃ x, (linesL s).drop (k + 1) = x := ⟨_, rfl⟩
   obtain ⟨ln, hln⟩ : ∃ x, (linesL s)[k] = x := ⟨_, rfl⟩
   rw [hln] at cw hrd HLL
   rw [hrest] at hrd hrl
   have HRS := Lib.hid hrest
   have HRLN := Lib.hid hrl
   have ik : (k : Int) < (n : Int) := by omega
   have hkw : IntKind.i64.wrap ((k : Int) + 1) = (k : Int) + 1 := IntWalk.i64_in _ (by have := HNL.out; have := HSL.out; omega)
   have hnw : IntKind.i64.wrap ((n : Int) - 1) = (n : Int) - 1 := IntWalk.i64_in _ (by have := HNL.out; have := HSL.out; omega)
   obtain ⟨A1, c1, hv1, _, _, _⟩ := Rg.row_own fitsF HDR.out.2.2.2.2.2.1
   obtain ⟨q, hq⟩ : ∃ q, last.length = q := ⟨_, rfl⟩
   rw [hq] at hv1
   subst hv1
   obtain ⟨e0, e1, e2, _, _, _⟩ := dro_cells HDR.out
   have HQ := Lib.hid hq
   have HBR : Hid (Below D w wr) := HBu.out.1.trans (keeps_low HKP.out.1 (Nat.le_trans (by rw [HD.out]; exact Nat.le_refl _) HBu.out.2))
   clear hcell hblk hnd hrest hln hrl hq
   by_cases hle : ln = []
   ·subst hle
    have hrd2 : (if (last.isEmpty || rest.isEmpty) then (2, (k : Int), []) else readL (k + 1) rest (acc ++ [last]) []) = R := hrd
    by_cases hgo : 0 < q ∧ k + 1 < n
    ·have i1 : (0 : Int) < (q : Int) := by omega
     have i2 : (k : Int) < (n : Int) - 1 := by omega
     have HR2 : Hid (readL (k + 1) rest (acc ++ [last]) [] = R) := by
      show _ = _
      rw [if_neg] at hrd2
      ·exact hrd2
      ·cases last with
       | nil => have := HQ.out; simp at this; omega
       | cons x l => cases rest with
        | nil => have := HRLN.out; simp at this; omega
        | cons y r => simp
     have HQ1 := Lib.hid hgo
     clear hgo hrd hrd2
     go_wp2_with fail
     refine (requireAt_yes _).mono ?_
     rintro _ z ⟨rfl, rfl⟩
     go_wp2_with fail
     refine (draftEnd_any HDR.out (by have := HLE.out; have := HNL.out; have := HSL.out; omega) HKP.out.2).mono ?_
     rintro _ z ⟨rfl, hkp, hsz, u0, u1, ds2, hd2⟩
     have hln0 : last ≠ [] := fun e => by have := HQ.out; rw [e] at this; simp at this; have := HQ1.out; omega
     rw [if_neg hln0] at hd2
     have HD2 := Lib.hid hd2
     have HK2 : Hid (Keeps u.heap.size D u z ∧ u.heap.size ≤ z.heap.size) := ⟨keeps_trans HKP.out.1 hkp, Nat.le_trans HKP.out.2 hsz⟩
     have HL2 : Hid (ds2.length + ([] : List Fld).length ≤ k + 1) := by
      have h1 := hd2.2.2.2.1.1
      have h2 := HDR.out.2.2.2.1.1
      rw [List.length_append] at h1
      have h3 := HLE.out
      have h4 := HQ.out
      have h5 := HQ1.out
      show ds2.length + 0 ≤ k + 1
      simp at h1
      omega
     clear hkp hsz hd2 hln0
     go_wp2_with fail
     go_roundw
     case rel => exact ⟨k + 1, acc ++ [last], [], ds2, _, _, _, by go_num, by omega, HD2, Or.inl rfl, by show readL _ _ _ _ = R; rw [HRS.out]; exact HR2.out, HK2, HL2⟩
     case measure => simp [intOf]; omega
    ·have HRE : Hid (R = (2, (k : Int), [])) := by
      show _ = _
      rw [← hrd2, if_pos]
      cases last with
      | nil => rfl
      | cons x l => cases rest with
       | nil => simp
       | cons y r =>
        have h1 := HQ.out
        have h2 := HRLN.out
        simp at h1 h2
        omega
     clear hrd hrd2
     by_cases hq0 : 0 < q
     ·have i1 : (0 : Int) < (q : Int) := by omega
      have i2 : ¬ (k : Int) < (n : Int) - 1 := by omega
      clear hgo hq0
      go_wp2_with fail
      refine (requireAt_no _).mono ?_
      rintro _ z ⟨rfl, rfl⟩
      go_wp2_with fail
      exact ⟨rfl, by show ReadRet w R _ _; rw [HRE.out]; exact readRet_bad (by decide) (by rw [HD.out]; exact HBR.out)⟩
     ·have i1 : ¬ (0 : Int) < (q : Int) := by omega
      clear hgo hq0
      go_wp2_with fail
      refine (requireAt_no _).mono ?_
      rintro _ z ⟨rfl, rfl⟩
      go_wp2_with fail
      exact ⟨rfl, by show ReadRet w R _ _; rw [HRE.out]; exact readRet_bad (by decide) (by rw [HD.out]; exact HBR.out)⟩
   ·have hrd2 : (match Sz.fieldP ln (k : Int) with | none => ((2 : Int), (k : Int), ([] : List (List Fld))) | some f => if hasK last f.key then (6, (k : Int), []) else readL (k + 1) rest acc (last ++ [f])) = R := by
     cases ln with
     | nil => exact absurd rfl hle
     | cons x t => exact hrd
    have lne : (ln == []) = false := beq_eq_false_iff_ne.2 hle
    have hfo := fieldOf_any ln (k : Int) wr (maxOk_below HMW.out (by rw [HD.out]; exact HBR.out)) (Nat.le_trans HLL.out (by decide))
    have hfb := @Sz.field_back ln (k : Int)
    obtain ⟨F, hF⟩ : ∃ F, Sz.fieldP ln (k : Int) = F := ⟨_, rfl⟩
    rw [hF] at hrd2 hfo hfb
    have HFO := Lib.hid hfo
    cases F with
    | none =>
     have HRE : Hid (R = (2, (k : Int), [])) := hrd2.symm
     clear hrd hrd2 hfo hfb hF hle
     go_wp2_with fail
     refine HFO.out.mono ?_
     rintro e z ⟨hb, he⟩
     have HBZ : Hid (Below D w z) := HBR.out.trans (hb.mono (Nat.le_trans (by rw [← HD.out]; exact HBu.out.2) HKP.out.2))
     have he2 : e = panAt k 2 := he
     subst he2
     clear hb he
     go_wp2_with fail
     exact ⟨rfl, by show ReadRet w R _ _; rw [HRE.out]; exact readRet_bad (by decide) (by rw [HD.out]; exact HBZ.out)⟩
    | some f =>
     obtain ⟨_, hline, hkb, _⟩ := hfb rfl
     have HLINE := Lib.hid hline
     have HKL := Lib.hid (key_len hkb)
     have HRX : Hid ((if hasK last f.key then ((6 : Int), (k : Int), ([] : List (List Fld))) else readL (k + 1) rest acc (last ++ [f])) = R) := hrd2
     clear hrd hrd2 hfo hfb hF hle hline hkb
     go_wp2_with fail
     refine HFO.out.mono ?_
     rintro e z ⟨hb, he⟩
     have he2 : e = .returned (.agg #[.string ⟨f.key.toArray⟩, .string ⟨f.val.toArray⟩, .int .i64 (k : Int)]) := he
     subst he2
     have HKZ : Hid (Keeps u.heap.size D u z ∧ u.heap.size ≤ z.heap.size) := ⟨keeps_trans HKP.out.1 (keeps_of (hb.mono HKP.out.2)), Nat.le_trans HKP.out.2 hb.size⟩
     have hdz := dro_below HDR.out hb
     have hadd : Calls Tryz.prog 133 #[.pointer (some ⟨D, 0, none⟩), .agg #[.string ⟨f.key.toArray⟩, .string ⟨f.val.toArray⟩, .int .i64 f.line]] z (Sz.AddRet z u.heap.size D v0 ds acc last f) := by
      have hsz1 : last.length + 1 ≤ 1000000 := by have := HLE.out; have := HNL.out; have := HSL.out; omega
      by_cases hl : last = []
      ·exact draftAdd_first f hdz hsz1 HKL.out HKZ.out.2 hl
      ·rcases HKO.out with h | ⟨m, h1, h2, h3⟩
       ·exact absurd h hl
       ·refine draftAdd_more f hdz hsz1 HKL.out HKZ.out.2 hl ⟨m, h1, h2, ?_⟩
        obtain ⟨_, _, ⟨_, _, hh, _⟩, _⟩ := id h3
        exact kset_below h3 hb (Array.getElem?_eq_some_iff.1 hh).1
     rw [HLINE.out] at hadd
     have HADD := Lib.hid hadd
     clear hb he hdz hadd HFO
     go_wp2_with fail
     refine HADD.out.mono ?_
     rintro e z2 ⟨hkp, hsz, hif⟩
     have HK2 : Hid (Keeps u.heap.size D u z2 ∧ u.heap.size ≤ z2.heap.size) := ⟨keeps_trans HKZ.out.1 hkp, Nat.le_trans HKZ.out.2 hsz⟩
     by_cases htw : (last.map Fld.key).contains f.key = true
     ·rw [if_pos htw, HLINE.out] at hif
      have HRE : Hid (R = (6, (k : Int), [])) := by show _ = _; rw [← HRX.out, hasK_eq, if_pos htw]
      have HBZ : Hid (Below D w z2) := HBu.out.1.trans (keeps_low HK2.out.1 (Nat.le_trans (by rw [HD.out]; exact Nat.le_refl _) HBu.out.2))
      subst hif
      clear htw hkp hsz
      go_wp2_with fail
      exact ⟨rfl, by show ReadRet w R _ _; rw [HRE.out]; exact readRet_bad (by decide) (by rw [HD.out]; exact HBZ.out)⟩
     ·rw [if_neg htw] at hif
      obtain ⟨rfl, u1, m, hbm, hd2, hks⟩ := hif
      have HR2 : Hid (readL (k + 1) rest acc (last ++ [f]) = R) := by show _ = _; rw [← HRX.out, hasK_eq, if_neg htw]
      have HD2 := Lib.hid hd2
      have HKO2 : Hid (KeysOk z2 u.heap.size (.map (some m)) (last ++ [f])) := Or.inr ⟨m, rfl, hbm, hks⟩
      have HL2 : Hid (ds.length + (last ++ [f]).length ≤ k + 1) := by have := HLE.out; show _ ≤ _; rw [List.length_append]; show _ + (_ + 1) ≤ _; omega
      clear htw hkp hsz hbm hd2 hks
      go_wp2_with fail
      go_roundw
      case rel => exact ⟨k + 1, acc, last ++ [f], ds, _, _, _, by go_num, by omega, HD2, HKO2, by show readL _ _ _ _ = R; rw [HRS.out]; exact HR2.out, HK2, HL2⟩
      case measure => simp [intOf]; omega
  ·obtain rfl : k = n := by omega
   have HRE : Hid (R = (0, 0, if last = [] then acc else acc ++ [last])) := by
    show _ = _
    rw [← HRD.out, List.drop_eq_nil_of_le (by rw [HN.out]; exact Nat.le_refl _)]
    cases last <;> rfl
   have ik : ¬ (k : Int) < (k : Int) := by omega
   go_wp2_with fail
   refine (draftEnd_any HDR.out (by have := HLE.out; have := HNL.out; have := HSL.out; omega) HKP.out.2).mono ?_
   rintro _ z ⟨rfl, hkp, hsz, u0, u1, ds2, hd2⟩
   have HBZ : Hid (Below D w z) := HBu.out.1.trans (keeps_low (keeps_trans HKP.out.1 hkp) (Nat.le_trans (by rw [HD.out]; exact Nat.le_refl _) HBu.out.2))
   obtain ⟨A2, c2, hv2, hrow2, _, _⟩ := Rg.row_own fitsO hd2.2.2.1
   have hin2 := hd2.2.2.2.1
   have HCP : Hid (∀ x ∈ ds2, x.2.1 ≤ x.2.2) := hd2.1
   subst hv2
   obtain ⟨e0, _, _, _, _, _⟩ := dro_cells hd2
   have HROW2 := Lib.hid hrow2
   have HIN2 := Lib.hid hin2
   clear hkp hsz hd2 hrow2 hin2
   go_wp2_with fail
   go_ret
   show ReadRet w R _ _
   rw [HRE.out]
   refine ⟨by rw [HD.out]; exact HBZ.out, ?_⟩
   show if (0 : Int) = 0 then _ else _
   rw [if_pos rfl]
   exact ⟨A2, c2, ds2, congrArg (fun x => Ending.returned (Value.slice A2 x c2)) HIN2.out.1, HROW2.out, HIN2.out, HCP.out⟩
theorem parseIn_none (s : List UInt8) (w : World) (hw : MaxOk w) (hs : s.length ≤ 65536) (h0 : s = []) :
  Calls Tryz.prog 86 #[.string ⟨s.toArray⟩] w (Sz.ReadRet w (readL 0 (linesL s) [] [])) := by
 obtain ⟨R, hR⟩ : ∃ R, readL 0 (linesL s) [] [] = R := ⟨_, rfl⟩
 rw [hR]
 obtain ⟨W1, hW1⟩ : ∃ W, w.alloc (.cells #[.slice none 0 0, .slice none 0 0, .map none] 197) = W := ⟨_, rfl⟩
 have HB1 : Hid (Below w.heap.size w W1) := alloc_low hW1
 have HD1 : Hid (∀ B, DrO W1 B w.heap.size (.slice none 0 0) (.slice none 0 0) (.map none) [] [] []) := fun B => by rw [← hW1]; exact dro_new
 have HLN := Lib.hid (linesOf_any s W1 (maxOk_below hw HB1.out) (by omega))
 have HM1 : Hid (MaxOk W1) := maxOk_below hw HB1.out
 have HR := Lib.hid hR
 have HMW := Lib.hid hw
 have dl : decide ((s.length : Int) ≤ 65536) = true := decide_eq_true (by omega)
 have HSL := Lib.hid hs
 have hne : (s == []) = true := by rw [h0]; rfl
 clear h0
 clear hw hR hs
 go_enter Tryz.func86, Tryz.ntmps86
 go_wp2_with fail
 refine (require_yes _).mono ?_
 rintro _ z ⟨rfl, rfl⟩
 go_wp2_with fail
 refine (require_yes _).mono ?_
 rintro _ z ⟨rfl, rfl⟩
 go_wp2_with fail
 clear hW1
 refine HLN.out.mono ?_
 rintro _ u ⟨A, n, c, rfl, hn, hnl, hrow, hb⟩
 obtain ⟨D, hD⟩ : ∃ D, w.heap.size = D := ⟨_, rfl⟩
 have HD := Lib.hid hD
 have HDu : Hid (DrO u u.heap.size D (.slice none 0 0) (.slice none 0 0) (.map none) [] [] []) := by show DrO _ _ _ _ _ _ _ _ _; rw [← hD]; exact dro_below (HD1.out _) hb
 have HN := Lib.hid hn
 have HNL := Lib.hid hnl
 have HROW := Lib.hid hrow
 have HBu : Hid (Below D w u ∧ w.heap.size ≤ u.heap.size) := ⟨by rw [← hD]; exact HB1.out.trans (hb.mono HB1.out.size), Nat.le_trans HB1.out.size hb.size⟩
 have HMu : Hid (MaxOk u) := maxOk_below HM1.out hb
 rw [hD]
 clear hn hrow hb dl hnl hD HLN HD1 HB1
 go_wp2_with fail
 go_loopw [22] (fun i wr => ∃ (k : Nat) (acc : List (List Fld)) (last : List Fld) (ds : List Desc) (v0 v1 v2 : Value), i = .int .i64 k ∧ k ≤ n ∧ Hid (DrO wr u.heap.size D v0 v1 v2 ds acc last) ∧ Hid (KeysOk wr u.heap.size v2 last) ∧ Hid (readL k ((linesL s).drop k) acc last = R) ∧ Hid (Keeps u.heap.size D u wr ∧ u.heap.size ≤ wr.heap.size) ∧ Hid (ds.length + last.length ≤ k)) (fun i _ => n - (intOf i).toNat)
 case atStart => exact ⟨0, [], [], [], _, _, _, rfl, Nat.zero_le _, HDu, Or.inl rfl, HR, ⟨keeps_of (Below.refl _ _), Nat.le_refl _⟩, Nat.zero_le _⟩
 case round =>
  obtain ⟨k, acc, last, ds, v0, v1, v2, rfl, hk, HDR, HKO, HRD, HKP, HLE⟩ := hrel
  by_cases hlt : k < n
  ·have hlr : k < (linesL s).length := by rw [HN.out]; exact hlt
   obtain ⟨ad, hA, hblk, hcell⟩ := txt_at HROW.out k hlr
   subst hA
   have hnd : ad.block ≠ D := by
    have := draft_no_text HDu.out (fun x h => by cases h) (fun x h => by cases h) (fun x h => by cases h) hcell
    rwa [Rs.add_block] at this
   have cw := (keeps_cell HKP.out.1 (a := ad.add k) (by rw [Rs.add_block]; exact hblk) (by rw [Rs.add_block]; exact hnd)).trans hcell
   have HLL : Hid ((linesL s)[k].length ≤ 65536) := Nat.le_trans (line_le (List.getElem_mem hlr)) HSL.out
   have hrd := HRD.out
   rw [List.drop_eq_getElem_cons hlr] at hrd
   have hrl : ((linesL s).drop (k + 1)).length = n - (k + 1) := by rw [List.length_drop, HN.out]
   obtain ⟨rest, hrest⟩ : ∃ x, (linesL s).drop (k + 1) = x := ⟨_, rfl⟩
   obtain ⟨ln, hln⟩ : ∃ x, (linesL s)[k] = x := ⟨_, rfl⟩
   rw [hln] at cw hrd HLL
   rw [hrest] at hrd hrl
   have HRS := Lib.hid hrest
   have HRLN := Lib.hid hrl
   have ik : (k : Int) < (n : Int) := by omega
   have hkw : IntKind.i64.wrap ((k : Int) + 1) = (k : Int) + 1 := IntWalk.i64_in _ (by have := HNL.out; have := HSL.out; omega)
   have hnw : IntKind.i64.wrap ((n : Int) - 1) = (n : Int) - 1 := IntWalk.i64_in _ (by have := HNL.out; have := HSL.out; omega)
   obtain ⟨A1, c1, hv1, _, _, _⟩ := Rg.row_own fitsF HDR.out.2.2.2.2.2.1
   obtain ⟨q, hq⟩ : ∃ q, last.length = q := ⟨_, rfl⟩
   rw [hq] at hv1
   subst hv1
   obtain ⟨e0, e1, e2, _, _, _⟩ := dro_cells HDR.out
   have HQ := Lib.hid hq
   have HBR : Hid (Below D w wr) := HBu.out.1.trans (keeps_low HKP.out.1 (Nat.le_trans (by rw [HD.out]; exact Nat.le_refl _) HBu.out.2))
   clear hcell hblk hnd hrest hln hrl hq
   by_cases hle : ln = []
   ·subst hle
    have hrd2 : (if (last.isEmpty || rest.isEmpty) then (2, (k : Int), []) else readL (k + 1) rest (acc ++ [last]) []) = R := hrd
    by_cases hgo : 0 < q ∧ k + 1 < n
    ·have i1 : (0 : Int) < (q : Int) := by omega
     have i2 : (k : Int) < (n : Int) - 1 := by omega
     have HR2 : Hid (readL (k + 1) rest (acc ++ [last]) [] = R) := by
      show _ = _
      rw [if_neg] at hrd2
      ·exact hrd2
      ·cases last with
       | nil => have := HQ.out; simp at this; omega
       | cons x l => cases rest with
        | nil => have := HRLN.out; simp at this; omega
        | cons y r => simp
     have HQ1 := Lib.hid hgo
     clear hgo hrd hrd2
     go_wp2_with fail
     refine (requireAt_yes _).mono ?_
     rintro _ z ⟨rfl, rfl⟩
     go_wp2_with fail
     refine (draftEnd_any HDR.out (by have := HLE.out; have := HNL.out; have := HSL.out; omega) HKP.out.2).mono ?_
     rintro _ z ⟨rfl, hkp, hsz, u0, u1, ds2, hd2⟩
     have hln0 : last ≠ [] := fun e => by have := HQ.out; rw [e] at this; simp at this; have := HQ1.out; omega
     rw [if_neg hln0] at hd2
     have HD2 := Lib.hid hd2
     have HK2 : Hid (Keeps u.heap.size D u z ∧ u.heap.size ≤ z.heap.size) := ⟨keeps_trans HKP.out.1 hkp, Nat.le_trans HKP.out.2 hsz⟩
     have HL2 : Hid (ds2.length + ([] : List Fld).length ≤ k + 1) := by
      have h1 := hd2.2.2.2.1.1
      have h2 := HDR.out.2.2.2.1.1
      rw [List.length_append] at h1
      have h3 := HLE.out
      have h4 := HQ.out
      have h5 := HQ1.out
      show ds2.length + 0 ≤ k + 1
      simp at h1
      omega
     clear hkp hsz hd2 hln0
     go_wp2_with fail
     go_roundw
     case rel => exact ⟨k + 1, acc ++ [last], [], ds2, _, _, _, by go_num, by omega, HD2, Or.inl rfl, by show readL _ _ _ _ = R; rw [HRS.out]; exact HR2.out, HK2, HL2⟩
     case measure => simp [intOf]; omega
    ·have HRE : Hid (R = (2, (k : Int), [])) := by
      show _ = _
      rw [← hrd2, if_pos]
      cases last with
      | nil => rfl
      | cons x l => cases rest with
       | nil => simp
       | cons y r =>
        have h1 := HQ.out
        have h2 := HRLN.out
        simp at h1 h2
        omega
     clear hrd hrd2
     by_cases hq0 : 0 < q
     ·have i1 : (0 : Int) < (q : Int) := by omega
      have i2 : ¬ (k : Int) < (n : Int) - 1 := by omega
      clear hgo hq0
      go_wp2_with fail
      refine (requireAt_no _).mono ?_
      rintro _ z ⟨rfl, rfl⟩
      go_wp2_with fail
      exact ⟨rfl, by show ReadRet w R _ _; rw [HRE.out]; exact readRet_bad (by decide) (by rw [HD.out]; exact HBR.out)⟩
     ·have i1 : ¬ (0 : Int) < (q : Int) := by omega
      clear hgo hq0
      go_wp2_with fail
      refine (requireAt_no _).mono ?_
      rintro _ z ⟨rfl, rfl⟩
      go_wp2_with fail
      exact ⟨rfl, by show ReadRet w R _ _; rw [HRE.out]; exact readRet_bad (by decide) (by rw [HD.out]; exact HBR.out)⟩
   ·have hrd2 : (match Sz.fieldP ln (k : Int) with | none => ((2 : Int), (k : Int), ([] : List (List Fld))) | some f => if hasK last f.key then (6, (k : Int), []) else readL (k + 1) rest acc (last ++ [f])) = R := by
     cases ln with
     | nil => exact absurd rfl hle
     | cons x t => exact hrd
    have lne : (ln == []) = false := beq_eq_false_iff_ne.2 hle
    have hfo := fieldOf_any ln (k : Int) wr (maxOk_below HMW.out (by rw [HD.out]; exact HBR.out)) (Nat.le_trans HLL.out (by decide))
    have hfb := @Sz.field_back ln (k : Int)
    obtain ⟨F, hF⟩ : ∃ F, Sz.fieldP ln (k : Int) = F := ⟨_, rfl⟩
    rw [hF] at hrd2 hfo hfb
    have HFO := Lib.hid hfo
    cases F with
    | none =>
     have HRE : Hid (R = (2, (k : Int), [])) := hrd2.symm
     clear hrd hrd2 hfo hfb hF hle
     go_wp2_with fail
     refine HFO.out.mono ?_
     rintro e z ⟨hb, he⟩
     have HBZ : Hid (Below D w z) := HBR.out.trans (hb.mono (Nat.le_trans (by rw [← HD.out]; exact HBu.out.2) HKP.out.2))
     have he2 : e = panAt k 2 := he
     subst he2
     clear hb he
     go_wp2_with fail
     exact ⟨rfl, by show ReadRet w R _ _; rw [HRE.out]; exact readRet_bad (by decide) (by rw [HD.out]; exact HBZ.out)⟩
    | some f =>
     obtain ⟨_, hline, hkb, _⟩ := hfb rfl
     have HLINE := Lib.hid hline
     have HKL := Lib.hid (key_len hkb)
     have HRX : Hid ((if hasK last f.key then ((6 : Int), (k : Int), ([] : List (List Fld))) else readL (k + 1) rest acc (last ++ [f])) = R) := hrd2
     clear hrd hrd2 hfo hfb hF hle hline hkb
     go_wp2_with fail
     refine HFO.out.mono ?_
     rintro e z ⟨hb, he⟩
     have he2 : e = .returned (.agg #[.string ⟨f.key.toArray⟩, .string ⟨f.val.toArray⟩, .int .i64 (k : Int)]) := he
     subst he2
     have HKZ : Hid (Keeps u.heap.size D u z ∧ u.heap.size ≤ z.heap.size) := ⟨keeps_trans HKP.out.1 (keeps_of (hb.mono HKP.out.2)), Nat.le_trans HKP.out.2 hb.size⟩
     have hdz := dro_below HDR.out hb
     have hadd : Calls Tryz.prog 133 #[.pointer (some ⟨D, 0, none⟩), .agg #[.string ⟨f.key.toArray⟩, .string ⟨f.val.toArray⟩, .int .i64 f.line]] z (Sz.AddRet z u.heap.size D v0 ds acc last f) := by
      have hsz1 : last.length + 1 ≤ 1000000 := by have := HLE.out; have := HNL.out; have := HSL.out; omega
      by_cases hl : last = []
      ·exact draftAdd_first f hdz hsz1 HKL.out HKZ.out.2 hl
      ·rcases HKO.out with h | ⟨m, h1, h2, h3⟩
       ·exact absurd h hl
       ·refine draftAdd_more f hdz hsz1 HKL.out HKZ.out.2 hl ⟨m, h1, h2, ?_⟩
        obtain ⟨_, _, ⟨_, _, hh, _⟩, _⟩ := id h3
        exact kset_below h3 hb (Array.getElem?_eq_some_iff.1 hh).1
     rw [HLINE.out] at hadd
     have HADD := Lib.hid hadd
     clear hb he hdz hadd HFO
     go_wp2_with fail
     refine HADD.out.mono ?_
     rintro e z2 ⟨hkp, hsz, hif⟩
     have HK2 : Hid (Keeps u.heap.size D u z2 ∧ u.heap.size ≤ z2.heap.size) := ⟨keeps_trans HKZ.out.1 hkp, Nat.le_trans HKZ.out.2 hsz⟩
     by_cases htw : (last.map Fld.key).contains f.key = true
     ·rw [if_pos htw, HLINE.out] at hif
      have HRE : Hid (R = (6, (k : Int), [])) := by show _ = _; rw [← HRX.out, hasK_eq, if_pos htw]
      have HBZ : Hid (Below D w z2) := HBu.out.1.trans (keeps_low HK2.out.1 (Nat.le_trans (by rw [HD.out]; exact Nat.le_refl _) HBu.out.2))
      subst hif
      clear htw hkp hsz
      go_wp2_with fail
      exact ⟨rfl, by show ReadRet w R _ _; rw [HRE.out]; exact readRet_bad (by decide) (by rw [HD.out]; exact HBZ.out)⟩
     ·rw [if_neg htw] at hif
      obtain ⟨rfl, u1, m, hbm, hd2, hks⟩ := hif
      have HR2 : Hid (readL (k + 1) rest acc (last ++ [f]) = R) := by show _ = _; rw [← HRX.out, hasK_eq, if_neg htw]
      have HD2 := Lib.hid hd2
      have HKO2 : Hid (KeysOk z2 u.heap.size (.map (some m)) (last ++ [f])) := Or.inr ⟨m, rfl, hbm, hks⟩
      have HL2 : Hid (ds.length + (last ++ [f]).length ≤ k + 1) := by have := HLE.out; show _ ≤ _; rw [List.length_append]; show _ + (_ + 1) ≤ _; omega
      clear htw hkp hsz hbm hd2 hks
      go_wp2_with fail
      go_roundw
      case rel => exact ⟨k + 1, acc, last ++ [f], ds, _, _, _, by go_num, by omega, HD2, HKO2, by show readL _ _ _ _ = R; rw [HRS.out]; exact HR2.out, HK2, HL2⟩
      case measure => simp [intOf]; omega
  ·obtain rfl : k = n := by omega
   have HRE : Hid (R = (0, 0, if last = [] then acc else acc ++ [last])) := by
    show _ = _
    rw [← HRD.out, List.drop_eq_nil_of_le (by rw [HN.out]; exact Nat.le_refl _)]
    cases last <;> rfl
   have ik : ¬ (k : Int) < (k : Int) := by omega
   go_wp2_with fail
   refine (draftEnd_any HDR.out (by have := HLE.out; have := HNL.out; have := HSL.out; omega) HKP.out.2).mono ?_
   rintro _ z ⟨rfl, hkp, hsz, u0, u1, ds2, hd2⟩
   have HBZ : Hid (Below D w z) := HBu.out.1.trans (keeps_low (keeps_trans HKP.out.1 hkp) (Nat.le_trans (by rw [HD.out]; exact Nat.le_refl _) HBu.out.2))
   obtain ⟨A2, c2, hv2, hrow2, _, _⟩ := Rg.row_own fitsO hd2.2.2.1
   have hin2 := hd2.2.2.2.1
   have HCP : Hid (∀ x ∈ ds2, x.2.1 ≤ x.2.2) := hd2.1
   subst hv2
   obtain ⟨e0, _, _, _, _, _⟩ := dro_cells hd2
   have HROW2 := Lib.hid hrow2
   have HIN2 := Lib.hid hin2
   clear hkp hsz hd2 hrow2 hin2
   go_wp2_with fail
   go_ret
   show ReadRet w R _ _
   rw [HRE.out]
   refine ⟨by rw [HD.out]; exact HBZ.out, ?_⟩
   show if (0 : Int) = 0 then _ else _
   rw [if_pos rfl]
   exact ⟨A2, c2, ds2, congrArg (fun x => Ending.returned (Value.slice A2 x c2)) HIN2.out.1, HROW2.out, HIN2.out, HCP.out⟩
theorem parseIn_long (s : List UInt8) (w : World) (hs : 65536 < s.length) :
  Calls Tryz.prog 86 #[.string ⟨s.toArray⟩] w fun e w' => e = pan 4 ∧ w = w' := by
 have dl : decide ((s.length : Int) ≤ 65536) = false := decide_eq_false (by omega)
 clear hs
 go_enter Tryz.func86, Tryz.ntmps86
 go_wp2_with fail
 refine (require_no _).mono ?_
 rintro _ z ⟨rfl, rfl⟩
 go_wp2_with fail
 exact ⟨rfl, rfl, rfl⟩
theorem parseIn_open (s : List UInt8) (w : World) (hs : s.length ≤ 65536) (h0 : s ≠ []) (h1 : Lib.hasSuffix s [10] = false) :
  Calls Tryz.prog 86 #[.string ⟨s.toArray⟩] w fun e w' => e = pan 2 ∧ w = w' := by
 have dl : decide ((s.length : Int) ≤ 65536) = true := decide_eq_true (by omega)
 have hne : (s == []) = false := beq_eq_false_iff_ne.2 h0
 have HSF := Lib.hid h1
 have HSL := Lib.hid hs
 clear h1 h0 hs
 go_enter Tryz.func86, Tryz.ntmps86
 go_wp2_with fail
 refine (require_yes _).mono ?_
 rintro _ z ⟨rfl, rfl⟩
 go_wp2_with fail
 refine (Tryz.strings_HasSuffix ⟨s.toArray⟩ ⟨#[10]⟩ _ (by show s.length ≤ _; have := HSL.out; omega)).mono ?_
 rintro _ z ⟨rfl, hz⟩
 obtain rfl := hz.symm
 clear hz
 rw [show Lib.hasSuffix (⟨s.toArray⟩ : ByteArray).data.toList (⟨#[10]⟩ : ByteArray).data.toList = false from HSF.out]
 go_wp2_with fail
 refine (require_no _).mono ?_
 rintro _ z ⟨rfl, rfl⟩
 go_wp2_with fail
 exact ⟨rfl, rfl, rfl⟩
theorem parseIn_any (s : List UInt8) (w : World) (hw : MaxOk w) :
  Calls Tryz.prog 86 #[.string ⟨s.toArray⟩] w fun e w' => if 65536 < s.length then e = pan 4 ∧ w = w' else if endB s = true then ReadRet w (readL 0 (linesL s) [] []) e w' else e = pan 2 ∧ w = w' := by
 by_cases hl : 65536 < s.length
 ·exact (parseIn_long s w hl).mono fun _ _ h => by rw [if_pos hl]; exact h
 ·have hs : s.length ≤ 65536 := by omega
  by_cases h0 : s = []
  ·exact (parseIn_none s w hw hs h0).mono fun _ _ h => by rw [if_neg hl, if_pos (by rw [h0]; rfl)]; exact h
  ·have hen : endB s = Lib.hasSuffix s [10] := by
    unfold endB
    rw [suffix_end, List.isEmpty_eq_false_iff.2 h0, Bool.false_or]
   cases h1 : Lib.hasSuffix s [10]
   ·exact (parseIn_open s w hs h0 h1).mono fun _ _ h => by rw [if_neg hl, if_neg (by rw [hen, h1]; decide)]; exact h
   ·exact (parseIn_some s w hw hs h0 h1).mono fun _ _ h => by rw [if_neg hl, if_pos (by rw [hen, h1])]; exact h
end Go.Proofs.YtkplahkkmmoppaaGreatDoor
namespace Go.Proofs.YtkplahkkmmoppaaGreatDoor
open Go.RowKit
theorem sParse_panic (p q : Addr) (x y n : Int) (w : World) (hc : w.cell? p = some (.int .i64 x)) (hz : w.frozen? p = false) (hc2 : (w.setCell p (.int .i64 0)).cell? q = some (.int .i64 y)) (hz2 : (w.setCell p (.int .i64 0)).frozen? q = false) :
  CallsD Tryz.prog 85 #[.pointer (some p), .pointer (some q)] (.panicking [{ v := .iface 36 (.int .i64 n), recovered := false }]) w fun e u' w' =>
   e = .returned (.tuple #[]) ∧ u' = .panicking [{ v := .iface 36 (.int .i64 n), recovered := true }] ∧ w' = (w.setCell p (.int .i64 0)).setCell q (.int .i64 n) := by
 refine callsD_of_wpS Tryz.func85 rfl fun c₀ cs hu => ?_
 apply wpS_region
 simp [wpOpsS, go_sem, recoverD, hu, Tryz.ntmps85]
 refine (raisedAt_err n _).mono ?_
 rintro e w' ⟨rfl, rfl⟩
 simp [go_sem, hc, hz, hc2, hz2, bodyPostS, results, Tryz.results85]
theorem sParse_placed (p q : Addr) (x y k n : Int) (w : World) (hc : ∀ u, Below w.heap.size w u → u.cell? p = some (.int .i64 x)) (hz : ∀ u, Below w.heap.size w u → u.frozen? p = false) (hc2 : ∀ u, Below w.heap.size w u → (u.setCell p (.int .i64 k)).cell? q = some (.int .i64 y)) (hz2 : ∀ u, Below w.heap.size w u → (u.setCell p (.int .i64 k)).frozen? q = false) :
  CallsD Tryz.prog 85 #[.pointer (some p), .pointer (some q)] (.panicking [{ v := .iface 164 (.agg #[.int .i64 k, .int .i64 n]), recovered := false }]) w fun e u' w' =>
   e = .returned (.tuple #[]) ∧ u' = .panicking [{ v := .iface 164 (.agg #[.int .i64 k, .int .i64 n]), recovered := true }] ∧ ∃ u, Below w.heap.size w u ∧ w' = (u.setCell p (.int .i64 k)).setCell q (.int .i64 n) := by
 refine callsD_of_wpS Tryz.func85 rfl fun c₀ cs hu => ?_
 apply wpS_region
 simp [wpOpsS, go_sem, recoverD, hu, Tryz.ntmps85]
 refine (raisedAt_placed k n _).mono ?_
 rintro e w' ⟨rfl, hb⟩
 simp [go_sem, hc _ hb, hz _ hb, hc2 _ hb, hz2 _ hb, bodyPostS, results, Tryz.results85]
 exact ⟨w', hb, rfl⟩
theorem sParse_idle (p q : Addr) (x y : Int) (w : World) (hc : w.cell? p = some (.int .i64 x)) (hz : w.frozen? p = false) (hc2 : (w.setCell p (.int .i64 0)).cell? q = some (.int .i64 y)) (hz2 : (w.setCell p (.int .i64 0)).frozen? q = false) :
  CallsD Tryz.prog 85 #[.pointer (some p), .pointer (some q)] .returning w fun e u' w' => e = .returned (.tuple #[]) ∧ u' = .returning ∧ w' = (w.setCell p (.int .i64 0)).setCell q (.int .i64 0) := by
 refine callsD_of_wpS Tryz.func85 rfl fun c₀ cs hu => ?_
 apply wpS_region
 simp [wpOpsS, go_sem, recoverD, hu, Tryz.ntmps85]
 refine (raisedAt_nil _).mono ?_
 rintro e w' ⟨rfl, rfl⟩
 cases c₀
 simp_all [go_sem, bodyPostS, results, Tryz.results85]
end Go.Proofs.YtkplahkkmmoppaaGreatDoor
namespace Go.Proofs.YtkplahkkmmoppaaGreatDoor.Sz
def getF (l : List Fld) (k : List UInt8) : Option Fld := l.find? (fun f => f.key == k)
theorem getF_has (l : List Fld) (k : List UInt8) : (getF l k).isSome = hasK l k := by
 unfold getF hasK
 induction l with
 | nil => rfl
 | cons f l ih =>
  rw [List.find?_cons, List.any_cons]
  cases f.key == k with
  | true => rfl
  | false => exact ih
def placeOf (keys : List (List UInt8)) (k : List UInt8) : Option Nat := keys.findIdx? (· == k)
def ordP (keys : List (List UInt8)) : Nat → Int → List Fld → Int × Int
 | _, _, [] => (0, 0)
 | i, last, f :: l => match placeOf keys f.key with
  | none => (i, 10)
  | some p => if last < p then ordP keys (i + 1) p l else (i, 7)
theorem readL_nil (n : Nat) (acc : List (List Fld)) (last : List Fld) : readL n [] acc last = (0, 0, if last.isEmpty then acc else acc ++ [last]) := by unfold readL; rfl
theorem readL_cons (n : Nat) (s : List UInt8) (ls : List (List UInt8)) (acc : List (List Fld)) (last : List Fld) : readL n (s :: ls) acc last = if s.isEmpty then (if last.isEmpty || ls.isEmpty then (2, (n : Int), []) else readL (n + 1) ls (acc ++ [last]) [])
  else match fieldP s n with
   | none => (2, (n : Int), [])
   | some f => if hasK last f.key then (6, (n : Int), []) else readL (n + 1) ls acc (last ++ [f]) := by
 rw [readL]; rfl
end Go.Proofs.YtkplahkkmmoppaaGreatDoor.Sz
