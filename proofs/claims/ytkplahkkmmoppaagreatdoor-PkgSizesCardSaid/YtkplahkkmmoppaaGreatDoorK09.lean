/- Part 9 of what the laws lean on. -/
import Derived.Test.YtkplahkkmmoppaaGreatDoorK08
set_option maxRecDepth 100000
set_option maxHeartbeats 3200000
namespace Go.Proofs.YtkplahkkmmoppaaGreatDoor
open Go.RowKit Rs
attribute [local go_sem ↓] Go.wp_at_zero Go.wp_at_succ
theorem one_good {s : Sp} (he : s.err = 0) : Rs.Good [s.piece] := ⟨(piece_spOf he).2.2, fun p hp => by rw [List.mem_singleton.1 hp]; exact (piece_spOf he).2.1, by show 1 ≤ 64; omega⟩
theorem b1_step {w u u' : World} {T : TypeId} (h : Hid (Below (w.heap.size + 1) (w.alloc (.cells #[.int .i64 0] T)) u)) (hb : Below u.heap.size u u') : Hid (Below (w.heap.size + 1) (w.alloc (.cells #[.int .i64 0] T)) u') :=
 h.out.trans (hb.mono (by have := h.out.size; simpa using this))
end Go.Proofs.YtkplahkkmmoppaaGreatDoor
namespace Go.Proofs.YtkplahkkmmoppaaGreatDoor
open Go.RowKit Rs
attribute [local go_sem ↓] Go.wp_at_zero Go.wp_at_succ
def prevS (l : List Sp) (k : Nat) : Option Sp := if k = 0 then none else l[k - 1]?
def CkSt (l : List Sp) (k : Nat) : Prop := checkR l = checkF k (prevS l k) (l.drop k) ∧ (∀ s, prevS l k = some s → s.err = 0) ∧ k ≤ 64
theorem ckSt_start (l : List Sp) : CkSt l 0 := ⟨rfl, fun s hs => (by cases hs), by decide⟩
theorem checkF_cons (i : Nat) (o : Option Sp) (s : Sp) (t : List Sp) : checkF i o (s :: t) = if 64 ≤ i then 4 else if s.err ≠ 0 then s.err else match o with | none => checkF (i + 1) (some s) t | some p => if behind p s then checkF (i + 1) (some s) t else 7 := rfl
theorem behind_after {p s : Sp} (hp : p.err = 0) (hs : s.err = 0) : afterI p.hi p.hn s.lo s.li = if behind p s then 0 else 7 := by
 obtain ⟨e1, o1, _⟩ := piece_spOf hp
 obtain ⟨e2, o2, _⟩ := piece_spOf hs
 have := behind_lt o1 o2
 rw [e1, e2] at this
 rw [this]; rfl
theorem ckSt_step {l : List Sp} {k : Nat} (h : CkSt l k) (hk : k < l.length) : (64 ≤ k → checkR l = 4) ∧ (¬ 64 ≤ k → l[k].err ≠ 0 → checkR l = l[k].err) ∧ (k = 0 → l[k].err = 0 → CkSt l 1) ∧
  (¬ 64 ≤ k → ∀ p, 0 < k → l[k - 1]? = some p → l[k].err = 0 → p.err = 0 ∧ (behind p l[k] = true → CkSt l (k + 1)) ∧ (behind p l[k] = false → checkR l = 7)) := by
 obtain ⟨h1, h2, h3⟩ := h
 rw [List.drop_eq_getElem_cons hk, checkF_cons] at h1
 have hp1 : prevS l (k + 1) = some l[k] := by unfold prevS; rw [if_neg (by omega), Nat.add_sub_cancel, List.getElem?_eq_getElem hk]
 refine ⟨fun h => ?_, fun h he => ?_, fun h he => ?_, fun h p h0 hp he => ⟨?_, fun hb => ?_, fun hb => ?_⟩⟩
 ·rw [if_pos h] at h1; exact h1
 ·rw [if_neg h, if_pos he] at h1; exact h1
 ·subst h
  rw [if_neg (by omega), if_neg (by rw [he]; simp)] at h1
  exact ⟨by rw [hp1]; exact h1, fun s hs => by rw [hp1] at hs; cases hs; exact he, by omega⟩
 ·refine h2 p ?_; unfold prevS; rw [if_neg (by omega)]; exact hp
 ·have e : prevS l k = some p := by unfold prevS; rw [if_neg (by omega)]; exact hp
  rw [if_neg h, if_neg (by rw [he]; simp), e] at h1
  replace h1 : checkR l = if behind p l[k] = true then checkF (k + 1) (some l[k]) (l.drop (k + 1)) else 7 := h1
  rw [if_pos hb] at h1
  exact ⟨by rw [hp1]; exact h1, fun s hs => by rw [hp1] at hs; cases hs; exact he, by omega⟩
 ·have e : prevS l k = some p := by unfold prevS; rw [if_neg (by omega)]; exact hp
  rw [if_neg h, if_neg (by rw [he]; simp), e] at h1
  replace h1 : checkR l = if behind p l[k] = true then checkF (k + 1) (some l[k]) (l.drop (k + 1)) else 7 := h1
  rw [if_neg (by rw [hb]; simp)] at h1
  exact h1
theorem keepCk {w1 u u' : World} {b : Nat} {q : Addr} {x0 x1 x2 x3 y0 y1 y2 y3 : Value} (hb1 : b < w1.heap.size) (hq1 : q.block < w1.heap.size)
  (h : u.cell? ⟨b, 0, none⟩ = some x0 ∧ u.cell? ⟨b, 1, none⟩ = some x1 ∧ u.cell? ⟨b, 2, none⟩ = some x2 ∧ u.cell? ⟨b, 3, none⟩ = some x3 ∧ u.cell? q = some y0 ∧ u.cell? ⟨q.block, q.off + 1, none⟩ = some y1 ∧ u.cell? ⟨q.block, q.off + 2, none⟩ = some y2 ∧ u.cell? ⟨q.block, q.off + 3, none⟩ = some y3 ∧ w1.heap.size ≤ u.heap.size ∧ Below w1.heap.size w1 u) (hb : Below u.heap.size u u') :
  u'.cell? ⟨b, 0, none⟩ = some x0 ∧ u'.cell? ⟨b, 1, none⟩ = some x1 ∧ u'.cell? ⟨b, 2, none⟩ = some x2 ∧ u'.cell? ⟨b, 3, none⟩ = some x3 ∧ u'.cell? q = some y0 ∧ u'.cell? ⟨q.block, q.off + 1, none⟩ = some y1 ∧ u'.cell? ⟨q.block, q.off + 2, none⟩ = some y2 ∧ u'.cell? ⟨q.block, q.off + 3, none⟩ = some y3 ∧ w1.heap.size ≤ u'.heap.size ∧ Below w1.heap.size w1 u' := by
 obtain ⟨h0, h1, h2, h3, h4, h5, h6, h7, h8, h9⟩ := h
 have e : ∀ a : Addr, a.block < w1.heap.size → u'.cell? a = u.cell? a := fun a ha => hb.cell (by omega)
 refine ⟨?_, ?_, ?_, ?_, ?_, ?_, ?_, ?_, Nat.le_trans h8 hb.size, h9.trans (hb.mono h8)⟩
 ·rw [e _ hb1]; exact h0
 ·rw [e _ hb1]; exact h1
 ·rw [e _ hb1]; exact h2
 ·rw [e _ hb1]; exact h3
 ·rw [e _ hq1]; exact h4
 ·rw [e ⟨q.block, q.off + 1, none⟩ hq1]; exact h5
 ·rw [e ⟨q.block, q.off + 2, none⟩ hq1]; exact h6
 ·rw [e ⟨q.block, q.off + 3, none⟩ hq1]; exact h7
theorem rcheck_any (A : Option Addr) (n c : Nat) (l : List Sp) (w : World) (hw : MaxOk w) (hn : l.length = n) (hr : SRow w A l) (hl : n ≤ 1000) :
  Calls Tryz.prog 224 #[.slice A n c] w fun e w' => e = .returned (.int .i64 (checkR l)) ∧ Below w.heap.size w w' := by
 have hmf : ∀ (fn : Fn) (first cap : Array Value) (w : World), (Instr.makeFunc fn first cap).run Tryz.prog w = .ok (.func fn first cap) w := fun _ _ _ _ => rfl
 have HM : Hid (MaxOk (w.alloc (.cells #[.int .i64 0] 36))) := maxOk_below hw ((Below.refl _ _).alloc (Nat.le_refl _) _)
 have HR : Hid (SRow (w.alloc (.cells #[.int .i64 0] 36)) A l) := srow_below hr ((Below.refl _ _).alloc (Nat.le_refl _) _)
 have HN := Lib.hid hn
 obtain ⟨E, hE⟩ : ∃ E, checkR l = E := ⟨_, rfl⟩
 rw [hE]
 have HE := Lib.hid hE
 clear hw hn hr hE
 go_enter_defers Tryz.func224, Tryz.ntmps224
 go_wp2_with fail
 go_loopw [8] (fun i wr => ∃ k : Nat, k ≤ n ∧ i = .int .i64 k ∧ Hid (CkSt l k) ∧ Hid (Below (w.heap.size + 1) (w.alloc (.cells #[.int .i64 0] 36)) wr)) (fun i _ => n - (intOf i).toNat)
 case atStart => exact ⟨0, Nat.zero_le _, rfl, ckSt_start l, Below.refl _ _⟩
 case round =>
  obtain ⟨k, hk, rfl, HS, HB⟩ := hrel
  by_cases hlt : k < n
  ·have hlr : k < l.length := by rw [HN.out]; exact hlt
   obtain ⟨ad, lo, hi, li, hh, rfl, hs, hbl, c0, c1, c2, c3⟩ := srow_at (srow_below HR.out (by simpa using HB.out)) k hlr
   obtain ⟨st1, st2, st3, st4⟩ := ckSt_step HS.out hlr
   rw [hs] at st2 st3 st4
   have ST1 := Lib.hid st1
   have ST2 := Lib.hid st2
   have ST3 := Lib.hid st3
   have ST4 := Lib.hid st4
   have HBX := Lib.hid (box_new wr lo hi li hh 131)
   have HM1 : Hid (MaxOk (wr.alloc (.cells #[.string ⟨lo.toArray⟩, .string ⟨hi.toArray⟩, .bool li, .bool hh] 131))) := maxOk_below HM.out ((by simpa using HB.out : Below _ _ wr).alloc (by have := HB.out.size; simpa using this) _)
   clear hs st1 st2 st3 st4
   go_wp2_with fail
   refine (requireSpan_any k lo hi li hh _ (by omega) HM1.out).mono ?_
   rintro _ w1 ⟨rfl, hb⟩
   have HBX1 := Lib.hid (box_below HBX.out hb)
   have hb0 : Below wr.heap.size wr w1 := ((Below.refl _ _).alloc (Nat.le_refl _) _).trans (hb.mono (by simp))
   have HB0 := Lib.hid hb0
   have HB1 := b1_step HB hb0
   clear hb hb0 c0 c1 c2 c3 HBX HM1
   by_cases h64 : 64 ≤ k
   ·rw [if_pos h64, okOr_ne (by decide)]
    have hEk : Hid (E = 4) := by show _ = _; rw [← HE.out]; exact ST1.out h64
    obtain ⟨hcell, hfro⟩ := cell_int w w1 _ _ HB1.out
    clear h64
    go_wp2_with fail
    refine leaves_cons (f := 257) (args := #[.pointer (some ⟨w.heap.size, 0, none⟩)]) (by simp) (by simp [go_sem]) ?_
    refine (rCheck_panic ⟨w.heap.size, 0, none⟩ 0 _ _ ?_ ?_).mono ?_
    ·simp [go_sem, hcell]
    ·simp [go_sem, hfro]
    rintro e u' w9 ⟨rfl, rfl, rfl⟩
    simp [Leaves, settle, results, Tryz.results224, go_sem, hcell]
    exact ⟨hEk.out.symm, (below_new HB1.out).setCell (Nat.le_refl _) _⟩
   rw [if_neg h64]
   by_cases hsp : span lo hi li hh = 0
   ·rw [hsp, okOr_zero]
    have hse : (Sp.mk lo hi li hh).err = 0 := hsp
    by_cases hk0 : k = 0
    ·have NS : Hid (CkSt l 1) := ST3.out hk0 hse
     subst hk0
     clear hsp hse h64 ST1 ST2 ST3 ST4
     go_wp2_with fail
     go_roundw
     case rel => exact ⟨1, by omega, rfl, NS, HB1⟩
     case measure => simp [intOf]; omega
    ·have hkm : k - 1 < l.length := by omega
     have hgk : l[k - 1]? = some l[k - 1] := List.getElem?_eq_getElem hkm
     obtain ⟨pe, sy, sn⟩ := ST4.out h64 _ (by omega) hgk hse
     obtain ⟨ad2, plo, phi, pli, ph, had, hps, _, d0, d1, d2, d3⟩ := srow_at (srow_below HR.out (by simpa using HB1.out)) (k - 1) hkm
     obtain rfl := Option.some.inj had
     rw [hps] at pe sy sn
     have hbA := behind_after pe hse
     have hbA2 : afterI phi ph lo li = if behind ⟨plo, phi, pli, ph⟩ ⟨lo, hi, li, hh⟩ then 0 else 7 := hbA
     have B1 := Lib.hid (span_bounds hsp).1
     have B2 := Lib.hid (span_bounds (lo := plo) (hi := phi) (li := pli) (hn := ph) pe).2.1
     obtain ⟨bh, hbh⟩ : ∃ b, behind (Sp.mk plo phi pli ph) ⟨lo, hi, li, hh⟩ = b := ⟨_, rfl⟩
     rw [hbh] at sy sn hbA2
     have SY := Lib.hid sy
     have SN := Lib.hid sn
     obtain ⟨k0, k1, k2, k3, k4⟩ := HBX1.out
     have g1 : (0 : Int) ≤ (k : Int) - 1 := by omega
     have g6 : (1 : Int) ≤ (k : Int) := by omega
     have g7 : ((k - 1 : Nat) : Int) = (k : Int) - 1 := by omega
     clear g7
     have g2 : (k : Int) - 1 < (n : Int) := by omega
     have g3 : ((k : Int) - 1).toNat = k - 1 := by omega
     have g4 : (0 : Int) < (k : Int) := by omega
     have g5 : IntKind.i64.wrap ((k : Int) - 1) = (k : Int) - 1 := IntWalk.i64_in _ (by omega)
     clear hsp hse h64 ST1 ST2 ST3 ST4 pe sy sn hps hgk hbh had hbA
     have hqb : (ad.add ((k - 1) * 4)).block < w1.heap.size := by rw [add_block]; exact Nat.lt_of_lt_of_le hbl HB0.out.size
     have HMW : Hid (MaxOk w1) := maxOk_below HM.out (by simpa using HB1.out)
     cases bh
     ·rw [if_neg Bool.false_ne_true] at hbA2
      have HAF := Lib.hid hbA2
      have hEk : Hid (E = 7) := by show _ = _; rw [← HE.out]; exact SN.out rfl
      clear hbA2
      go_wp2_with fail
      first
      | go_region_with (first
        | (go_at_call 259; refine (requireAfter_any lo hi li hh plo phi pli ph _ (maxOk_below HMW.out (Below.refl _ _).drew) B1.out B2.out).mono ?_; rintro _ w4 ⟨rfl, hb⟩; rw [HAF.out, okOr_ne (by decide)]; have HB4 := b1_step HB1 (drewb hb); clear hb; refine ends_at (P := Tryz.prog) (a := { tmps := #[], defers := [] }) (w := w) ?_))
      | fail
      all_goals
       obtain ⟨hcell, hfro⟩ := cell_int w w4 _ _ HB4.out
       refine leaves_cons (f := 257) (args := #[.pointer (some ⟨w.heap.size, 0, none⟩)]) (by simp) (by simp [go_sem]) ?_
       refine (rCheck_panic ⟨w.heap.size, 0, none⟩ 0 _ _ ?_ ?_).mono ?_
       ·simp [go_sem, hcell]
       ·simp [go_sem, hfro]
       rintro e u' w9 ⟨rfl, rfl, rfl⟩
       simp [Leaves, settle, results, Tryz.results224, go_sem, hcell]
       exact ⟨hEk.out.symm, (below_new HB4.out).setCell (Nat.le_refl _) _⟩
     ·rw [if_pos rfl] at hbA2
      have HAF := Lib.hid hbA2
      have NS : Hid (CkSt l (k + 1)) := SY.out rfl
      clear hbA2
      go_wp2_with fail
      go_region_held3 (fun w' => w'.cell? ⟨wr.heap.size, 0, none⟩ = some (.string ⟨lo.toArray⟩) ∧ w'.cell? ⟨wr.heap.size, 1, none⟩ = some (.string ⟨hi.toArray⟩) ∧ w'.cell? ⟨wr.heap.size, 2, none⟩ = some (.bool li) ∧ w'.cell? ⟨wr.heap.size, 3, none⟩ = some (.bool hh) ∧
        w'.cell? (ad.add ((k - 1) * 4)) = some (.string ⟨plo.toArray⟩) ∧ w'.cell? ⟨(ad.add ((k - 1) * 4)).block, (ad.add ((k - 1) * 4)).off + 1, none⟩ = some (.string ⟨phi.toArray⟩) ∧ w'.cell? ⟨(ad.add ((k - 1) * 4)).block, (ad.add ((k - 1) * 4)).off + 2, none⟩ = some (.bool pli) ∧ w'.cell? ⟨(ad.add ((k - 1) * 4)).block, (ad.add ((k - 1) * 4)).off + 3, none⟩ = some (.bool ph) ∧ w1.heap.size ≤ w'.heap.size ∧ Below w1.heap.size w1 w')
       (first
        | exact ⟨k0, k1, k2, k3, d0, d1, d2, d3, Nat.le_refl _, (Below.refl _ _).drew⟩
        | assumption
        | (refine keepCk k4 hqb ?_ hb; assumption))
       (first
        | (go_at_call 259; refine (requireAfter_any lo hi li hh plo phi pli ph _ ?_ B1.out B2.out).mono ?_; (go_split_ands; exact maxOk_below HMW.out (by assumption)); rintro _ w4 ⟨rfl, hb⟩; rw [HAF.out, okOr_zero]))
      rename_i HSS
      have HB4 := b1_step HB1 HSS.2.2.2.2.2.2.2.2.2
      clear HSS k0 k1 k2 k3 d0 d1 d2 d3 g3 g5
      go_wp2_with fail
      go_roundw
      case rel => exact ⟨k + 1, by omega, by go_num, NS, HB4⟩
      case measure => simp [intOf]; omega
   ·have hEk : Hid (E = span lo hi li hh) := by show _ = _; rw [← HE.out]; exact ST2.out h64 hsp
    rw [okOr_ne hsp]
    obtain ⟨hcell, hfro⟩ := cell_int w w1 _ _ HB1.out
    clear h64 hsp
    go_wp2_with fail
    refine leaves_cons (f := 257) (args := #[.pointer (some ⟨w.heap.size, 0, none⟩)]) (by simp) (by simp [go_sem]) ?_
    refine (rCheck_panic ⟨w.heap.size, 0, none⟩ 0 _ _ ?_ ?_).mono ?_
    ·simp [go_sem, hcell]
    ·simp [go_sem, hfro]
    rintro e u' w9 ⟨rfl, rfl, rfl⟩
    simp [Leaves, settle, results, Tryz.results224, go_sem, hcell]
    exact ⟨hEk.out.symm, (below_new HB1.out).setCell (Nat.le_refl _) _⟩
  ·have hE0 : Hid (E = 0) := by
    show _ = _
    rw [← HE.out, HS.out.1, List.drop_eq_nil_of_le (by rw [HN.out]; omega)]; rfl
   obtain ⟨hcell, hfro⟩ := cell_int w wr _ _ HB.out
   go_wp2_with fail
   refine leaves_cons (f := 257) (args := #[.pointer (some ⟨w.heap.size, 0, none⟩)]) (by simp) (by simp [go_sem]) ?_
   refine (rCheck_idle ⟨w.heap.size, 0, none⟩ 0 _ ?_ ?_).mono ?_
   ·simp [go_sem, hcell]
   ·simp [go_sem, hfro]
   rintro e u' w4 ⟨rfl, rfl, rfl⟩
   simp [Leaves, settle, results, Tryz.results224, go_sem, hcell]
   exact ⟨hE0.out.symm, ((below_new HB.out).setCell (Nat.le_refl _) _).setCell (Nat.le_refl _) _⟩
end Go.Proofs.YtkplahkkmmoppaaGreatDoor
namespace Go.Proofs.YtkplahkkmmoppaaGreatDoor
open Go.RowKit Rs
attribute [local go_sem ↓] Go.wp_at_zero Go.wp_at_succ
theorem app_done2 {α : Type} {enc : α → List Value} {K : Nat} {T : TypeId} {v : Value} {l : List α} {w wr W5 : World} {o : Obj} (hB : Hid (Below w.heap.size w wr ∧ w.heap.size ≤ wr.heap.size)) (hO : Hid (Rg.Own enc K wr w.heap.size T v l)) (hg : (wr.drew.alloc o).grownBy W5 v.ownBlock) :
  Hid (Below w.heap.size w W5 ∧ w.heap.size ≤ W5.heap.size) := by
 have hs : w.heap.size ≤ wr.drew.heap.size := hB.out.2
 have h1 : Below w.heap.size w (wr.drew.alloc o) := (hB.out.1.drew).alloc hs _
 have h2 : w.heap.size ≤ (wr.drew.alloc o).heap.size := by have e : (wr.drew.alloc o).heap.size = wr.drew.heap.size + 1 := by simp
                                                           omega
 exact ⟨h1.trans (Rg.grown_below (Rg.own_below hO.out ((Below.refl _ _).drew.alloc (Nat.le_refl _) _)) h2 hg), Nat.le_trans h2 hg.size⟩
theorem app_low {w wr : World} {o : Obj} (hB : Hid (Below w.heap.size w wr ∧ w.heap.size ≤ wr.heap.size)) : w.heap.size ≤ (wr.drew.alloc o).heap.size := by
 have hs : w.heap.size ≤ wr.drew.heap.size := hB.out.2
 have e : (wr.drew.alloc o).heap.size = wr.drew.heap.size + 1 := by simp
 omega
end Go.Proofs.YtkplahkkmmoppaaGreatDoor
namespace Go.Proofs.YtkplahkkmmoppaaGreatDoor
open Go.RowKit Rs
structure Ent where
 A : Option Addr
 n : Nat
 l : List Sp
def St (w0 u : World) (L : List Ent) : Prop := MaxOk w0 ∧ Below w0.heap.size w0 u ∧ ∀ x ∈ L, SRow u x.A x.l ∧ x.l.length = x.n
section
variable {w0 u u' : World} {L : List Ent}
theorem st_max (h : St w0 u L) : MaxOk u := maxOk_below h.1 h.2.1
theorem st_step (h : St w0 u L) (hb : Below u.heap.size u u') : St w0 u' L := ⟨h.1, h.2.1.trans (hb.mono h.2.1.size), fun x hx => ⟨srow_below (h.2.2 x hx).1 hb, (h.2.2 x hx).2⟩⟩
theorem st_new {C : Option Addr} {n : Nat} {l : List Sp} (h : St w0 u L) (hb : Below u.heap.size u u') (hr : SRow u' C l) (hn : l.length = n) : St w0 u' (⟨C, n, l⟩ :: L) := by
 obtain ⟨h1, h2, h3⟩ := st_step h hb
 refine ⟨h1, h2, fun x hx => ?_⟩
 rcases List.mem_cons.1 hx with rfl | hx
 ·exact ⟨hr, hn⟩
 ·exact h3 x hx
theorem st_row {A : Option Addr} {n : Nat} {l : List Sp} (h : St w0 u L) (i : Nat) (hi : L[i]? = some ⟨A, n, l⟩) : SRow u A l ∧ l.length = n := h.2.2 _ (List.mem_of_getElem? hi)
theorem st_alloc (h : St w0 u L) (o : Obj) : St w0 (u.alloc o) L := st_step h ((Below.refl _ _).alloc (Nat.le_refl _) _)
def RowRet (w0 : World) (L : List Ent) (l : List Sp) (e : Ending) (u' : World) : Prop := ∃ C n d, e = .returned (.slice C n d) ∧ St w0 u' (⟨C, n, l⟩ :: L)
def RowErr (w0 : World) (L : List Ent) (l : List Sp) (k : Int) (e : Ending) (u' : World) : Prop := ∃ C n d, e = .returned (.tuple #[.slice C n d, .int .i64 k]) ∧ St w0 u' (⟨C, n, l⟩ :: L)
def BoolRet (w0 : World) (L : List Ent) (b : Bool) (e : Ending) (u' : World) : Prop := e = .returned (.bool b) ∧ St w0 u' L
theorem ret_row (h : St w0 u L) {l : List Sp} {e : Ending} (hr : SpansRet u l e u') : RowRet w0 L l e u' := by
 obtain ⟨⟨C, d, rfl, h1, _, _⟩, hb⟩ := hr
 exact ⟨C, _, d, rfl, st_new h hb h1 rfl⟩
theorem ret_err (h : St w0 u L) {l : List Sp} {k : Int} {e : Ending} (hr : OfRet u l k e u') : RowErr w0 L l k e u' := by
 obtain ⟨⟨C, d, rfl, h1, _⟩, hb⟩ := hr
 exact ⟨C, _, d, rfl, st_new h hb h1 rfl⟩
theorem ret_bool (h : St w0 u L) {b c : Bool} (hbc : b = c) {e : Ending} (hr : e = .returned (.bool b) ∧ Below u.heap.size u u') : BoolRet w0 L c e u' := ⟨by rw [hr.1, hbc], st_step h hr.2⟩
theorem good_len {a : List (Rm.P Cut)} {n : Nat} (ga : Rs.Good a) (h : (a.map spOf).length = n) : a.length = n ∧ n ≤ 64 := by
 rw [List.length_map] at h; exact ⟨h, h ▸ ga.2.2⟩
def sgnOf (s : List UInt8) : Option Nat := if s = sgnT 0 then some 0 else if s = sgnT 1 then some 1 else if s = sgnT 2 then some 2 else if s = sgnT 3 then some 3 else if s = sgnT 4 then some 4 else if s = sgnT 5 then some 5 else none
def ofE (s v : List UInt8) : Int := match sgnOf s with | none => 2 | some _ => Vm.check v
def ofR (s v : List UInt8) : List (Rm.P Cut) := match sgnOf s with | none => [] | some i => if Vm.check v = 0 then signR (Vm.canon v) i else []
theorem sgnOf_some {s : List UInt8} {i : Nat} (h : sgnOf s = some i) : i < 6 ∧ s = sgnT i := by
 unfold sgnOf at h
 split at h
 ·cases h; exact ⟨by decide, by assumption⟩
 split at h
 ·cases h; exact ⟨by decide, by assumption⟩
 split at h
 ·cases h; exact ⟨by decide, by assumption⟩
 split at h
 ·cases h; exact ⟨by decide, by assumption⟩
 split at h
 ·cases h; exact ⟨by decide, by assumption⟩
 split at h
 ·cases h; exact ⟨by decide, by assumption⟩
 cases h
theorem sgnOf_none {s : List UInt8} (h : sgnOf s = none) : NoSign s := fun i hi e => by
 subst e
 match i, hi with
 | 0, _ => cases h
 | 1, _ => cases h
 | 2, _ => cases h
 | 3, _ => cases h
 | 4, _ => cases h
 | 5, _ => cases h
theorem ofR_good (s v : List UInt8) : Rs.Good (ofR s v) := by
 unfold ofR
 split
 ·exact ⟨trivial, fun p hp => (by cases hp), by decide⟩
 ·rename_i i hs
  split
  ·exact good_sign (own_canon (by assumption)) i (sgnOf_some hs).1
  ·exact ⟨trivial, fun p hp => (by cases hp), by decide⟩
theorem of_all (s v : List UInt8) (w : World) (hw : MaxOk w) : Calls Tryz.prog 299 #[.string ⟨s.toArray⟩, .string ⟨v.toArray⟩] w (OfRet w ((ofR s v).map spOf) (ofE s v)) := by
 unfold ofR ofE
 cases hs : sgnOf s with
 | none => exact of_nosign s v w hw (sgnOf_none hs)
 | some i =>
  obtain ⟨hi, rfl⟩ := sgnOf_some hs
  by_cases hv : Vm.check v = 0
  ·simp only [hv, if_true]; exact of_sign i hi v w hw hv
  ·simp only [hv, if_false]; exact of_nover i hi v w hw hv
theorem s_of (h : St w0 u L) (s v : List UInt8) (R : List (Rm.P Cut)) (k : Int) (hR : ofR s v = R) (hk : ofE s v = k) : Calls Tryz.prog 299 #[.string ⟨s.toArray⟩, .string ⟨v.toArray⟩] u (RowErr w0 L (R.map spOf) k) := by
 subst hR hk
 exact (of_all s v u (st_max h)).mono fun _ _ => ret_err h
variable {A B : Option Addr} {n m : Nat}
theorem s_and (h : St w0 u L) (i j : Nat) {a b : List (Rm.P Cut)} (hi : L[i]? = some ⟨A, n, a.map spOf⟩) (hj : L[j]? = some ⟨B, m, b.map spOf⟩) (ga : Rs.Good a) (gb : Rs.Good b) (ca cb : Nat) (R : List (Rm.P Cut)) (hR : andR a b = R) :
  Calls Tryz.prog 300 #[.slice A n ca, .slice B m cb] u (RowRet w0 L (R.map spOf)) := by
 subst hR
 exact (and_any A B n m ca cb a b u (st_max h) (st_row h i hi).2 (st_row h j hj).2 (st_row h i hi).1 (st_row h j hj).1 ga gb).mono fun _ _ => ret_row h
theorem s_or (h : St w0 u L) (i j : Nat) {a b : List (Rm.P Cut)} (hi : L[i]? = some ⟨A, n, a.map spOf⟩) (hj : L[j]? = some ⟨B, m, b.map spOf⟩) (ga : Rs.Good a) (gb : Rs.Good b) (ca cb : Nat) (R : List (Rm.P Cut)) (hR : orR a b = R) :
  Calls Tryz.prog 269 #[.slice A n ca, .slice B m cb] u (RowRet w0 L (R.map spOf)) := by
 subst hR
 exact (or_any A B n m ca cb a b u (st_max h) (st_row h i hi).2 (st_row h j hj).2 (st_row h i hi).1 (st_row h j hj).1 ga gb).mono fun _ _ => ret_row h
theorem s_all (h : St w0 u L) (R : List (Rm.P Cut)) (hR : allR = R) : Calls Tryz.prog 29 #[] u (RowRet w0 L (R.map spOf)) := by
 subst hR
 exact (all_any u).mono fun _ _ => ret_row h
theorem s_has (h : St w0 u L) (i : Nat) {a : List (Rm.P Cut)} (hi : L[i]? = some ⟨A, n, a.map spOf⟩) (ga : Rs.Good a) (ca : Nat) (v : List UInt8) (hv : Vm.check v = 0) (b : Bool) (hb : hasR a v = b) :
  Calls Tryz.prog 30 #[.slice A n ca, .string ⟨v.toArray⟩] u (BoolRet w0 L b) :=
 (has_any A n ca a v u (st_max h) (st_row h i hi).2 (st_row h i hi).1 ga.2.1 (by have := (good_len ga (st_row h i hi).2).2; omega) hv).mono fun _ _ => ret_bool h hb
theorem s_same (h : St w0 u L) (i j : Nat) {l k : List Sp} (hi : L[i]? = some ⟨A, n, l⟩) (hj : L[j]? = some ⟨B, m, k⟩) (hn : n ≤ 1000) (hm : m ≤ 1000) (ca cb : Nat) (b : Bool) (hb : decide (l = k) = b) :
  Calls Tryz.prog 82 #[.slice A n ca, .slice B m cb] u (BoolRet w0 L b) := by
 obtain ⟨h1, rfl⟩ := st_row h i hi
 obtain ⟨h2, rfl⟩ := st_row h j hj
 exact (same_any A ca l B cb k u h1 h2 (by omega) (by omega)).mono fun _ _ => ret_bool h hb
end
end Go.Proofs.YtkplahkkmmoppaaGreatDoor
namespace Go.Proofs.YtkplahkkmmoppaaGreatDoor.At
theorem split_miss {s m : List UInt8} (h : Lib.index s m = -1) : Lib.split s m = [s] := by
 unfold Lib.split; rw [Lib.count_miss h]; rfl
theorem split_hit {s m : List UInt8} {i : Nat} (hm : m ≠ []) (h : Lib.index s m = i) : Lib.split s m = s.take i :: Lib.split (s.drop (i + m.length)) m := by
 unfold Lib.split
 rw [Lib.count_hit hm h, Nat.add_comm 1]
 show (if (Lib.index s m == -1) = true then _ else _) = _
 rw [if_neg (by rw [h]; simp), h]
 rfl
end Go.Proofs.YtkplahkkmmoppaaGreatDoor.At
