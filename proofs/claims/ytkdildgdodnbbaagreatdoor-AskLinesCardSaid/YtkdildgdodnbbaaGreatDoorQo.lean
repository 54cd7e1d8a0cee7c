/- Norm: Spans joined. Check, walked. -/
import Derived.Test.YtkdildgdodnbbaaGreatDoorQn
namespace Go.Proofs.YtkdildgdodnbbaaGreatDoor
open Go.RowKit Rs
attribute [local go_sem ↓] Go.wp_at_zero Go.wp_at_succ

def NSt (l : List Sp) (k : Nat) : Prop := normE 0 l = normE k (l.drop k) ∧ (∀ s ∈ l.take k, s.err = 0) ∧ k ≤ 64
theorem nst_start (l : List Sp) : NSt l 0 := ⟨rfl, fun s hs => (by cases hs), by decide⟩
theorem normE_cons (k : Nat) (s : Sp) (t : List Sp) : normE k (s :: t) = if 64 ≤ k then 4 else if s.err ≠ 0 then s.err else normE (k + 1) t := rfl
theorem nst_step {l : List Sp} {k : Nat} (h : NSt l k) (hk : k < l.length) : (64 ≤ k → normE 0 l = 4) ∧ (¬ 64 ≤ k → l[k].err ≠ 0 → normE 0 l = l[k].err) ∧ (¬ 64 ≤ k → l[k].err = 0 → NSt l (k + 1)) := by
  obtain ⟨h1, h2, h3⟩ := h
  rw [List.drop_eq_getElem_cons hk, normE_cons] at h1
  refine ⟨fun h => ?_, fun h he => ?_, fun h he => ⟨?_, ?_, by omega⟩⟩
  · rw [if_pos h] at h1; exact h1
  · rw [if_neg h, if_pos he] at h1; exact h1
  · rw [if_neg h, if_neg (by rw [he]; simp)] at h1; exact h1
  · intro s hs
    rw [List.take_succ_eq_append_getElem hk] at hs
    rcases List.mem_append.1 hs with hs | hs
    · exact h2 s hs
    · rw [List.mem_singleton.1 hs]; exact he
/-- What Norm has joined so far. -/
def jn (l : List Sp) (k : Nat) : List (Rm.P Cut) := Rm.joinK Ln ((l.take k).map Sp.piece)
theorem jn_good {l : List Sp} {k : Nat} (h : NSt l k) : Rs.Good (jn l k) := good_join h.2.1 (by rw [List.length_take]; have := h.2.2; omega)
theorem jn_step {l : List Sp} {k : Nat} (h : NSt l k) (hk : k < l.length) (he : l[k].err = 0) : Rm.comb Ln (fun x y => x || y) (Rm.cuts (jn l k)) (Rm.cuts [l[k].piece]) false false = Rm.cuts (jn l (k + 1)) := by
  unfold jn
  rw [List.take_succ_eq_append_getElem hk, List.map_append, List.map_singleton]
  refine Rm.comb_join Ln (fun y hy => ?_) (piece_spOf he).2.2
  obtain ⟨s, hs, rfl⟩ := List.mem_map.1 hy
  exact (piece_spOf (h.2.1 s hs)).2.2
theorem one_good {s : Sp} (he : s.err = 0) : Rs.Good [s.piece] := ⟨(piece_spOf he).2.2, fun p hp => by rw [List.mem_singleton.1 hp]; exact (piece_spOf he).2.1, by show 1 ≤ 64; omega⟩
theorem srow_one (w : World) (lo hi : List UInt8) (li hn : Bool) (T : TypeId) : SRow (w.alloc (.cells #[.string ⟨lo.toArray⟩, .string ⟨hi.toArray⟩, .bool li, .bool hn] T)) (some ⟨w.heap.size, 0, none⟩) [⟨lo, hi, li, hn⟩] := by
  intro _
  refine ⟨_, rfl, by simp, fun i hi2 => ?_⟩
  have hi3 : i < 1 := hi2
  obtain rfl : i = 0 := by omega
  have e : ∀ j, ((⟨w.heap.size, 0, none⟩ : Addr).add (0 * 4)).add j = ⟨w.heap.size, j, none⟩ := fun j => by
    rw [Nat.zero_mul, Rg.add_zero]; unfold Addr.add; split <;> simp_all
  refine ⟨?_, ?_, ?_, ?_⟩ <;> (rw [e, World.cell?_alloc_mark]; rfl)
theorem b1_step {w u u' : World} {T : TypeId} (h : Hid (Below (w.heap.size + 1) (w.alloc (.cells #[.int .i64 0] T)) u)) (hb : Below u.heap.size u u') : Hid (Below (w.heap.size + 1) (w.alloc (.cells #[.int .i64 0] T)) u') :=
  h.out.trans (hb.mono (by have := h.out.size; simpa using this))
theorem b1_size {w u : World} {T : TypeId} (h : Hid (Below (w.heap.size + 1) (w.alloc (.cells #[.int .i64 0] T)) u)) : w.heap.size < u.heap.size := by have := h.out.size; simp at this; omega
end Go.Proofs.YtkdildgdodnbbaaGreatDoor
namespace Go.Proofs.YtkdildgdodnbbaaGreatDoor
open Go.RowKit Rs
attribute [local go_sem ↓] Go.wp_at_zero Go.wp_at_succ

def prevS (l : List Sp) (k : Nat) : Option Sp := if k = 0 then none else l[k - 1]?
def CkSt (l : List Sp) (k : Nat) : Prop := checkR l = checkF k (prevS l k) (l.drop k) ∧ (∀ s, prevS l k = some s → s.err = 0) ∧ k ≤ 64
theorem ckSt_start (l : List Sp) : CkSt l 0 := ⟨rfl, fun s hs => (by cases hs), by decide⟩
theorem checkF_cons (i : Nat) (o : Option Sp) (s : Sp) (t : List Sp) : checkF i o (s :: t) = if 64 ≤ i then 4 else if s.err ≠ 0 then s.err else match o with | none => checkF (i + 1) (some s) t | some p => if behind p s then checkF (i + 1) (some s) t else 7 := rfl
theorem behind_after {p s : Sp} (hp : p.err = 0) (hs : s.err = 0) : afterI p.hi p.hn s.lo s.li = if behind p s then 0 else 7 := by
  obtain ⟨e1, o1, _⟩ := piece_spOf hp
  obtain ⟨e2, o2, _⟩ := piece_spOf hs
  have := behind_lt o1 o2
  rw [e1, e2] at this
  rw [this]; rfl
theorem ckSt_step {l : List Sp} {k : Nat} (h : CkSt l k) (hk : k < l.length) : (64 ≤ k → checkR l = 4) ∧ (¬ 64 ≤ k → l[k].err ≠ 0 → checkR l = l[k].err) ∧ (k = 0 → l[k].err = 0 → CkSt l 1) ∧
    (¬ 64 ≤ k → ∀ p, 0 < k → l[k - 1]? = some p → l[k].err = 0 → p.err = 0 ∧ (behind p l[k] = true → CkSt l (k + 1)) ∧ (behind p l[k] = false → checkR l = 7)) := by
  obtain ⟨h1, h2, h3⟩ := h
  rw [List.drop_eq_getElem_cons hk, checkF_cons] at h1
  have hp1 : prevS l (k + 1) = some l[k] := by unfold prevS; rw [if_neg (by omega), Nat.add_sub_cancel, List.getElem?_eq_getElem hk]
  refine ⟨fun h => ?_, fun h he => ?_, fun h he => ?_, fun h p h0 hp he => ⟨?_, fun hb => ?_, fun hb => ?_⟩⟩
  · rw [if_pos h] at h1; exact h1
  · rw [if_neg h, if_pos he] at h1; exact h1
  · subst h
    rw [if_neg (by omega), if_neg (by rw [he]; simp)] at h1
    exact ⟨by rw [hp1]; exact h1, fun s hs => by rw [hp1] at hs; cases hs; exact he, by omega⟩
  · refine h2 p ?_; unfold prevS; rw [if_neg (by omega)]; exact hp
  · have e : prevS l k = some p := by unfold prevS; rw [if_neg (by omega)]; exact hp
    rw [if_neg h, if_neg (by rw [he]; simp), e] at h1
    replace h1 : checkR l = if behind p l[k] = true then checkF (k + 1) (some l[k]) (l.drop (k + 1)) else 7 := h1
    rw [if_pos hb] at h1
    exact ⟨by rw [hp1]; exact h1, fun s hs => by rw [hp1] at hs; cases hs; exact he, by omega⟩
  · have e : prevS l k = some p := by unfold prevS; rw [if_neg (by omega)]; exact hp
    rw [if_neg h, if_neg (by rw [he]; simp), e] at h1
    replace h1 : checkR l = if behind p l[k] = true then checkF (k + 1) (some l[k]) (l.drop (k + 1)) else 7 := h1
    rw [if_neg (by rw [hb]; simp)] at h1
    exact h1
theorem keepCk {w1 u u' : World} {b : Nat} {q : Addr} {x0 x1 x2 x3 y0 y1 y2 y3 : Value} (hb1 : b < w1.heap.size) (hq1 : q.block < w1.heap.size)
    (h : u.cell? ⟨b, 0, none⟩ = some x0 ∧ u.cell? ⟨b, 1, none⟩ = some x1 ∧ u.cell? ⟨b, 2, none⟩ = some x2 ∧ u.cell? ⟨b, 3, none⟩ = some x3 ∧ u.cell? q = some y0 ∧ u.cell? ⟨q.block, q.off + 1, none⟩ = some y1 ∧ u.cell? ⟨q.block, q.off + 2, none⟩ = some y2 ∧ u.cell? ⟨q.block, q.off + 3, none⟩ = some y3 ∧ w1.heap.size ≤ u.heap.size ∧ Below w1.heap.size w1 u) (hb : Below u.heap.size u u') :
    u'.cell? ⟨b, 0, none⟩ = some x0 ∧ u'.cell? ⟨b, 1, none⟩ = some x1 ∧ u'.cell? ⟨b, 2, none⟩ = some x2 ∧ u'.cell? ⟨b, 3, none⟩ = some x3 ∧ u'.cell? q = some y0 ∧ u'.cell? ⟨q.block, q.off + 1, none⟩ = some y1 ∧ u'.cell? ⟨q.block, q.off + 2, none⟩ = some y2 ∧ u'.cell? ⟨q.block, q.off + 3, none⟩ = some y3 ∧ w1.heap.size ≤ u'.heap.size ∧ Below w1.heap.size w1 u' := by
  obtain ⟨h0, h1, h2, h3, h4, h5, h6, h7, h8, h9⟩ := h
  have e : ∀ a : Addr, a.block < w1.heap.size → u'.cell? a = u.cell? a := fun a ha => hb.cell (by omega)
  refine ⟨?_, ?_, ?_, ?_, ?_, ?_, ?_, ?_, Nat.le_trans h8 hb.size, h9.trans (hb.mono h8)⟩
  · rw [e _ hb1]; exact h0
  · rw [e _ hb1]; exact h1
  · rw [e _ hb1]; exact h2
  · rw [e _ hb1]; exact h3
  · rw [e _ hq1]; exact h4
  · rw [e ⟨q.block, q.off + 1, none⟩ hq1]; exact h5
  · rw [e ⟨q.block, q.off + 2, none⟩ hq1]; exact h6
  · rw [e ⟨q.block, q.off + 3, none⟩ hq1]; exact h7
set_option maxRecDepth 100000 in
set_option maxHeartbeats 3200000 in
theorem rcheck_any (A : Option Addr) (n c : Nat) (l : List Sp) (w : World) (hw : MaxOk w) (hn : l.length = n) (hr : SRow w A l) (hl : n ≤ 1000) :
    Calls Tryz.prog 100 #[.slice A n c] w fun e w' => e = .returned (.int .i64 (checkR l)) ∧ Below w.heap.size w w' := by
  have hmf : ∀ (fn : Fn) (first cap : Array Value) (w : World), (Instr.makeFunc fn first cap).run Tryz.prog w = .ok (.func fn first cap) w := fun _ _ _ _ => rfl
  have HM : Hid (MaxOk (w.alloc (.cells #[.int .i64 0] 27))) := maxOk_below hw ((Below.refl _ _).alloc (Nat.le_refl _) _)
  have HR : Hid (SRow (w.alloc (.cells #[.int .i64 0] 27)) A l) := srow_below hr ((Below.refl _ _).alloc (Nat.le_refl _) _)
  have HN := Lib.hid hn
  obtain ⟨E, hE⟩ : ∃ E, checkR l = E := ⟨_, rfl⟩
  rw [hE]
  have HE := Lib.hid hE
  clear hw hn hr hE
  go_enter_defers Tryz.func100, Tryz.ntmps100
  go_wp2_with fail
  go_loopw [8] (fun i wr => ∃ k : Nat, k ≤ n ∧ i = .int .i64 k ∧ Hid (CkSt l k) ∧ Hid (Below (w.heap.size + 1) (w.alloc (.cells #[.int .i64 0] 27)) wr)) (fun i _ => n - (intOf i).toNat)
  case atStart => exact ⟨0, Nat.zero_le _, rfl, ckSt_start l, Below.refl _ _⟩
  case round =>
    obtain ⟨k, hk, rfl, HS, HB⟩ := hrel
    by_cases hlt : k < n
    · have hlr : k < l.length := by rw [HN.out]; exact hlt
      obtain ⟨ad, lo, hi, li, hh, rfl, hs, hbl, c0, c1, c2, c3⟩ := srow_at (srow_below HR.out (by simpa using HB.out)) k hlr
      obtain ⟨st1, st2, st3, st4⟩ := ckSt_step HS.out hlr
      rw [hs] at st2 st3 st4
      have ST1 := Lib.hid st1
      have ST2 := Lib.hid st2
      have ST3 := Lib.hid st3
      have ST4 := Lib.hid st4
      have HBX := Lib.hid (box_new wr lo hi li hh 83)
      have HM1 : Hid (MaxOk (wr.alloc (.cells #[.string ⟨lo.toArray⟩, .string ⟨hi.toArray⟩, .bool li, .bool hh] 83))) := maxOk_below HM.out ((by simpa using HB.out : Below _ _ wr).alloc (by have := HB.out.size; simpa using this) _)
      clear hs st1 st2 st3 st4
      go_wp2_with fail
      refine (requireSpan_any k lo hi li hh _ (by omega) HM1.out).mono ?_
      rintro _ w1 ⟨rfl, hb⟩
      have HBX1 := Lib.hid (box_below HBX.out hb)
      have hb0 : Below wr.heap.size wr w1 := ((Below.refl _ _).alloc (Nat.le_refl _) _).trans (hb.mono (by simp))
      have HB0 := Lib.hid hb0
      have HB1 := b1_step HB hb0
      clear hb hb0 c0 c1 c2 c3 HBX HM1
      by_cases h64 : 64 ≤ k
      · rw [if_pos h64, okOr_ne (by decide)]
        have hEk : Hid (E = 4) := by show _ = _; rw [← HE.out]; exact ST1.out h64
        obtain ⟨hcell, hfro⟩ := cell_int w w1 _ _ HB1.out
        clear h64
        go_wp2_with fail
        refine leaves_cons (f := 119) (args := #[.pointer (some ⟨w.heap.size, 0, none⟩)]) (by simp) (by simp [go_sem]) ?_
        refine (rCheck_panic ⟨w.heap.size, 0, none⟩ 0 _ _ ?_ ?_).mono ?_
        · simp [go_sem, hcell]
        · simp [go_sem, hfro]
        rintro e u' w9 ⟨rfl, rfl, rfl⟩
        simp [Leaves, settle, results, Tryz.results100, go_sem, hcell]
        exact ⟨hEk.out.symm, (below_new HB1.out).setCell (Nat.le_refl _) _⟩
      rw [if_neg h64]
      by_cases hsp : span lo hi li hh = 0
      · rw [hsp, okOr_zero]
        have hse : (Sp.mk lo hi li hh).err = 0 := hsp
        by_cases hk0 : k = 0
        · have NS : Hid (CkSt l 1) := ST3.out hk0 hse
          subst hk0
          clear hsp hse h64 ST1 ST2 ST3 ST4
          go_wp2_with fail
          go_roundw
          case rel => exact ⟨1, by omega, rfl, NS, HB1⟩
          case measure => simp [intOf]; omega
        · have hkm : k - 1 < l.length := by omega
          have hgk : l[k - 1]? = some l[k - 1] := List.getElem?_eq_getElem hkm
          obtain ⟨pe, sy, sn⟩ := ST4.out h64 _ (by omega) hgk hse
          obtain ⟨ad2, plo, phi, pli, ph, had, hps, _, d0, d1, d2, d3⟩ := srow_at (srow_below HR.out (by simpa using HB1.out)) (k - 1) hkm
          obtain rfl := Option.some.inj had
          rw [hps] at pe sy sn
          have hbA := behind_after pe hse
          have hbA2 : afterI phi ph lo li = if behind ⟨plo, phi, pli, ph⟩ ⟨lo, hi, li, hh⟩ then 0 else 7 := hbA
          have B1 := Lib.hid (span_bounds hsp).1
          have B2 := Lib.hid (span_bounds (lo := plo) (hi := phi) (li := pli) (hn := ph) pe).2.1
          obtain ⟨bh, hbh⟩ : ∃ b, behind (Sp.mk plo phi pli ph) ⟨lo, hi, li, hh⟩ = b := ⟨_, rfl⟩
          rw [hbh] at sy sn hbA2
          have SY := Lib.hid sy
          have SN := Lib.hid sn
          obtain ⟨k0, k1, k2, k3, k4⟩ := HBX1.out
          have g1 : (0 : Int) ≤ (k : Int) - 1 := by omega
          have g6 : (1 : Int) ≤ (k : Int) := by omega
          have g7 : ((k - 1 : Nat) : Int) = (k : Int) - 1 := by omega
          clear g7
          have g2 : (k : Int) - 1 < (n : Int) := by omega
          have g3 : ((k : Int) - 1).toNat = k - 1 := by omega
          have g4 : (0 : Int) < (k : Int) := by omega
          have g5 : IntKind.i64.wrap ((k : Int) - 1) = (k : Int) - 1 := IntWalk.i64_in _ (by omega)
          clear hsp hse h64 ST1 ST2 ST3 ST4 pe sy sn hps hgk hbh had hbA
          have hqb : (ad.add ((k - 1) * 4)).block < w1.heap.size := by rw [add_block]; exact Nat.lt_of_lt_of_le hbl HB0.out.size
          have HMW : Hid (MaxOk w1) := maxOk_below HM.out (by simpa using HB1.out)
          cases bh
          · rw [if_neg Bool.false_ne_true] at hbA2
            have HAF := Lib.hid hbA2
            have hEk : Hid (E = 7) := by show _ = _; rw [← HE.out]; exact SN.out rfl
            clear hbA2
            go_wp2_with fail
            first
            | go_region_with (first
                | (go_at_call 121; refine (requireAfter_any lo hi li hh plo phi pli ph _ (maxOk_below HMW.out (Below.refl _ _).drew) B1.out B2.out).mono ?_; rintro _ w4 ⟨rfl, hb⟩; rw [HAF.out, okOr_ne (by decide)]; have HB4 := b1_step HB1 (drewb hb); clear hb; refine ends_at (P := Tryz.prog) (a := { tmps := #[], defers := [] }) (w := w) ?_))
            | fail
            all_goals
              obtain ⟨hcell, hfro⟩ := cell_int w w4 _ _ HB4.out
              refine leaves_cons (f := 119) (args := #[.pointer (some ⟨w.heap.size, 0, none⟩)]) (by simp) (by simp [go_sem]) ?_
              refine (rCheck_panic ⟨w.heap.size, 0, none⟩ 0 _ _ ?_ ?_).mono ?_
              · simp [go_sem, hcell]
              · simp [go_sem, hfro]
              rintro e u' w9 ⟨rfl, rfl, rfl⟩
              simp [Leaves, settle, results, Tryz.results100, go_sem, hcell]
              exact ⟨hEk.out.symm, (below_new HB4.out).setCell (Nat.le_refl _) _⟩
          · rw [if_pos rfl] at hbA2
            have HAF := Lib.hid hbA2
            have NS : Hid (CkSt l (k + 1)) := SY.out rfl
            clear hbA2
            go_wp2_with fail
            go_region_held3 (fun w' => w'.cell? ⟨wr.heap.size, 0, none⟩ = some (.string ⟨lo.toArray⟩) ∧ w'.cell? ⟨wr.heap.size, 1, none⟩ = some (.string ⟨hi.toArray⟩) ∧ w'.cell? ⟨wr.heap.size, 2, none⟩ = some (.bool li) ∧ w'.cell? ⟨wr.heap.size, 3, none⟩ = some (.bool hh) ∧
                w'.cell? (ad.add ((k - 1) * 4)) = some (.string ⟨plo.toArray⟩) ∧ w'.cell? ⟨(ad.add ((k - 1) * 4)).block, (ad.add ((k - 1) * 4)).off + 1, none⟩ = some (.string ⟨phi.toArray⟩) ∧ w'.cell? ⟨(ad.add ((k - 1) * 4)).block, (ad.add ((k - 1) * 4)).off + 2, none⟩ = some (.bool pli) ∧ w'.cell? ⟨(ad.add ((k - 1) * 4)).block, (ad.add ((k - 1) * 4)).off + 3, none⟩ = some (.bool ph) ∧ w1.heap.size ≤ w'.heap.size ∧ Below w1.heap.size w1 w')
              (first
                | exact ⟨k0, k1, k2, k3, d0, d1, d2, d3, Nat.le_refl _, (Below.refl _ _).drew⟩
                | assumption
                | (refine keepCk k4 hqb ?_ hb; assumption))
              (first
                | (go_at_call 121; refine (requireAfter_any lo hi li hh plo phi pli ph _ ?_ B1.out B2.out).mono ?_; (go_split_ands; exact maxOk_below HMW.out (by assumption)); rintro _ w4 ⟨rfl, hb⟩; rw [HAF.out, okOr_zero]))
            rename_i HSS
            have HB4 := b1_step HB1 HSS.2.2.2.2.2.2.2.2.2
            clear HSS k0 k1 k2 k3 d0 d1 d2 d3 g3 g5
            go_wp2_with fail
            go_roundw
            case rel => exact ⟨k + 1, by omega, by go_num, NS, HB4⟩
            case measure => simp [intOf]; omega
      · have hEk : Hid (E = span lo hi li hh) := by show _ = _; rw [← HE.out]; exact ST2.out h64 hsp
        rw [okOr_ne hsp]
        obtain ⟨hcell, hfro⟩ := cell_int w w1 _ _ HB1.out
        clear h64 hsp
        go_wp2_with fail
        refine leaves_cons (f := 119) (args := #[.pointer (some ⟨w.heap.size, 0, none⟩)]) (by simp) (by simp [go_sem]) ?_
        refine (rCheck_panic ⟨w.heap.size, 0, none⟩ 0 _ _ ?_ ?_).mono ?_
        · simp [go_sem, hcell]
        · simp [go_sem, hfro]
        rintro e u' w9 ⟨rfl, rfl, rfl⟩
        simp [Leaves, settle, results, Tryz.results100, go_sem, hcell]
        exact ⟨hEk.out.symm, (below_new HB1.out).setCell (Nat.le_refl _) _⟩
    · have hE0 : Hid (E = 0) := by
        show _ = _
        rw [← HE.out, HS.out.1, List.drop_eq_nil_of_le (by rw [HN.out]; omega)]; rfl
      obtain ⟨hcell, hfro⟩ := cell_int w wr _ _ HB.out
      go_wp2_with fail
      refine leaves_cons (f := 119) (args := #[.pointer (some ⟨w.heap.size, 0, none⟩)]) (by simp) (by simp [go_sem]) ?_
      refine (rCheck_idle ⟨w.heap.size, 0, none⟩ 0 _ ?_ ?_).mono ?_
      · simp [go_sem, hcell]
      · simp [go_sem, hfro]
      rintro e u' w4 ⟨rfl, rfl, rfl⟩
      simp [Leaves, settle, results, Tryz.results100, go_sem, hcell]
      exact ⟨hE0.out.symm, ((below_new HB.out).setCell (Nat.le_refl _) _).setCell (Nat.le_refl _) _⟩
end Go.Proofs.YtkdildgdodnbbaaGreatDoor
