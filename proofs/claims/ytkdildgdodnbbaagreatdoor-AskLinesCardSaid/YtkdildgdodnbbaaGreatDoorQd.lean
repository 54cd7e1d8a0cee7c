/- raised, and the deferred closures that recover: Check, Canon, Epoch, Compare as they end. compare, Compare, Epoch: two versions, by their pieces. The reference's parts, CheckVer, Epoch, canon, Canon. The reference's CheckVer, Epoch, canon, Canon. -/
import Derived.Test.YtkdildgdodnbbaaGreatDoorQc
import Derived.Defers
import Derived.Recover
import Derived.Deep.RegionHeld3
namespace Go.Proofs.YtkdildgdodnbbaaGreatDoor
open Go.RowKit

theorem canon1_panic (p : Addr) (x : Int) (n : Int) (w : World) (hc : w.cell? p = some (.int .i64 x)) (hz : w.frozen? p = false) :
    CallsD Tryz.prog 173 #[.pointer (some p)] (.panicking [{ v := .iface 27 (.int .i64 n), recovered := false }]) w fun e u' w' =>
      e = .returned (.tuple #[]) ∧ u' = .panicking [{ v := .iface 27 (.int .i64 n), recovered := true }] ∧ w' = w.setCell p (.int .i64 n) := by
  refine callsD_of_wpS Tryz.func173 rfl fun c₀ cs hu => ?_
  apply wpS_region
  simp [wpOpsS, go_sem, recoverD, hu, Tryz.ntmps173]
  refine (raised_err n _).mono ?_
  rintro e w' ⟨rfl, rfl⟩
  simp [go_sem, hc, hz, bodyPostS, results, Tryz.results173]
theorem canon1_idle (p : Addr) (x : Int) (w : World) (hc : w.cell? p = some (.int .i64 x)) (hz : w.frozen? p = false) :
    CallsD Tryz.prog 173 #[.pointer (some p)] .returning w fun e u' w' => e = .returned (.tuple #[]) ∧ u' = .returning ∧ w' = w.setCell p (.int .i64 0) := by
  refine callsD_of_wpS Tryz.func173 rfl fun c₀ cs hu => ?_
  apply wpS_region
  simp [wpOpsS, go_sem, recoverD, hu, Tryz.ntmps173]
  refine (raised_nil _).mono ?_
  rintro e w' ⟨rfl, rfl⟩
  cases c₀
  simp_all [go_sem, bodyPostS, results, Tryz.results173]
theorem compare1_idle (w : World) :
    CallsD Tryz.prog 177 #[] .returning w fun e u' w' => e = .returned (.tuple #[]) ∧ u' = .returning ∧ w' = w := by
  refine callsD_of_wpS Tryz.func177 rfl fun c₀ cs hu => ?_
  apply wpS_region
  cases c₀
  simp_all [wpOpsS, go_sem, recoverD, Tryz.ntmps177, bodyPostS, results, Tryz.results177]

/-! The ways of parse, one by one. -/
theorem parse_yes (l : List UInt8) (w : World) (hw : MaxOk w) (h : Vm.check l = 0) :
    Calls Tryz.prog 174 #[.string ⟨l.toArray⟩] w fun e w' => e = .returned (.agg #[.string ⟨(Vm.ep l).toArray⟩, .string ⟨(Vm.pt l).toArray⟩, .string ⟨(Vm.rv l).toArray⟩]) ∧ Below w.heap.size w w' := by
  unfold Vm.check at h
  split at h
  · cases h
  · split at h
    · rename_i h1 h2
      refine (parse_any l w hw (by omega)).mono fun e w' ⟨g1, g2⟩ => ⟨?_, g2⟩
      rw [g1, parsed, ended]
      unfold Vm.verOk at h2
      rw [h2]; rfl
    · cases h
theorem parse_no (l : List UInt8) (w : World) (hw : MaxOk w) (h : Vm.check l ≠ 0) :
    Calls Tryz.prog 174 #[.string ⟨l.toArray⟩] w fun e w' => e = pan (Vm.check l) ∧ Below w.heap.size w w' := by
  unfold Vm.check at *
  split
  · rename_i h1
    exact parse_long l w h1
  · rename_i h1
    rw [if_neg h1] at h
    split
    · rename_i h2; rw [if_pos h2] at h; exact absurd rfl h
    · rename_i h2
      refine (parse_any l w hw (by omega)).mono fun e w' ⟨g1, g2⟩ => ⟨?_, g2⟩
      rw [g1, parsed, ended]
      unfold Vm.verOk at h2
      rw [if_neg h2]


theorem ok1_ascii (c : UInt8) (h : Vm.ok1 c = true) : c.toNat < 128 := by
  simp [Vm.ok1, Vm.dig, Vm.oth, Vm.ltr] at h; omega
theorem partOk_ascii {l : List UInt8} (h : Vm.partOk l = true) : ascii l := by
  intro j b hb
  unfold Vm.partOk at h
  simp only [Bool.and_eq_true, List.all_eq_true] at h
  exact ok1_ascii b (h.2.2.2 b (List.mem_of_getElem? hb))
theorem partOk_ne {l : List UInt8} (h : Vm.partOk l = true) : l ≠ [] := by
  intro h0; subst h0; cases h
theorem verOk_of {l : List UInt8} (h : Vm.check l = 0) : l.length ≤ 40 ∧ Vm.epOk (Vm.ep l) = true ∧ Vm.partOk (Vm.pt l) = true ∧ Vm.partOk (Vm.rv l) = true := by
  unfold Vm.check at h
  split at h
  · cases h
  · split at h
    · rename_i h1 h2
      unfold Vm.verOk at h2
      simp only [Bool.and_eq_true] at h2
      exact ⟨by omega, h2.1, h2.2.1, h2.2.2⟩
    · cases h
theorem canon_text (l : List UInt8) : textOf (Vm.ep l) (Vm.pt l) (Vm.rv l) = Vm.canon l := rfl
/-- What Canon hands back beside the error. -/
def canonOf (l : List UInt8) : List UInt8 := if Vm.check l = 0 then Vm.canon l else []
set_option maxHeartbeats 400000 in
theorem canon_any (l : List UInt8) (w : World) (hw : MaxOk w) :
    Calls Tryz.prog 155 #[.string ⟨l.toArray⟩] w fun e w' => e = .returned (.tuple #[.string ⟨(canonOf l).toArray⟩, .int .i64 (Vm.check l)]) ∧ Below w.heap.size w w' := by
  have hmf : ∀ (fn : Fn) (first cap : Array Value) (w : World), (Instr.makeFunc fn first cap).run Tryz.prog w = .ok (.func fn first cap) w := fun _ _ _ _ => rfl
  have hM : MaxOk (w.alloc (.cells #[.int .i64 0] 27)) := maxOk_below hw ((Below.refl _ _).alloc (Nat.le_refl _) _)
  have HM := Lib.hid hM
  clear hw hM
  by_cases h : Vm.check l = 0
  · have H := Lib.hid h
    have HC : Hid (canonOf l = Vm.canon l) := by show _ = _; rw [canonOf, if_pos h]
    clear h
    go_enter_defers Tryz.func155, Tryz.ntmps155
    go_wp2_with fail
    refine (parse_yes l _ HM.out H.out).mono ?_
    rintro e w1 ⟨rfl, hb⟩
    have hb1 : Below (w.heap.size + 1) (w.alloc (.cells #[.int .i64 0] 27)) w1 := by simpa using hb
    have HB := Lib.hid hb1
    have HV := Lib.hid (verOk_of H.out)
    have l1 := HV.out.1
    have l2 := ep_le l
    have l3 := pt_le l
    have l4 := rv_le l
    clear hb hb1
    go_wp2_with fail
    refine (text_any _ _ _ _ (by omega) (by omega) (by omega) (partOk_ne HV.out.2.2.1) (partOk_ne HV.out.2.2.2) (partOk_ascii HV.out.2.2.1) (partOk_ascii HV.out.2.2.2)).mono ?_
    rintro e w2 ⟨rfl, hb⟩
    rw [canon_text]
    have hb2 : Below (w.heap.size + 1) (w.alloc (.cells #[.int .i64 0] 27)) w2 := HB.out.trans (hb.mono (by have := HB.out.size; simpa using this))
    obtain ⟨hcell, hfro⟩ := cell_int w w2 _ _ hb2
    have HB2 := Lib.hid hb2
    clear hb hb2 HB
    go_wp2_with fail
    refine leaves_cons (f := 173) (args := #[.pointer (some ⟨w.heap.size, 0, none⟩)]) (by simp) (by simp [go_sem]) ?_
    refine (canon1_idle ⟨w.heap.size, 0, none⟩ 0 _ ?_ ?_).mono ?_
    · simp [go_sem, hcell]
    · simp [go_sem, hfro]
    rintro e u' w3 ⟨rfl, rfl, rfl⟩
    simp [Leaves, settle, results, Tryz.results155, go_sem, hcell]
    exact ⟨⟨by rw [HC.out], H.out.symm⟩, ((below_new HB2.out).setCell (Nat.le_refl _) _).setCell (Nat.le_refl _) _⟩
  · have H := Lib.hid h
    have HC : Hid (canonOf l = []) := by show _ = _; rw [canonOf, if_neg h]
    clear h
    go_enter_defers Tryz.func155, Tryz.ntmps155
    go_wp2_with fail
    refine (parse_no l _ HM.out H.out).mono ?_
    rintro e w1 ⟨rfl, hb⟩
    have hb1 : Below (w.heap.size + 1) (w.alloc (.cells #[.int .i64 0] 27)) w1 := by simpa using hb
    obtain ⟨hcell, hfro⟩ := cell_int w w1 _ _ hb1
    have HB := Lib.hid hb1
    clear hb hb1
    go_wp2_with fail
    refine leaves_cons (f := 173) (args := #[.pointer (some ⟨w.heap.size, 0, none⟩)]) (by simp) (by simp [go_sem]) ?_
    refine (canon1_panic ⟨w.heap.size, 0, none⟩ 0 _ _ ?_ ?_).mono ?_
    · simp [go_sem, hcell]
    · simp [go_sem, hfro]
    rintro e u' w2 ⟨rfl, rfl, rfl⟩
    simp [Leaves, settle, results, Tryz.results155, go_sem, hcell]
    exact ⟨by rw [HC.out], (below_new HB.out).setCell (Nat.le_refl _) _⟩
end Go.Proofs.YtkdildgdodnbbaaGreatDoor
namespace Go.Proofs.YtkdildgdodnbbaaGreatDoor
open Go.RowKit

theorem cells3 (w : World) (p q r : Int) (k : Nat) (h : k < [p, q, r].length) : (w.alloc (.cells #[.int .i64 p, .int .i64 q, .int .i64 r] 3)).cell? ⟨w.heap.size, k, none⟩ = some (.int .i64 [p, q, r][k]) := by
  rw [World.cell?_alloc_mark]
  match k, h with
  | 0, _ => rfl
  | 1, _ => rfl
  | 2, _ => rfl
theorem or3 (x y z : Int) : orL [x, y, z] = Vm.both x (Vm.both y z) := by rw [orL, orL, orL, orL, both_zero]

theorem keep_below {w u u' : World} {N : Nat} {e p q f r s : List UInt8} (h : u.cell? ⟨N, 0, none⟩ = some (.string ⟨e.toArray⟩) ∧ u.cell? ⟨N, 1, none⟩ = some (.string ⟨p.toArray⟩) ∧ u.cell? ⟨N, 2, none⟩ = some (.string ⟨q.toArray⟩) ∧ u.cell? ⟨N + 1, 0, none⟩ = some (.string ⟨f.toArray⟩) ∧ u.cell? ⟨N + 1, 1, none⟩ = some (.string ⟨r.toArray⟩) ∧ u.cell? ⟨N + 1, 2, none⟩ = some (.string ⟨s.toArray⟩) ∧ N + 2 ≤ u.heap.size ∧ Below N w u) (hb : Below u.heap.size u u') : u'.cell? ⟨N, 0, none⟩ = some (.string ⟨e.toArray⟩) ∧ u'.cell? ⟨N, 1, none⟩ = some (.string ⟨p.toArray⟩) ∧ u'.cell? ⟨N, 2, none⟩ = some (.string ⟨q.toArray⟩) ∧ u'.cell? ⟨N + 1, 0, none⟩ = some (.string ⟨f.toArray⟩) ∧ u'.cell? ⟨N + 1, 1, none⟩ = some (.string ⟨r.toArray⟩) ∧ u'.cell? ⟨N + 1, 2, none⟩ = some (.string ⟨s.toArray⟩) ∧ N + 2 ≤ u'.heap.size ∧ Below N w u' := by
  obtain ⟨h0, h1, h2, h3, h4, h5, h6, h7⟩ := h
  refine ⟨?_, ?_, ?_, ?_, ?_, ?_, Nat.le_trans h6 hb.size, h7.trans (hb.mono (by omega))⟩
  · rw [hb.cell (by simp; omega)]; exact h0
  · rw [hb.cell (by simp; omega)]; exact h1
  · rw [hb.cell (by simp; omega)]; exact h2
  · rw [hb.cell (by simp; omega)]; exact h3
  · rw [hb.cell (by simp; omega)]; exact h4
  · rw [hb.cell (by simp; omega)]; exact h5
set_option maxRecDepth 100000 in
set_option maxHeartbeats 1600000 in
theorem compareV_any (e p q f r s : List UInt8) (w : World) (hp : p.length ≤ 41) (hq : q.length ≤ 41) (hr : r.length ≤ 41) (hs : s.length ≤ 41) (ap : ascii p) (aq : ascii q) (ar : ascii r) (as_ : ascii s) :
    Calls Tryz.prog 178 #[.agg #[.string ⟨e.toArray⟩, .string ⟨p.toArray⟩, .string ⟨q.toArray⟩], .agg #[.string ⟨f.toArray⟩, .string ⟨r.toArray⟩, .string ⟨s.toArray⟩]] w fun g w' =>
      g = .returned (.int .i64 (Vm.both (Vm.cmpD e f) (Vm.both (Vm.cmpP 41 p r) (Vm.cmpP 41 q s)))) ∧ Below w.heap.size w w' := by
  go_enter Tryz.func178, Tryz.ntmps178
  go_wp2_with fail
  obtain ⟨W, hW⟩ : ∃ W, (w.alloc (.cells #[.string ⟨e.toArray⟩, .string ⟨p.toArray⟩, .string ⟨q.toArray⟩] 192)).alloc (.cells #[.string ⟨f.toArray⟩, .string ⟨r.toArray⟩, .string ⟨s.toArray⟩] 192) = W := ⟨_, rfl⟩
  have hbel : Below w.heap.size w W := by rw [← hW]; exact ((Below.refl _ _).alloc (Nat.le_refl _) _).alloc (by simp) _
  have hsz : w.heap.size + 2 ≤ W.heap.size := by rw [← hW]; simp
  have hb1 : Blk W w.heap.size e p q := by rw [← hW]; unfold Blk; rw [Below.heap_alloc _ _ _ (by simp)]; exact heap_alloc_new w _
  have hb2 : Blk W (w.heap.size + 1) f r s := by
    rw [← hW]
    have h := heap_alloc_new (w.alloc (.cells #[.string ⟨e.toArray⟩, .string ⟨p.toArray⟩, .string ⟨q.toArray⟩] 192)) (.cells #[.string ⟨f.toArray⟩, .string ⟨r.toArray⟩, .string ⟨s.toArray⟩] 192)
    rw [show (w.alloc (.cells #[.string ⟨e.toArray⟩, .string ⟨p.toArray⟩, .string ⟨q.toArray⟩] 192)).heap.size = w.heap.size + 1 from by simp] at h
    exact h
  obtain ⟨hc0, hc1, hc2, _, _, _⟩ := blk_cells hb1
  obtain ⟨hd0, hd1, hd2, _, _, _⟩ := blk_cells hb2
  rw [hW]
  clear hW hb1 hb2
  go_region_held3 (fun w' => w'.cell? ⟨w.heap.size, 0, none⟩ = some (.string ⟨e.toArray⟩) ∧ w'.cell? ⟨w.heap.size, 1, none⟩ = some (.string ⟨p.toArray⟩) ∧ w'.cell? ⟨w.heap.size, 2, none⟩ = some (.string ⟨q.toArray⟩) ∧ w'.cell? ⟨w.heap.size + 1, 0, none⟩ = some (.string ⟨f.toArray⟩) ∧ w'.cell? ⟨w.heap.size + 1, 1, none⟩ = some (.string ⟨r.toArray⟩) ∧ w'.cell? ⟨w.heap.size + 1, 2, none⟩ = some (.string ⟨s.toArray⟩) ∧ w.heap.size + 2 ≤ w'.heap.size ∧ Below w.heap.size w w')
    (first
      | exact ⟨hc0, hc1, hc2, hd0, hd1, hd2, hsz, hbel.drew⟩
      | assumption
      | (refine keep_below ?_ hb; assumption)
      | (refine keep_below ?_ ((Below.refl _ _).alloc (Nat.le_refl _) _); assumption))
    (first
      | (go_at_call 189; refine (compareDigits_any e f _).mono ?_; rintro _ w1 ⟨rfl, hb⟩)
      | (go_at_call 190; refine (compareParts_any 41 _ _ _ (by decide) (by assumption) (by assumption) (by assumption) (by assumption)).mono ?_; rintro _ w1 ⟨rfl, hb⟩)
      | (go_at_call 158; refine (cmpOr_any [_, _, _] _ _ _ (by simp) (cells3 _ _ _ _)).mono ?_; rintro _ w1 ⟨rfl, rfl⟩))
  rename_i HS
  have HB := Lib.hid HS.2.2.2.2.2.2.2
  clear HS
  go_wp2_with fail
  go_ret
  refine ⟨?_, HB.out⟩
  show Ending.returned (.int .i64 (orL [Vm.cmpD e f, Vm.cmpP 41 p r, Vm.cmpP 41 q s])) = _
  rw [or3]

set_option maxHeartbeats 400000 in
theorem compare_any (l m : List UInt8) (w : World) (hw : MaxOk w) (h1 : Vm.check l = 0) (h2 : Vm.check m = 0) :
    Calls Tryz.prog 159 #[.string ⟨l.toArray⟩, .string ⟨m.toArray⟩] w fun e w' => e = .returned (.int .i64 (Vm.cmpV l m)) ∧ Below w.heap.size w w' := by
  have HM := Lib.hid hw
  have H1 := Lib.hid h1
  have H2 := Lib.hid h2
  have HX : Hid (Vm.cmpV l m = Vm.both (Vm.cmpD (Vm.ep l) (Vm.ep m)) (Vm.both (Vm.cmpP 41 (Vm.pt l) (Vm.pt m)) (Vm.cmpP 41 (Vm.rv l) (Vm.rv m)))) := rfl
  clear hw h1 h2
  go_enter_defers Tryz.func159, Tryz.ntmps159
  go_wp2_with fail
  refine (parse_yes l _ HM.out H1.out).mono ?_
  rintro e w1 ⟨rfl, hb⟩
  have HB1 := Lib.hid hb
  clear hb
  go_wp2_with fail
  refine (parse_yes m _ (maxOk_below HM.out HB1.out) H2.out).mono ?_
  rintro e w2 ⟨rfl, hb⟩
  have HB2 := Lib.hid (HB1.out.trans (hb.mono HB1.out.size))
  clear hb HB1
  have HV := Lib.hid (verOk_of H1.out)
  have HV2 := Lib.hid (verOk_of H2.out)
  have l1 := HV.out.1
  have l2 := HV2.out.1
  have l3 := pt_le l
  have l4 := rv_le l
  have l5 := pt_le m
  have l6 := rv_le m
  go_wp2_with fail
  refine (compareV_any _ _ _ _ _ _ _ (by omega) (by omega) (by omega) (by omega) (partOk_ascii HV.out.2.2.1) (partOk_ascii HV.out.2.2.2) (partOk_ascii HV2.out.2.2.1) (partOk_ascii HV2.out.2.2.2)).mono ?_
  rintro e w3 ⟨rfl, hb⟩
  have HB3 := Lib.hid (HB2.out.trans (hb.mono HB2.out.size))
  clear hb HB2
  go_wp2_with fail
  refine leaves_cons (f := 177) (args := #[]) (by simp) (by simp [go_sem]) ?_
  refine (compare1_idle _).mono ?_
  rintro e u' w2 ⟨rfl, rfl, rfl⟩
  simp [Leaves, settle, results, Tryz.results159, go_sem]
  exact ⟨HX.out.symm, HB3.out⟩

end Go.Proofs.YtkdildgdodnbbaaGreatDoor
namespace Go.Proofs.YtkdildgdodnbbaaGreatDoor
open Go.RowKit

theorem place_yes (l : List UInt8) (c : UInt8) (w : World) (hm : l.length ≤ 4000) (h : Vm.has c l = true) :
    Calls Tryz.prog 40 #[.string ⟨l.toArray⟩, .int .u8 c.toNat] w fun e w' => e = .returned (.int .i64 (Vm.fst c l).length) ∧ w = w' := by
  have := place_any l c w hm; rw [place, if_pos h] at this; exact this
theorem place_no (l : List UInt8) (c : UInt8) (w : World) (hm : l.length ≤ 4000) (h : Vm.has c l = false) :
    Calls Tryz.prog 40 #[.string ⟨l.toArray⟩, .int .u8 c.toNat] w fun e w' => e = .returned (.int .i64 (-1)) ∧ w = w' := by
  have := place_any l c w hm; rw [place, if_neg (by rw [h]; simp)] at this; exact this
theorem cut_texts (l : List UInt8) (c : UInt8) (h : Vm.has c l = true) : (Vm.fst c l).length < l.length ∧ (⟨l.toArray⟩ : ByteArray).extract 0 (Vm.fst c l).length = ⟨(Vm.fst c l).toArray⟩ ∧ (⟨l.toArray⟩ : ByteArray).extract ((Vm.fst c l).length + 1) l.length = ⟨(Vm.snd c l).toArray⟩ := by
  refine ⟨(has_iff l c).1 h, ?_, ?_⟩
  · rw [extract_to, show l.take (Vm.fst c l).length = Vm.fst c l from tw_take _ l]
  · rw [extract_from, ← List.drop_drop]
    unfold Vm.snd Vm.fst
    rw [tw_drop]
/-- The reference's pieces: "" for a missing one. -/
def epR (l : List UInt8) : List UInt8 := if Vm.has 58 l then Vm.fst 58 l else []
def rvR (l : List UInt8) : List UInt8 := if Vm.has 45 (Vm.rest l) then Vm.snd 45 (Vm.rest l) else []
/-- How parts ends: the pieces of a version; else whatever pieces, and false. -/
def PartsRet (l : List UInt8) (e : Ending) (w w' : World) : Prop :=
  if Vm.verOk l then e = .returned (.tuple #[.string ⟨(epR l).toArray⟩, .string ⟨(Vm.pt l).toArray⟩, .string ⟨(rvR l).toArray⟩, .bool true]) ∧ w = w'
  else ∃ a b c, e = .returned (.tuple #[.string a, .string b, .string c, .bool false]) ∧ w = w'
theorem partsRet_no {l : List UInt8} {e : Ending} {w : World} (h : Vm.verOk l = false) (a b c : ByteArray) (he : e = .returned (.tuple #[.string a, .string b, .string c, .bool false])) : PartsRet l e w w := by
  rw [PartsRet, h]; exact ⟨a, b, c, he, rfl⟩
theorem partsRet_yes {l : List UInt8} {e : Ending} {w : World} (h : Vm.verOk l = true) (he : e = .returned (.tuple #[.string ⟨(epR l).toArray⟩, .string ⟨(Vm.pt l).toArray⟩, .string ⟨(rvR l).toArray⟩, .bool true])) : PartsRet l e w w := by
  rw [PartsRet, h]; exact ⟨he, rfl⟩
theorem part48 : Vm.partOk [48] = true := by decide
theorem ep48 : Vm.epOk [48] = true := by decide
theorem verOksplit (l r : List UInt8) (hr : Vm.rest l = r) : Vm.verOk l = (Vm.epOk (Vm.ep l) && (Vm.partOk (Vm.fst 45 r) && Vm.partOk (if Vm.has 45 r then Vm.snd 45 r else [48]))) := by
  unfold Vm.verOk Vm.pt Vm.rv; rw [hr]
theorem rvRsplit (l r : List UInt8) (hr : Vm.rest l = r) : rvR l = if Vm.has 45 r then Vm.snd 45 r else [] := by unfold rvR; rw [hr]
theorem ptsplit (l r : List UInt8) (hr : Vm.rest l = r) : Vm.pt l = Vm.fst 45 r := by unfold Vm.pt; rw [hr]

set_option maxHeartbeats 2000000 in
theorem parts_any (l : List UInt8) (w : World) (hm : l.length ≤ 40) :
    Calls Tryz.prog 93 #[.string ⟨l.toArray⟩] w fun e w' => PartsRet l e w w' := by
  have hnot : ∀ (x : Bool) (w : World), (Op.unary .not (.bool x)).run Tryz.prog w = .ok (.bool (!x)) w := fun _ _ => rfl
  cases h1 : Vm.has 58 l
  · have HR : Hid (Vm.rest l = l) := by show _ = _; rw [Vm.rest, h1]; rfl
    have HE : Hid (Vm.epOk (Vm.ep l) = true) := by show _ = _; rw [Vm.ep, h1]; rfl
    have HER : Hid (epR l = []) := by show _ = _; rw [epR, h1]; rfl
    have H1 := Lib.hid h1
    clear h1
    go_enter Tryz.func93, Tryz.ntmps93
    go_wp2_with fail
    refine (place_no l 58 _ (by omega) H1.out).mono ?_
    rintro _ w2 ⟨rfl, rfl⟩
    cases h2 : Vm.has 45 l
    · have HV : Hid (Vm.verOk l = (true && Vm.partOk l)) := by show _ = _; rw [verOksplit l l HR.out, h2, fst_no _ _ h2, HE.out, if_neg (by simp), part48, Bool.and_true]
      have HQ : Hid (rvR l = []) := by show _ = _; rw [rvRsplit l l HR.out, h2]; rfl
      have HPt : Hid (Vm.pt l = l) := by show _ = _; rw [ptsplit l l HR.out, fst_no _ _ h2]
      have H2 := Lib.hid h2
      clear h2
      go_wp2_with fail
      refine (place_no l 45 _ (by omega) H2.out).mono ?_
      rintro _ w2 ⟨rfl, rfl⟩
      go_wp2_with fail
      refine (refPart_any l _ (by omega)).mono ?_
      rintro _ w2 ⟨rfl, rfl⟩
      cases hp : Vm.partOk l
      · have HP := Lib.hid hp
        clear hp
        go_wp2_with fail
        refine bodyPost_ret (v := .tuple #[.string ⟨#[]⟩, .string ⟨l.toArray⟩, .string ⟨#[]⟩, .bool false]) (by simp [results, Tryz.results93, go_sem]) rfl ?_
        exact partsRet_no (by rw [HV.out, HP.out, Bool.and_false]) _ _ _ rfl
      · have HP := Lib.hid hp
        clear hp
        go_wp2_with fail
        refine bodyPost_ret (v := .tuple #[.string ⟨#[]⟩, .string ⟨l.toArray⟩, .string ⟨#[]⟩, .bool true]) (by simp [results, Tryz.results93, go_sem]) rfl ?_
        exact partsRet_yes (by rw [HV.out, HP.out]; rfl) (by rw [HQ.out, HPt.out, HER.out])
    · have HV : Hid (Vm.verOk l = (true && (Vm.partOk (Vm.fst 45 l) && Vm.partOk (Vm.snd 45 l)))) := by show _ = _; rw [verOksplit l l HR.out, h2, HE.out, if_pos rfl]
      have HQ : Hid (rvR l = Vm.snd 45 l) := by show _ = _; rw [rvRsplit l l HR.out, h2]; rfl
      have HPt : Hid (Vm.pt l = Vm.fst 45 l) := by show _ = _; rw [ptsplit l l HR.out]
      have H2 := Lib.hid h2
      have lf := fst_le l 45
      have ls := snd_le 45 l
      obtain ⟨c1, c2, c3⟩ := cut_texts l 45 h2
      clear h2
      go_wp2_with fail
      refine (place_yes l 45 _ (by omega) H2.out).mono ?_
      rintro _ w2 ⟨rfl, rfl⟩
      obtain ⟨n2, hn2⟩ : ∃ n, (Vm.fst 45 l).length = n := ⟨_, rfl⟩
      rw [hn2] at c1 c2 c3 lf
      rw [hn2]
      obtain ⟨p, hp⟩ : ∃ p, Vm.fst 45 l = p := ⟨_, rfl⟩
      obtain ⟨q, hq⟩ : ∃ q, Vm.snd 45 l = q := ⟨_, rfl⟩
      rw [hp] at c2 HV HPt hn2
      rw [hq] at c3 HV HQ ls
      have lp : p.length ≤ l.length := by omega
      clear hp hq hn2
      go_wp2_with fail
      refine (refPart_any q _ (by omega)).mono ?_
      rintro _ w2 ⟨rfl, rfl⟩
      cases hq : Vm.partOk q
      · have HPq := Lib.hid hq
        clear hq
        go_wp2_with fail
        refine bodyPost_ret (v := .tuple #[.string ⟨#[]⟩, .string ⟨#[]⟩, .string ⟨#[]⟩, .bool false]) (by simp [results, Tryz.results93, go_sem]) rfl ?_
        exact partsRet_no (by rw [HV.out, HPq.out, Bool.and_false, Bool.and_false]) _ _ _ rfl
      · have HPq := Lib.hid hq
        clear hq
        go_wp2_with fail
        refine (refPart_any p _ (by omega)).mono ?_
        rintro _ w2 ⟨rfl, rfl⟩
        cases hp : Vm.partOk p
        · have HP := Lib.hid hp
          clear hp
          go_wp2_with fail
          refine bodyPost_ret (v := .tuple #[.string ⟨#[]⟩, .string ⟨p.toArray⟩, .string ⟨q.toArray⟩, .bool false]) (by simp [results, Tryz.results93, go_sem]) rfl ?_
          exact partsRet_no (by rw [HV.out, HP.out, Bool.false_and, Bool.and_false]) _ _ _ rfl
        · have HP := Lib.hid hp
          clear hp
          go_wp2_with fail
          refine bodyPost_ret (v := .tuple #[.string ⟨#[]⟩, .string ⟨p.toArray⟩, .string ⟨q.toArray⟩, .bool true]) (by simp [results, Tryz.results93, go_sem]) rfl ?_
          exact partsRet_yes (by rw [HV.out, HP.out, HPq.out]; rfl) (by rw [HQ.out, HPt.out, HER.out])
  · have HR0 : Vm.rest l = Vm.snd 58 l := by rw [Vm.rest, h1]; rfl
    have HE0 : Vm.ep l = Vm.fst 58 l := by rw [Vm.ep, h1]; rfl
    have HER0 : epR l = Vm.fst 58 l := by rw [epR, h1]; rfl
    have lf := fst_le l 58
    have ls := snd_le 58 l
    obtain ⟨c1, c2, c3⟩ := cut_texts l 58 h1
    have H1 := Lib.hid h1
    clear h1
    go_enter Tryz.func93, Tryz.ntmps93
    go_wp2_with fail
    refine (place_yes l 58 _ (by omega) H1.out).mono ?_
    rintro _ w2 ⟨rfl, rfl⟩
    obtain ⟨n1, hn1⟩ : ∃ n, (Vm.fst 58 l).length = n := ⟨_, rfl⟩
    rw [hn1] at c1 c2 c3 lf
    rw [hn1]
    obtain ⟨e, he⟩ : ∃ e, Vm.fst 58 l = e := ⟨_, rfl⟩
    obtain ⟨r, hr⟩ : ∃ r, Vm.snd 58 l = r := ⟨_, rfl⟩
    rw [he] at c2 hn1 HE0 HER0
    rw [hr] at c3 HR0 ls
    have le : e.length ≤ 40 := by omega
    have HR := Lib.hid HR0
    have HER := Lib.hid HER0
    have HE1 : Hid (Vm.epOk (Vm.ep l) = Vm.epOk e) := by show _ = _; rw [HE0]
    have HNO : Hid (Vm.epOk e = false → Vm.verOk l = false) := fun h => by rw [Vm.verOk, HE0, h]; rfl
    clear he hr hn1 HR0 HE0 HER0
    by_cases g1 : e.length < 1
    · have e0 : Hid (Vm.epOk e = false) := by
        have : e = [] := List.eq_nil_of_length_eq_zero (by omega)
        subst this; rfl
      go_wp2_with fail
      refine bodyPost_ret (v := .tuple #[.string ⟨#[]⟩, .string ⟨#[]⟩, .string ⟨#[]⟩, .bool false]) (by simp [results, Tryz.results93, go_sem]) rfl ?_
      exact partsRet_no (HNO.out e0.out) _ _ _ rfl
    · by_cases g2 : 6 < e.length
      · have e0 : Hid (Vm.epOk e = false) := by show _ = _; rw [epOk_cons e (by omega)]; simp; omega
        go_wp2_with fail
        refine bodyPost_ret (v := .tuple #[.string ⟨#[]⟩, .string ⟨#[]⟩, .string ⟨#[]⟩, .bool false]) (by simp [results, Tryz.results93, go_sem]) rfl ?_
        exact partsRet_no (HNO.out e0.out) _ _ _ rfl
      · have HEA : Hid (Vm.epOk e = e.all Vm.dig) := by show _ = _; rw [epOk_cons e (by omega)]; simp; omega
        go_wp2_with fail
        go_loop [8] (fun i => ∃ k : Nat, k ≤ e.length ∧ i = .int .i64 k ∧ Hid ((e.take k).all Vm.dig = true)) (fun i => e.length - (intOf i).toNat)
        case atStart => exact ⟨0, Nat.zero_le _, rfl, rfl⟩
        case round =>
          obtain ⟨k, hk, rfl, hall⟩ := hrel
          by_cases hlt : k < e.length
          · obtain ⟨c, hc, hc'⟩ := byte_at e k hlt
            have HS := Lib.hid (all_snoc e Vm.dig k hlt)
            rw [hc'] at HS
            have HF : Vm.dig c = false → e.all Vm.dig = false := fun h => all_false_of e _ k hlt (by rw [hc']; exact h)
            have HF' := Lib.hid HF
            clear hc' HF
            go_wp2_with fail
            refine (refDigit_any c _).mono ?_
            rintro _ w2 ⟨rfl, rfl⟩
            cases hd3 : Vm.dig c
            · have HD3 := Lib.hid hd3
              clear hd3
              go_wp2_with fail
              refine bodyPost_ret (v := .tuple #[.string ⟨#[]⟩, .string ⟨#[]⟩, .string ⟨#[]⟩, .bool false]) (by simp [results, Tryz.results93, go_sem]) rfl ?_
              exact partsRet_no (HNO.out (by rw [HEA.out, HF'.out HD3.out])) _ _ _ rfl
            · have HD3 := Lib.hid hd3
              clear hd3
              go_wp2_with fail
              go_round
              case rel => exact ⟨k + 1, by omega, by go_num, by show _ = _; rw [HS.out, hall.out, HD3.out]; rfl⟩
              case measure => simp [intOf]; omega
          · obtain rfl : k = e.length := by omega
            have hall2 : e.all Vm.dig = true := by have := hall.out; rwa [List.take_length] at this
            have HE : Hid (Vm.epOk (Vm.ep l) = true) := by show _ = _; rw [HE1.out, HEA.out, hall2]
            clear hall hall2
            cases h2 : Vm.has 45 r
            · have HV : Hid (Vm.verOk l = (true && Vm.partOk r)) := by show _ = _; rw [verOksplit l r HR.out, h2, fst_no _ _ h2, HE.out, if_neg (by simp), part48, Bool.and_true]
              have HQ : Hid (rvR l = []) := by show _ = _; rw [rvRsplit l r HR.out, h2]; rfl
              have HPt : Hid (Vm.pt l = r) := by show _ = _; rw [ptsplit l r HR.out, fst_no _ _ h2]
              have H2 := Lib.hid h2
              clear h2
              go_wp2_with fail
              refine (place_no r 45 _ (by omega) H2.out).mono ?_
              rintro _ w2 ⟨rfl, rfl⟩
              go_wp2_with fail
              refine (refPart_any r _ (by omega)).mono ?_
              rintro _ w2 ⟨rfl, rfl⟩
              cases hp : Vm.partOk r
              · have HP := Lib.hid hp
                clear hp
                go_wp2_with fail
                refine bodyPost_ret (v := .tuple #[.string ⟨e.toArray⟩, .string ⟨r.toArray⟩, .string ⟨#[]⟩, .bool false]) (by simp [results, Tryz.results93, go_sem]) rfl ?_
                exact partsRet_no (by rw [HV.out, HP.out, Bool.and_false]) _ _ _ rfl
              · have HP := Lib.hid hp
                clear hp
                go_wp2_with fail
                refine bodyPost_ret (v := .tuple #[.string ⟨e.toArray⟩, .string ⟨r.toArray⟩, .string ⟨#[]⟩, .bool true]) (by simp [results, Tryz.results93, go_sem]) rfl ?_
                exact partsRet_yes (by rw [HV.out, HP.out]; rfl) (by rw [HQ.out, HPt.out, HER.out])
            · have HV : Hid (Vm.verOk l = (true && (Vm.partOk (Vm.fst 45 r) && Vm.partOk (Vm.snd 45 r)))) := by show _ = _; rw [verOksplit l r HR.out, h2, HE.out, if_pos rfl]
              have HQ : Hid (rvR l = Vm.snd 45 r) := by show _ = _; rw [rvRsplit l r HR.out, h2]; rfl
              have HPt : Hid (Vm.pt l = Vm.fst 45 r) := by show _ = _; rw [ptsplit l r HR.out]
              have H2 := Lib.hid h2
              have lf := fst_le r 45
              have ls := snd_le 45 r
              obtain ⟨c1, c2, c3⟩ := cut_texts r 45 h2
              clear h2
              go_wp2_with fail
              refine (place_yes r 45 _ (by omega) H2.out).mono ?_
              rintro _ w2 ⟨rfl, rfl⟩
              obtain ⟨n2, hn2⟩ : ∃ n, (Vm.fst 45 r).length = n := ⟨_, rfl⟩
              rw [hn2] at c1 c2 c3 lf
              rw [hn2]
              obtain ⟨p, hp⟩ : ∃ p, Vm.fst 45 r = p := ⟨_, rfl⟩
              obtain ⟨q, hq⟩ : ∃ q, Vm.snd 45 r = q := ⟨_, rfl⟩
              rw [hp] at c2 HV HPt hn2
              rw [hq] at c3 HV HQ ls
              have lp : p.length ≤ r.length := by omega
              clear hp hq hn2
              go_wp2_with fail
              refine (refPart_any q _ (by omega)).mono ?_
              rintro _ w2 ⟨rfl, rfl⟩
              cases hq : Vm.partOk q
              · have HPq := Lib.hid hq
                clear hq
                go_wp2_with fail
                refine bodyPost_ret (v := .tuple #[.string ⟨#[]⟩, .string ⟨#[]⟩, .string ⟨#[]⟩, .bool false]) (by simp [results, Tryz.results93, go_sem]) rfl ?_
                exact partsRet_no (by rw [HV.out, HPq.out, Bool.and_false, Bool.and_false]) _ _ _ rfl
              · have HPq := Lib.hid hq
                clear hq
                go_wp2_with fail
                refine (refPart_any p _ (by omega)).mono ?_
                rintro _ w2 ⟨rfl, rfl⟩
                cases hp : Vm.partOk p
                · have HP := Lib.hid hp
                  clear hp
                  go_wp2_with fail
                  refine bodyPost_ret (v := .tuple #[.string ⟨e.toArray⟩, .string ⟨p.toArray⟩, .string ⟨q.toArray⟩, .bool false]) (by simp [results, Tryz.results93, go_sem]) rfl ?_
                  exact partsRet_no (by rw [HV.out, HP.out, Bool.false_and, Bool.and_false]) _ _ _ rfl
                · have HP := Lib.hid hp
                  clear hp
                  go_wp2_with fail
                  refine bodyPost_ret (v := .tuple #[.string ⟨e.toArray⟩, .string ⟨p.toArray⟩, .string ⟨q.toArray⟩, .bool true]) (by simp [results, Tryz.results93, go_sem]) rfl ?_
                  exact partsRet_yes (by rw [HV.out, HP.out, HPq.out]; rfl) (by rw [HQ.out, HPt.out, HER.out])
end Go.Proofs.YtkdildgdodnbbaaGreatDoor
namespace Go.Proofs.YtkdildgdodnbbaaGreatDoor
open Go.RowKit

def RefCheckRet (l : List UInt8) (e : Ending) (w w' : World) : Prop := e = .returned (.int .i64 (Vm.check l)) ∧ w = w'
set_option maxHeartbeats 400000 in
theorem checkVer_any (l : List UInt8) (w : World) :
    Calls Tryz.prog 108 #[.string ⟨l.toArray⟩] w fun e w' => e = .returned (.int .i64 (Vm.check l)) ∧ w = w' := by
  have hnot : ∀ (x : Bool) (w : World), (Op.unary .not (.bool x)).run Tryz.prog w = .ok (.bool (!x)) w := fun _ _ => rfl
  by_cases h40 : 40 < l.length
  · have HC : Hid (Vm.check l = 4) := by show _ = _; rw [Vm.check, if_pos h40]
    go_enter Tryz.func108, Tryz.ntmps108
    go_wp2_with fail
    go_ret
    exact ⟨by rw [HC.out]; rfl, rfl⟩
  · cases hv : Vm.verOk l
    · have HC : Hid (Vm.check l = 5) := by show _ = _; rw [Vm.check, if_neg h40, hv]; rfl
      have HV := Lib.hid hv
      clear hv
      go_enter Tryz.func108, Tryz.ntmps108
      go_wp2_with fail
      refine (parts_any l _ (by omega)).mono ?_
      rintro e w1 hp
      unfold PartsRet at hp
      rw [HV.out] at hp
      obtain ⟨a, b, c, rfl, rfl⟩ := hp
      go_wp2_with fail
      go_ret
      exact ⟨by rw [HC.out]; rfl, rfl⟩
    · have HC : Hid (Vm.check l = 0) := by show _ = _; rw [Vm.check, if_neg h40, hv]; rfl
      have HV := Lib.hid hv
      clear hv
      go_enter Tryz.func108, Tryz.ntmps108
      go_wp2_with fail
      refine (parts_any l _ (by omega)).mono ?_
      rintro e w1 hp
      unfold PartsRet at hp
      rw [HV.out] at hp
      obtain ⟨rfl, rfl⟩ := hp
      go_wp2_with fail
      go_ret
      exact ⟨by rw [HC.out]; rfl, rfl⟩
theorem parts_yes (l : List UInt8) (w : World) (h : Vm.check l = 0) :
    Calls Tryz.prog 93 #[.string ⟨l.toArray⟩] w fun e w' => e = .returned (.tuple #[.string ⟨(epR l).toArray⟩, .string ⟨(Vm.pt l).toArray⟩, .string ⟨(rvR l).toArray⟩, .bool true]) ∧ w = w' := by
  have hv := verOk_of h
  have h2 : Vm.verOk l = true := by unfold Vm.verOk; rw [hv.2.1, hv.2.2.1, hv.2.2.2]; rfl
  have := parts_any l w hv.1
  unfold PartsRet at this
  rw [h2] at this
  exact this

theorem num_take (l : List UInt8) (k : Nat) (h : k < l.length) : Vm.num (l.take (k + 1)) = 10 * Vm.num (l.take k) + (l[k].toNat - 48) := by
  unfold Vm.num
  rw [List.take_succ_eq_append_getElem h, List.foldl_append]; rfl
theorem num_bound (l : List UInt8) (h : l.all Vm.dig = true) : Vm.num l < 10 ^ l.length := by
  have key : ∀ (l : List UInt8) (a : Nat), l.all Vm.dig = true → l.foldl (fun n c => 10 * n + (c.toNat - 48)) a < (a + 1) * 10 ^ l.length := by
    intro l
    induction l with
    | nil => intro a _; simp
    | cons c r ih =>
      intro a h
      simp only [List.all_cons, Bool.and_eq_true] at h
      have h1 := ih (10 * a + (c.toNat - 48)) h.2
      have h2 : c.toNat - 48 ≤ 9 := by have := h.1; unfold Vm.dig at this; simp at this; omega
      simp only [List.foldl_cons, List.length_cons]
      refine Nat.lt_of_lt_of_le h1 ?_
      rw [Nat.pow_succ, Nat.mul_comm (10 ^ r.length) 10, ← Nat.mul_assoc]
      exact Nat.mul_le_mul_right _ (by omega)
  have := key l 0 h
  simpa [Vm.num] using this
theorem epR_dig {l : List UInt8} (h : Vm.check l = 0) : (epR l).all Vm.dig = true ∧ (epR l).length ≤ 6 ∧ Vm.num (epR l) = Vm.num (Vm.ep l) := by
  have hv := (verOk_of h).2.1
  unfold epR Vm.ep at *
  cases h1 : Vm.has 58 l
  · simp [Vm.num]
  · rw [h1] at hv
    simp only [if_true] at *
    unfold Vm.epOk at hv
    simp only [Bool.and_eq_true, decide_eq_true_eq] at hv
    exact ⟨hv.2.2, hv.2.1, trivial⟩
theorem dig_bd {c : UInt8} (h : Vm.dig c = true) : 48 ≤ c.toNat ∧ c.toNat ≤ 57 := by unfold Vm.dig at h; simpa using h
theorem pow_le {n : Nat} (h : n ≤ 6) : 10 ^ n ≤ 1000000 := by
  have : (10 : Nat) ^ n ≤ 10 ^ 6 := Nat.pow_le_pow_right (by decide) h
  simpa using this
set_option maxHeartbeats 400000 in
theorem refEpoch_any (l : List UInt8) (w : World) (h : Vm.check l = 0) :
    Calls Tryz.prog 95 #[.string ⟨l.toArray⟩] w fun e w' => e = .returned (.int .i64 (Vm.num (Vm.ep l))) ∧ w = w' := by
  have hd := epR_dig h
  have H := Lib.hid h
  clear h
  obtain ⟨e, he⟩ : ∃ e, epR l = e := ⟨_, rfl⟩
  rw [he] at hd
  have HA := Lib.hid hd.1
  have HL := hd.2.1
  have HN := Lib.hid hd.2.2
  clear hd
  go_enter Tryz.func95, Tryz.ntmps95
  go_wp2_with fail
  refine (parts_yes l _ H.out).mono ?_
  rintro _ w1 ⟨rfl, rfl⟩
  rw [he]
  clear he
  go_wp2_with fail
  go_loop [7, 8] (fun n i => ∃ k : Nat, k ≤ e.length ∧ i = .int .i64 k ∧ n = .int .i64 (Vm.num (e.take k))) (fun _ i => e.length - (intOf i).toNat)
  case atStart => exact ⟨0, Nat.zero_le _, rfl, rfl⟩
  case round =>
    obtain ⟨k, hk, rfl, rfl⟩ := hrel
    by_cases hlt : k < e.length
    · obtain ⟨c, hc, hc'⟩ := byte_at e k hlt
      have HS := Lib.hid (num_take e k hlt)
      rw [hc'] at HS
      have hb : Vm.num (e.take k) < 1000000 := by
        have h1 := num_bound (e.take k) (by
          have := HA.out
          rw [List.all_eq_true] at this ⊢
          exact fun x hx => this x (List.mem_of_mem_take hx))
        refine Nat.lt_of_lt_of_le h1 (pow_le ?_)
        rw [List.length_take]; omega
      have hdc : Vm.dig c = true := by
        have := HA.out
        rw [List.all_eq_true] at this
        rw [← hc']; exact this _ (List.getElem_mem hlt)
      have HD := Lib.hid hdc
      obtain ⟨m, hm⟩ : ∃ m, Vm.num (e.take k) = m := ⟨_, rfl⟩
      rw [hm] at HS hb
      rw [hm]
      clear hc' hdc hm
      go_wp2_with fail
      go_round
      case rel =>
        refine ⟨k + 1, by omega, by go_num, congrArg (Value.int .i64) ?_⟩
        rw [HS.out]
        have := dig_bd HD.out
        omega
      case measure => simp [intOf]; omega
    · obtain rfl : k = e.length := by omega
      go_wp2_with fail
      go_ret
      refine ⟨?_, rfl⟩
      show Ending.returned (.int .i64 (Vm.num e : Int)) = _
      rw [HN.out]

theorem runT (l : List UInt8) (w : World) (hm : l.length ≤ 1000) :
    Calls Tryz.prog 113 #[.string ⟨l.toArray⟩, .bool true] w fun e w' => e = .returned (.tuple #[.string ⟨(Vm.digs l).toArray⟩, .string ⟨(Vm.undigs l).toArray⟩]) ∧ Below w.heap.size w w' := by
  have := run_any l true w hm; rw [(run_true l).1, (run_true l).2] at this; exact this
theorem runF (l : List UInt8) (w : World) (hm : l.length ≤ 1000) :
    Calls Tryz.prog 113 #[.string ⟨l.toArray⟩, .bool false] w fun e w' => e = .returned (.tuple #[.string ⟨(Vm.oths l).toArray⟩, .string ⟨(Vm.unoths l).toArray⟩]) ∧ Below w.heap.size w w' := by
  have := run_any l false w hm; rw [(run_false l).1, (run_false l).2] at this; exact this
/-- It ends here, or a digit begins it. -/
def HdD (l : List UInt8) : Prop := l = [] ∨ Vm.digs l ≠ []
theorem hdD_unoths (l : List UInt8) : HdD (Vm.unoths l) := by
  unfold HdD Vm.unoths Vm.digs
  induction l with
  | nil => left; rfl
  | cons c r ih =>
    cases hd : Vm.dig c
    · simp [hd]; simpa using ih
    · right; simp [hd]
theorem hdO_undigs (l : List UInt8) : Vm.undigs l = [] ∨ Vm.oths (Vm.undigs l) ≠ [] := by
  unfold Vm.undigs Vm.oths
  induction l with
  | nil => left; rfl
  | cons c r ih =>
    cases hd : Vm.dig c
    · right; simp [hd]
    · simp [hd]; simpa using ih
theorem hdD_part {l : List UInt8} (h : Vm.partOk l = true) : HdD l := by
  right
  match l, partOk_ne h, h with
  | c :: r, _, h =>
    rw [partOk_cons _ (by simp)] at h
    simp only [Bool.and_eq_true, List.getElem_cons_zero] at h
    simp [Vm.digs, h.1]
theorem undigs_lt {l : List UInt8} (h : Vm.digs l ≠ []) : (Vm.undigs l).length < l.length := by
  have h1 : Vm.digs l ++ Vm.undigs l = l := List.takeWhile_append_dropWhile
  have := congrArg List.length h1; rw [List.length_append] at this
  have := List.length_pos_iff.2 h; omega
theorem unoths_lt {l : List UInt8} (h : Vm.oths l ≠ []) : (Vm.unoths l).length < l.length := by
  have h1 : Vm.oths l ++ Vm.unoths l = l := List.takeWhile_append_dropWhile
  have := congrArg List.length h1; rw [List.length_append] at this
  have := List.length_pos_iff.2 h; omega
/-- The reference's loop: what is gathered, what is left, which kind of run comes next. -/
def CanSt (l y c : List UInt8) (b : Bool) : Prop := y.length + 2 * c.length ≤ 2 * l.length ∧
  (if b then HdD c ∧ ∃ m, c.length ≤ m ∧ Vm.canonP 41 l = y ++ Vm.canonP m c else (c = [] ∨ Vm.oths c ≠ []) ∧ ∃ m, (Vm.unoths c).length ≤ m ∧ Vm.canonP 41 l = y ++ (Vm.oths c ++ Vm.canonP m (Vm.unoths c)))
theorem canSt_start (l : List UInt8) (hl : l.length ≤ 41) (h : HdD l) : CanSt l [] l true := ⟨by simp, h, 41, hl, rfl⟩
theorem canSt_end {l y : List UInt8} {b : Bool} (h : CanSt l y [] b) : Vm.canonP 41 l = y := by
  obtain ⟨_, h⟩ := h
  cases b
  · obtain ⟨_, m, _, h⟩ := h
    rw [h, show Vm.unoths [] = [] from rfl, show Vm.oths [] = [] from rfl, canonP_end _ _ rfl]; simp
  · obtain ⟨_, m, _, h⟩ := h
    rw [h, canonP_end _ _ rfl]; simp
theorem canSt_digs {l y c : List UInt8} (h : CanSt l y c true) (hc : c.isEmpty = false) : CanSt l (y ++ bareR (Vm.digs c)) (Vm.undigs c) false ∧ (Vm.undigs c).length < c.length ∧ (bareR (Vm.digs c)).length ≤ 2 * l.length := by
  obtain ⟨hl, hd, m, hm, h⟩ := h
  have hne : Vm.digs c ≠ [] := by
    rcases hd with hd | hd
    · subst hd; cases hc
    · exact hd
  have hlt := undigs_lt hne
  have h1 : Vm.digs c ++ Vm.undigs c = c := List.takeWhile_append_dropWhile
  have h2 := congrArg List.length h1
  rw [List.length_append] at h2
  have h3 := bare_le (Vm.digs c)
  have h4 := List.length_pos_iff.2 hne
  rw [bareR_eq _ hne]
  refine ⟨⟨by rw [List.length_append]; omega, hdO_undigs c, ?_⟩, hlt, by omega⟩
  obtain ⟨m', rfl⟩ : ∃ m', m = m' + 1 := ⟨m - 1, by omega⟩
  have h5 := tail2_lt c hc
  refine ⟨m', by show (Vm.tail2 c).length ≤ m'; omega, ?_⟩
  rw [h, canonP_step m' c hc]
  simp only [List.append_assoc]; rfl
theorem canSt_oths {l y c : List UInt8} (h : CanSt l y c false) (hc : c.isEmpty = false) : CanSt l (y ++ Vm.oths c) (Vm.unoths c) true ∧ (Vm.unoths c).length < c.length ∧ (Vm.oths c).length ≤ 2 * l.length := by
  obtain ⟨hl, hd, m, hm, h⟩ := h
  have hne : Vm.oths c ≠ [] := by
    rcases hd with hd | hd
    · subst hd; cases hc
    · exact hd
  have hlt := unoths_lt hne
  have h1 : Vm.oths c ++ Vm.unoths c = c := List.takeWhile_append_dropWhile
  have h2 := congrArg List.length h1
  rw [List.length_append] at h2
  refine ⟨⟨by rw [List.length_append]; omega, hdD_unoths c, m, hm, ?_⟩, hlt, by omega⟩
  rw [h]; simp only [List.append_assoc]
set_option maxHeartbeats 800000 in
theorem refCanonP_any (l : List UInt8) (w : World) (hl : l.length ≤ 41) (h : Vm.partOk l = true) :
    Calls Tryz.prog 109 #[.string ⟨l.toArray⟩] w fun e w' => e = .returned (.string ⟨(Vm.canonP 41 l).toArray⟩) ∧ Below w.heap.size w w' := by
  have hnot : ∀ (x : Bool) (w : World), (Op.unary .not (.bool x)).run Tryz.prog w = .ok (.bool (!x)) w := fun _ _ => rfl
  have HS0 := Lib.hid (canSt_start l hl (hdD_part h))
  clear h
  go_enter Tryz.func109, Tryz.ntmps109
  go_wp2_with fail
  go_loopw [0, 3, 4] (fun s o d wr => ∃ (y c : List UInt8) (b : Bool), c.length ≤ 41 ∧ y.length ≤ 200 ∧ s = .string ⟨c.toArray⟩ ∧ o = .string ⟨y.toArray⟩ ∧ d = .bool b ∧ Hid (CanSt l y c b) ∧ Below w.heap.size w wr) (fun s _ _ _ => strLen s)
  case atStart => exact ⟨[], l, true, hl, by simp, rfl, rfl, rfl, HS0, Below.refl _ _⟩
  case round =>
    obtain ⟨y, c, b, hc, hy, rfl, rfl, rfl, HS, hbel⟩ := hrel
    cases he : c.isEmpty
    · cases b
      · obtain ⟨g1, g2, g3⟩ := canSt_oths HS.out he
        have HS1 := Lib.hid g1
        have HLT := Lib.hid g2
        have hyl := g1.1
        rw [List.length_append] at hyl
        clear g1 g2 HS
        go_wp2_with fail
        refine (runF c _ (by omega)).mono ?_
        rintro e w1 ⟨rfl, hb⟩
        have hbel1 : Below w.heap.size w w1 := hbel.trans (hb.mono hbel.size)
        clear hb hbel
        obtain ⟨z, hz⟩ : ∃ z, Vm.oths c = z := ⟨_, rfl⟩
        rw [hz] at HS1 g3 hyl
        rw [hz]
        clear hz
        go_wp2_with fail
        go_roundw
        case rel => exact ⟨y ++ z, Vm.unoths c, true, by omega, by rw [List.length_append]; omega, rfl, by rw [ByteArray.mk_append_mk], rfl, HS1, hbel1⟩
        case measure => have := HLT.out; simpa [strLen] using this
      · obtain ⟨g1, g2, g3⟩ := canSt_digs HS.out he
        have HS1 := Lib.hid g1
        have HLT := Lib.hid g2
        have hyl := g1.1
        rw [List.length_append] at hyl
        have hdl := digs_le c
        clear g1 g2 HS
        go_wp2_with fail
        refine (runT c _ (by omega)).mono ?_
        rintro e w1 ⟨rfl, hb⟩
        have hbel1 : Below w.heap.size w w1 := hbel.trans (hb.mono hbel.size)
        clear hb hbel
        go_wp2_with fail
        refine (refBare_any _ _ (by omega)).mono ?_
        rintro e w2 ⟨rfl, rfl⟩
        obtain ⟨z, hz⟩ : ∃ z, bareR (Vm.digs c) = z := ⟨_, rfl⟩
        rw [hz] at HS1 g3 hyl
        rw [hz]
        clear hz
        go_wp2_with fail
        go_roundw
        case rel => exact ⟨y ++ z, Vm.undigs c, false, by omega, by rw [List.length_append]; omega, rfl, by rw [ByteArray.mk_append_mk], rfl, HS1, hbel1⟩
        case measure => have := HLT.out; simpa [strLen] using this
    · have hc0 : c = [] := by simpa using he
      subst hc0
      have HB := Lib.hid (canSt_end HS.out)
      clear HS
      go_wp2_with fail
      go_ret
      exact ⟨by rw [HB.out]; rfl, hbel⟩

theorem canonP48 : Vm.canonP 41 [48] = [48] := by decide
theorem canonE_no {l : List UInt8} (h : Vm.check l = 0) (h0 : (epR l).isEmpty = true) : Vm.canonE l = [] := by
  have hv := (verOk_of h).2.1
  unfold Vm.canonE
  unfold epR Vm.ep at *
  cases h1 : Vm.has 58 l
  · rfl
  · rw [h1] at h0 hv
    simp only [if_true] at h0 hv
    have : Vm.fst 58 l = [] := by simpa using h0
    rw [this] at hv; cases hv
theorem canonE_yes {l : List UInt8} (h0 : (epR l).isEmpty = false) : Vm.canonE l = (if Vm.bare (epR l) == [48] then [] else Vm.bare (epR l) ++ [58]) ∧ bareR (epR l) = Vm.bare (epR l) ∧ (epR l).length ≤ l.length := by
  refine ⟨?_, bareR_eq _ (by intro h; rw [h] at h0; cases h0), ?_⟩
  · unfold Vm.canonE
    unfold epR Vm.ep at *
    cases h1 : Vm.has 58 l
    · rw [h1] at h0; cases h0
    · rfl
  · unfold epR; split
    · exact fst_le _ _
    · simp
theorem canonR_no {l : List UInt8} (h : Vm.check l = 0) (h0 : (rvR l).isEmpty = true) : Vm.canonR l = [] := by
  have hv := (verOk_of h).2.2.2
  unfold Vm.canonR
  unfold rvR Vm.rv at *
  cases h1 : Vm.has 45 (Vm.rest l)
  · have e : (if false = true then Vm.snd 45 (Vm.rest l) else [48]) = [48] := rfl
    rw [e, canonP48]; rfl
  · rw [h1] at h0 hv
    simp only [if_true] at h0 hv
    have : Vm.snd 45 (Vm.rest l) = [] := by simpa using h0
    rw [this] at hv; cases hv
theorem canonR_yes {l : List UInt8} (h : Vm.check l = 0) (h0 : (rvR l).isEmpty = false) : Vm.canonR l = (if Vm.canonP 41 (rvR l) == [48] then [] else 45 :: Vm.canonP 41 (rvR l)) ∧ Vm.partOk (rvR l) = true ∧ (rvR l).length ≤ 41 := by
  have hv := (verOk_of h).2.2.2
  have hl := (verOk_of h).1
  have hr := rv_le l
  have e : rvR l = Vm.rv l := by
    unfold rvR Vm.rv at *
    cases h1 : Vm.has 45 (Vm.rest l)
    · rw [h1] at h0; cases h0
    · rfl
  rw [e]
  exact ⟨rfl, hv, by omega⟩
theorem canonE_le (l : List UInt8) (h : l.length ≤ 40) : (Vm.canonE l).length ≤ 50 := by
  unfold Vm.canonE
  have h1 := bare_le (Vm.ep l)
  have h2 := ep_le l
  split
  · simp
  · simp; omega
set_option maxHeartbeats 1000000 in
theorem refCanon_any (l : List UInt8) (w : World) :
    Calls Tryz.prog 88 #[.string ⟨l.toArray⟩] w fun e w' => e = .returned (.tuple #[.string ⟨(canonOf l).toArray⟩, .int .i64 (Vm.check l)]) ∧ Below w.heap.size w w' := by
  by_cases hck : Vm.check l = 0
  · have HC : Hid (canonOf l = Vm.canonE l ++ Vm.canonP 41 (Vm.pt l) ++ Vm.canonR l) := by show _ = _; rw [canonOf, if_pos hck]; rfl
    have HK := Lib.hid hck
    have hv := verOk_of hck
    have hl := hv.1
    have lp := pt_le l
    have hEl := canonE_le l hl
    have hPl := canonP_le 41 (Vm.pt l)
    have HVP := Lib.hid hv.2.2.1
    have HA1 : Hid ((epR l).isEmpty = true → Vm.canonE l = []) := canonE_no hck
    have HA2 : Hid ((epR l).isEmpty = false → Vm.canonE l = (if Vm.bare (epR l) == [48] then [] else Vm.bare (epR l) ++ [58]) ∧ bareR (epR l) = Vm.bare (epR l) ∧ (epR l).length ≤ l.length) := canonE_yes
    have HB1 : Hid ((rvR l).isEmpty = true → Vm.canonR l = []) := canonR_no hck
    have HB2 : Hid ((rvR l).isEmpty = false → Vm.canonR l = (if Vm.canonP 41 (rvR l) == [48] then [] else 45 :: Vm.canonP 41 (rvR l)) ∧ Vm.partOk (rvR l) = true ∧ (rvR l).length ≤ 41) := canonR_yes hck
    obtain ⟨e, he⟩ : ∃ e, epR l = e := ⟨_, rfl⟩
    obtain ⟨r, hr⟩ : ∃ r, rvR l = r := ⟨_, rfl⟩
    rw [he] at HA1 HA2
    rw [hr] at HB1 HB2
    obtain ⟨x, hx⟩ : ∃ x, Vm.canonP 41 (Vm.pt l) = x := ⟨_, rfl⟩
    rw [hx] at HC hPl
    have HX := Lib.hid hx
    have HEq := Lib.hid he
    have HRq := Lib.hid hr
    clear hv hck hx he hr
    go_enter Tryz.func88, Tryz.ntmps88
    go_wp2_with fail
    refine (checkVer_any l _).mono ?_
    rintro _ w1 ⟨rfl, rfl⟩
    rw [HK.out]
    go_wp2_with fail
    refine (parts_yes l _ HK.out).mono ?_
    rintro _ w1 ⟨rfl, rfl⟩
    rw [HEq.out, HRq.out]
    go_wp2_with fail
    refine (refCanonP_any _ _ (by omega) HVP.out).mono ?_
    rintro _ w1 ⟨rfl, hb1⟩
    rw [HX.out]
    cases hr0 : r.isEmpty
    · obtain ⟨q1, q2, q3⟩ := HB2.out hr0
      have lc := canonP_le 41 r
      have HQ2 := Lib.hid q2
      obtain ⟨y, hy⟩ : ∃ y, Vm.canonP 41 r = y := ⟨_, rfl⟩
      rw [hy] at q1 lc
      have HY := Lib.hid hy
      cases hz2 : y == [48]
      · have HRF : Hid (Vm.canonR l = 45 :: y) := by show _ = _; rw [q1, hz2]; rfl
        clear hy q1 q2
        cases he0 : e.isEmpty
        · obtain ⟨p1, p2, p3⟩ := HA2.out he0
          obtain ⟨b, hb⟩ : ∃ b, Vm.bare e = b := ⟨_, rfl⟩
          have lb := bare_le e
          rw [hb] at p1 p2 lb
          have HBR := Lib.hid p2
          cases hz : b == [48]
          · obtain ⟨X, hX⟩ : ∃ X, b ++ [58] ++ x = X := ⟨_, rfl⟩
            have hXl : X.length ≤ 200 := by rw [← hX]; simp; omega
            have hap0 : (⟨b.toArray⟩ : ByteArray) ++ ⟨#[58]⟩ ++ ⟨x.toArray⟩ = ⟨X.toArray⟩ := by
              show ByteArray.mk b.toArray ++ ByteArray.mk [58].toArray ++ ByteArray.mk x.toArray = _
              rw [ByteArray.mk_append_mk, ByteArray.mk_append_mk, hX]
            have HXE : Hid (Vm.canonE l ++ x = X) := by show _ = _; rw [p1, hz, ← hX]; rfl
            clear hb p1 p2 hX
            obtain ⟨Z, hZ⟩ : ∃ Z, X ++ [45] ++ y = Z := ⟨_, rfl⟩
            have hap : (⟨X.toArray⟩ : ByteArray) ++ ⟨#[45]⟩ ++ ⟨y.toArray⟩ = ⟨Z.toArray⟩ := by
              show ByteArray.mk (X).toArray ++ ByteArray.mk [45].toArray ++ ByteArray.mk y.toArray = _
              rw [ByteArray.mk_append_mk, ByteArray.mk_append_mk, hZ]
            have HF : Hid (canonOf l = Z) := by show _ = _; rw [HC.out, HRF.out, HXE.out, ← hZ]; simp
            clear hZ
            go_wp2_with fail
            refine (refBare_any e _ (by omega)).mono ?_
            rintro _ w2 ⟨rfl, rfl⟩
            rw [HBR.out]
            go_wp2_with fail
            refine (refBare_any e _ (by omega)).mono ?_
            rintro _ w2 ⟨rfl, rfl⟩
            rw [HBR.out]
            go_wp2_with fail
            refine (refCanonP_any r _ q3 HQ2.out).mono ?_
            rintro _ w2 ⟨rfl, hb2⟩
            rw [HY.out]
            have hb4 : Below w.heap.size w w2 := hb1.trans (hb2.mono hb1.size)
            clear hb1 hb2
            go_wp2_with fail
            refine (refCanonP_any r _ q3 HQ2.out).mono ?_
            rintro _ w3 ⟨rfl, hb2⟩
            rw [HY.out]
            have hb5 : Below w.heap.size w w3 := hb4.trans (hb2.mono hb4.size)
            clear hb4 hb2
            go_wp2_with fail
            go_ret2
            exact ⟨by rw [HF.out, HK.out]; rfl, hb5⟩
          · have HXE : Hid (Vm.canonE l ++ x = x) := by show _ = _; rw [p1, hz]; rfl
            clear hb p1 p2
            obtain ⟨Z, hZ⟩ : ∃ Z, x ++ [45] ++ y = Z := ⟨_, rfl⟩
            have hap : (⟨x.toArray⟩ : ByteArray) ++ ⟨#[45]⟩ ++ ⟨y.toArray⟩ = ⟨Z.toArray⟩ := by
              show ByteArray.mk (x).toArray ++ ByteArray.mk [45].toArray ++ ByteArray.mk y.toArray = _
              rw [ByteArray.mk_append_mk, ByteArray.mk_append_mk, hZ]
            have HF : Hid (canonOf l = Z) := by show _ = _; rw [HC.out, HRF.out, HXE.out, ← hZ]; simp
            clear hZ
            go_wp2_with fail
            refine (refBare_any e _ (by omega)).mono ?_
            rintro _ w2 ⟨rfl, rfl⟩
            rw [HBR.out]
            go_wp2_with fail
            refine (refCanonP_any r _ q3 HQ2.out).mono ?_
            rintro _ w2 ⟨rfl, hb2⟩
            rw [HY.out]
            have hb4 : Below w.heap.size w w2 := hb1.trans (hb2.mono hb1.size)
            clear hb1 hb2
            go_wp2_with fail
            refine (refCanonP_any r _ q3 HQ2.out).mono ?_
            rintro _ w3 ⟨rfl, hb2⟩
            rw [HY.out]
            have hb5 : Below w.heap.size w w3 := hb4.trans (hb2.mono hb4.size)
            clear hb4 hb2
            go_wp2_with fail
            go_ret2
            exact ⟨by rw [HF.out, HK.out]; rfl, hb5⟩
        · have HXE : Hid (Vm.canonE l ++ x = x) := by show _ = _; rw [HA1.out he0]; rfl
          obtain ⟨Z, hZ⟩ : ∃ Z, x ++ [45] ++ y = Z := ⟨_, rfl⟩
          have hap : (⟨x.toArray⟩ : ByteArray) ++ ⟨#[45]⟩ ++ ⟨y.toArray⟩ = ⟨Z.toArray⟩ := by
            show ByteArray.mk (x).toArray ++ ByteArray.mk [45].toArray ++ ByteArray.mk y.toArray = _
            rw [ByteArray.mk_append_mk, ByteArray.mk_append_mk, hZ]
          have HF : Hid (canonOf l = Z) := by show _ = _; rw [HC.out, HRF.out, HXE.out, ← hZ]; simp
          clear hZ
          go_wp2_with fail
          refine (refCanonP_any r _ q3 HQ2.out).mono ?_
          rintro _ w2 ⟨rfl, hb2⟩
          rw [HY.out]
          have hb4 : Below w.heap.size w w2 := hb1.trans (hb2.mono hb1.size)
          clear hb1 hb2
          go_wp2_with fail
          refine (refCanonP_any r _ q3 HQ2.out).mono ?_
          rintro _ w3 ⟨rfl, hb2⟩
          rw [HY.out]
          have hb5 : Below w.heap.size w w3 := hb4.trans (hb2.mono hb4.size)
          clear hb4 hb2
          go_wp2_with fail
          go_ret2
          exact ⟨by rw [HF.out, HK.out]; rfl, hb5⟩
      · have HRF : Hid (Vm.canonR l = []) := by show _ = _; rw [q1, hz2]; rfl
        clear hy q1 q2
        cases he0 : e.isEmpty
        · obtain ⟨p1, p2, p3⟩ := HA2.out he0
          obtain ⟨b, hb⟩ : ∃ b, Vm.bare e = b := ⟨_, rfl⟩
          have lb := bare_le e
          rw [hb] at p1 p2 lb
          have HBR := Lib.hid p2
          cases hz : b == [48]
          · obtain ⟨X, hX⟩ : ∃ X, b ++ [58] ++ x = X := ⟨_, rfl⟩
            have hXl : X.length ≤ 200 := by rw [← hX]; simp; omega
            have hap0 : (⟨b.toArray⟩ : ByteArray) ++ ⟨#[58]⟩ ++ ⟨x.toArray⟩ = ⟨X.toArray⟩ := by
              show ByteArray.mk b.toArray ++ ByteArray.mk [58].toArray ++ ByteArray.mk x.toArray = _
              rw [ByteArray.mk_append_mk, ByteArray.mk_append_mk, hX]
            have HXE : Hid (Vm.canonE l ++ x = X) := by show _ = _; rw [p1, hz, ← hX]; rfl
            clear hb p1 p2 hX
            have HF : Hid (canonOf l = X) := by show _ = _; rw [HC.out, HRF.out, HXE.out]; simp
            go_wp2_with fail
            refine (refBare_any e _ (by omega)).mono ?_
            rintro _ w2 ⟨rfl, rfl⟩
            rw [HBR.out]
            go_wp2_with fail
            refine (refBare_any e _ (by omega)).mono ?_
            rintro _ w2 ⟨rfl, rfl⟩
            rw [HBR.out]
            go_wp2_with fail
            refine (refCanonP_any r _ q3 HQ2.out).mono ?_
            rintro _ w2 ⟨rfl, hb2⟩
            rw [HY.out]
            have hb4 : Below w.heap.size w w2 := hb1.trans (hb2.mono hb1.size)
            clear hb1 hb2
            go_wp2_with fail
            go_ret2
            exact ⟨by rw [HF.out, HK.out]; rfl, hb4⟩
          · have HXE : Hid (Vm.canonE l ++ x = x) := by show _ = _; rw [p1, hz]; rfl
            clear hb p1 p2
            have HF : Hid (canonOf l = x) := by show _ = _; rw [HC.out, HRF.out, HXE.out]; simp
            go_wp2_with fail
            refine (refBare_any e _ (by omega)).mono ?_
            rintro _ w2 ⟨rfl, rfl⟩
            rw [HBR.out]
            go_wp2_with fail
            refine (refCanonP_any r _ q3 HQ2.out).mono ?_
            rintro _ w2 ⟨rfl, hb2⟩
            rw [HY.out]
            have hb4 : Below w.heap.size w w2 := hb1.trans (hb2.mono hb1.size)
            clear hb1 hb2
            go_wp2_with fail
            go_ret2
            exact ⟨by rw [HF.out, HK.out]; rfl, hb4⟩
        · have HXE : Hid (Vm.canonE l ++ x = x) := by show _ = _; rw [HA1.out he0]; rfl
          have HF : Hid (canonOf l = x) := by show _ = _; rw [HC.out, HRF.out, HXE.out]; simp
          go_wp2_with fail
          refine (refCanonP_any r _ q3 HQ2.out).mono ?_
          rintro _ w2 ⟨rfl, hb2⟩
          rw [HY.out]
          have hb4 : Below w.heap.size w w2 := hb1.trans (hb2.mono hb1.size)
          clear hb1 hb2
          go_wp2_with fail
          go_ret2
          exact ⟨by rw [HF.out, HK.out]; rfl, hb4⟩
    · have HRF : Hid (Vm.canonR l = []) := HB1.out hr0
      cases he0 : e.isEmpty
      · obtain ⟨p1, p2, p3⟩ := HA2.out he0
        obtain ⟨b, hb⟩ : ∃ b, Vm.bare e = b := ⟨_, rfl⟩
        have lb := bare_le e
        rw [hb] at p1 p2 lb
        have HBR := Lib.hid p2
        cases hz : b == [48]
        · obtain ⟨X, hX⟩ : ∃ X, b ++ [58] ++ x = X := ⟨_, rfl⟩
          have hXl : X.length ≤ 200 := by rw [← hX]; simp; omega
          have hap0 : (⟨b.toArray⟩ : ByteArray) ++ ⟨#[58]⟩ ++ ⟨x.toArray⟩ = ⟨X.toArray⟩ := by
            show ByteArray.mk b.toArray ++ ByteArray.mk [58].toArray ++ ByteArray.mk x.toArray = _
            rw [ByteArray.mk_append_mk, ByteArray.mk_append_mk, hX]
          have HXE : Hid (Vm.canonE l ++ x = X) := by show _ = _; rw [p1, hz, ← hX]; rfl
          clear hb p1 p2 hX
          have HF : Hid (canonOf l = X) := by show _ = _; rw [HC.out, HRF.out, HXE.out]; simp
          go_wp2_with fail
          refine (refBare_any e _ (by omega)).mono ?_
          rintro _ w2 ⟨rfl, rfl⟩
          rw [HBR.out]
          go_wp2_with fail
          refine (refBare_any e _ (by omega)).mono ?_
          rintro _ w2 ⟨rfl, rfl⟩
          rw [HBR.out]
          go_wp2_with fail
          go_ret2
          exact ⟨by rw [HF.out, HK.out]; rfl, hb1⟩
        · have HXE : Hid (Vm.canonE l ++ x = x) := by show _ = _; rw [p1, hz]; rfl
          clear hb p1 p2
          have HF : Hid (canonOf l = x) := by show _ = _; rw [HC.out, HRF.out, HXE.out]; simp
          go_wp2_with fail
          refine (refBare_any e _ (by omega)).mono ?_
          rintro _ w2 ⟨rfl, rfl⟩
          rw [HBR.out]
          go_wp2_with fail
          go_ret2
          exact ⟨by rw [HF.out, HK.out]; rfl, hb1⟩
      · have HXE : Hid (Vm.canonE l ++ x = x) := by show _ = _; rw [HA1.out he0]; rfl
        have HF : Hid (canonOf l = x) := by show _ = _; rw [HC.out, HRF.out, HXE.out]; simp
        go_wp2_with fail
        go_ret2
        exact ⟨by rw [HF.out, HK.out]; rfl, hb1⟩
  · have HC : Hid (canonOf l = []) := by show _ = _; rw [canonOf, if_neg hck]
    have hne : (Vm.check l != 0) = true := by simpa using hck
    go_enter Tryz.func88, Tryz.ntmps88
    go_wp2_with fail
    refine (checkVer_any l _).mono ?_
    rintro _ w1 ⟨rfl, rfl⟩
    obtain ⟨c, hc⟩ : ∃ c, Vm.check l = c := ⟨_, rfl⟩
    rw [hc] at hne
    rw [hc]
    clear hck
    go_wp2_with fail
    go_ret2
    exact ⟨by rw [HC.out, hc]; rfl, Below.refl _ _⟩
end Go.Proofs.YtkdildgdodnbbaaGreatDoor
