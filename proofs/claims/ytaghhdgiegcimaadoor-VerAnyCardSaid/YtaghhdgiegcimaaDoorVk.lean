/- compare, Compare, Epoch: two versions, by their pieces. -/
import Derived.Test.YtaghhdgiegcimaaDoorVj
import Derived.Deep.RegionHeld3
namespace Go.Proofs.YtaghhdgiegcimaaDoor
open Go.RowKit

theorem cells3 (w : World) (p q r : Int) (k : Nat) (h : k < [p, q, r].length) : (w.alloc (.cells #[.int .i64 p, .int .i64 q, .int .i64 r] 3)).cell? ⟨w.heap.size, k, none⟩ = some (.int .i64 [p, q, r][k]) := by
  rw [World.cell?_alloc_mark]
  match k, h with
  | 0, _ => rfl
  | 1, _ => rfl
  | 2, _ => rfl
theorem or3 (x y z : Int) : orL [x, y, z] = Vm.both x (Vm.both y z) := by rw [orL, orL, orL, orL, both_zero]

theorem keep_below {w u u' : World} {N : Nat} {e p q f r s : List UInt8} (h : u.cell? ⟨N, 0, none⟩ = some (.string ⟨e.toArray⟩) ∧ u.cell? ⟨N, 1, none⟩ = some (.string ⟨p.toArray⟩) ∧ u.cell? ⟨N, 2, none⟩ = some (.string ⟨q.toArray⟩) ∧ u.cell? ⟨N + 1, 0, none⟩ = some (.string ⟨f.toArray⟩) ∧ u.cell? ⟨N + 1, 1, none⟩ = some (.string ⟨r.toArray⟩) ∧ u.cell? ⟨N + 1, 2, none⟩ = some (.string ⟨s.toArray⟩) ∧ N + 2 ≤ u.heap.size ∧ Below N w u) (hb : Below u.heap.size u u') : u'.cell? ⟨N, 0, none⟩ = some (.string ⟨e.toArray⟩) ∧ u'.cell? ⟨N, 1, none⟩ = some (.string ⟨p.toArray⟩) ∧ u'.cell? ⟨N, 2, none⟩ = some (.string ⟨q.toArray⟩) ∧ u'.cell? ⟨N + 1, 0, none⟩ = some (.string ⟨f.toArray⟩) ∧ u'.cell? ⟨N + 1, 1, none⟩ = some (.string ⟨r.toArray⟩) ∧ u'.cell? ⟨N + 1, 2, none⟩ = some (.string ⟨s.toArray⟩) ∧ N + 2 ≤ u'.heap.size ∧ Below N w u' := by
  obtain ⟨h0, h1, h2, h3, h4, h5, h6, h7⟩ := h
  refine ⟨?_, ?_, ?_, ?_, ?_, ?_, Nat.le_trans h6 hb.size, h7.trans (hb.mono (by omega))⟩
  · rw [hb.cell (by simp; omega)]; exact h0
  · rw [hb.cell (by simp; omega)]; exact h1
  · rw [hb.cell (by simp; omega)]; exact h2
  · rw [hb.cell (by simp; omega)]; exact h3
  · rw [hb.cell (by simp; omega)]; exact h4
  · rw [hb.cell (by simp; omega)]; exact h5
set_option maxRecDepth 100000 in
set_option maxHeartbeats 1600000 in
theorem compareV_any (e p q f r s : List UInt8) (w : World) (hp : p.length ≤ 41) (hq : q.length ≤ 41) (hr : r.length ≤ 41) (hs : s.length ≤ 41) (ap : ascii p) (aq : ascii q) (ar : ascii r) (as_ : ascii s) :
    Calls Tryd.prog 54 #[.agg #[.string ⟨e.toArray⟩, .string ⟨p.toArray⟩, .string ⟨q.toArray⟩], .agg #[.string ⟨f.toArray⟩, .string ⟨r.toArray⟩, .string ⟨s.toArray⟩]] w fun g w' =>
      g = .returned (.int .i64 (Vm.both (Vm.cmpD e f) (Vm.both (Vm.cmpP 41 p r) (Vm.cmpP 41 q s)))) ∧ Below w.heap.size w w' := by
  go_enter Tryd.func54, Tryd.ntmps54
  go_wp2_with fail
  obtain ⟨W, hW⟩ : ∃ W, (w.alloc (.cells #[.string ⟨e.toArray⟩, .string ⟨p.toArray⟩, .string ⟨q.toArray⟩] 67)).alloc (.cells #[.string ⟨f.toArray⟩, .string ⟨r.toArray⟩, .string ⟨s.toArray⟩] 67) = W := ⟨_, rfl⟩
  have hbel : Below w.heap.size w W := by rw [← hW]; exact ((Below.refl _ _).alloc (Nat.le_refl _) _).alloc (by simp) _
  have hsz : w.heap.size + 2 ≤ W.heap.size := by rw [← hW]; simp
  have hb1 : Blk W w.heap.size e p q := by rw [← hW]; unfold Blk; rw [Below.heap_alloc _ _ _ (by simp)]; exact heap_alloc_new w _
  have hb2 : Blk W (w.heap.size + 1) f r s := by
    rw [← hW]
    have h := heap_alloc_new (w.alloc (.cells #[.string ⟨e.toArray⟩, .string ⟨p.toArray⟩, .string ⟨q.toArray⟩] 67)) (.cells #[.string ⟨f.toArray⟩, .string ⟨r.toArray⟩, .string ⟨s.toArray⟩] 67)
    rw [show (w.alloc (.cells #[.string ⟨e.toArray⟩, .string ⟨p.toArray⟩, .string ⟨q.toArray⟩] 67)).heap.size = w.heap.size + 1 from by simp] at h
    exact h
  obtain ⟨hc0, hc1, hc2, _, _, _⟩ := blk_cells hb1
  obtain ⟨hd0, hd1, hd2, _, _, _⟩ := blk_cells hb2
  rw [hW]
  clear hW hb1 hb2
  go_region_held3 (fun w' => w'.cell? ⟨w.heap.size, 0, none⟩ = some (.string ⟨e.toArray⟩) ∧ w'.cell? ⟨w.heap.size, 1, none⟩ = some (.string ⟨p.toArray⟩) ∧ w'.cell? ⟨w.heap.size, 2, none⟩ = some (.string ⟨q.toArray⟩) ∧ w'.cell? ⟨w.heap.size + 1, 0, none⟩ = some (.string ⟨f.toArray⟩) ∧ w'.cell? ⟨w.heap.size + 1, 1, none⟩ = some (.string ⟨r.toArray⟩) ∧ w'.cell? ⟨w.heap.size + 1, 2, none⟩ = some (.string ⟨s.toArray⟩) ∧ w.heap.size + 2 ≤ w'.heap.size ∧ Below w.heap.size w w')
    (first
      | exact ⟨hc0, hc1, hc2, hd0, hd1, hd2, hsz, hbel.drew⟩
      | assumption
      | (refine keep_below ?_ hb; assumption)
      | (refine keep_below ?_ ((Below.refl _ _).alloc (Nat.le_refl _) _); assumption))
    (first
      | (go_at_call 84; refine (compareDigits_any e f _).mono ?_; rintro _ w1 ⟨rfl, hb⟩)
      | (go_at_call 85; refine (compareParts_any 41 _ _ _ (by decide) (by assumption) (by assumption) (by assumption) (by assumption)).mono ?_; rintro _ w1 ⟨rfl, hb⟩)
      | (go_at_call 83; refine (cmpOr_any [_, _, _] _ _ _ (by simp) (cells3 _ _ _ _)).mono ?_; rintro _ w1 ⟨rfl, rfl⟩))
  rename_i HS
  have HB := Lib.hid HS.2.2.2.2.2.2.2
  clear HS
  go_wp2_with fail
  go_ret
  refine ⟨?_, HB.out⟩
  show Ending.returned (.int .i64 (orL [Vm.cmpD e f, Vm.cmpP 41 p r, Vm.cmpP 41 q s])) = _
  rw [or3]

set_option maxHeartbeats 400000 in
theorem compare_any (l m : List UInt8) (w : World) (hw : MaxOk w) (h1 : Vm.check l = 0) (h2 : Vm.check m = 0) :
    Calls Tryd.prog 20 #[.string ⟨l.toArray⟩, .string ⟨m.toArray⟩] w fun e w' => e = .returned (.int .i64 (Vm.cmpV l m)) ∧ Below w.heap.size w w' := by
  have HM := Lib.hid hw
  have H1 := Lib.hid h1
  have H2 := Lib.hid h2
  have HX : Hid (Vm.cmpV l m = Vm.both (Vm.cmpD (Vm.ep l) (Vm.ep m)) (Vm.both (Vm.cmpP 41 (Vm.pt l) (Vm.pt m)) (Vm.cmpP 41 (Vm.rv l) (Vm.rv m)))) := rfl
  clear hw h1 h2
  go_enter_defers Tryd.func20, Tryd.ntmps20
  go_wp2_with fail
  refine (parse_yes l _ HM.out H1.out).mono ?_
  rintro e w1 ⟨rfl, hb⟩
  have HB1 := Lib.hid hb
  clear hb
  go_wp2_with fail
  refine (parse_yes m _ (maxOk_below HM.out HB1.out) H2.out).mono ?_
  rintro e w2 ⟨rfl, hb⟩
  have HB2 := Lib.hid (HB1.out.trans (hb.mono HB1.out.size))
  clear hb HB1
  have HV := Lib.hid (verOk_of H1.out)
  have HV2 := Lib.hid (verOk_of H2.out)
  have l1 := HV.out.1
  have l2 := HV2.out.1
  have l3 := pt_le l
  have l4 := rv_le l
  have l5 := pt_le m
  have l6 := rv_le m
  go_wp2_with fail
  refine (compareV_any _ _ _ _ _ _ _ (by omega) (by omega) (by omega) (by omega) (partOk_ascii HV.out.2.2.1) (partOk_ascii HV.out.2.2.2) (partOk_ascii HV2.out.2.2.1) (partOk_ascii HV2.out.2.2.2)).mono ?_
  rintro e w3 ⟨rfl, hb⟩
  have HB3 := Lib.hid (HB2.out.trans (hb.mono HB2.out.size))
  clear hb HB2
  go_wp2_with fail
  refine leaves_cons (f := 53) (args := #[]) (by simp) (by simp [go_sem]) ?_
  refine (compare1_idle _).mono ?_
  rintro e u' w2 ⟨rfl, rfl, rfl⟩
  simp [Leaves, settle, results, Tryd.results20, go_sem]
  exact ⟨HX.out.symm, HB3.out⟩

theorem digitVal_dig (c : UInt8) (h : Vm.dig c = true) : Lib.digitVal c = some (c.toNat - 48) := by
  unfold Lib.digitVal; unfold Vm.dig at h; rw [if_pos (by simpa using h)]
theorem decFrom_num : ∀ (l : List UInt8) (a : Nat), l.all Vm.dig = true → Lib.decFrom a l = some (l.foldl (fun n c => 10 * n + (c.toNat - 48)) a)
  | [], a, _ => rfl
  | c :: r, a, h => by
    simp only [List.all_cons, Bool.and_eq_true] at h
    rw [Lib.decFrom, digitVal_dig c h.1]
    simp only [List.foldl_cons]
    rw [decFrom_num r _ h.2, Nat.mul_comm a 10]
theorem atoi_num (l : List UInt8) (h : Vm.epOk l = true) : Lib.atoi l = some (Vm.num l : Int) := by
  unfold Vm.epOk at h
  simp only [Bool.and_eq_true] at h
  match l, h with
  | c :: r, h =>
    have hall := h.2.2
    have hc : Vm.dig c = true := by simp only [List.all_cons, Bool.and_eq_true] at hall; exact hall.1
    have h45 : (c == 45) = false := by
      rw [beq_eq_false_iff_ne]; rintro rfl; cases hc
    have h43 : (c == 43) = false := by
      rw [beq_eq_false_iff_ne]; rintro rfl; cases hc
    have e : Lib.decNat (c :: r) = some (Vm.num (c :: r)) := by
      rw [Lib.decNat]; exact decFrom_num _ _ hall
    rw [Lib.atoi, h45, h43, e]
    rfl
set_option maxRecDepth 100000 in
set_option maxHeartbeats 400000 in
theorem epoch_any (l : List UInt8) (w : World) (hw : MaxOk w) (h1 : Vm.check l = 0) :
    Calls Tryd.prog 18 #[.string ⟨l.toArray⟩] w fun e w' => e = .returned (.int .i64 (Vm.num (Vm.ep l))) ∧ Below w.heap.size w w' := by
  have hfl : ∀ (a b c : ByteArray) (W : World), (Instr.field 67 (.agg #[.string a, .string b, .string c]) 0).run Tryd.prog W = .ok (.string a) W := fun _ _ _ _ => by kernel_rfl
  have HM := Lib.hid hw
  have H1 := Lib.hid h1
  clear hw h1
  go_enter_defers Tryd.func18, Tryd.ntmps18
  go_wp2_with fail
  refine (parse_yes l _ HM.out H1.out).mono ?_
  rintro e w1 ⟨rfl, hb⟩
  have HB1 := Lib.hid hb
  clear hb
  have HV := Lib.hid (verOk_of H1.out)
  go_wp2_with fail
  refine (Tryd.strconv_Atoi ⟨(Vm.ep l).toArray⟩ _ ?_ (atoi_num _ HV.out.2.1) _).mono ?_
  · have h := HV.out.2.1
    unfold Vm.epOk at h
    simp only [Bool.and_eq_true, decide_eq_true_eq] at h
    simp [ByteArray.size]; omega
  rintro e w2 ⟨rfl, hb⟩
  have HB2 : Hid (Below w.heap.size w w2) := by
    obtain ⟨t, rfl⟩ := hb
    exact HB1.out.trans ((Lib.bytesWorld_below _ _ _).mono HB1.out.size)
  clear hb HB1
  go_wp2_with fail
  refine leaves_cons (f := 51) (args := #[]) (by simp) (by simp [go_sem]) ?_
  refine (epoch1_idle _).mono ?_
  rintro e u' w2 ⟨rfl, rfl, rfl⟩
  simp [Leaves, settle, results, Tryd.results18, go_sem]
  exact HB2.out
end Go.Proofs.YtaghhdgiegcimaaDoor
