/- Words, an entry out of a line: the program's, walked. -/
import Derived.Test.YtojhapnodjabdaaGreatDoorCf
namespace Go.Proofs.YtojhapnodjabdaaGreatDoor
open Go.RowKit Lk At
attribute [local go_sem ↓] Go.wp_at_zero Go.wp_at_succ
theorem Lk.wordC_yes (c : UInt8) (h : wordC c = true) : decide ((c.toNat : Int) < 33) = false ∧ decide ((126 : Int) < (c.toNat : Int)) = false := by
  unfold wordC at h
  rw [Bool.and_eq_true, decide_eq_true_iff, decide_eq_true_iff] at h
  exact ⟨decide_eq_false (by omega), decide_eq_false (by omega)⟩
theorem Lk.wordC_not (c : UInt8) (h : wordC c = false) : decide ((c.toNat : Int) < 33) = true ∨ (decide ((c.toNat : Int) < 33) = false ∧ decide ((126 : Int) < (c.toNat : Int)) = true) := by
  unfold wordC at h
  rw [Bool.and_eq_false_iff, decide_eq_false_iff_not, decide_eq_false_iff_not] at h
  by_cases h1 : c.toNat < 33
  · exact Or.inl (decide_eq_true (by omega))
  · exact Or.inr ⟨decide_eq_false (by omega), decide_eq_true (by omega)⟩
set_option maxRecDepth 100000 in
set_option maxHeartbeats 1600000 in
theorem isWord_any (l : List UInt8) (w : World) (hm : l.length ≤ 1000000) :
    Calls Tryz.prog 79 #[.string ⟨l.toArray⟩] w fun e w' => e = .returned (.bool (wordB l)) ∧ w = w' := by
  obtain ⟨R, hR⟩ : ∃ R, wordB l = R := ⟨_, rfl⟩
  rw [hR]
  have H1 : Hid (l.all wordC = false → R = false) := fun h => by rw [← hR]; unfold wordB; rw [h, Bool.and_false]
  have H2 : Hid (l.all wordC = true → R = !l.isEmpty) := fun h => by rw [← hR]; unfold wordB; rw [h, Bool.and_true]
  clear hR
  go_enter Tryz.func79, Tryz.ntmps79
  go_wp2_with fail
  go_loop [6] (fun i => ∃ k : Nat, k ≤ l.length ∧ i = .int .i64 k ∧ Hid ((l.take k).all wordC = true)) (fun i => l.length - (intOf i).toNat)
  case atStart => exact ⟨0, Nat.zero_le _, rfl, rfl⟩
  case round =>
    obtain ⟨k, hk, rfl, HK⟩ := hrel
    by_cases hlt : k < l.length
    · obtain ⟨c, hc, hc'⟩ := byte_at l k hlt
      have HS := Lib.hid (At.all_snoc (f := wordC) hlt hc')
      have HN : Hid (wordC c = false → R = false) := fun h => H1.out (At.all_no hlt hc' h)
      have HY : Hid (wordC c = true → (l.take (k + 1)).all wordC = true) := fun h => by rw [HS.out, HK.out, h]; rfl
      clear hc' HS HK
      cases h1 : wordC c
      · have HF := Lib.hid (HN.out h1)
        rcases wordC_not c h1 with d1 | ⟨d1, d2⟩
        · clear h1
          go_wp2_with fail
          go_ret
          exact ⟨by rw [HF.out]; rfl, rfl⟩
        · clear h1
          go_wp2_with fail
          go_ret
          exact ⟨by rw [HF.out]; rfl, rfl⟩
      · have HY2 := Lib.hid (HY.out h1)
        obtain ⟨d1, d2⟩ := wordC_yes c h1
        clear h1
        go_wp2_with fail
        go_round
        case rel => exact ⟨k + 1, by omega, by go_num, HY2⟩
        case measure => simp [intOf]; omega
    · have HT : Hid (R = !l.isEmpty) := H2.out (by have := HK.out; rwa [List.take_of_length_le (by omega)] at this)
      cases hE : l.isEmpty
      · have HT2 : Hid (R = true) := by show _ = _; rw [HT.out, hE]; rfl
        go_wp2_with fail
        go_ret
        exact ⟨by rw [HT2.out]; rfl, rfl⟩
      · have HT2 : Hid (R = false) := by show _ = _; rw [HT.out, hE]; rfl
        go_wp2_with fail
        go_ret
        exact ⟨by rw [HT2.out]; rfl, rfl⟩
theorem Lk.cut_lk (s : List UInt8) : (Lib.cut s [32]).1 = Vm.fst 32 s ∧ (Lib.cut s [32]).2.1 = Vm.snd 32 s := by
  rw [cut_has]
  cases h : Vm.has 32 s
  · have h2 : (32 : UInt8) ∉ s := by unfold Vm.has at h; simpa using h
    rw [if_neg (by decide)]
    refine ⟨(fst_none h2).1.symm, ?_⟩
    show [] = _
    unfold Vm.snd
    have hp : ∀ x ∈ s, (x != 32) = true := fun x hx => by simp; exact fun e => h2 (e ▸ hx)
    have h0 : s.dropWhile (fun x => x != 32) = [] := by
      have := List.dropWhile_append_of_pos (l₂ := []) hp
      simpa using this
    rw [h0]; rfl
  · rw [if_pos rfl]; exact ⟨rfl, rfl⟩
theorem Lk.cutB_any (s : List UInt8) (w : World) (hw : MaxOk w) (hs : s.length ≤ 1000000) : ∃ fl, Calls Tryz.prog 78 #[.string ⟨s.toArray⟩, .string ⟨#[32]⟩] w fun e w' => e = .returned (.tuple #[.string ⟨(Vm.fst 32 s).toArray⟩, .string ⟨(Vm.snd 32 s).toArray⟩, .bool fl]) ∧ Below w.heap.size w w' := by
  obtain ⟨m, hm⟩ := hw
  refine ⟨(Lib.cut s [32]).2.2, (Tryz.strings_Cut ⟨s.toArray⟩ ⟨#[32]⟩ m w (by show s.toArray.size < _; rw [List.size_toArray]; omega) hm).mono fun e w' h => ?_⟩
  obtain ⟨h1, n, h2⟩ := h
  refine ⟨?_, h2 ▸ below_drewN (Below.refl _ _) n⟩
  rw [h1]
  show Ending.returned (.tuple #[.string ⟨(Lib.cut s [32]).1.toArray⟩, .string ⟨(Lib.cut s [32]).2.1.toArray⟩, .bool (Lib.cut s [32]).2.2]) = _
  rw [(cut_lk s).1, (cut_lk s).2]
theorem Lk.cut_lens (s : List UInt8) : (Vm.fst 32 s).length ≤ s.length ∧ (Vm.snd 32 s).length ≤ s.length := by
  refine ⟨fst_le _ _, ?_⟩
  unfold Vm.snd
  rw [List.length_drop]
  have h : s.takeWhile (· != 32) ++ s.dropWhile (· != 32) = s := List.takeWhile_append_dropWhile
  have := congrArg List.length h; rw [List.length_append] at this; omega
/-- An entry stored in two cells, and handed back. -/
abbrev Lk.stE (u : World) (b : Nat) (n v : List UInt8) : World := (u.setCell ⟨b, 0, none⟩ (.string ⟨n.toArray⟩)).setCell ⟨b, 1, none⟩ (.string ⟨v.toArray⟩)
theorem Lk.res_ent {u : World} {b : Nat} {n v : List UInt8} {x y : Value} {tmps : Array Value} (k0 : u.cell? ⟨b, 0, none⟩ = some x) (k1 : u.cell? ⟨b, 1, none⟩ = some y) (h : tmps.getD 4 undef = .pointer (some ⟨b, 0, none⟩)) :
    (results Tryz.f57 tmps).run Tryz.prog (stE u b n v) = .ok (.agg #[.string ⟨n.toArray⟩, .string ⟨v.toArray⟩]) (stE u b n v) := by
  have g0 : (stE u b n v).cell? ⟨b, 0, none⟩ = some (.string ⟨n.toArray⟩) := by simp [stE, go_sem, k0]
  have g1 : (stE u b n v).cell? ⟨b, 1, none⟩ = some (.string ⟨v.toArray⟩) := by simp [stE, go_sem, k1]
  have hr : Tryz.f57.results = #[.cell 4 59] := Tryz.results57
  simp only [results, hr]
  generalize stE u b n v = V at *
  simp only [Array.getD_eq_getD_getElem?] at h ⊢
  simp [go_sem, h, g0, g1]
/-- How an entry comes out of a line. -/
def Lk.entR (s : List UInt8) (i : Nat) : Ending := match entOf s with
  | some e => .returned (.agg #[.string ⟨e.1.toArray⟩, .string ⟨e.2.toArray⟩])
  | none => panAt i 2
theorem Lk.entR_yes {s a b : List UInt8} {i : Nat} (h1 : Vm.fst 32 s = a) (h2 : Vm.snd 32 s = b) (h3 : wordB a = true) (h4 : wordB b = true) : entR s i = .returned (.agg #[.string ⟨a.toArray⟩, .string ⟨b.toArray⟩]) := by
  unfold entR entOf; rw [h1, h2, h3, h4]; rfl
theorem Lk.entR_no {s a b : List UInt8} {i : Nat} (h1 : Vm.fst 32 s = a) (h2 : Vm.snd 32 s = b) (h3 : (wordB a && wordB b) = false) : entR s i = panAt i 2 := by
  unfold entR entOf; rw [h1, h2, h3]; rfl
set_option maxRecDepth 100000 in
set_option maxHeartbeats 1600000 in
theorem entryOf_any (s : List UInt8) (i : Nat) (w : World) (hw : MaxOk w) (hs : s.length ≤ 1000000) :
    Calls Tryz.prog 57 #[.string ⟨s.toArray⟩, .int .i64 i] w fun e w' => e = entR s i ∧ Below w.heap.size w w' := by
  obtain ⟨R, hR⟩ : ∃ R, entR s i = R := ⟨_, rfl⟩
  rw [hR]
  obtain ⟨W1, hW1⟩ : ∃ W, w.alloc (.cells #[.string ⟨#[]⟩, .string ⟨#[]⟩] 59) = W := ⟨_, rfl⟩
  have HBW : Hid (Below w.heap.size w W1) := alloc_low hW1
  have HW1 := Lib.hid hW1
  obtain ⟨fl, hc⟩ := cutB_any s W1 (maxOk_below hw HBW.out) hs
  have HC := Lib.hid hc
  obtain ⟨l1, l2⟩ := cut_lens s
  obtain ⟨a, ha⟩ : ∃ a, Vm.fst 32 s = a := ⟨_, rfl⟩
  obtain ⟨b, hb⟩ : ∃ b, Vm.snd 32 s = b := ⟨_, rfl⟩
  rw [ha, hb] at HC
  rw [ha] at l1
  rw [hb] at l2
  have HY : Hid (wordB a = true → wordB b = true → R = .returned (.agg #[.string ⟨a.toArray⟩, .string ⟨b.toArray⟩])) := fun h3 h4 => by rw [← hR]; exact entR_yes ha hb h3 h4
  have HN : Hid ((wordB a && wordB b) = false → R = panAt i 2) := fun h3 => by rw [← hR]; exact entR_no ha hb h3
  have L1 := Lib.hid l1
  have L2 := Lib.hid l2
  have HS := Lib.hid hs
  clear hR hc ha hb l1 l2 hs hw
  go_enter Tryz.func57, Tryz.ntmps57
  go_wp2_with fail
  refine HC.out.mono ?_
  rintro _ u ⟨rfl, hb⟩
  have HB := Lib.hid hb
  have HU : Hid (Below w.heap.size w u) := HBW.out.trans (hb.mono HBW.out.size)
  clear hb HC hW1
  go_wp2_with fail
  refine (isWord_any a _ (Nat.le_trans L1.out HS.out)).mono ?_
  rintro _ z ⟨rfl, rfl⟩
  cases h1 : wordB a
  · have HRR : Hid (R = panAt i 2) := HN.out (by rw [h1]; rfl)
    clear h1
    go_wp2_with fail
    refine (requireAt_no _).mono ?_
    rintro _ z ⟨rfl, rfl⟩
    go_wp2_with fail
    exact ⟨rfl, by rw [HRR.out], HU.out⟩
  · have H1 := Lib.hid h1
    clear h1
    go_wp2_with fail
    refine (isWord_any b _ (Nat.le_trans L2.out HS.out)).mono ?_
    rintro _ z ⟨rfl, rfl⟩
    cases h2 : wordB b
    · have HRR : Hid (R = panAt i 2) := HN.out (by rw [H1.out, h2]; rfl)
      clear h2
      go_wp2_with fail
      refine (requireAt_no _).mono ?_
      rintro _ z ⟨rfl, rfl⟩
      go_wp2_with fail
      exact ⟨rfl, by rw [HRR.out], HU.out⟩
    · have HRR := Lib.hid (HY.out H1.out h2)
      clear h2
      go_wp2_with fail
      refine (requireAt_yes _).mono ?_
      rintro _ z ⟨rfl, rfl⟩
      go_wp2_with fail
      refine (clone_any a _ (by have := L1.out; have := HS.out; omega)).mono ?_
      rintro _ z1 ⟨rfl, hb1⟩
      have HB1 := Lib.hid hb1
      clear hb1
      go_wp2_with fail
      refine (clone_any b _ (by have := L2.out; have := HS.out; omega)).mono ?_
      rintro _ z2 ⟨rfl, hb2⟩
      have HB2 := Lib.hid (HB.out.trans ((HB1.out.trans (hb2.mono HB1.out.size)).mono HB.out.size))
      clear hb2 HB HB1
      obtain ⟨c0, c1, f0, f1⟩ := cell_two HW1.out HB2.out
      go_wp2_with fail
      refine bodyPost_ret (res_ent c0 c1 rfl) rfl ?_
      exact ⟨by rw [HRR.out], ((HBW.out.trans (HB2.out.mono HBW.out.size)).setCell (Nat.le_refl _) _).setCell (Nat.le_refl _) _⟩
end Go.Proofs.YtojhapnodjabdaaGreatDoor
