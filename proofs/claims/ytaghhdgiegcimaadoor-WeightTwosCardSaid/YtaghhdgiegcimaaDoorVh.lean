/- parse: the pieces of a version, or the error number with which it panics. -/
import Derived.Test.YtaghhdgiegcimaaDoorVg
namespace Go.Proofs.YtaghhdgiegcimaaDoor
open Go.RowKit

/-- What strings.Cut asks of the world: the library's own variable reads as some number. -/
def MaxOk (w : World) : Prop := ∃ m : Int, w.cell? ⟨4, 0, none⟩ = some (.int .i64 m)
theorem maxOk_lt {w : World} (h : MaxOk w) : 4 < w.heap.size := by
  obtain ⟨m, h⟩ := h
  exact World.block_lt_of_cell? w _ h
theorem maxOk_below {w w' : World} (h : MaxOk w) (hb : Below w.heap.size w w') : MaxOk w' := by
  have hlt := maxOk_lt h
  obtain ⟨m, h⟩ := h
  exact ⟨m, (hb.cell hlt).trans h⟩

theorem index_has (l : List UInt8) (c : UInt8) : Lib.index l [c] = if Vm.has c l then ((Vm.fst c l).length : Int) else -1 := by
  unfold Vm.has Vm.fst
  induction l with
  | nil => rfl
  | cons b l ih =>
    unfold Lib.index
    rw [List.takeWhile_cons, List.contains_cons]
    by_cases hb : c = b
    · subst hb; simp
    · have h1 : (c == b) = false := by simp [hb]
      have h2 : (b != c) = true := by simp; exact fun h => hb h.symm
      simp only [List.isPrefixOf, h1, Bool.false_and, Bool.false_eq_true, if_false, Bool.false_or, h2, if_true]
      rw [ih]
      cases hc : l.contains c
      · simp
      · simp only [if_true, List.length_cons]
        rw [if_neg (by simp)]; omega
theorem cut_has (l : List UInt8) (c : UInt8) : Lib.cut l [c] = if Vm.has c l then (Vm.fst c l, Vm.snd c l, true) else (l, [], false) := by
  unfold Lib.cut
  rw [index_has]
  cases hc : Vm.has c l
  · simp
  · simp only [if_true]
    rw [if_pos (by omega)]
    have e1 : ((Vm.fst c l).length : Int).toNat = (Vm.fst c l).length := by omega
    rw [e1]
    have h2 : l.drop ((Vm.fst c l).length + [c].length) = Vm.snd c l := by
      rw [← List.drop_drop]
      unfold Vm.snd Vm.fst
      rw [tw_drop]; rfl
    rw [h2, show l.take (Vm.fst c l).length = Vm.fst c l from tw_take _ l]
theorem cut_yes (l : List UInt8) (c : UInt8) (w : World) (hm : MaxOk w) (hl : l.length ≤ 1000) (h : Vm.has c l = true) :
    Calls Tryd.prog 73 #[.string ⟨l.toArray⟩, .string ⟨#[c]⟩] w fun e w' => e = .returned (.tuple #[.string ⟨(Vm.fst c l).toArray⟩, .string ⟨(Vm.snd c l).toArray⟩, .bool true]) ∧ ∃ n, w' = w.drewN n := by
  obtain ⟨m, hm⟩ := hm
  refine (Tryd.strings_Cut ⟨l.toArray⟩ ⟨#[c]⟩ m w (by simp [ByteArray.size]; omega) hm).mono fun e w' ⟨h1, h2⟩ => ⟨?_, h2⟩
  rw [h1]
  have e : Lib.cut (⟨l.toArray⟩ : ByteArray).data.toList (⟨#[c]⟩ : ByteArray).data.toList = Lib.cut l [c] := rfl
  rw [e, cut_has, h]; rfl
theorem cut_no (l : List UInt8) (c : UInt8) (w : World) (hm : MaxOk w) (hl : l.length ≤ 1000) (h : Vm.has c l = false) :
    Calls Tryd.prog 73 #[.string ⟨l.toArray⟩, .string ⟨#[c]⟩] w fun e w' => e = .returned (.tuple #[.string ⟨l.toArray⟩, .string ⟨#[]⟩, .bool false]) ∧ ∃ n, w' = w.drewN n := by
  obtain ⟨m, hm⟩ := hm
  refine (Tryd.strings_Cut ⟨l.toArray⟩ ⟨#[c]⟩ m w (by simp [ByteArray.size]; omega) hm).mono fun e w' ⟨h1, h2⟩ => ⟨?_, h2⟩
  rw [h1]
  have e : Lib.cut (⟨l.toArray⟩ : ByteArray).data.toList (⟨#[c]⟩ : ByteArray).data.toList = Lib.cut l [c] := rfl
  rw [e, cut_has, h]; rfl

theorem requireEpoch_yes (l : List UInt8) (w : World) (hm : l.length ≤ 100) (h : Vm.epOk l = true) : Calls Tryd.prog 74 #[.string ⟨l.toArray⟩] w fun e w' => e = .returned (.tuple #[]) ∧ w = w' := by
  have := requireEpoch_any l w hm; rw [h] at this; exact this
theorem requireEpoch_no (l : List UInt8) (w : World) (hm : l.length ≤ 100) (h : Vm.epOk l = false) : Calls Tryd.prog 74 #[.string ⟨l.toArray⟩] w fun e w' => e = pan 5 ∧ w = w' := by
  have := requireEpoch_any l w hm; rw [h] at this; exact this
theorem requirePart_yes (l : List UInt8) (w : World) (hm : l.length ≤ 100) (h : Vm.partOk l = true) : Calls Tryd.prog 75 #[.string ⟨l.toArray⟩] w fun e w' => e = .returned (.tuple #[]) ∧ w = w' := by
  have := requirePart_any l w hm; rw [h] at this; exact this
theorem requirePart_no (l : List UInt8) (w : World) (hm : l.length ≤ 100) (h : Vm.partOk l = false) : Calls Tryd.prog 75 #[.string ⟨l.toArray⟩] w fun e w' => e = pan 5 ∧ w = w' := by
  have := requirePart_any l w hm; rw [h] at this; exact this

set_option maxHeartbeats 400000 in
theorem parse_long (l : List UInt8) (w : World) (h : 40 < l.length) :
    Calls Tryd.prog 45 #[.string ⟨l.toArray⟩] w fun e w' => e = pan 4 ∧ Below w.heap.size w w' := by
  go_enter Tryd.func45, Tryd.ntmps45
  go_wp2_with fail
  rw [show decide ((l.length : Int) ≤ 40) = false from by simp; omega]
  refine (require_no _).mono ?_
  rintro e w' ⟨rfl, rfl⟩
  go_wp2_with fail
  exact ⟨rfl, rfl, (Below.refl _ _).alloc (Nat.le_refl _) _⟩

theorem fst_no (l : List UInt8) (c : UInt8) (h : Vm.has c l = false) : Vm.fst c l = l := by
  have h1 := tw_take (· != c) l
  have h2 : ¬ (Vm.fst c l).length < l.length := fun hh => by have := (has_iff l c).2 hh; rw [h] at this; cases this
  have h3 := tw_le (· != c) l
  unfold Vm.fst at *
  rw [List.take_of_length_le (by omega)] at h1
  exact h1.symm
theorem snd_le (c : UInt8) (l : List UInt8) : (Vm.snd c l).length ≤ l.length := by
  unfold Vm.snd
  have h : l.takeWhile (· != c) ++ l.dropWhile (· != c) = l := List.takeWhile_append_dropWhile
  have := congrArg List.length h; rw [List.length_append] at this
  rw [List.length_drop]; omega
/-- How parse ends, of pieces e, p, q. -/
def ended (e p q : List UInt8) : Ending := if Vm.epOk e && (Vm.partOk p && Vm.partOk q) then .returned (.agg #[.string ⟨e.toArray⟩, .string ⟨p.toArray⟩, .string ⟨q.toArray⟩]) else pan 5
def parsed (l : List UInt8) : Ending := ended (Vm.ep l) (Vm.pt l) (Vm.rv l)
theorem pieces (l : List UInt8) : ∃ r, Vm.rest l = r ∧ r.length ≤ l.length ∧
    ((Vm.has 58 l = true ∧ Vm.fst 58 l = Vm.ep l ∧ Vm.snd 58 l = r) ∨ (Vm.has 58 l = false ∧ [48] = Vm.ep l ∧ l = r)) ∧
    ((Vm.has 45 r = true ∧ Vm.fst 45 r = Vm.pt l ∧ Vm.snd 45 r = Vm.rv l) ∨ (Vm.has 45 r = false ∧ r = Vm.pt l ∧ [48] = Vm.rv l)) := by
  refine ⟨Vm.rest l, rfl, ?_, ?_, ?_⟩
  · unfold Vm.rest; split
    · exact snd_le _ _
    · exact Nat.le_refl _
  · unfold Vm.ep Vm.rest
    cases h : Vm.has 58 l
    · right; exact ⟨rfl, rfl, rfl⟩
    · left; exact ⟨rfl, rfl, rfl⟩
  · unfold Vm.pt Vm.rv
    cases h : Vm.has 45 (Vm.rest l)
    · right; exact ⟨rfl, (fst_no _ _ h).symm, rfl⟩
    · left; exact ⟨rfl, rfl, rfl⟩
theorem ep_le (l : List UInt8) : (Vm.ep l).length ≤ l.length + 1 := by
  unfold Vm.ep; split
  · have := fst_le l 58; omega
  · simp
theorem pt_le (l : List UInt8) : (Vm.pt l).length ≤ l.length := by
  unfold Vm.pt
  have h1 := fst_le (Vm.rest l) 45
  obtain ⟨r, h2, h3, _⟩ := pieces l
  rw [h2] at h1 ⊢; omega
theorem rv_le (l : List UInt8) : (Vm.rv l).length ≤ l.length + 1 := by
  unfold Vm.rv; split
  · have h1 := snd_le 45 (Vm.rest l)
    obtain ⟨r, h2, h3, _⟩ := pieces l
    rw [h2] at h1 ⊢; omega
  · simp

/- PSTATE -/
/-- A block of three texts. -/
def Blk (w : World) (b : Nat) (x y z : List UInt8) : Prop := w.heap[b]? = some (.cells #[.string ⟨x.toArray⟩, .string ⟨y.toArray⟩, .string ⟨z.toArray⟩] 67 (0, 0))
theorem blk_cells {w : World} {b : Nat} {x y z : List UInt8} (h : Blk w b x y z) : w.cell? ⟨b, 0, none⟩ = some (.string ⟨x.toArray⟩) ∧ w.cell? ⟨b, 1, none⟩ = some (.string ⟨y.toArray⟩) ∧ w.cell? ⟨b, 2, none⟩ = some (.string ⟨z.toArray⟩) ∧
    w.frozen? ⟨b, 0, none⟩ = false ∧ w.frozen? ⟨b, 1, none⟩ = false ∧ w.frozen? ⟨b, 2, none⟩ = false := by
  unfold Blk at h
  refine ⟨?_, ?_, ?_, ?_, ?_, ?_⟩ <;> simp [World.cell?, World.frozen?, h]
theorem blk_set0 {w : World} {b : Nat} {x y z : List UInt8} (h : Blk w b x y z) (v : List UInt8) : Blk (w.setCell ⟨b, 0, none⟩ (.string ⟨v.toArray⟩)) b v y z := by
  unfold Blk at *; simp [World.setCell, Array.getElem?_modify, h]
theorem blk_set1 {w : World} {b : Nat} {x y z : List UInt8} (h : Blk w b x y z) (v : List UInt8) : Blk (w.setCell ⟨b, 1, none⟩ (.string ⟨v.toArray⟩)) b x v z := by
  unfold Blk at *; simp [World.setCell, Array.getElem?_modify, h]
theorem blk_set2 {w : World} {b : Nat} {x y z : List UInt8} (h : Blk w b x y z) (v : List UInt8) : Blk (w.setCell ⟨b, 2, none⟩ (.string ⟨v.toArray⟩)) b x y v := by
  unfold Blk at *; simp [World.setCell, Array.getElem?_modify, h]
theorem blk_other {w : World} {b c i : Nat} {x y z : List UInt8} (h : Blk w b x y z) (hn : c ≠ b) (v : Value) : Blk (w.setCell ⟨c, i, none⟩ v) b x y z := by
  unfold Blk at *; simp [World.setCell, Array.getElem?_modify, h, hn]
/-- parse's two variables, behind w's blocks. -/
def PSt (w W : World) (x y z : List UInt8) : Prop := Below w.heap.size w W ∧ W.heap.size = w.heap.size + 2 ∧ Blk W w.heap.size [] [] [] ∧ Blk W (w.heap.size + 1) x y z
theorem pst_new (w : World) (l : List UInt8) : PSt w ((w.alloc (.cells #[.string ⟨#[]⟩, .string ⟨#[]⟩, .string ⟨#[]⟩] 67)).alloc (.cells #[.string ⟨#[48]⟩, .string ⟨l.toArray⟩, .string ⟨#[48]⟩] 67)) [48] l [48] := by
  refine ⟨((Below.refl _ _).alloc (Nat.le_refl _) _).alloc (by simp) _, by simp, ?_, ?_⟩
  · unfold Blk
    rw [Below.heap_alloc _ _ _ (by simp)]; exact heap_alloc_new w _
  · have h := heap_alloc_new (w.alloc (.cells #[.string ⟨#[]⟩, .string ⟨#[]⟩, .string ⟨#[]⟩] 67)) (.cells #[.string ⟨#[48]⟩, .string ⟨l.toArray⟩, .string ⟨#[48]⟩] 67)
    rw [show (w.alloc (.cells #[.string ⟨#[]⟩, .string ⟨#[]⟩, .string ⟨#[]⟩] 67)).heap.size = w.heap.size + 1 from by simp] at h
    exact h
theorem pst_draw {w W W' : World} {x y z : List UInt8} (h : PSt w W x y z) (hd : ∃ n, W' = W.drewN n) : PSt w W' x y z := by
  obtain ⟨n, rfl⟩ := hd
  exact ⟨below_drewN h.1 n, h.2.1, h.2.2.1, h.2.2.2⟩
theorem pst_01 {w W : World} {x y z : List UInt8} (h : PSt w W x y z) (a b : List UInt8) : PSt w ((W.setCell ⟨w.heap.size + 1, 0, none⟩ (.string ⟨a.toArray⟩)).setCell ⟨w.heap.size + 1, 1, none⟩ (.string ⟨b.toArray⟩)) a b z :=
  ⟨(h.1.setCell (Nat.le_succ _) _).setCell (Nat.le_succ _) _, by simp only [World.setCell, Array.size_modify]; exact h.2.1, blk_other (blk_other h.2.2.1 (by omega) _) (by omega) _, blk_set1 (blk_set0 h.2.2.2 a) b⟩
theorem pst_12 {w W : World} {x y z : List UInt8} (h : PSt w W x y z) (a b : List UInt8) : PSt w ((W.setCell ⟨w.heap.size + 1, 1, none⟩ (.string ⟨a.toArray⟩)).setCell ⟨w.heap.size + 1, 2, none⟩ (.string ⟨b.toArray⟩)) x a b :=
  ⟨(h.1.setCell (Nat.le_succ _) _).setCell (Nat.le_succ _) _, by simp only [World.setCell, Array.size_modify]; exact h.2.1, blk_other (blk_other h.2.2.1 (by omega) _) (by omega) _, blk_set2 (blk_set1 h.2.2.2 a) b⟩

set_option maxHeartbeats 1000000 in
theorem parse_any (l : List UInt8) (w : World) (hw : MaxOk w) (h : l.length ≤ 40) :
    Calls Tryd.prog 45 #[.string ⟨l.toArray⟩] w fun e w' => e = parsed l ∧ Below w.heap.size w w' := by
  obtain ⟨r, _, hrl, hA, hB⟩ := pieces l
  have le := ep_le l
  have lp := pt_le l
  have lq := rv_le l
  have HP : Hid (parsed l = ended (Vm.ep l) (Vm.pt l) (Vm.rv l)) := rfl
  generalize Vm.ep l = e at *
  generalize Vm.pt l = p at *
  generalize Vm.rv l = q at *
  have hw' : ∀ (W : World) (x y z : List UInt8), PSt w W x y z → MaxOk W := fun W x y z hb => maxOk_below hw hb.1
  have HW := Lib.hid hw'
  clear hw hw'
  rcases hA with ⟨a1, a2, a3⟩ | ⟨a1, a2, a3⟩
  · have A1 := Lib.hid a1
    clear a1
    go_enter Tryd.func45, Tryd.ntmps45
    go_wp2_with fail
    rw [show decide ((l.length : Int) ≤ 40) = true from by simp; omega]
    refine (require_yes _).mono ?_
    rintro e0 w0 ⟨rfl, rfl⟩
    go_wp2_with fail
    have HS0 := Lib.hid (pst_new w l)
    refine (cut_yes l 58 _ (HW.out _ _ _ _ HS0.out) (by omega) A1.out).mono ?_
    rintro e1 w1 ⟨g1, g2⟩; subst g1
    have HS := Lib.hid (pst_draw HS0.out g2)
    clear g2 HS0
    obtain ⟨hc0, hc1, hc2, hf0, hf1, hf2⟩ := blk_cells HS.out.2.2.2
    go_wp2_with fail
    rcases hB with ⟨b1, b2, b3⟩ | ⟨b1, b2, b3⟩
    · have B1 := Lib.hid b1
      clear b1
      have HS1 : Hid (PSt w ((w1.setCell ⟨w.heap.size + 1, 0, none⟩ (.string ⟨e.toArray⟩)).setCell ⟨w.heap.size + 1, 1, none⟩ (.string ⟨r.toArray⟩)) e r [48]) := pst_01 HS.out e r
      refine (cut_yes r 45 _ (HW.out _ _ _ _ HS1.out) (by omega) B1.out).mono ?_
      rintro e2 w2 ⟨g1, g2⟩; subst g1
      have HS2 := Lib.hid (pst_draw HS1.out g2)
      clear g2 HS1 HS hc0 hc1 hc2 hf0 hf1 hf2
      have HS := HS2
      clear HS2
      obtain ⟨hc0, hc1, hc2, hf0, hf1, hf2⟩ := blk_cells HS.out.2.2.2
      go_wp2_with fail
      have HS3 : Hid (PSt w ((w2.setCell ⟨w.heap.size + 1, 1, none⟩ (.string ⟨p.toArray⟩)).setCell ⟨w.heap.size + 1, 2, none⟩ (.string ⟨q.toArray⟩)) e p q) := pst_12 HS.out p q
      cases he : Vm.epOk e
      · have HEe := Lib.hid he
        clear he
        refine (requireEpoch_no e _ (by omega) HEe.out).mono ?_
        rintro e2 w2 ⟨g1, g2⟩; subst g1
        have HB := Lib.hid (g2 ▸ HS3.out.1 : Below w.heap.size w w2)
        clear g2
        go_wp2_with fail
        exact ⟨rfl, by rw [HP.out, ended, HEe.out]; rfl, HB.out⟩
      · have HEe := Lib.hid he
        clear he
        refine (requireEpoch_yes e _ (by omega) HEe.out).mono ?_
        rintro e2 w2 ⟨g1, g2⟩; subst g1
        have HS4 := Lib.hid (g2 ▸ HS3.out : PSt w w2 e p q)
        clear g2 hc0 hc1 hc2 hf0 hf1 hf2 HS HS3
        obtain ⟨hc0, hc1, hc2, hf0, hf1, hf2⟩ := blk_cells HS4.out.2.2.2
        obtain ⟨hd0, hd1, hd2, he0, he1, he2⟩ := blk_cells HS4.out.2.2.1
        go_wp2_with fail
        cases hp : Vm.partOk p
        · have HEp := Lib.hid hp
          clear hp
          refine (requirePart_no p _ (by omega) HEp.out).mono ?_
          rintro e3 w3 ⟨g1, g2⟩; subst g1
          have HB := Lib.hid (g2 ▸ HS4.out.1 : Below w.heap.size w w3)
          clear g2
          go_wp2_with fail
          exact ⟨rfl, by rw [HP.out, ended, HEe.out, HEp.out]; rfl, HB.out⟩
        · have HEp := Lib.hid hp
          clear hp
          refine (requirePart_yes p _ (by omega) HEp.out).mono ?_
          rintro e3 w3 ⟨g1, g2⟩; subst g2; subst g1
          go_wp2_with fail
          cases hq : Vm.partOk q
          · have HEq := Lib.hid hq
            clear hq
            refine (requirePart_no q _ (by omega) HEq.out).mono ?_
            rintro e3 w3 ⟨g1, g2⟩; subst g1
            have HB := Lib.hid (g2 ▸ HS4.out.1 : Below w.heap.size w w3)
            clear g2
            go_wp2_with fail
            exact ⟨rfl, by rw [HP.out, ended, HEe.out, HEp.out, HEq.out]; rfl, HB.out⟩
          · have HEq := Lib.hid hq
            clear hq
            refine (requirePart_yes q _ (by omega) HEq.out).mono ?_
            rintro e3 w3 ⟨g1, g2⟩; subst g2; subst g1
            go_wp2_with fail
            refine bodyPost_ret (v := .agg #[.string ⟨e.toArray⟩, .string ⟨p.toArray⟩, .string ⟨q.toArray⟩]) (by simp [results, Tryd.results45, go_sem, hd0, hd1, hd2]) rfl ⟨by rw [HP.out, ended, HEe.out, HEp.out, HEq.out]; rfl, ?_⟩
            exact ((HS4.out.1.setCell (Nat.le_refl _) _).setCell (Nat.le_refl _) _).setCell (Nat.le_refl _) _
    · have B1 := Lib.hid b1
      clear b1
      subst b2 b3
      have HS1 : Hid (PSt w ((w1.setCell ⟨w.heap.size + 1, 0, none⟩ (.string ⟨e.toArray⟩)).setCell ⟨w.heap.size + 1, 1, none⟩ (.string ⟨r.toArray⟩)) e r [48]) := pst_01 HS.out e r
      refine (cut_no r 45 _ (HW.out _ _ _ _ HS1.out) (by omega) B1.out).mono ?_
      rintro e2 w2 ⟨g1, g2⟩; subst g1
      have HS2 := Lib.hid (pst_draw HS1.out g2)
      clear g2 HS1 HS hc0 hc1 hc2 hf0 hf1 hf2
      have HS := HS2
      clear HS2
      obtain ⟨hc0, hc1, hc2, hf0, hf1, hf2⟩ := blk_cells HS.out.2.2.2
      go_wp2_with fail
      have HS3 : Hid (PSt w w2 e r [48]) := HS.out
      cases he : Vm.epOk e
      · have HEe := Lib.hid he
        clear he
        refine (requireEpoch_no e _ (by omega) HEe.out).mono ?_
        rintro e2 w2 ⟨g1, g2⟩; subst g1
        have HB := Lib.hid (g2 ▸ HS3.out.1 : Below w.heap.size w w2)
        clear g2
        go_wp2_with fail
        exact ⟨rfl, by rw [HP.out, ended, HEe.out]; rfl, HB.out⟩
      · have HEe := Lib.hid he
        clear he
        refine (requireEpoch_yes e _ (by omega) HEe.out).mono ?_
        rintro e2 w2 ⟨g1, g2⟩; subst g1
        have HS4 := Lib.hid (g2 ▸ HS3.out : PSt w w2 e r [48])
        clear g2 hc0 hc1 hc2 hf0 hf1 hf2 HS HS3
        obtain ⟨hc0, hc1, hc2, hf0, hf1, hf2⟩ := blk_cells HS4.out.2.2.2
        obtain ⟨hd0, hd1, hd2, he0, he1, he2⟩ := blk_cells HS4.out.2.2.1
        go_wp2_with fail
        cases hp : Vm.partOk r
        · have HEp := Lib.hid hp
          clear hp
          refine (requirePart_no r _ (by omega) HEp.out).mono ?_
          rintro e3 w3 ⟨g1, g2⟩; subst g1
          have HB := Lib.hid (g2 ▸ HS4.out.1 : Below w.heap.size w w3)
          clear g2
          go_wp2_with fail
          exact ⟨rfl, by rw [HP.out, ended, HEe.out, HEp.out]; rfl, HB.out⟩
        · have HEp := Lib.hid hp
          clear hp
          refine (requirePart_yes r _ (by omega) HEp.out).mono ?_
          rintro e3 w3 ⟨g1, g2⟩; subst g2; subst g1
          go_wp2_with fail
          cases hq : Vm.partOk [48]
          · have HEq := Lib.hid hq
            clear hq
            refine (requirePart_no [48] _ (by simp) HEq.out).mono ?_
            rintro e3 w3 ⟨g1, g2⟩; subst g1
            have HB := Lib.hid (g2 ▸ HS4.out.1 : Below w.heap.size w w3)
            clear g2
            go_wp2_with fail
            exact ⟨rfl, by rw [HP.out, ended, HEe.out, HEp.out, HEq.out]; rfl, HB.out⟩
          · have HEq := Lib.hid hq
            clear hq
            refine (requirePart_yes [48] _ (by simp) HEq.out).mono ?_
            rintro e3 w3 ⟨g1, g2⟩; subst g2; subst g1
            go_wp2_with fail
            refine bodyPost_ret (v := .agg #[.string ⟨e.toArray⟩, .string ⟨r.toArray⟩, .string ⟨#[48]⟩]) (by simp [results, Tryd.results45, go_sem, hd0, hd1, hd2]) rfl ⟨by rw [HP.out, ended, HEe.out, HEp.out, HEq.out]; rfl, ?_⟩
            exact ((HS4.out.1.setCell (Nat.le_refl _) _).setCell (Nat.le_refl _) _).setCell (Nat.le_refl _) _
  · have A1 := Lib.hid a1
    clear a1
    subst a2 a3
    go_enter Tryd.func45, Tryd.ntmps45
    go_wp2_with fail
    rw [show decide ((l.length : Int) ≤ 40) = true from by simp; omega]
    refine (require_yes _).mono ?_
    rintro e0 w0 ⟨rfl, rfl⟩
    go_wp2_with fail
    have HS0 := Lib.hid (pst_new w l)
    refine (cut_no l 58 _ (HW.out _ _ _ _ HS0.out) (by omega) A1.out).mono ?_
    rintro e1 w1 ⟨g1, g2⟩; subst g1
    have HS := Lib.hid (pst_draw HS0.out g2)
    clear g2 HS0
    obtain ⟨hc0, hc1, hc2, hf0, hf1, hf2⟩ := blk_cells HS.out.2.2.2
    go_wp2_with fail
    rcases hB with ⟨b1, b2, b3⟩ | ⟨b1, b2, b3⟩
    · have B1 := Lib.hid b1
      clear b1
      have HS1 : Hid (PSt w w1 [48] l [48]) := HS.out
      refine (cut_yes l 45 _ (HW.out _ _ _ _ HS1.out) (by omega) B1.out).mono ?_
      rintro e2 w2 ⟨g1, g2⟩; subst g1
      have HS2 := Lib.hid (pst_draw HS1.out g2)
      clear g2 HS1 HS hc0 hc1 hc2 hf0 hf1 hf2
      have HS := HS2
      clear HS2
      obtain ⟨hc0, hc1, hc2, hf0, hf1, hf2⟩ := blk_cells HS.out.2.2.2
      go_wp2_with fail
      have HS3 : Hid (PSt w ((w2.setCell ⟨w.heap.size + 1, 1, none⟩ (.string ⟨p.toArray⟩)).setCell ⟨w.heap.size + 1, 2, none⟩ (.string ⟨q.toArray⟩)) [48] p q) := pst_12 HS.out p q
      cases he : Vm.epOk [48]
      · have HEe := Lib.hid he
        clear he
        refine (requireEpoch_no [48] _ (by simp) HEe.out).mono ?_
        rintro e2 w2 ⟨g1, g2⟩; subst g1
        have HB := Lib.hid (g2 ▸ HS3.out.1 : Below w.heap.size w w2)
        clear g2
        go_wp2_with fail
        exact ⟨rfl, by rw [HP.out, ended, HEe.out]; rfl, HB.out⟩
      · have HEe := Lib.hid he
        clear he
        refine (requireEpoch_yes [48] _ (by simp) HEe.out).mono ?_
        rintro e2 w2 ⟨g1, g2⟩; subst g1
        have HS4 := Lib.hid (g2 ▸ HS3.out : PSt w w2 [48] p q)
        clear g2 hc0 hc1 hc2 hf0 hf1 hf2 HS HS3
        obtain ⟨hc0, hc1, hc2, hf0, hf1, hf2⟩ := blk_cells HS4.out.2.2.2
        obtain ⟨hd0, hd1, hd2, he0, he1, he2⟩ := blk_cells HS4.out.2.2.1
        go_wp2_with fail
        cases hp : Vm.partOk p
        · have HEp := Lib.hid hp
          clear hp
          refine (requirePart_no p _ (by omega) HEp.out).mono ?_
          rintro e3 w3 ⟨g1, g2⟩; subst g1
          have HB := Lib.hid (g2 ▸ HS4.out.1 : Below w.heap.size w w3)
          clear g2
          go_wp2_with fail
          exact ⟨rfl, by rw [HP.out, ended, HEe.out, HEp.out]; rfl, HB.out⟩
        · have HEp := Lib.hid hp
          clear hp
          refine (requirePart_yes p _ (by omega) HEp.out).mono ?_
          rintro e3 w3 ⟨g1, g2⟩; subst g2; subst g1
          go_wp2_with fail
          cases hq : Vm.partOk q
          · have HEq := Lib.hid hq
            clear hq
            refine (requirePart_no q _ (by omega) HEq.out).mono ?_
            rintro e3 w3 ⟨g1, g2⟩; subst g1
            have HB := Lib.hid (g2 ▸ HS4.out.1 : Below w.heap.size w w3)
            clear g2
            go_wp2_with fail
            exact ⟨rfl, by rw [HP.out, ended, HEe.out, HEp.out, HEq.out]; rfl, HB.out⟩
          · have HEq := Lib.hid hq
            clear hq
            refine (requirePart_yes q _ (by omega) HEq.out).mono ?_
            rintro e3 w3 ⟨g1, g2⟩; subst g2; subst g1
            go_wp2_with fail
            refine bodyPost_ret (v := .agg #[.string ⟨#[48]⟩, .string ⟨p.toArray⟩, .string ⟨q.toArray⟩]) (by simp [results, Tryd.results45, go_sem, hd0, hd1, hd2]) rfl ⟨by rw [HP.out, ended, HEe.out, HEp.out, HEq.out]; rfl, ?_⟩
            exact ((HS4.out.1.setCell (Nat.le_refl _) _).setCell (Nat.le_refl _) _).setCell (Nat.le_refl _) _
    · have B1 := Lib.hid b1
      clear b1
      subst b2 b3
      have HS1 : Hid (PSt w w1 [48] l [48]) := HS.out
      refine (cut_no l 45 _ (HW.out _ _ _ _ HS1.out) (by omega) B1.out).mono ?_
      rintro e2 w2 ⟨g1, g2⟩; subst g1
      have HS2 := Lib.hid (pst_draw HS1.out g2)
      clear g2 HS1 HS hc0 hc1 hc2 hf0 hf1 hf2
      have HS := HS2
      clear HS2
      obtain ⟨hc0, hc1, hc2, hf0, hf1, hf2⟩ := blk_cells HS.out.2.2.2
      go_wp2_with fail
      have HS3 : Hid (PSt w w2 [48] l [48]) := HS.out
      cases he : Vm.epOk [48]
      · have HEe := Lib.hid he
        clear he
        refine (requireEpoch_no [48] _ (by simp) HEe.out).mono ?_
        rintro e2 w2 ⟨g1, g2⟩; subst g1
        have HB := Lib.hid (g2 ▸ HS3.out.1 : Below w.heap.size w w2)
        clear g2
        go_wp2_with fail
        exact ⟨rfl, by rw [HP.out, ended, HEe.out]; rfl, HB.out⟩
      · have HEe := Lib.hid he
        clear he
        refine (requireEpoch_yes [48] _ (by simp) HEe.out).mono ?_
        rintro e2 w2 ⟨g1, g2⟩; subst g1
        have HS4 := Lib.hid (g2 ▸ HS3.out : PSt w w2 [48] l [48])
        clear g2 hc0 hc1 hc2 hf0 hf1 hf2 HS HS3
        obtain ⟨hc0, hc1, hc2, hf0, hf1, hf2⟩ := blk_cells HS4.out.2.2.2
        obtain ⟨hd0, hd1, hd2, he0, he1, he2⟩ := blk_cells HS4.out.2.2.1
        go_wp2_with fail
        cases hp : Vm.partOk l
        · have HEp := Lib.hid hp
          clear hp
          refine (requirePart_no l _ (by omega) HEp.out).mono ?_
          rintro e3 w3 ⟨g1, g2⟩; subst g1
          have HB := Lib.hid (g2 ▸ HS4.out.1 : Below w.heap.size w w3)
          clear g2
          go_wp2_with fail
          exact ⟨rfl, by rw [HP.out, ended, HEe.out, HEp.out]; rfl, HB.out⟩
        · have HEp := Lib.hid hp
          clear hp
          refine (requirePart_yes l _ (by omega) HEp.out).mono ?_
          rintro e3 w3 ⟨g1, g2⟩; subst g2; subst g1
          go_wp2_with fail
          cases hq : Vm.partOk [48]
          · have HEq := Lib.hid hq
            clear hq
            refine (requirePart_no [48] _ (by simp) HEq.out).mono ?_
            rintro e3 w3 ⟨g1, g2⟩; subst g1
            have HB := Lib.hid (g2 ▸ HS4.out.1 : Below w.heap.size w w3)
            clear g2
            go_wp2_with fail
            exact ⟨rfl, by rw [HP.out, ended, HEe.out, HEp.out, HEq.out]; rfl, HB.out⟩
          · have HEq := Lib.hid hq
            clear hq
            refine (requirePart_yes [48] _ (by simp) HEq.out).mono ?_
            rintro e3 w3 ⟨g1, g2⟩; subst g2; subst g1
            go_wp2_with fail
            refine bodyPost_ret (v := .agg #[.string ⟨#[48]⟩, .string ⟨l.toArray⟩, .string ⟨#[48]⟩]) (by simp [results, Tryd.results45, go_sem, hd0, hd1, hd2]) rfl ⟨by rw [HP.out, ended, HEe.out, HEp.out, HEq.out]; rfl, ?_⟩
            exact ((HS4.out.1.setCell (Nat.le_refl _) _).setCell (Nat.le_refl _) _).setCell (Nat.le_refl _) _
end Go.Proofs.YtaghhdgiegcimaaDoor
