/- Bytes that a call gathers: what a slice of its own holds, appended to, read as text; appendPart. -/
import Derived.Test.YtaghhdgiegcimaaDoorVf
import Derived.Lib.AppendStr
import Derived.Lib.BufferRead
namespace Go.Proofs.YtaghhdgiegcimaaDoor
open Go.RowKit

theorem infoByte : (Tryd.prog.info? 5).map (fun i => (i.zero, i.size, i.bytes)) = some (some (.int .u8 0), 1, 1) := by kernel_rfl
/-- The slice v, made from block B on, holds the bytes l. -/
def Own (w : World) (B : Nat) (v : Value) (l : List UInt8) : Prop := w.ownsRow B 5 1 v l.length (Lib.strCells ⟨l.toArray⟩)
theorem own_nil (w : World) (B : Nat) : Own w B (.slice none 0 0) [] := World.ownsRow_nil w B _ 1
theorem strCells_app (a b : List UInt8) : Lib.strCells ⟨(a ++ b).toArray⟩ = Lib.strCells ⟨a.toArray⟩ ++ Lib.strCells ⟨b.toArray⟩ := by simp [Lib.strCells]
theorem own_below {w w' : World} {B : Nat} {v : Value} {l : List UInt8} (h : Own w B v l) (hb : Below w.heap.size w w') : Own w' B v l := by
  obtain ⟨h1, h2⟩ := h
  refine ⟨h1, ?_⟩
  rcases h2 with h2 | ⟨g, cap, cur, e1, e2, e3, e4⟩
  · exact Or.inl h2
  · refine Or.inr ⟨g, cap, cur, e1, e2, ?_, e4⟩
    rw [hb.block g ?_]; exact e3
    have := (Array.getElem?_eq_some_iff.1 e3).1; exact this
theorem own_lt {w : World} {B : Nat} {v : Value} {l : List UInt8} (h : Own w B v l) : ∀ k, v.ownBlock = some k → B ≤ k ∧ k < w.heap.size := World.ownsRow.lt h
theorem grown_below {w w' : World} {B : Nat} {v : Value} {l : List UInt8} (h : Own w B v l) (hB : B ≤ w.heap.size) (hg : w.grownBy w' v.ownBlock) : Below B w w' :=
  (Below.refl B w).grown hg hB (fun k hk => (own_lt h k hk).1)

theorem append_str {ops : Array Oper} {rest : List Oper} {o : Oper} {a : Act} {Q : Exit → Act → World → Prop} {w : World} (hgd : o.guard = none) (sl x : Operand)
    (ho : o.op = .call { callee := .builtin .append, args := #[sl, x], argTypes := #[78, 9] })
    (B : Nat) (v : Value) (l m : List UInt8) (hs : a.eval sl = v) (hown : Own w B v l) (hx : a.eval x = .string ⟨m.toArray⟩) (hsz : l.length + m.length ≤ 10000) (hB : B ≤ w.heap.size)
    (h : ∀ v' w', Own w' B v' (l ++ m) → w.grownBy w' v.ownBlock → wpList Tryd.prog ops Q rest (a.put o.dst v') w') : wpList Tryd.prog ops Q (o :: rest) a w := by
  obtain ⟨i0, hi, hz0, hz1, hz2⟩ := info_parts infoByte
  have hsm : (ByteArray.mk m.toArray).size = m.length := by simp [ByteArray.size]
  refine Lib.wpList_append_own_string w hgd sl x _ _ ho B _ i0 Tryd.underlying78 Tryd.underlying9 hi hz0 hz1 hz2 v _ _ hs hown _ hx (by rw [hsm]; unfold maxLen; omega) (by rw [hsm]; omega) hB ?_
  intro v' w' h1 h2 _
  refine h v' w' ?_ h2
  unfold Own
  rw [strCells_app, List.length_append, ← hsm]
  exact h1

theorem own_string {w : World} {B : Nat} {v : Value} {l : List UInt8} (h : Own w B v l) : (convert 78 9 v).run Tryd.prog w = .ok (.string ⟨l.toArray⟩) w := by
  obtain ⟨h1, h2⟩ := h
  rcases h2 with ⟨rfl, h2⟩ | ⟨g, cap, cur, rfl, e2, e3, e4, e5, e6, e7⟩
  · have : l = [] := List.eq_nil_of_length_eq_zero h2
    subst this
    exact Lib.run_convert_nil_bytes w _ _ _ 0 Tryd.underlying78 Tryd.underlying5 Tryd.underlying9
  · refine run_convert_bytes_back w _ _ _ _ cap l Tryd.underlying78 Tryd.underlying5 Tryd.underlying9 ?_
    intro j hj
    have := World.ownsRow.cells (w := w) (base := B) (e := 5) (size := 1) (n := l.length) (xs := Lib.strCells ⟨l.toArray⟩) (v := .slice (some ⟨g, 0, none⟩) l.length cap) ⟨h1, Or.inr ⟨g, cap, cur, rfl, e2, e3, e4, e5, e6, e7⟩⟩ rfl j (.int .u8 (l[j].toNat : Int)) (by simp [Lib.strCells, hj])
    exact this

theorem own_alloc {w : World} {B : Nat} {v : Value} {l : List UInt8} (h : Own w B v l) (o : Obj) : Own (w.alloc o) B v l := World.ownsRow.alloc h o
theorem own_kept {w w' : World} {B : Nat} {v : Value} {l : List UInt8} {row : Option Nat} (h : Own w B v l) (hg : w.grownBy w' row) (hne : v.ownBlock = none ∨ v.ownBlock ≠ row) : Own w' B v l := World.ownsRow.kept h hg hne

theorem append_bytes {ops : Array Oper} {rest : List Oper} {o : Oper} {a : Act} {Q : Exit → Act → World → Prop} {w : World} (hgd : o.guard = none) (sl x : Operand)
    (ho : o.op = .call { callee := .builtin .append, args := #[sl, x], argTypes := #[78, 78] })
    (B : Nat) (v : Value) (l m : List UInt8) (hs : a.eval sl = v) (hown : Own w B v l) (ad : Addr) (c : Nat) (hx : a.eval x = .slice (some ad) m.length c)
    (hnews : ∀ j u, (Lib.strCells ⟨m.toArray⟩)[j]? = some u → w.cell? (ad.add j) = some u) (hsz : l.length + m.length ≤ 10000) (hB : B ≤ w.heap.size)
    (h : ∀ v' w', Own w' B v' (l ++ m) → w.grownBy w' v.ownBlock → wpList Tryd.prog ops Q rest (a.put o.dst v') w') : wpList Tryd.prog ops Q (o :: rest) a w := by
  obtain ⟨i0, hi, hz0, hz1, hz2⟩ := info_parts infoByte
  refine wpList_append_own w hgd sl x _ ho B _ i0 (.int .u8 0) 1 1 Tryd.underlying78 hi hz0 hz1 hz2 rfl (by decide) v _ _ hs hown ad m.length c (Lib.strCells ⟨m.toArray⟩) hx (by rw [Lib.strCells_length]; simp [ByteArray.size]) hnews (Lib.strCells_oneCell _) (by unfold maxLen; omega) (by omega) hB ?_
  intro v' w' h1 h2 _
  refine h v' w' ?_ h2
  unfold Own
  rw [strCells_app, List.length_append]
  exact h1

theorem own_cells {w : World} {B : Nat} {v : Value} {l : List UInt8} (h : Own w B v l) (hl : l ≠ []) : ∃ ad c, v = .slice (some ad) l.length c ∧ v.ownBlock = some ad.block ∧ ∀ j u, (Lib.strCells ⟨l.toArray⟩)[j]? = some u → w.cell? (ad.add j) = some u := by
  have h0 := h
  obtain ⟨h1, h2⟩ := h
  rcases h2 with ⟨rfl, h2⟩ | ⟨g, cap, cur, rfl, e2, e3, e4, e5, e6, e7⟩
  · exact absurd (List.eq_nil_of_length_eq_zero h2) hl
  · exact ⟨⟨g, 0, none⟩, cap, rfl, rfl, World.ownsRow.cells h0 rfl⟩

theorem bare_le (l : List UInt8) : (Vm.bare l).length ≤ l.length + 1 := by
  unfold Vm.bare
  have h : (l.dropWhile (· == 48)).length ≤ l.length := by
    have h : l.takeWhile (· == 48) ++ l.dropWhile (· == 48) = l := List.takeWhile_append_dropWhile
    have := congrArg List.length h; rw [List.length_append] at this; omega
  split <;> simp; omega
theorem runs_length (c : List UInt8) : (Vm.digs c).length + (Vm.oths (Vm.undigs c)).length + (Vm.tail2 c).length = c.length := by
  have h1 : Vm.digs c ++ Vm.undigs c = c := List.takeWhile_append_dropWhile
  have h2 : Vm.oths (Vm.undigs c) ++ Vm.unoths (Vm.undigs c) = Vm.undigs c := List.takeWhile_append_dropWhile
  have e1 := congrArg List.length h1
  have e2 := congrArg List.length h2
  rw [List.length_append] at e1 e2
  unfold Vm.tail2; omega
theorem canonP_step (n : Nat) (l : List UInt8) (h : l.isEmpty = false) : Vm.canonP (n + 1) l = Vm.bare (Vm.digs l) ++ Vm.oths (Vm.undigs l) ++ Vm.canonP n (Vm.tail2 l) := by
  rw [Vm.canonP, h]; rfl
theorem canonP_end (n : Nat) (l : List UInt8) (h : l.isEmpty = true) : Vm.canonP n l = [] := by
  cases n with
  | zero => rfl
  | succ n => rw [Vm.canonP, h]; rfl

/-- What a function hands back that gathers bytes: a slice of its own that holds them. -/
def OwnRet (B : Nat) (w : World) (l : List UInt8) (e : Ending) (w' : World) : Prop := ∃ v, e = .returned v ∧ Own w' B v l ∧ Below B w w'
set_option maxHeartbeats 800000 in
theorem appendPart_any (n B : Nat) (v : Value) (x l : List UInt8) (w : World) (hn : n ≤ 100) (hl : l.length ≤ n) (hx : x.length ≤ 100) (hasl : ascii l) (hB : B ≤ w.heap.size) (hown : Own w B v x) :
    Calls Tryd.prog 77 #[v, .string ⟨l.toArray⟩] w (OwnRet B w (x ++ Vm.canonP n l)) := by
  have HA : Hid (ascii l) := hasl
  have HO : Hid (Own w B v x) := hown
  clear hasl hown
  go_enter Tryd.func77, Tryd.ntmps77
  go_wp2_with fail
  go_loopw [0, 1] (fun p q wr => ∃ (m : Nat) (y c : List UInt8), m ≤ n ∧ c.length ≤ m ∧ y.length + 2 * c.length ≤ x.length + 2 * l.length ∧ q = .string ⟨c.toArray⟩ ∧ Hid (Own wr B p y) ∧ Hid (ascii c) ∧ Hid (x ++ Vm.canonP n l = y ++ Vm.canonP m c) ∧ Below B w wr ∧ B ≤ wr.heap.size) (fun _ q _ => strLen q)
  case atStart => exact ⟨n, x, l, Nat.le_refl _, hl, Nat.le_refl _, rfl, HO, HA, rfl, Below.refl _ _, hB⟩
  case round =>
    obtain ⟨m, y, c, hm, hc, hy, rfl, HOw, HAc, HE, hbel, hBw⟩ := hrel
    cases hemp : c.isEmpty
    · obtain ⟨m', rfl⟩ : ∃ m', m = m' + 1 := ⟨m - 1, by
        cases m with
        | zero => have : c = [] := List.eq_nil_of_length_eq_zero (by omega)
                  subst this; cases hemp
        | succ m => rfl⟩
      have HS := Lib.hid (canonP_step m' c hemp)
      have l1 := undigs_le c
      have HL5 := Lib.hid (tail2_lt c hemp)
      have HL6 := Lib.hid (runs_length c)
      have HL7 := Lib.hid (bare_le (Vm.digs c))
      go_wp2_with fail
      refine (cutDigits_any c _ (by omega)).mono ?_
      rintro e w1 ⟨rfl, hb1⟩
      have HOw1 := Lib.hid (own_below HOw.out hb1)
      have hbel1 : Below B w w1 := hbel.trans (hb1.mono hBw)
      have hBw1 : B ≤ w1.heap.size := Nat.le_trans hBw hb1.size
      clear hb1 HOw hbel hBw
      go_wp2_with fail
      refine (cutOthers_any _ _ (by omega) (ascii_undigs HAc.out)).mono ?_
      rintro e w2 ⟨rfl, hb2⟩
      have HOw2 := Lib.hid (own_below HOw1.out hb2)
      have hbel2 : Below B w w2 := hbel1.trans (hb2.mono hBw1)
      have hBw2 : B ≤ w2.heap.size := Nat.le_trans hBw1 hb2.size
      clear hb2 HOw1 hbel1 hBw1
      go_wp2_with fail
      refine (bare_any _ _).mono ?_
      rintro e w3 ⟨rfl, rfl⟩
      obtain ⟨b, hb⟩ : ∃ b, Vm.bare (Vm.digs c) = b := ⟨_, rfl⟩
      obtain ⟨o, ho⟩ : ∃ o, Vm.oths (Vm.undigs c) = o := ⟨_, rfl⟩
      rw [hb, ho] at HS
      rw [ho] at HL6
      rw [hb] at HL7
      rw [hb, ho]
      clear hb ho
      have hlt := HL5.out
      have hsum := HL6.out
      have hbl : b.length + o.length + y.length + 2 * (Vm.tail2 c).length ≤ x.length + 2 * l.length := by have := HL7.out; omega
      clear hsum HL7 HL6 l1
      go_wp2_with (at_builtin; refine append_str rfl _ _ rfl B _ y b rfl HOw2.out rfl ?c1 hBw2 ?_)
      case c1 => omega
      intro v4 w4 hown4 hg4
      have hbel4 : Below B w w4 := hbel2.trans (grown_below HOw2.out hBw2 hg4)
      have hBw4 : B ≤ w4.heap.size := Nat.le_trans hBw2 hg4.size
      have HOw4 := Lib.hid hown4
      clear hg4 hown4 HOw2 hbel2 hBw2
      go_wp2_with (at_builtin; refine append_str rfl _ _ rfl B _ (y ++ b) o rfl HOw4.out rfl ?c2 hBw4 ?_)
      case c2 => rw [List.length_append]; omega
      intro v5 w5 hown5 hg5
      have hbel5 : Below B w w5 := hbel4.trans (grown_below HOw4.out hBw4 hg5)
      have hBw5 : B ≤ w5.heap.size := Nat.le_trans hBw4 hg5.size
      have HOw5 := Lib.hid hown5
      clear hg5 hown5 HOw4 hbel4 hBw4
      go_wp2_with fail
      go_roundw
      case rel => exact ⟨m', y ++ (b ++ o), Vm.tail2 c, by omega, by omega, by rw [List.length_append, List.length_append]; omega, rfl, HOw5, ascii_unoths (ascii_undigs HAc.out), by show _ = _; rw [HE.out, HS.out]; simp only [List.append_assoc], hbel5, hBw5⟩
      case measure => have := HL5.out; simpa [strLen, Vm.tail2] using this
    · have HB : Hid (x ++ Vm.canonP n l = y) := by show _ = _; rw [HE.out, canonP_end m c hemp, List.append_nil]
      go_wp2_with fail
      go_ret
      exact ⟨_, rfl, by rw [HB.out]; exact HOw.out, hbel⟩
end Go.Proofs.YtaghhdgiegcimaaDoor
