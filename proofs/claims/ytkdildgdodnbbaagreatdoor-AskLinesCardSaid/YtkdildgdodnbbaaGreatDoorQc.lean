/- The first number that is not 0; two runs of digits, two other runs compared. Bytes that a call gathers: what a slice of its own holds, appended to, read as text; appendPart. parse: the pieces of a version, or the error number with which it panics. text: the canonical form of a version's pieces. -/
import Derived.Test.YtkdildgdodnbbaaGreatDoorQb
import Derived.Lib.AppendStr
import Derived.Lib.BufferRead
namespace Go.Proofs.YtkdildgdodnbbaaGreatDoor
open Go.RowKit

/-- The first number that is not 0; 0: none. -/
def orL : List Int → Int
  | [] => 0
  | x :: r => Vm.both x (orL r)
theorem orL_drop (zs : List Int) (k : Nat) (h : k < zs.length) : orL (zs.drop k) = Vm.both zs[k] (orL (zs.drop (k + 1))) := by
  rw [List.drop_eq_getElem_cons h]; rfl
set_option maxHeartbeats 400000 in
theorem cmpOr_any (zs : List Int) (b cap : Nat) (w : World) (hm : zs.length ≤ 100) (hc : ∀ (k : Nat) (h : k < zs.length), w.cell? ⟨b, k, none⟩ = some (.int .i64 zs[k])) :
    Calls Tryz.prog 158 #[.slice (some ⟨b, 0, none⟩) zs.length cap] w fun e w' => e = .returned (.int .i64 (orL zs)) ∧ w = w' := by
  have HC := Lib.hid hc
  clear hc
  go_enter Tryz.func158, Tryz.ntmps158
  go_wp2_with fail
  go_loop [8] (fun i => ∃ k : Nat, k ≤ zs.length ∧ i = .int .i64 k ∧ Hid (orL zs = orL (zs.drop k))) (fun i => zs.length - (intOf i).toNat)
  case atStart => exact ⟨0, Nat.zero_le _, rfl, rfl⟩
  case round =>
    obtain ⟨k, hk, rfl, HE⟩ := hrel
    by_cases hlt : k < zs.length
    · have hcell := HC.out k hlt
      have HD := Lib.hid (orL_drop zs k hlt)
      obtain ⟨x, hx⟩ : ∃ x, zs[k] = x := ⟨_, rfl⟩
      rw [hx] at hcell HD
      clear hx
      cases h0 : x == 0
      · have n1 : (x != 0) = true := by rw [bne, h0]; rfl
        have HB : Hid (orL zs = x) := by show _ = _; rw [HE.out, HD.out, Vm.both, h0]; rfl
        clear h0
        go_wp2_with fail
        go_ret
        exact ⟨by rw [HB.out]; rfl, rfl⟩
      · have n1 : (x != 0) = false := by rw [bne, h0]; rfl
        have HB : Hid (orL zs = orL (zs.drop (k + 1))) := by show _ = _; rw [HE.out, HD.out, Vm.both, h0]; rfl
        clear h0
        go_wp2_with fail
        go_round
        case rel => exact ⟨k + 1, by omega, by go_num, HB⟩
        case measure => simp [intOf]; omega
    · obtain rfl : k = zs.length := by omega
      have HB : Hid (orL zs = 0) := by show _ = _; rw [HE.out, List.drop_length]; rfl
      go_wp2_with fail
      go_ret
      exact ⟨by rw [HB.out]; rfl, rfl⟩

theorem both_zero (y : Int) : Vm.both y 0 = y := by unfold Vm.both; split <;> simp_all
theorem cells2 (w : World) (p q : Int) (k : Nat) (h : k < [p, q].length) : (w.alloc (.cells #[.int .i64 p, .int .i64 q] 3)).cell? ⟨w.heap.size, k, none⟩ = some (.int .i64 [p, q][k]) := by
  rw [World.cell?_alloc_mark]
  match k, h with
  | 0, _ => rfl
  | 1, _ => rfl
theorem compareI_any (x y : Int) (w : World) :
    Calls Tryz.prog 156 #[.int .i64 x, .int .i64 y] w fun e w' => e = .returned (.int .i64 (Vm.sgn x y)) ∧ w = w' :=
  (Tryz.cmp_Compare_int x y w).mono fun _ _ h => ⟨by rw [h.1]; rfl, h.2.symm⟩
theorem compareS_any (a b : List UInt8) (w : World) :
    Calls Tryz.prog 198 #[.string ⟨a.toArray⟩, .string ⟨b.toArray⟩] w fun e w' => e = .returned (.int .i64 (Lib.compareBytes a b)) ∧ w = w' :=
  (Tryz.strings_Compare ⟨a.toArray⟩ ⟨b.toArray⟩ w).mono fun _ _ h => ⟨h.1, h.2.symm⟩
set_option maxHeartbeats 400000 in
theorem compareDigits_any (a b : List UInt8) (w : World) :
    Calls Tryz.prog 189 #[.string ⟨a.toArray⟩, .string ⟨b.toArray⟩] w fun e w' => e = .returned (.int .i64 (Vm.cmpD a b)) ∧ Below w.heap.size w w' := by
  have HX : Hid (Vm.cmpD a b = Vm.both (Vm.sgn (Vm.bare a).length (Vm.bare b).length) (Lib.compareBytes (Vm.bare a) (Vm.bare b))) := rfl
  go_enter Tryz.func189, Tryz.ntmps189
  go_wp2_with fail
  refine (bare_any a _).mono ?_
  rintro e w' ⟨rfl, rfl⟩
  go_wp2_with fail
  refine (bare_any b _).mono ?_
  rintro e w' ⟨rfl, rfl⟩
  obtain ⟨x, hx⟩ : ∃ x, Vm.bare a = x := ⟨_, rfl⟩
  obtain ⟨y, hy⟩ : ∃ y, Vm.bare b = y := ⟨_, rfl⟩
  rw [hx, hy] at HX
  rw [hx, hy]
  clear hx hy
  go_wp2_with fail
  refine (compareI_any _ _ _).mono ?_
  rintro e w' ⟨rfl, rfl⟩
  go_wp2_with fail
  refine (compareS_any _ _ _).mono ?_
  rintro e w' ⟨rfl, rfl⟩
  go_wp2_with fail
  obtain ⟨p, hp⟩ : ∃ p, Vm.sgn (x.length : Int) (y.length : Int) = p := ⟨_, rfl⟩
  obtain ⟨q, hq⟩ : ∃ q, Lib.compareBytes x y = q := ⟨_, rfl⟩
  rw [hp, hq] at HX
  rw [hp, hq]
  clear hp hq
  refine (cmpOr_any [p, q] _ _ _ (by simp) (cells2 w p q)).mono ?_
  rintro e w' ⟨rfl, rfl⟩
  go_wp2_with fail
  go_ret
  refine ⟨?_, (Below.refl _ _).alloc (Nat.le_refl _) _⟩
  show Ending.returned (.int .i64 (orL [p, q])) = _
  rw [HX.out, orL, orL, orL, both_zero]

theorem cmpOF_step (a b : List UInt8) (M k : Nat) (h : k < M) : Vm.cmpOF a b (M - k) k = Vm.both (Vm.sgn (Vm.mark a k) (Vm.mark b k)) (Vm.cmpOF a b (M - (k + 1)) (k + 1)) := by
  have : M - k = (M - (k + 1)) + 1 := by omega
  rw [this]; rfl
set_option maxHeartbeats 400000 in
theorem compareOthers_any (a b : List UInt8) (w : World) (ha : a.length ≤ 1000) (hb : b.length ≤ 1000) :
    Calls Tryz.prog 199 #[.string ⟨a.toArray⟩, .string ⟨b.toArray⟩] w fun e w' => e = .returned (.int .i64 (Vm.cmpO a b)) ∧ w = w' := by
  obtain ⟨M, hM, hM2⟩ : ∃ M : Nat, max (a.length : Int) (b.length : Int) = M ∧ max a.length b.length = M := ⟨max a.length b.length, by omega, rfl⟩
  have hM3 : M ≤ 1000 := by omega
  have HX : Hid (Vm.cmpO a b = Vm.cmpOF a b M 0) := by show _ = _; rw [← hM2]; rfl
  clear hM2
  go_enter Tryz.func199, Tryz.ntmps199
  go_wp2_with fail
  clear hM
  go_loop [12] (fun i => ∃ k : Nat, k ≤ M ∧ i = .int .i64 k ∧ Hid (Vm.cmpO a b = Vm.cmpOF a b (M - k) k)) (fun i => M - (intOf i).toNat)
  case atStart => exact ⟨0, Nat.zero_le _, rfl, HX⟩
  case round =>
    obtain ⟨k, hk, rfl, HE⟩ := hrel
    by_cases hlt : k < M
    · have HS := Lib.hid (cmpOF_step a b M k hlt)
      go_wp2_with fail
      refine (rank_any a k _).mono ?_
      rintro e w' ⟨rfl, rfl⟩
      go_wp2_with fail
      refine (rank_any b k _).mono ?_
      rintro e w' ⟨rfl, rfl⟩
      obtain ⟨x, hx⟩ : ∃ x, Vm.mark a k = x := ⟨_, rfl⟩
      obtain ⟨y, hy⟩ : ∃ y, Vm.mark b k = y := ⟨_, rfl⟩
      rw [hx, hy] at HS
      rw [hx, hy]
      clear hx hy
      go_wp2_with fail
      refine (compareI_any _ _ _).mono ?_
      rintro e w' ⟨rfl, rfl⟩
      obtain ⟨c, hc⟩ : ∃ c, Vm.sgn x y = c := ⟨_, rfl⟩
      rw [hc] at HS
      rw [hc]
      clear hc
      cases h0 : c == 0
      · have n1 : (c != 0) = true := by rw [bne, h0]; rfl
        have HB : Hid (Vm.cmpO a b = c) := by show _ = _; rw [HE.out, HS.out, Vm.both, h0]; rfl
        clear h0
        go_wp2_with fail
        go_ret
        exact ⟨by rw [HB.out]; rfl, rfl⟩
      · have n1 : (c != 0) = false := by rw [bne, h0]; rfl
        have HB : Hid (Vm.cmpO a b = Vm.cmpOF a b (M - (k + 1)) (k + 1)) := by show _ = _; rw [HE.out, HS.out, Vm.both, h0]; rfl
        clear h0
        go_wp2_with fail
        go_round
        case rel => exact ⟨k + 1, by omega, by go_num, HB⟩
        case measure => simp [intOf]; omega
    · obtain rfl : k = M := by omega
      have HB : Hid (Vm.cmpO a b = 0) := by show _ = _; rw [HE.out, Nat.sub_self]; rfl
      go_wp2_with fail
      go_ret
      exact ⟨by rw [HB.out]; rfl, rfl⟩

theorem tail2_le (l : List UInt8) : (Vm.tail2 l).length ≤ l.length := Nat.le_trans (unoths_le _) (undigs_le _)
theorem tail2_lt (l : List UInt8) (h : l.isEmpty = false) : (Vm.tail2 l).length < l.length := by
  match l, h with
  | c :: r, _ =>
    unfold Vm.tail2
    cases hd : Vm.dig c
    · have h1 : Vm.undigs (c :: r) = c :: r := by simp [Vm.undigs, hd]
      rw [h1]
      have h2 : Vm.unoths (c :: r) = Vm.unoths r := by simp [Vm.unoths, hd]
      rw [h2]
      have := unoths_le r
      simp; omega
    · have h1 : Vm.undigs (c :: r) = Vm.undigs r := by simp [Vm.undigs, hd]
      rw [h1]
      have := unoths_le (Vm.undigs r)
      have := undigs_le r
      simp; omega
theorem ascii_undigs {l : List UInt8} (h : ascii l) : ascii (Vm.undigs l) := by
  intro j b hb
  have h1 := List.mem_of_getElem? hb
  have h2 : b ∈ l := by rw [← (List.takeWhile_append_dropWhile : Vm.digs l ++ Vm.undigs l = l)]; exact List.mem_append_right _ h1
  obtain ⟨i, hi⟩ := List.getElem?_of_mem h2
  exact h i b hi
theorem ascii_unoths {l : List UInt8} (h : ascii l) : ascii (Vm.unoths l) := by
  intro j b hb
  have h1 := List.mem_of_getElem? hb
  have h2 : b ∈ l := by rw [← (List.takeWhile_append_dropWhile : Vm.oths l ++ Vm.unoths l = l)]; exact List.mem_append_right _ h1
  obtain ⟨i, hi⟩ := List.getElem?_of_mem h2
  exact h i b hi
theorem cmpP_step (n : Nat) (a b : List UInt8) (h : (a.isEmpty && b.isEmpty) = false) :
    Vm.cmpP (n + 1) a b = Vm.both (Vm.cmpD (Vm.digs a) (Vm.digs b)) (Vm.both (Vm.cmpO (Vm.oths (Vm.undigs a)) (Vm.oths (Vm.undigs b))) (Vm.cmpP n (Vm.tail2 a) (Vm.tail2 b))) := by
  rw [Vm.cmpP, h]; rfl
theorem cmpP_end (n : Nat) (a b : List UInt8) (h : (a.isEmpty && b.isEmpty) = true) : Vm.cmpP n a b = 0 := by
  cases n with
  | zero => rfl
  | succ n => rw [Vm.cmpP, h]; rfl
set_option maxHeartbeats 400000 in
theorem compareParts_any (n : Nat) (a b : List UInt8) (w : World) (hn : n ≤ 1000) (ha : a.length ≤ n) (hb : b.length ≤ n) (hasa : ascii a) (hasb : ascii b) :
    Calls Tryz.prog 190 #[.string ⟨a.toArray⟩, .string ⟨b.toArray⟩] w fun e w' => e = .returned (.int .i64 (Vm.cmpP n a b)) ∧ Below w.heap.size w w' := by
  have HX : Hid (ascii a ∧ ascii b) := ⟨hasa, hasb⟩
  clear hasa hasb
  go_enter Tryz.func190, Tryz.ntmps190
  go_wp2_with fail
  go_loopw [0, 1] (fun p q wr => ∃ (m : Nat) (c d : List UInt8), m ≤ n ∧ c.length ≤ m ∧ d.length ≤ m ∧ p = .string ⟨c.toArray⟩ ∧ q = .string ⟨d.toArray⟩ ∧ Hid (ascii c ∧ ascii d) ∧ Hid (Vm.cmpP n a b = Vm.cmpP m c d) ∧ Below w.heap.size w wr) (fun p q _ => strLen p + strLen q)
  case atStart => exact ⟨n, a, b, Nat.le_refl _, ha, hb, rfl, rfl, HX, rfl, Below.refl _ _⟩
  case round =>
    obtain ⟨m, c, d, hm, hc, hd, rfl, rfl, HA, HE, hbel⟩ := hrel
    by_cases hemp : (c.isEmpty && d.isEmpty) = true
    · have HB : Hid (Vm.cmpP n a b = 0) := by show _ = _; rw [HE.out]; exact cmpP_end _ _ _ hemp
      have h1 : c.isEmpty = true := by cases hc : c.isEmpty <;> simp_all
      have h2 : d.isEmpty = true := by cases hd : d.isEmpty <;> simp_all
      clear hemp
      go_wp2_with fail
      go_ret
      exact ⟨by rw [HB.out]; rfl, hbel⟩
    · have hemp' : (c.isEmpty && d.isEmpty) = false := by simpa using hemp
      clear hemp
      have hmpos : 0 < m := by
        rcases Nat.eq_zero_or_pos m with h | h
        · subst h
          have h1 : c = [] := List.eq_nil_of_length_eq_zero (by omega)
          have h2 : d = [] := List.eq_nil_of_length_eq_zero (by omega)
          subst h1 h2; simp at hemp'
        · exact h
      obtain ⟨m', rfl⟩ : ∃ m', m = m' + 1 := ⟨m - 1, by omega⟩
      have HS := Lib.hid (cmpP_step m' c d hemp')
      have l1 := undigs_le c
      have l2 := undigs_le d
      have l3 := oths_le (Vm.undigs c)
      have l4 := oths_le (Vm.undigs d)
      have l5 : (Vm.tail2 c).length ≤ m' := by
        cases he : c.isEmpty
        · have := tail2_lt c he; omega
        · have : c = [] := by simpa using he
          subst this; show 0 ≤ m'; omega
      have l6 : (Vm.tail2 d).length ≤ m' := by
        cases he : d.isEmpty
        · have := tail2_lt d he; omega
        · have : d = [] := by simpa using he
          subst this; show 0 ≤ m'; omega
      have l7 : (Vm.tail2 c).length + (Vm.tail2 d).length < c.length + d.length := by
        have h1 := tail2_le c
        have h2 := tail2_le d
        cases he : c.isEmpty
        · have := tail2_lt c he; omega
        · cases he2 : d.isEmpty
          · have := tail2_lt d he2; omega
          · rw [he, he2] at hemp'; cases hemp'
      have HL5 := Lib.hid l5
      have HL6 := Lib.hid l6
      have HL7 := Lib.hid l7
      have HM := Lib.hid hemp'
      clear l5 l6 l7 hemp' hmpos
      cases hc0 : c.isEmpty
      all_goals
        try (have hd0 : d.isEmpty = false := by have := HM.out; rw [hc0] at this; simpa using this)
        go_wp2_with fail
        refine (cutDigits_any c _ (by omega)).mono ?_
        rintro e w1 ⟨rfl, hb1⟩
        go_wp2_with fail
        refine (cutDigits_any d _ (by omega)).mono ?_
        rintro e w2 ⟨rfl, hb2⟩
        have hbel2 : Below w.heap.size w w2 := (hbel.trans (hb1.mono hbel.size)).trans (hb2.mono (Nat.le_trans hbel.size hb1.size))
        clear hb1 hb2
        go_wp2_with fail
        refine (compareDigits_any _ _ _).mono ?_
        rintro e w3 ⟨rfl, hb3⟩
        have hbel3 : Below w.heap.size w w3 := hbel2.trans (hb3.mono hbel2.size)
        clear hb3 hbel2
        obtain ⟨x, hx⟩ : ∃ x, Vm.cmpD (Vm.digs c) (Vm.digs d) = x := ⟨_, rfl⟩
        rw [hx] at HS
        rw [hx]
        clear hx
        cases h0 : x == 0
        · have n1 : (x != 0) = true := by rw [bne, h0]; rfl
          have HB : Hid (Vm.cmpP n a b = x) := by show _ = _; rw [HE.out, HS.out, Vm.both, h0]; rfl
          clear h0
          go_wp2_with fail
          go_ret
          exact ⟨by rw [HB.out]; rfl, hbel3⟩
        · have n1 : (x != 0) = false := by rw [bne, h0]; rfl
          have HB : Hid (Vm.cmpP n a b = Vm.both (Vm.cmpO (Vm.oths (Vm.undigs c)) (Vm.oths (Vm.undigs d))) (Vm.cmpP m' (Vm.tail2 c) (Vm.tail2 d))) := by show _ = _; rw [HE.out, HS.out, Vm.both, h0]; rfl
          clear h0
          go_wp2_with fail
          refine (cutOthers_any _ _ (by omega) (ascii_undigs HA.out.1)).mono ?_
          rintro e w4 ⟨rfl, hb4⟩
          go_wp2_with fail
          refine (cutOthers_any _ _ (by omega) (ascii_undigs HA.out.2)).mono ?_
          rintro e w5 ⟨rfl, hb5⟩
          have hbel5 : Below w.heap.size w w5 := (hbel3.trans (hb4.mono hbel3.size)).trans (hb5.mono (Nat.le_trans hbel3.size hb4.size))
          clear hb4 hb5 hbel3
          go_wp2_with fail
          refine (compareOthers_any _ _ _ (by omega) (by omega)).mono ?_
          rintro e w6 ⟨rfl, rfl⟩
          obtain ⟨y, hy⟩ : ∃ y, Vm.cmpO (Vm.oths (Vm.undigs c)) (Vm.oths (Vm.undigs d)) = y := ⟨_, rfl⟩
          rw [hy] at HB
          rw [hy]
          clear hy
          cases h0 : y == 0
          · have n1 : (y != 0) = true := by rw [bne, h0]; rfl
            have HC : Hid (Vm.cmpP n a b = y) := by show _ = _; rw [HB.out, Vm.both, h0]; rfl
            clear h0
            go_wp2_with fail
            go_ret
            exact ⟨by rw [HC.out]; rfl, hbel5⟩
          · have n1 : (y != 0) = false := by rw [bne, h0]; rfl
            have HC : Hid (Vm.cmpP n a b = Vm.cmpP m' (Vm.tail2 c) (Vm.tail2 d)) := by show _ = _; rw [HB.out, Vm.both, h0]; rfl
            clear h0
            go_wp2_with fail
            go_roundw
            case rel => exact ⟨m', Vm.tail2 c, Vm.tail2 d, by omega, HL5.out, HL6.out, rfl, rfl, ⟨ascii_unoths (ascii_undigs HA.out.1), ascii_unoths (ascii_undigs HA.out.2)⟩, HC, hbel5⟩
            case measure => have := HL7.out; simpa [strLen, Vm.tail2] using this
end Go.Proofs.YtkdildgdodnbbaaGreatDoor
namespace Go.Proofs.YtkdildgdodnbbaaGreatDoor
open Go.RowKit

theorem infoByte : (Tryz.prog.info? 5).map (fun i => (i.zero, i.size, i.bytes)) = some (some (.int .u8 0), 1, 1) := by kernel_rfl
/-- The slice v, made from block B on, holds the bytes l. -/
def Own (w : World) (B : Nat) (v : Value) (l : List UInt8) : Prop := w.ownsRow B 5 1 v l.length (Lib.strCells ⟨l.toArray⟩)
theorem own_nil (w : World) (B : Nat) : Own w B (.slice none 0 0) [] := World.ownsRow_nil w B _ 1
theorem strCells_app (a b : List UInt8) : Lib.strCells ⟨(a ++ b).toArray⟩ = Lib.strCells ⟨a.toArray⟩ ++ Lib.strCells ⟨b.toArray⟩ := by simp [Lib.strCells]
theorem own_below {w w' : World} {B : Nat} {v : Value} {l : List UInt8} (h : Own w B v l) (hb : Below w.heap.size w w') : Own w' B v l := by
  obtain ⟨h1, h2⟩ := h
  refine ⟨h1, ?_⟩
  rcases h2 with h2 | ⟨g, cap, cur, e1, e2, e3, e4⟩
  · exact Or.inl h2
  · refine Or.inr ⟨g, cap, cur, e1, e2, ?_, e4⟩
    rw [hb.block g ?_]; exact e3
    have := (Array.getElem?_eq_some_iff.1 e3).1; exact this
theorem own_lt {w : World} {B : Nat} {v : Value} {l : List UInt8} (h : Own w B v l) : ∀ k, v.ownBlock = some k → B ≤ k ∧ k < w.heap.size := World.ownsRow.lt h
theorem grown_below {w w' : World} {B : Nat} {v : Value} {l : List UInt8} (h : Own w B v l) (hB : B ≤ w.heap.size) (hg : w.grownBy w' v.ownBlock) : Below B w w' :=
  (Below.refl B w).grown hg hB (fun k hk => (own_lt h k hk).1)

theorem append_str {ops : Array Oper} {rest : List Oper} {o : Oper} {a : Act} {Q : Exit → Act → World → Prop} {w : World} (hgd : o.guard = none) (sl x : Operand)
    (ho : o.op = .call { callee := .builtin .append, args := #[sl, x], argTypes := #[53, 9] })
    (B : Nat) (v : Value) (l m : List UInt8) (hs : a.eval sl = v) (hown : Own w B v l) (hx : a.eval x = .string ⟨m.toArray⟩) (hsz : l.length + m.length ≤ 10000) (hB : B ≤ w.heap.size)
    (h : ∀ v' w', Own w' B v' (l ++ m) → w.grownBy w' v.ownBlock → wpList Tryz.prog ops Q rest (a.put o.dst v') w') : wpList Tryz.prog ops Q (o :: rest) a w := by
  obtain ⟨i0, hi, hz0, hz1, hz2⟩ := info_parts infoByte
  have hsm : (ByteArray.mk m.toArray).size = m.length := by simp [ByteArray.size]
  refine Lib.wpList_append_own_string w hgd sl x _ _ ho B _ i0 Tryz.underlying53 Tryz.underlying9 hi hz0 hz1 hz2 v _ _ hs hown _ hx (by rw [hsm]; unfold maxLen; omega) (by rw [hsm]; omega) hB ?_
  intro v' w' h1 h2 _
  refine h v' w' ?_ h2
  unfold Own
  rw [strCells_app, List.length_append, ← hsm]
  exact h1

theorem own_string {w : World} {B : Nat} {v : Value} {l : List UInt8} (h : Own w B v l) : (convert 53 9 v).run Tryz.prog w = .ok (.string ⟨l.toArray⟩) w := by
  obtain ⟨h1, h2⟩ := h
  rcases h2 with ⟨rfl, h2⟩ | ⟨g, cap, cur, rfl, e2, e3, e4, e5, e6, e7⟩
  · have : l = [] := List.eq_nil_of_length_eq_zero h2
    subst this
    exact Lib.run_convert_nil_bytes w _ _ _ 0 Tryz.underlying53 Tryz.underlying5 Tryz.underlying9
  · refine run_convert_bytes_back w _ _ _ _ cap l Tryz.underlying53 Tryz.underlying5 Tryz.underlying9 ?_
    intro j hj
    have := World.ownsRow.cells (w := w) (base := B) (e := 5) (size := 1) (n := l.length) (xs := Lib.strCells ⟨l.toArray⟩) (v := .slice (some ⟨g, 0, none⟩) l.length cap) ⟨h1, Or.inr ⟨g, cap, cur, rfl, e2, e3, e4, e5, e6, e7⟩⟩ rfl j (.int .u8 (l[j].toNat : Int)) (by simp [Lib.strCells, hj])
    exact this

theorem own_alloc {w : World} {B : Nat} {v : Value} {l : List UInt8} (h : Own w B v l) (o : Obj) : Own (w.alloc o) B v l := World.ownsRow.alloc h o
theorem own_kept {w w' : World} {B : Nat} {v : Value} {l : List UInt8} {row : Option Nat} (h : Own w B v l) (hg : w.grownBy w' row) (hne : v.ownBlock = none ∨ v.ownBlock ≠ row) : Own w' B v l := World.ownsRow.kept h hg hne

theorem append_bytes {ops : Array Oper} {rest : List Oper} {o : Oper} {a : Act} {Q : Exit → Act → World → Prop} {w : World} (hgd : o.guard = none) (sl x : Operand)
    (ho : o.op = .call { callee := .builtin .append, args := #[sl, x], argTypes := #[53, 53] })
    (B : Nat) (v : Value) (l m : List UInt8) (hs : a.eval sl = v) (hown : Own w B v l) (ad : Addr) (c : Nat) (hx : a.eval x = .slice (some ad) m.length c)
    (hnews : ∀ j u, (Lib.strCells ⟨m.toArray⟩)[j]? = some u → w.cell? (ad.add j) = some u) (hsz : l.length + m.length ≤ 10000) (hB : B ≤ w.heap.size)
    (h : ∀ v' w', Own w' B v' (l ++ m) → w.grownBy w' v.ownBlock → wpList Tryz.prog ops Q rest (a.put o.dst v') w') : wpList Tryz.prog ops Q (o :: rest) a w := by
  obtain ⟨i0, hi, hz0, hz1, hz2⟩ := info_parts infoByte
  refine wpList_append_own w hgd sl x _ ho B _ i0 (.int .u8 0) 1 1 Tryz.underlying53 hi hz0 hz1 hz2 rfl (by decide) v _ _ hs hown ad m.length c (Lib.strCells ⟨m.toArray⟩) hx (by rw [Lib.strCells_length]; simp [ByteArray.size]) hnews (Lib.strCells_oneCell _) (by unfold maxLen; omega) (by omega) hB ?_
  intro v' w' h1 h2 _
  refine h v' w' ?_ h2
  unfold Own
  rw [strCells_app, List.length_append]
  exact h1

theorem own_cells {w : World} {B : Nat} {v : Value} {l : List UInt8} (h : Own w B v l) (hl : l ≠ []) : ∃ ad c, v = .slice (some ad) l.length c ∧ v.ownBlock = some ad.block ∧ ∀ j u, (Lib.strCells ⟨l.toArray⟩)[j]? = some u → w.cell? (ad.add j) = some u := by
  have h0 := h
  obtain ⟨h1, h2⟩ := h
  rcases h2 with ⟨rfl, h2⟩ | ⟨g, cap, cur, rfl, e2, e3, e4, e5, e6, e7⟩
  · exact absurd (List.eq_nil_of_length_eq_zero h2) hl
  · exact ⟨⟨g, 0, none⟩, cap, rfl, rfl, World.ownsRow.cells h0 rfl⟩

theorem bare_le (l : List UInt8) : (Vm.bare l).length ≤ l.length + 1 := by
  unfold Vm.bare
  have h : (l.dropWhile (· == 48)).length ≤ l.length := by
    have h : l.takeWhile (· == 48) ++ l.dropWhile (· == 48) = l := List.takeWhile_append_dropWhile
    have := congrArg List.length h; rw [List.length_append] at this; omega
  split <;> simp; omega
theorem runs_length (c : List UInt8) : (Vm.digs c).length + (Vm.oths (Vm.undigs c)).length + (Vm.tail2 c).length = c.length := by
  have h1 : Vm.digs c ++ Vm.undigs c = c := List.takeWhile_append_dropWhile
  have h2 : Vm.oths (Vm.undigs c) ++ Vm.unoths (Vm.undigs c) = Vm.undigs c := List.takeWhile_append_dropWhile
  have e1 := congrArg List.length h1
  have e2 := congrArg List.length h2
  rw [List.length_append] at e1 e2
  unfold Vm.tail2; omega
theorem canonP_step (n : Nat) (l : List UInt8) (h : l.isEmpty = false) : Vm.canonP (n + 1) l = Vm.bare (Vm.digs l) ++ Vm.oths (Vm.undigs l) ++ Vm.canonP n (Vm.tail2 l) := by
  rw [Vm.canonP, h]; rfl
theorem canonP_end (n : Nat) (l : List UInt8) (h : l.isEmpty = true) : Vm.canonP n l = [] := by
  cases n with
  | zero => rfl
  | succ n => rw [Vm.canonP, h]; rfl

/-- What a function hands back that gathers bytes: a slice of its own that holds them. -/
def OwnRet (B : Nat) (w : World) (l : List UInt8) (e : Ending) (w' : World) : Prop := ∃ v, e = .returned v ∧ Own w' B v l ∧ Below B w w'
set_option maxHeartbeats 800000 in
theorem appendPart_any (n B : Nat) (v : Value) (x l : List UInt8) (w : World) (hn : n ≤ 100) (hl : l.length ≤ n) (hx : x.length ≤ 100) (hasl : ascii l) (hB : B ≤ w.heap.size) (hown : Own w B v x) :
    Calls Tryz.prog 188 #[v, .string ⟨l.toArray⟩] w (OwnRet B w (x ++ Vm.canonP n l)) := by
  have HA : Hid (ascii l) := hasl
  have HO : Hid (Own w B v x) := hown
  clear hasl hown
  go_enter Tryz.func188, Tryz.ntmps188
  go_wp2_with fail
  go_loopw [0, 1] (fun p q wr => ∃ (m : Nat) (y c : List UInt8), m ≤ n ∧ c.length ≤ m ∧ y.length + 2 * c.length ≤ x.length + 2 * l.length ∧ q = .string ⟨c.toArray⟩ ∧ Hid (Own wr B p y) ∧ Hid (ascii c) ∧ Hid (x ++ Vm.canonP n l = y ++ Vm.canonP m c) ∧ Below B w wr ∧ B ≤ wr.heap.size) (fun _ q _ => strLen q)
  case atStart => exact ⟨n, x, l, Nat.le_refl _, hl, Nat.le_refl _, rfl, HO, HA, rfl, Below.refl _ _, hB⟩
  case round =>
    obtain ⟨m, y, c, hm, hc, hy, rfl, HOw, HAc, HE, hbel, hBw⟩ := hrel
    cases hemp : c.isEmpty
    · obtain ⟨m', rfl⟩ : ∃ m', m = m' + 1 := ⟨m - 1, by
        cases m with
        | zero => have : c = [] := List.eq_nil_of_length_eq_zero (by omega)
                  subst this; cases hemp
        | succ m => rfl⟩
      have HS := Lib.hid (canonP_step m' c hemp)
      have l1 := undigs_le c
      have HL5 := Lib.hid (tail2_lt c hemp)
      have HL6 := Lib.hid (runs_length c)
      have HL7 := Lib.hid (bare_le (Vm.digs c))
      go_wp2_with fail
      refine (cutDigits_any c _ (by omega)).mono ?_
      rintro e w1 ⟨rfl, hb1⟩
      have HOw1 := Lib.hid (own_below HOw.out hb1)
      have hbel1 : Below B w w1 := hbel.trans (hb1.mono hBw)
      have hBw1 : B ≤ w1.heap.size := Nat.le_trans hBw hb1.size
      clear hb1 HOw hbel hBw
      go_wp2_with fail
      refine (cutOthers_any _ _ (by omega) (ascii_undigs HAc.out)).mono ?_
      rintro e w2 ⟨rfl, hb2⟩
      have HOw2 := Lib.hid (own_below HOw1.out hb2)
      have hbel2 : Below B w w2 := hbel1.trans (hb2.mono hBw1)
      have hBw2 : B ≤ w2.heap.size := Nat.le_trans hBw1 hb2.size
      clear hb2 HOw1 hbel1 hBw1
      go_wp2_with fail
      refine (bare_any _ _).mono ?_
      rintro e w3 ⟨rfl, rfl⟩
      obtain ⟨b, hb⟩ : ∃ b, Vm.bare (Vm.digs c) = b := ⟨_, rfl⟩
      obtain ⟨o, ho⟩ : ∃ o, Vm.oths (Vm.undigs c) = o := ⟨_, rfl⟩
      rw [hb, ho] at HS
      rw [ho] at HL6
      rw [hb] at HL7
      rw [hb, ho]
      clear hb ho
      have hlt := HL5.out
      have hsum := HL6.out
      have hbl : b.length + o.length + y.length + 2 * (Vm.tail2 c).length ≤ x.length + 2 * l.length := by have := HL7.out; omega
      clear hsum HL7 HL6 l1
      go_wp2_with (at_builtin; refine append_str rfl _ _ rfl B _ y b rfl HOw2.out rfl ?c1 hBw2 ?_)
      case c1 => omega
      intro v4 w4 hown4 hg4
      have hbel4 : Below B w w4 := hbel2.trans (grown_below HOw2.out hBw2 hg4)
      have hBw4 : B ≤ w4.heap.size := Nat.le_trans hBw2 hg4.size
      have HOw4 := Lib.hid hown4
      clear hg4 hown4 HOw2 hbel2 hBw2
      go_wp2_with (at_builtin; refine append_str rfl _ _ rfl B _ (y ++ b) o rfl HOw4.out rfl ?c2 hBw4 ?_)
      case c2 => rw [List.length_append]; omega
      intro v5 w5 hown5 hg5
      have hbel5 : Below B w w5 := hbel4.trans (grown_below HOw4.out hBw4 hg5)
      have hBw5 : B ≤ w5.heap.size := Nat.le_trans hBw4 hg5.size
      have HOw5 := Lib.hid hown5
      clear hg5 hown5 HOw4 hbel4 hBw4
      go_wp2_with fail
      go_roundw
      case rel => exact ⟨m', y ++ (b ++ o), Vm.tail2 c, by omega, by omega, by rw [List.length_append, List.length_append]; omega, rfl, HOw5, ascii_unoths (ascii_undigs HAc.out), by show _ = _; rw [HE.out, HS.out]; simp only [List.append_assoc], hbel5, hBw5⟩
      case measure => have := HL5.out; simpa [strLen, Vm.tail2] using this
    · have HB : Hid (x ++ Vm.canonP n l = y) := by show _ = _; rw [HE.out, canonP_end m c hemp, List.append_nil]
      go_wp2_with fail
      go_ret
      exact ⟨_, rfl, by rw [HB.out]; exact HOw.out, hbel⟩
end Go.Proofs.YtkdildgdodnbbaaGreatDoor
namespace Go.Proofs.YtkdildgdodnbbaaGreatDoor
open Go.RowKit

theorem cut_yes (l : List UInt8) (c : UInt8) (w : World) (hm : MaxOk w) (hl : l.length ≤ 1000) (h : Vm.has c l = true) :
    Calls Tryz.prog 85 #[.string ⟨l.toArray⟩, .string ⟨#[c]⟩] w fun e w' => e = .returned (.tuple #[.string ⟨(Vm.fst c l).toArray⟩, .string ⟨(Vm.snd c l).toArray⟩, .bool true]) ∧ ∃ n, w' = w.drewN n := by
  obtain ⟨m, hm⟩ := hm
  refine (Tryz.strings_Cut ⟨l.toArray⟩ ⟨#[c]⟩ m w (by simp [ByteArray.size]; omega) hm).mono fun e w' ⟨h1, h2⟩ => ⟨?_, h2⟩
  rw [h1]
  have e : Lib.cut (⟨l.toArray⟩ : ByteArray).data.toList (⟨#[c]⟩ : ByteArray).data.toList = Lib.cut l [c] := rfl
  rw [e, cut_has, h]; rfl
theorem cut_no (l : List UInt8) (c : UInt8) (w : World) (hm : MaxOk w) (hl : l.length ≤ 1000) (h : Vm.has c l = false) :
    Calls Tryz.prog 85 #[.string ⟨l.toArray⟩, .string ⟨#[c]⟩] w fun e w' => e = .returned (.tuple #[.string ⟨l.toArray⟩, .string ⟨#[]⟩, .bool false]) ∧ ∃ n, w' = w.drewN n := by
  obtain ⟨m, hm⟩ := hm
  refine (Tryz.strings_Cut ⟨l.toArray⟩ ⟨#[c]⟩ m w (by simp [ByteArray.size]; omega) hm).mono fun e w' ⟨h1, h2⟩ => ⟨?_, h2⟩
  rw [h1]
  have e : Lib.cut (⟨l.toArray⟩ : ByteArray).data.toList (⟨#[c]⟩ : ByteArray).data.toList = Lib.cut l [c] := rfl
  rw [e, cut_has, h]; rfl

theorem requireEpoch_yes (l : List UInt8) (w : World) (hm : l.length ≤ 100) (h : Vm.epOk l = true) : Calls Tryz.prog 185 #[.string ⟨l.toArray⟩] w fun e w' => e = .returned (.tuple #[]) ∧ w = w' := by
  have := requireEpoch_any l w hm; rw [h] at this; exact this
theorem requireEpoch_no (l : List UInt8) (w : World) (hm : l.length ≤ 100) (h : Vm.epOk l = false) : Calls Tryz.prog 185 #[.string ⟨l.toArray⟩] w fun e w' => e = pan 5 ∧ w = w' := by
  have := requireEpoch_any l w hm; rw [h] at this; exact this
theorem requirePart_yes (l : List UInt8) (w : World) (hm : l.length ≤ 100) (h : Vm.partOk l = true) : Calls Tryz.prog 186 #[.string ⟨l.toArray⟩] w fun e w' => e = .returned (.tuple #[]) ∧ w = w' := by
  have := requirePart_any l w hm; rw [h] at this; exact this
theorem requirePart_no (l : List UInt8) (w : World) (hm : l.length ≤ 100) (h : Vm.partOk l = false) : Calls Tryz.prog 186 #[.string ⟨l.toArray⟩] w fun e w' => e = pan 5 ∧ w = w' := by
  have := requirePart_any l w hm; rw [h] at this; exact this

set_option maxHeartbeats 400000 in
theorem parse_long (l : List UInt8) (w : World) (h : 40 < l.length) :
    Calls Tryz.prog 174 #[.string ⟨l.toArray⟩] w fun e w' => e = pan 4 ∧ Below w.heap.size w w' := by
  go_enter Tryz.func174, Tryz.ntmps174
  go_wp2_with fail
  rw [show decide ((l.length : Int) ≤ 40) = false from by simp; omega]
  refine (require_no _).mono ?_
  rintro e w' ⟨rfl, rfl⟩
  go_wp2_with fail
  exact ⟨rfl, rfl, (Below.refl _ _).alloc (Nat.le_refl _) _⟩

theorem fst_no (l : List UInt8) (c : UInt8) (h : Vm.has c l = false) : Vm.fst c l = l := by
  have h1 := tw_take (· != c) l
  have h2 : ¬ (Vm.fst c l).length < l.length := fun hh => by have := (has_iff l c).2 hh; rw [h] at this; cases this
  have h3 := tw_le (· != c) l
  unfold Vm.fst at *
  rw [List.take_of_length_le (by omega)] at h1
  exact h1.symm
theorem snd_le (c : UInt8) (l : List UInt8) : (Vm.snd c l).length ≤ l.length := by
  unfold Vm.snd
  have h : l.takeWhile (· != c) ++ l.dropWhile (· != c) = l := List.takeWhile_append_dropWhile
  have := congrArg List.length h; rw [List.length_append] at this
  rw [List.length_drop]; omega
/-- How parse ends, of pieces e, p, q. -/
def ended (e p q : List UInt8) : Ending := if Vm.epOk e && (Vm.partOk p && Vm.partOk q) then .returned (.agg #[.string ⟨e.toArray⟩, .string ⟨p.toArray⟩, .string ⟨q.toArray⟩]) else pan 5
def parsed (l : List UInt8) : Ending := ended (Vm.ep l) (Vm.pt l) (Vm.rv l)
theorem pieces (l : List UInt8) : ∃ r, Vm.rest l = r ∧ r.length ≤ l.length ∧
    ((Vm.has 58 l = true ∧ Vm.fst 58 l = Vm.ep l ∧ Vm.snd 58 l = r) ∨ (Vm.has 58 l = false ∧ [48] = Vm.ep l ∧ l = r)) ∧
    ((Vm.has 45 r = true ∧ Vm.fst 45 r = Vm.pt l ∧ Vm.snd 45 r = Vm.rv l) ∨ (Vm.has 45 r = false ∧ r = Vm.pt l ∧ [48] = Vm.rv l)) := by
  refine ⟨Vm.rest l, rfl, ?_, ?_, ?_⟩
  · unfold Vm.rest; split
    · exact snd_le _ _
    · exact Nat.le_refl _
  · unfold Vm.ep Vm.rest
    cases h : Vm.has 58 l
    · right; exact ⟨rfl, rfl, rfl⟩
    · left; exact ⟨rfl, rfl, rfl⟩
  · unfold Vm.pt Vm.rv
    cases h : Vm.has 45 (Vm.rest l)
    · right; exact ⟨rfl, (fst_no _ _ h).symm, rfl⟩
    · left; exact ⟨rfl, rfl, rfl⟩
theorem ep_le (l : List UInt8) : (Vm.ep l).length ≤ l.length + 1 := by
  unfold Vm.ep; split
  · have := fst_le l 58; omega
  · simp
theorem pt_le (l : List UInt8) : (Vm.pt l).length ≤ l.length := by
  unfold Vm.pt
  have h1 := fst_le (Vm.rest l) 45
  obtain ⟨r, h2, h3, _⟩ := pieces l
  rw [h2] at h1 ⊢; omega
theorem rv_le (l : List UInt8) : (Vm.rv l).length ≤ l.length + 1 := by
  unfold Vm.rv; split
  · have h1 := snd_le 45 (Vm.rest l)
    obtain ⟨r, h2, h3, _⟩ := pieces l
    rw [h2] at h1 ⊢; omega
  · simp

/- PSTATE -/
/-- A block of three texts. -/
def Blk (w : World) (b : Nat) (x y z : List UInt8) : Prop := w.heap[b]? = some (.cells #[.string ⟨x.toArray⟩, .string ⟨y.toArray⟩, .string ⟨z.toArray⟩] 192 (0, 0))
theorem blk_cells {w : World} {b : Nat} {x y z : List UInt8} (h : Blk w b x y z) : w.cell? ⟨b, 0, none⟩ = some (.string ⟨x.toArray⟩) ∧ w.cell? ⟨b, 1, none⟩ = some (.string ⟨y.toArray⟩) ∧ w.cell? ⟨b, 2, none⟩ = some (.string ⟨z.toArray⟩) ∧
    w.frozen? ⟨b, 0, none⟩ = false ∧ w.frozen? ⟨b, 1, none⟩ = false ∧ w.frozen? ⟨b, 2, none⟩ = false := by
  unfold Blk at h
  refine ⟨?_, ?_, ?_, ?_, ?_, ?_⟩ <;> simp [World.cell?, World.frozen?, h]
theorem blk_set0 {w : World} {b : Nat} {x y z : List UInt8} (h : Blk w b x y z) (v : List UInt8) : Blk (w.setCell ⟨b, 0, none⟩ (.string ⟨v.toArray⟩)) b v y z := by
  unfold Blk at *; simp [World.setCell, Array.getElem?_modify, h]
theorem blk_set1 {w : World} {b : Nat} {x y z : List UInt8} (h : Blk w b x y z) (v : List UInt8) : Blk (w.setCell ⟨b, 1, none⟩ (.string ⟨v.toArray⟩)) b x v z := by
  unfold Blk at *; simp [World.setCell, Array.getElem?_modify, h]
theorem blk_set2 {w : World} {b : Nat} {x y z : List UInt8} (h : Blk w b x y z) (v : List UInt8) : Blk (w.setCell ⟨b, 2, none⟩ (.string ⟨v.toArray⟩)) b x y v := by
  unfold Blk at *; simp [World.setCell, Array.getElem?_modify, h]
theorem blk_other {w : World} {b c i : Nat} {x y z : List UInt8} (h : Blk w b x y z) (hn : c ≠ b) (v : Value) : Blk (w.setCell ⟨c, i, none⟩ v) b x y z := by
  unfold Blk at *; simp [World.setCell, Array.getElem?_modify, h, hn]
/-- parse's two variables, behind w's blocks. -/
def PSt (w W : World) (x y z : List UInt8) : Prop := Below w.heap.size w W ∧ W.heap.size = w.heap.size + 2 ∧ Blk W w.heap.size [] [] [] ∧ Blk W (w.heap.size + 1) x y z
theorem pst_new (w : World) (l : List UInt8) : PSt w ((w.alloc (.cells #[.string ⟨#[]⟩, .string ⟨#[]⟩, .string ⟨#[]⟩] 192)).alloc (.cells #[.string ⟨#[48]⟩, .string ⟨l.toArray⟩, .string ⟨#[48]⟩] 192)) [48] l [48] := by
  refine ⟨((Below.refl _ _).alloc (Nat.le_refl _) _).alloc (by simp) _, by simp, ?_, ?_⟩
  · unfold Blk
    rw [Below.heap_alloc _ _ _ (by simp)]; exact heap_alloc_new w _
  · have h := heap_alloc_new (w.alloc (.cells #[.string ⟨#[]⟩, .string ⟨#[]⟩, .string ⟨#[]⟩] 192)) (.cells #[.string ⟨#[48]⟩, .string ⟨l.toArray⟩, .string ⟨#[48]⟩] 192)
    rw [show (w.alloc (.cells #[.string ⟨#[]⟩, .string ⟨#[]⟩, .string ⟨#[]⟩] 192)).heap.size = w.heap.size + 1 from by simp] at h
    exact h
theorem pst_draw {w W W' : World} {x y z : List UInt8} (h : PSt w W x y z) (hd : ∃ n, W' = W.drewN n) : PSt w W' x y z := by
  obtain ⟨n, rfl⟩ := hd
  exact ⟨below_drewN h.1 n, h.2.1, h.2.2.1, h.2.2.2⟩
theorem pst_01 {w W : World} {x y z : List UInt8} (h : PSt w W x y z) (a b : List UInt8) : PSt w ((W.setCell ⟨w.heap.size + 1, 0, none⟩ (.string ⟨a.toArray⟩)).setCell ⟨w.heap.size + 1, 1, none⟩ (.string ⟨b.toArray⟩)) a b z :=
  ⟨(h.1.setCell (Nat.le_succ _) _).setCell (Nat.le_succ _) _, by simp only [World.setCell, Array.size_modify]; exact h.2.1, blk_other (blk_other h.2.2.1 (by omega) _) (by omega) _, blk_set1 (blk_set0 h.2.2.2 a) b⟩
theorem pst_12 {w W : World} {x y z : List UInt8} (h : PSt w W x y z) (a b : List UInt8) : PSt w ((W.setCell ⟨w.heap.size + 1, 1, none⟩ (.string ⟨a.toArray⟩)).setCell ⟨w.heap.size + 1, 2, none⟩ (.string ⟨b.toArray⟩)) x a b :=
  ⟨(h.1.setCell (Nat.le_succ _) _).setCell (Nat.le_succ _) _, by simp only [World.setCell, Array.size_modify]; exact h.2.1, blk_other (blk_other h.2.2.1 (by omega) _) (by omega) _, blk_set2 (blk_set1 h.2.2.2 a) b⟩

set_option maxHeartbeats 1000000 in
theorem parse_any (l : List UInt8) (w : World) (hw : MaxOk w) (h : l.length ≤ 40) :
    Calls Tryz.prog 174 #[.string ⟨l.toArray⟩] w fun e w' => e = parsed l ∧ Below w.heap.size w w' := by
  obtain ⟨r, _, hrl, hA, hB⟩ := pieces l
  have le := ep_le l
  have lp := pt_le l
  have lq := rv_le l
  have HP : Hid (parsed l = ended (Vm.ep l) (Vm.pt l) (Vm.rv l)) := rfl
  generalize Vm.ep l = e at *
  generalize Vm.pt l = p at *
  generalize Vm.rv l = q at *
  have hw' : ∀ (W : World) (x y z : List UInt8), PSt w W x y z → MaxOk W := fun W x y z hb => maxOk_below hw hb.1
  have HW := Lib.hid hw'
  clear hw hw'
  rcases hA with ⟨a1, a2, a3⟩ | ⟨a1, a2, a3⟩
  · have A1 := Lib.hid a1
    clear a1
    go_enter Tryz.func174, Tryz.ntmps174
    go_wp2_with fail
    rw [show decide ((l.length : Int) ≤ 40) = true from by simp; omega]
    refine (require_yes _).mono ?_
    rintro e0 w0 ⟨rfl, rfl⟩
    go_wp2_with fail
    have HS0 := Lib.hid (pst_new w l)
    refine (cut_yes l 58 _ (HW.out _ _ _ _ HS0.out) (by omega) A1.out).mono ?_
    rintro e1 w1 ⟨g1, g2⟩; subst g1
    have HS := Lib.hid (pst_draw HS0.out g2)
    clear g2 HS0
    obtain ⟨hc0, hc1, hc2, hf0, hf1, hf2⟩ := blk_cells HS.out.2.2.2
    go_wp2_with fail
    rcases hB with ⟨b1, b2, b3⟩ | ⟨b1, b2, b3⟩
    · have B1 := Lib.hid b1
      clear b1
      have HS1 : Hid (PSt w ((w1.setCell ⟨w.heap.size + 1, 0, none⟩ (.string ⟨e.toArray⟩)).setCell ⟨w.heap.size + 1, 1, none⟩ (.string ⟨r.toArray⟩)) e r [48]) := pst_01 HS.out e r
      refine (cut_yes r 45 _ (HW.out _ _ _ _ HS1.out) (by omega) B1.out).mono ?_
      rintro e2 w2 ⟨g1, g2⟩; subst g1
      have HS2 := Lib.hid (pst_draw HS1.out g2)
      clear g2 HS1 HS hc0 hc1 hc2 hf0 hf1 hf2
      have HS := HS2
      clear HS2
      obtain ⟨hc0, hc1, hc2, hf0, hf1, hf2⟩ := blk_cells HS.out.2.2.2
      go_wp2_with fail
      have HS3 : Hid (PSt w ((w2.setCell ⟨w.heap.size + 1, 1, none⟩ (.string ⟨p.toArray⟩)).setCell ⟨w.heap.size + 1, 2, none⟩ (.string ⟨q.toArray⟩)) e p q) := pst_12 HS.out p q
      cases he : Vm.epOk e
      · have HEe := Lib.hid he
        clear he
        refine (requireEpoch_no e _ (by omega) HEe.out).mono ?_
        rintro e2 w2 ⟨g1, g2⟩; subst g1
        have HB := Lib.hid (g2 ▸ HS3.out.1 : Below w.heap.size w w2)
        clear g2
        go_wp2_with fail
        exact ⟨rfl, by rw [HP.out, ended, HEe.out]; rfl, HB.out⟩
      · have HEe := Lib.hid he
        clear he
        refine (requireEpoch_yes e _ (by omega) HEe.out).mono ?_
        rintro e2 w2 ⟨g1, g2⟩; subst g1
        have HS4 := Lib.hid (g2 ▸ HS3.out : PSt w w2 e p q)
        clear g2 hc0 hc1 hc2 hf0 hf1 hf2 HS HS3
        obtain ⟨hc0, hc1, hc2, hf0, hf1, hf2⟩ := blk_cells HS4.out.2.2.2
        obtain ⟨hd0, hd1, hd2, he0, he1, he2⟩ := blk_cells HS4.out.2.2.1
        go_wp2_with fail
        cases hp : Vm.partOk p
        · have HEp := Lib.hid hp
          clear hp
          refine (requirePart_no p _ (by omega) HEp.out).mono ?_
          rintro e3 w3 ⟨g1, g2⟩; subst g1
          have HB := Lib.hid (g2 ▸ HS4.out.1 : Below w.heap.size w w3)
          clear g2
          go_wp2_with fail
          exact ⟨rfl, by rw [HP.out, ended, HEe.out, HEp.out]; rfl, HB.out⟩
        · have HEp := Lib.hid hp
          clear hp
          refine (requirePart_yes p _ (by omega) HEp.out).mono ?_
          rintro e3 w3 ⟨g1, g2⟩; subst g2; subst g1
          go_wp2_with fail
          cases hq : Vm.partOk q
          · have HEq := Lib.hid hq
            clear hq
            refine (requirePart_no q _ (by omega) HEq.out).mono ?_
            rintro e3 w3 ⟨g1, g2⟩; subst g1
            have HB := Lib.hid (g2 ▸ HS4.out.1 : Below w.heap.size w w3)
            clear g2
            go_wp2_with fail
            exact ⟨rfl, by rw [HP.out, ended, HEe.out, HEp.out, HEq.out]; rfl, HB.out⟩
          · have HEq := Lib.hid hq
            clear hq
            refine (requirePart_yes q _ (by omega) HEq.out).mono ?_
            rintro e3 w3 ⟨g1, g2⟩; subst g2; subst g1
            go_wp2_with fail
            refine bodyPost_ret (v := .agg #[.string ⟨e.toArray⟩, .string ⟨p.toArray⟩, .string ⟨q.toArray⟩]) (by simp [results, Tryz.results174, go_sem, hd0, hd1, hd2]) rfl ⟨by rw [HP.out, ended, HEe.out, HEp.out, HEq.out]; rfl, ?_⟩
            exact ((HS4.out.1.setCell (Nat.le_refl _) _).setCell (Nat.le_refl _) _).setCell (Nat.le_refl _) _
    · have B1 := Lib.hid b1
      clear b1
      subst b2 b3
      have HS1 : Hid (PSt w ((w1.setCell ⟨w.heap.size + 1, 0, none⟩ (.string ⟨e.toArray⟩)).setCell ⟨w.heap.size + 1, 1, none⟩ (.string ⟨r.toArray⟩)) e r [48]) := pst_01 HS.out e r
      refine (cut_no r 45 _ (HW.out _ _ _ _ HS1.out) (by omega) B1.out).mono ?_
      rintro e2 w2 ⟨g1, g2⟩; subst g1
      have HS2 := Lib.hid (pst_draw HS1.out g2)
      clear g2 HS1 HS hc0 hc1 hc2 hf0 hf1 hf2
      have HS := HS2
      clear HS2
      obtain ⟨hc0, hc1, hc2, hf0, hf1, hf2⟩ := blk_cells HS.out.2.2.2
      go_wp2_with fail
      have HS3 : Hid (PSt w w2 e r [48]) := HS.out
      cases he : Vm.epOk e
      · have HEe := Lib.hid he
        clear he
        refine (requireEpoch_no e _ (by omega) HEe.out).mono ?_
        rintro e2 w2 ⟨g1, g2⟩; subst g1
        have HB := Lib.hid (g2 ▸ HS3.out.1 : Below w.heap.size w w2)
        clear g2
        go_wp2_with fail
        exact ⟨rfl, by rw [HP.out, ended, HEe.out]; rfl, HB.out⟩
      · have HEe := Lib.hid he
        clear he
        refine (requireEpoch_yes e _ (by omega) HEe.out).mono ?_
        rintro e2 w2 ⟨g1, g2⟩; subst g1
        have HS4 := Lib.hid (g2 ▸ HS3.out : PSt w w2 e r [48])
        clear g2 hc0 hc1 hc2 hf0 hf1 hf2 HS HS3
        obtain ⟨hc0, hc1, hc2, hf0, hf1, hf2⟩ := blk_cells HS4.out.2.2.2
        obtain ⟨hd0, hd1, hd2, he0, he1, he2⟩ := blk_cells HS4.out.2.2.1
        go_wp2_with fail
        cases hp : Vm.partOk r
        · have HEp := Lib.hid hp
          clear hp
          refine (requirePart_no r _ (by omega) HEp.out).mono ?_
          rintro e3 w3 ⟨g1, g2⟩; subst g1
          have HB := Lib.hid (g2 ▸ HS4.out.1 : Below w.heap.size w w3)
          clear g2
          go_wp2_with fail
          exact ⟨rfl, by rw [HP.out, ended, HEe.out, HEp.out]; rfl, HB.out⟩
        · have HEp := Lib.hid hp
          clear hp
          refine (requirePart_yes r _ (by omega) HEp.out).mono ?_
          rintro e3 w3 ⟨g1, g2⟩; subst g2; subst g1
          go_wp2_with fail
          cases hq : Vm.partOk [48]
          · have HEq := Lib.hid hq
            clear hq
            refine (requirePart_no [48] _ (by simp) HEq.out).mono ?_
            rintro e3 w3 ⟨g1, g2⟩; subst g1
            have HB := Lib.hid (g2 ▸ HS4.out.1 : Below w.heap.size w w3)
            clear g2
            go_wp2_with fail
            exact ⟨rfl, by rw [HP.out, ended, HEe.out, HEp.out, HEq.out]; rfl, HB.out⟩
          · have HEq := Lib.hid hq
            clear hq
            refine (requirePart_yes [48] _ (by simp) HEq.out).mono ?_
            rintro e3 w3 ⟨g1, g2⟩; subst g2; subst g1
            go_wp2_with fail
            refine bodyPost_ret (v := .agg #[.string ⟨e.toArray⟩, .string ⟨r.toArray⟩, .string ⟨#[48]⟩]) (by simp [results, Tryz.results174, go_sem, hd0, hd1, hd2]) rfl ⟨by rw [HP.out, ended, HEe.out, HEp.out, HEq.out]; rfl, ?_⟩
            exact ((HS4.out.1.setCell (Nat.le_refl _) _).setCell (Nat.le_refl _) _).setCell (Nat.le_refl _) _
  · have A1 := Lib.hid a1
    clear a1
    subst a2 a3
    go_enter Tryz.func174, Tryz.ntmps174
    go_wp2_with fail
    rw [show decide ((l.length : Int) ≤ 40) = true from by simp; omega]
    refine (require_yes _).mono ?_
    rintro e0 w0 ⟨rfl, rfl⟩
    go_wp2_with fail
    have HS0 := Lib.hid (pst_new w l)
    refine (cut_no l 58 _ (HW.out _ _ _ _ HS0.out) (by omega) A1.out).mono ?_
    rintro e1 w1 ⟨g1, g2⟩; subst g1
    have HS := Lib.hid (pst_draw HS0.out g2)
    clear g2 HS0
    obtain ⟨hc0, hc1, hc2, hf0, hf1, hf2⟩ := blk_cells HS.out.2.2.2
    go_wp2_with fail
    rcases hB with ⟨b1, b2, b3⟩ | ⟨b1, b2, b3⟩
    · have B1 := Lib.hid b1
      clear b1
      have HS1 : Hid (PSt w w1 [48] l [48]) := HS.out
      refine (cut_yes l 45 _ (HW.out _ _ _ _ HS1.out) (by omega) B1.out).mono ?_
      rintro e2 w2 ⟨g1, g2⟩; subst g1
      have HS2 := Lib.hid (pst_draw HS1.out g2)
      clear g2 HS1 HS hc0 hc1 hc2 hf0 hf1 hf2
      have HS := HS2
      clear HS2
      obtain ⟨hc0, hc1, hc2, hf0, hf1, hf2⟩ := blk_cells HS.out.2.2.2
      go_wp2_with fail
      have HS3 : Hid (PSt w ((w2.setCell ⟨w.heap.size + 1, 1, none⟩ (.string ⟨p.toArray⟩)).setCell ⟨w.heap.size + 1, 2, none⟩ (.string ⟨q.toArray⟩)) [48] p q) := pst_12 HS.out p q
      cases he : Vm.epOk [48]
      · have HEe := Lib.hid he
        clear he
        refine (requireEpoch_no [48] _ (by simp) HEe.out).mono ?_
        rintro e2 w2 ⟨g1, g2⟩; subst g1
        have HB := Lib.hid (g2 ▸ HS3.out.1 : Below w.heap.size w w2)
        clear g2
        go_wp2_with fail
        exact ⟨rfl, by rw [HP.out, ended, HEe.out]; rfl, HB.out⟩
      · have HEe := Lib.hid he
        clear he
        refine (requireEpoch_yes [48] _ (by simp) HEe.out).mono ?_
        rintro e2 w2 ⟨g1, g2⟩; subst g1
        have HS4 := Lib.hid (g2 ▸ HS3.out : PSt w w2 [48] p q)
        clear g2 hc0 hc1 hc2 hf0 hf1 hf2 HS HS3
        obtain ⟨hc0, hc1, hc2, hf0, hf1, hf2⟩ := blk_cells HS4.out.2.2.2
        obtain ⟨hd0, hd1, hd2, he0, he1, he2⟩ := blk_cells HS4.out.2.2.1
        go_wp2_with fail
        cases hp : Vm.partOk p
        · have HEp := Lib.hid hp
          clear hp
          refine (requirePart_no p _ (by omega) HEp.out).mono ?_
          rintro e3 w3 ⟨g1, g2⟩; subst g1
          have HB := Lib.hid (g2 ▸ HS4.out.1 : Below w.heap.size w w3)
          clear g2
          go_wp2_with fail
          exact ⟨rfl, by rw [HP.out, ended, HEe.out, HEp.out]; rfl, HB.out⟩
        · have HEp := Lib.hid hp
          clear hp
          refine (requirePart_yes p _ (by omega) HEp.out).mono ?_
          rintro e3 w3 ⟨g1, g2⟩; subst g2; subst g1
          go_wp2_with fail
          cases hq : Vm.partOk q
          · have HEq := Lib.hid hq
            clear hq
            refine (requirePart_no q _ (by omega) HEq.out).mono ?_
            rintro e3 w3 ⟨g1, g2⟩; subst g1
            have HB := Lib.hid (g2 ▸ HS4.out.1 : Below w.heap.size w w3)
            clear g2
            go_wp2_with fail
            exact ⟨rfl, by rw [HP.out, ended, HEe.out, HEp.out, HEq.out]; rfl, HB.out⟩
          · have HEq := Lib.hid hq
            clear hq
            refine (requirePart_yes q _ (by omega) HEq.out).mono ?_
            rintro e3 w3 ⟨g1, g2⟩; subst g2; subst g1
            go_wp2_with fail
            refine bodyPost_ret (v := .agg #[.string ⟨#[48]⟩, .string ⟨p.toArray⟩, .string ⟨q.toArray⟩]) (by simp [results, Tryz.results174, go_sem, hd0, hd1, hd2]) rfl ⟨by rw [HP.out, ended, HEe.out, HEp.out, HEq.out]; rfl, ?_⟩
            exact ((HS4.out.1.setCell (Nat.le_refl _) _).setCell (Nat.le_refl _) _).setCell (Nat.le_refl _) _
    · have B1 := Lib.hid b1
      clear b1
      subst b2 b3
      have HS1 : Hid (PSt w w1 [48] l [48]) := HS.out
      refine (cut_no l 45 _ (HW.out _ _ _ _ HS1.out) (by omega) B1.out).mono ?_
      rintro e2 w2 ⟨g1, g2⟩; subst g1
      have HS2 := Lib.hid (pst_draw HS1.out g2)
      clear g2 HS1 HS hc0 hc1 hc2 hf0 hf1 hf2
      have HS := HS2
      clear HS2
      obtain ⟨hc0, hc1, hc2, hf0, hf1, hf2⟩ := blk_cells HS.out.2.2.2
      go_wp2_with fail
      have HS3 : Hid (PSt w w2 [48] l [48]) := HS.out
      cases he : Vm.epOk [48]
      · have HEe := Lib.hid he
        clear he
        refine (requireEpoch_no [48] _ (by simp) HEe.out).mono ?_
        rintro e2 w2 ⟨g1, g2⟩; subst g1
        have HB := Lib.hid (g2 ▸ HS3.out.1 : Below w.heap.size w w2)
        clear g2
        go_wp2_with fail
        exact ⟨rfl, by rw [HP.out, ended, HEe.out]; rfl, HB.out⟩
      · have HEe := Lib.hid he
        clear he
        refine (requireEpoch_yes [48] _ (by simp) HEe.out).mono ?_
        rintro e2 w2 ⟨g1, g2⟩; subst g1
        have HS4 := Lib.hid (g2 ▸ HS3.out : PSt w w2 [48] l [48])
        clear g2 hc0 hc1 hc2 hf0 hf1 hf2 HS HS3
        obtain ⟨hc0, hc1, hc2, hf0, hf1, hf2⟩ := blk_cells HS4.out.2.2.2
        obtain ⟨hd0, hd1, hd2, he0, he1, he2⟩ := blk_cells HS4.out.2.2.1
        go_wp2_with fail
        cases hp : Vm.partOk l
        · have HEp := Lib.hid hp
          clear hp
          refine (requirePart_no l _ (by omega) HEp.out).mono ?_
          rintro e3 w3 ⟨g1, g2⟩; subst g1
          have HB := Lib.hid (g2 ▸ HS4.out.1 : Below w.heap.size w w3)
          clear g2
          go_wp2_with fail
          exact ⟨rfl, by rw [HP.out, ended, HEe.out, HEp.out]; rfl, HB.out⟩
        · have HEp := Lib.hid hp
          clear hp
          refine (requirePart_yes l _ (by omega) HEp.out).mono ?_
          rintro e3 w3 ⟨g1, g2⟩; subst g2; subst g1
          go_wp2_with fail
          cases hq : Vm.partOk [48]
          · have HEq := Lib.hid hq
            clear hq
            refine (requirePart_no [48] _ (by simp) HEq.out).mono ?_
            rintro e3 w3 ⟨g1, g2⟩; subst g1
            have HB := Lib.hid (g2 ▸ HS4.out.1 : Below w.heap.size w w3)
            clear g2
            go_wp2_with fail
            exact ⟨rfl, by rw [HP.out, ended, HEe.out, HEp.out, HEq.out]; rfl, HB.out⟩
          · have HEq := Lib.hid hq
            clear hq
            refine (requirePart_yes [48] _ (by simp) HEq.out).mono ?_
            rintro e3 w3 ⟨g1, g2⟩; subst g2; subst g1
            go_wp2_with fail
            refine bodyPost_ret (v := .agg #[.string ⟨#[48]⟩, .string ⟨l.toArray⟩, .string ⟨#[48]⟩]) (by simp [results, Tryz.results174, go_sem, hd0, hd1, hd2]) rfl ⟨by rw [HP.out, ended, HEe.out, HEp.out, HEq.out]; rfl, ?_⟩
            exact ((HS4.out.1.setCell (Nat.le_refl _) _).setCell (Nat.le_refl _) _).setCell (Nat.le_refl _) _
end Go.Proofs.YtkdildgdodnbbaaGreatDoor
namespace Go.Proofs.YtkdildgdodnbbaaGreatDoor
open Go.RowKit

theorem canonP_le (n : Nat) : ∀ l : List UInt8, (Vm.canonP n l).length ≤ 2 * l.length := by
  induction n with
  | zero => intro l; simp [Vm.canonP]
  | succ n ih =>
    intro l
    cases h : l.isEmpty
    · rw [canonP_step n l h]
      have h1 := runs_length l
      have h2 := bare_le (Vm.digs l)
      have h3 := ih (Vm.tail2 l)
      have h4 := tail2_lt l h
      simp only [List.length_append]
      omega
    · rw [canonP_end _ l h]; simp
/-- The canonical form out of the pieces. -/
def textOf (e p q : List UInt8) : List UInt8 := (if Vm.bare e == [48] then [] else Vm.bare e ++ [58]) ++ Vm.canonP 41 p ++ (if Vm.canonP 41 q == [48] then [] else 45 :: Vm.canonP 41 q)
theorem canonP_ne (l : List UInt8) (h : l ≠ []) : Vm.canonP 41 l ≠ [] := by
  rw [canonP_step 40 l (by simpa using h)]
  have : Vm.bare (Vm.digs l) ≠ [] := by
    unfold Vm.bare; split
    · simp
    · rename_i h; simpa using h
  simp [this]
theorem own_cells_at {w : World} {B : Nat} {ad : Addr} {n c : Nat} {l : List UInt8} (h : Own w B (.slice (some ad) n c) l) : ∀ j u, (Lib.strCells ⟨l.toArray⟩)[j]? = some u → w.cell? (ad.add j) = some u := by
  have h0 := h
  obtain ⟨h1, h2⟩ := h
  rcases h2 with ⟨h2, _⟩ | ⟨g, cap, cur, h2, _⟩
  · cases h2
  · obtain rfl : ad = ⟨g, 0, none⟩ := by injection h2 with h2; exact Option.some.inj h2
    exact World.ownsRow.cells h0 rfl
theorem cell_new1 (w : World) (x : Value) (T : TypeId) (b : UInt8) (hx : x = .int .u8 b.toNat) : ∀ j u, (Lib.strCells ⟨[b].toArray⟩)[j]? = some u → (w.alloc (.cells #[x] T)).cell? ((⟨w.heap.size, 0, none⟩ : Addr).add j) = some u := by
  subst hx
  intro j u h
  match j, h with
  | 0, h =>
    simp [Lib.strCells] at h
    subst h
    simp [Addr.add]
set_option maxHeartbeats 1000000 in
theorem text_any (e p q : List UInt8) (w : World) (he : e.length ≤ 41) (hp : p.length ≤ 41) (hq : q.length ≤ 41) (hp0 : p ≠ []) (hq0 : q ≠ []) (hap : ascii p) (haq : ascii q) :
    Calls Tryz.prog 175 #[.agg #[.string ⟨e.toArray⟩, .string ⟨p.toArray⟩, .string ⟨q.toArray⟩]] w fun r w' => r = .returned (.string ⟨(textOf e p q).toArray⟩) ∧ Below w.heap.size w w' := by
  have HT : Hid (textOf e p q = (if Vm.bare e == [48] then [] else Vm.bare e ++ [58]) ++ Vm.canonP 41 p ++ (if Vm.canonP 41 q == [48] then [] else 45 :: Vm.canonP 41 q)) := rfl
  have HAP := Lib.hid hap
  have HAQ := Lib.hid haq
  have HLB := Lib.hid (bare_le e)
  have HLP := Lib.hid (canonP_le 41 p)
  have HLQ := Lib.hid (canonP_le 41 q)
  have HNQ := Lib.hid (canonP_ne q hq0)
  have HNP := Lib.hid (canonP_ne p hp0)
  clear hap haq hp0 hq0
  go_enter Tryz.func175, Tryz.ntmps175
  go_wp2_with fail
  refine (bare_any e _).mono ?_
  rintro _ _ ⟨rfl, rfl⟩
  obtain ⟨b, hb⟩ : ∃ b, Vm.bare e = b := ⟨_, rfl⟩
  rw [hb] at HT HLB
  rw [hb]
  clear hb
  obtain ⟨W, hW⟩ : ∃ W, w.alloc (.cells #[.string ⟨e.toArray⟩, .string ⟨p.toArray⟩, .string ⟨q.toArray⟩] 192) = W := ⟨_, rfl⟩
  have hbel : Below w.heap.size w W := by rw [← hW]; exact (Below.refl _ _).alloc (Nat.le_refl _) _
  have hsz : w.heap.size + 1 = W.heap.size := by rw [← hW]; simp
  have hblk : Blk W w.heap.size e p q := by rw [← hW]; exact heap_alloc_new w _
  rw [hW]
  clear hW
  have HBL := Lib.hid hblk
  clear hblk
  have HSZ : w.heap.size + 1 ≤ W.heap.size := by omega
  clear hsz
  cases hz : b == [48]
  · have HZ := Lib.hid hz
    clear hz
    have hne : (b == [48]) = false := HZ.out
    go_wp2_with (at_builtin; refine append_str rfl _ _ rfl (w.heap.size + 1) _ [] b rfl (own_nil _ _) rfl ?c1 HSZ ?_)
    case c1 => have := HLB.out; simp; omega
    intro v0 W0 ho0 hg0
    have HO0 : Hid (Own W0 (w.heap.size + 1) v0 b) := ho0
    have hb0 := grown_below (own_nil W (w.heap.size + 1)) HSZ hg0
    have HBL0 : Hid (Blk W0 w.heap.size e p q) := by show Blk _ _ _ _ _; unfold Blk; rw [hb0.block _ (Nat.lt_succ_self _)]; exact HBL.out
    have hbel0 : Below w.heap.size w W0 := hbel.trans (hb0.mono (Nat.le_succ _))
    have HSZ0 : w.heap.size + 1 ≤ W0.heap.size := Nat.le_trans HSZ hb0.size
    clear hb0 ho0 hg0 HBL hbel HSZ
    go_wp2_with (at_builtin; refine append_bytes rfl _ _ rfl (w.heap.size + 1) _ b [58] rfl (own_alloc HO0.out _) ⟨W0.heap.size, 0, none⟩ _ rfl (cell_new1 W0 _ _ 58 rfl) ?c2 ?c3 ?_)
    case c2 => have := HLB.out; simp; omega
    case c3 => simp; omega
    intro v5 W5 ho5 hg5
    have HO : Hid (Own W5 (w.heap.size + 1) v5 (b ++ [58])) := ho5
    have hb5 := grown_below (own_alloc HO0.out _) (by simp; omega) hg5
    have HBL : Hid (Blk W5 w.heap.size e p q) := by show Blk _ _ _ _ _; unfold Blk; rw [hb5.block _ (Nat.lt_succ_self _), Below.heap_alloc _ _ _ (by omega)]; exact HBL0.out
    have hbel : Below w.heap.size w W5 := (hbel0.alloc (by omega) _).trans (hb5.mono (Nat.le_succ _))
    have HSZ : w.heap.size + 1 ≤ W5.heap.size := Nat.le_trans (by simp; omega) hb5.size
    clear hb5 ho5 hg5 HBL0 hbel0 HSZ0 HO0
    obtain ⟨hc0, hc1, hc2, hf0, hf1, hf2⟩ := blk_cells HBL.out
    go_wp2_with fail
    refine (appendPart_any 41 (w.heap.size + 1) _ (b ++ [58]) p _ (by omega) (by omega) (by have := HLB.out; simp; omega) HAP.out HSZ HO.out).mono ?_
    rintro r1 W1 ⟨v1, g1, ho1, hb1⟩
    subst g1
    have HO1 := Lib.hid ho1
    have HBL1 : Hid (Blk W1 w.heap.size e p q) := by show Blk _ _ _ _ _; unfold Blk; rw [hb1.block _ (Nat.lt_succ_self _)]; exact HBL.out
    have hbel1 : Below w.heap.size w W1 := hbel.trans (hb1.mono (Nat.le_succ _))
    have HSZ1 : w.heap.size + 1 ≤ W1.heap.size := Nat.le_trans HSZ hb1.size
    clear hb1 ho1 HO HBL HSZ hbel hc0 hc1 hc2 hf0 hf1 hf2
    obtain ⟨hc0, hc1, hc2, hf0, hf1, hf2⟩ := blk_cells HBL1.out
    go_wp2_with fail
    refine (appendPart_any 41 W1.heap.size _ [] q _ (by omega) (by omega) (by simp) HAQ.out (Nat.le_refl _) (own_nil _ _)).mono ?_
    rintro r2 W2 ⟨v2, g2, ho2, hb2⟩
    subst g2
    have HO2 : Hid (Own W2 W1.heap.size v2 (Vm.canonP 41 q)) := ho2
    have HO1' := Lib.hid (own_below HO1.out hb2)
    have HLT : Hid (∀ k, v1.ownBlock = some k → k < W1.heap.size) := fun k hk => (own_lt HO1.out k hk).2
    have HGE : Hid (∀ k, v2.ownBlock = some k → W1.heap.size ≤ k) := fun k hk => (own_lt ho2 k hk).1
    have hbel2 : Below w.heap.size w W2 := hbel1.trans (hb2.mono (Nat.le_trans (Nat.le_succ _) HSZ1))
    have HSZ2 : w.heap.size + 1 ≤ W2.heap.size := Nat.le_trans HSZ1 hb2.size
    clear hb2 ho2 HO1 HBL1 HSZ1 hbel1 hc0 hc1 hc2 hf0 hf1 hf2
    obtain ⟨y, hy⟩ : ∃ y, Vm.canonP 41 q = y := ⟨_, rfl⟩
    rw [hy] at HO2 HT HLQ HNQ
    obtain ⟨x, hx⟩ : ∃ x, Vm.canonP 41 p = x := ⟨_, rfl⟩
    rw [hx] at HO1' HT HLP HNP
    clear hy hx
    obtain ⟨X, hX⟩ : ∃ X, (b ++ [58] ++ x) = X := ⟨_, rfl⟩
    have HXL : X.length ≤ 300 := by rw [← hX]; have := HLP.out; have := HLB.out; simp; omega
    have HTX : Hid (textOf e p q = X ++ (if y == [48] then [] else 45 :: y)) := by show _ = _; rw [HT.out, HZ.out, ← hX]; rfl
    have HO1 : Hid (Own W2 (w.heap.size + 1) v1 X) := by show Own _ _ _ _; rw [← hX]; exact HO1'.out
    clear hX HT HZ HO1' HLP HNP HLB
    have hcv := own_string HO2.out
    obtain ⟨ad2, cp2, rfl, hbk2, -⟩ := own_cells HO2.out HNQ.out
    have HK2 := Lib.hid hbk2
    clear hbk2
    cases hz2 : y == [48]
    · have HT2 : Hid (textOf e p q = X ++ (45 :: y)) := by show _ = _; rw [HTX.out, hz2]; rfl
      have HNE : Hid ((Value.slice (some ad2) y.length cp2).ownBlock = none ∨ (Value.slice (some ad2) y.length cp2).ownBlock ≠ v1.ownBlock) := by
        refine Or.inr fun h => ?_
        have h1 := HGE.out ad2.block HK2.out
        have h2 := HLT.out ad2.block (h ▸ HK2.out)
        omega
      have HB0 : Hid (Below w.heap.size w W2) := hbel2
      go_wp2_with (at_builtin; refine append_bytes rfl _ _ rfl (w.heap.size + 1) _ X [45] rfl (own_alloc HO1.out _) ⟨W2.heap.size, 0, none⟩ _ rfl (cell_new1 W2 _ _ 45 rfl) ?c2 ?c3 ?_)
      case c2 => simp; omega
      case c3 => simp; omega
      intro v3 W3 ho3 hg3
      have HO3 := Lib.hid ho3
      have HO2' := Lib.hid (own_kept (own_alloc HO2.out _) hg3 HNE.out)
      have hbel3 : Below w.heap.size w W3 := (hbel2.alloc (by omega) _).trans ((grown_below (own_alloc HO1.out _) (by simp; omega) hg3).mono (Nat.le_succ _))
      have HSZ3 : w.heap.size + 1 ≤ W3.heap.size := Nat.le_trans (by simp; omega) hg3.size
      clear ho3 hg3 HO2 HO1 hcv hbel2 HSZ2 HB0
      go_wp2_with (at_builtin; refine append_bytes rfl _ _ rfl (w.heap.size + 1) _ (X ++ [45]) y rfl HO3.out ad2 _ rfl (own_cells_at HO2'.out) ?c4 HSZ3 ?_)
      case c4 => have := HLQ.out; simp; omega
      intro v4 W4 ho4 hg4
      have hbel4 : Below w.heap.size w W4 := hbel3.trans ((grown_below HO3.out HSZ3 hg4).mono (Nat.le_succ _))
      have hcv4 := own_string ho4
      clear ho4 hg4 HO3 HO2' hbel3 HSZ3
      go_wp2_with fail
      go_ret
      exact ⟨by rw [HT2.out]; simp, hbel4⟩
    · have HT2 : Hid (textOf e p q = X) := by show _ = _; rw [HTX.out, hz2]; simp
      have hcv1 := own_string HO1.out
      go_wp2_with fail
      go_ret
      exact ⟨by rw [HT2.out]; rfl, hbel2⟩
  · have HZ := Lib.hid hz
    clear hz
    have hne : (b == [48]) = true := HZ.out
    have HO : Hid (Own W (w.heap.size + 1) (.slice none 0 0) []) := own_nil _ _
    obtain ⟨hc0, hc1, hc2, hf0, hf1, hf2⟩ := blk_cells HBL.out
    go_wp2_with fail
    refine (appendPart_any 41 (w.heap.size + 1) _ [] p _ (by omega) (by omega) (by simp) HAP.out HSZ HO.out).mono ?_
    rintro r1 W1 ⟨v1, g1, ho1, hb1⟩
    subst g1
    have HO1 := Lib.hid ho1
    have HBL1 : Hid (Blk W1 w.heap.size e p q) := by show Blk _ _ _ _ _; unfold Blk; rw [hb1.block _ (Nat.lt_succ_self _)]; exact HBL.out
    have hbel1 : Below w.heap.size w W1 := hbel.trans (hb1.mono (Nat.le_succ _))
    have HSZ1 : w.heap.size + 1 ≤ W1.heap.size := Nat.le_trans HSZ hb1.size
    clear hb1 ho1 HO HBL HSZ hbel hc0 hc1 hc2 hf0 hf1 hf2
    obtain ⟨hc0, hc1, hc2, hf0, hf1, hf2⟩ := blk_cells HBL1.out
    go_wp2_with fail
    refine (appendPart_any 41 W1.heap.size _ [] q _ (by omega) (by omega) (by simp) HAQ.out (Nat.le_refl _) (own_nil _ _)).mono ?_
    rintro r2 W2 ⟨v2, g2, ho2, hb2⟩
    subst g2
    have HO2 : Hid (Own W2 W1.heap.size v2 (Vm.canonP 41 q)) := ho2
    have HO1' := Lib.hid (own_below HO1.out hb2)
    have HLT : Hid (∀ k, v1.ownBlock = some k → k < W1.heap.size) := fun k hk => (own_lt HO1.out k hk).2
    have HGE : Hid (∀ k, v2.ownBlock = some k → W1.heap.size ≤ k) := fun k hk => (own_lt ho2 k hk).1
    have hbel2 : Below w.heap.size w W2 := hbel1.trans (hb2.mono (Nat.le_trans (Nat.le_succ _) HSZ1))
    have HSZ2 : w.heap.size + 1 ≤ W2.heap.size := Nat.le_trans HSZ1 hb2.size
    clear hb2 ho2 HO1 HBL1 HSZ1 hbel1 hc0 hc1 hc2 hf0 hf1 hf2
    obtain ⟨y, hy⟩ : ∃ y, Vm.canonP 41 q = y := ⟨_, rfl⟩
    rw [hy] at HO2 HT HLQ HNQ
    obtain ⟨x, hx⟩ : ∃ x, Vm.canonP 41 p = x := ⟨_, rfl⟩
    rw [hx] at HO1' HT HLP HNP
    clear hy hx
    obtain ⟨X, hX⟩ : ∃ X, ([] ++ x) = X := ⟨_, rfl⟩
    have HXL : X.length ≤ 300 := by rw [← hX]; have := HLP.out; have := HLB.out; simp; omega
    have HTX : Hid (textOf e p q = X ++ (if y == [48] then [] else 45 :: y)) := by show _ = _; rw [HT.out, HZ.out, ← hX]; rfl
    have HO1 : Hid (Own W2 (w.heap.size + 1) v1 X) := by show Own _ _ _ _; rw [← hX]; exact HO1'.out
    clear hX HT HZ HO1' HLP HNP HLB
    have hcv := own_string HO2.out
    obtain ⟨ad2, cp2, rfl, hbk2, -⟩ := own_cells HO2.out HNQ.out
    have HK2 := Lib.hid hbk2
    clear hbk2
    cases hz2 : y == [48]
    · have HT2 : Hid (textOf e p q = X ++ (45 :: y)) := by show _ = _; rw [HTX.out, hz2]; rfl
      have HNE : Hid ((Value.slice (some ad2) y.length cp2).ownBlock = none ∨ (Value.slice (some ad2) y.length cp2).ownBlock ≠ v1.ownBlock) := by
        refine Or.inr fun h => ?_
        have h1 := HGE.out ad2.block HK2.out
        have h2 := HLT.out ad2.block (h ▸ HK2.out)
        omega
      have HB0 : Hid (Below w.heap.size w W2) := hbel2
      go_wp2_with (at_builtin; refine append_bytes rfl _ _ rfl (w.heap.size + 1) _ X [45] rfl (own_alloc HO1.out _) ⟨W2.heap.size, 0, none⟩ _ rfl (cell_new1 W2 _ _ 45 rfl) ?c2 ?c3 ?_)
      case c2 => simp; omega
      case c3 => simp; omega
      intro v3 W3 ho3 hg3
      have HO3 := Lib.hid ho3
      have HO2' := Lib.hid (own_kept (own_alloc HO2.out _) hg3 HNE.out)
      have hbel3 : Below w.heap.size w W3 := (hbel2.alloc (by omega) _).trans ((grown_below (own_alloc HO1.out _) (by simp; omega) hg3).mono (Nat.le_succ _))
      have HSZ3 : w.heap.size + 1 ≤ W3.heap.size := Nat.le_trans (by simp; omega) hg3.size
      clear ho3 hg3 HO2 HO1 hcv hbel2 HSZ2 HB0
      go_wp2_with (at_builtin; refine append_bytes rfl _ _ rfl (w.heap.size + 1) _ (X ++ [45]) y rfl HO3.out ad2 _ rfl (own_cells_at HO2'.out) ?c4 HSZ3 ?_)
      case c4 => have := HLQ.out; simp; omega
      intro v4 W4 ho4 hg4
      have hbel4 : Below w.heap.size w W4 := hbel3.trans ((grown_below HO3.out HSZ3 hg4).mono (Nat.le_succ _))
      have hcv4 := own_string ho4
      clear ho4 hg4 HO3 HO2' hbel3 HSZ3
      go_wp2_with fail
      go_ret
      exact ⟨by rw [HT2.out]; simp, hbel4⟩
    · have HT2 : Hid (textOf e p q = X) := by show _ = _; rw [HTX.out, hz2]; simp
      have hcv1 := own_string HO1.out
      go_wp2_with fail
      go_ret
      exact ⟨by rw [HT2.out]; rfl, hbel2⟩
end Go.Proofs.YtkdildgdodnbbaaGreatDoor
