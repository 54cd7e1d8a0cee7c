/- Asks, plain: what may be, what is written, what is read; what is written is read again. No program is named here. Asks in memory. -/
import Derived.Test.YtkdildgdodnbbaaGreatDoorTg
import Derived.Test.YtkdildgdodnbbaaGreatDoorSa
import Derived.Test.YtkdildgdodnbbaaGreatDoorBp
import Derived.Test.YtkdildgdodnbbaaGreatDoorSb
namespace Go.Proofs.YtkdildgdodnbbaaGreatDoor.Ak
open Go.RowKit Rs At Sz
structure Rq where
  kind : Int
  atm : Atm
deriving DecidableEq
/-- What is wrong of an ask. -/
def checkQ (a : Rq) : Int :=
  if a.kind < 1 ∨ 4 < a.kind then 1 else
  if checkA a.atm = 0 then (if (a.kind = 2 ∨ a.kind = 3) ∧ a.atm.rng ≠ allS then 1 else 0) else checkA a.atm
def wordQ (k : Int) : List UInt8 :=
  if k = 1 then [105, 110, 115, 116, 97, 108, 108] else if k = 2 then [114, 101, 109, 111, 118, 101] else if k = 3 then [117, 112, 103, 114, 97, 100, 101] else if k = 4 then [112, 105, 110] else []
def lineQ (a : Rq) : List UInt8 := wordQ a.kind ++ 32 :: textA a.atm
/-- The first of n places from i on where f is not nought. -/
def firstQ (f : Nat → Int) : Nat → Nat → Nat × Int
  | 0, _ => (0, 0)
  | n + 1, i => if f i = 0 then firstQ f n (i + 1) else (i, f i)
theorem firstQ_ok (f : Nat → Int) : ∀ (n i : Nat), (∀ j, j < n → f (i + j) = 0) → firstQ f n i = (0, 0)
  | 0, _, _ => rfl
  | n + 1, i, h => by
    unfold firstQ
    rw [if_pos (show f i = 0 from h 0 (Nat.succ_pos _))]
    exact firstQ_ok f n (i + 1) fun j hj => by rw [Nat.add_right_comm]; exact h (j + 1) (Nat.succ_lt_succ hj)
theorem firstQ_bad (f : Nat → Int) : ∀ (n i k : Nat), k < n → (∀ j, j < k → f (i + j) = 0) → f (i + k) ≠ 0 → firstQ f n i = (i + k, f (i + k))
  | 0, _, _, h, _, _ => absurd h (Nat.not_lt_zero _)
  | n + 1, i, 0, _, _, h => by
    unfold firstQ
    exact if_neg h
  | n + 1, i, k + 1, hk, ho, h => by
    unfold firstQ
    rw [if_pos (show f i = 0 from ho 0 (Nat.succ_pos _))]
    have e : i + 1 + k = i + (k + 1) := by omega
    have := firstQ_bad f n (i + 1) k (Nat.lt_of_succ_lt_succ hk) (fun j hj => by rw [Nat.add_right_comm]; exact ho (j + 1) (Nat.succ_lt_succ hj)) (by rw [e]; exact h)
    rw [e] at this; exact this
theorem firstQ_all (f : Nat → Int) : ∀ (n i : Nat), (firstQ f n i).2 = 0 → (firstQ f n i).1 = 0 ∧ ∀ j, j < n → f (i + j) = 0
  | 0, _, _ => ⟨rfl, fun _ h => absurd h (Nat.not_lt_zero _)⟩
  | n + 1, i, h => by
    unfold firstQ at h ⊢
    by_cases h0 : f i = 0
    · rw [if_pos h0] at h ⊢
      obtain ⟨h1, h2⟩ := firstQ_all f n (i + 1) h
      refine ⟨h1, fun j hj => ?_⟩
      cases j with
      | zero => exact h0
      | succ j => have := h2 j (by omega); rw [Nat.add_right_comm] at this; exact this
    · rw [if_neg h0] at h; exact absurd h h0
def errQ (l : List Rq) (i : Nat) : Int := match l[i]? with
  | none => 0
  | some a => checkQ a
/-- What is wrong of a list of asks first, and where (their text is never too long). -/
def checkQs (l : List Rq) : Nat × Int := if 32 < l.length then (0, 4) else firstQ (errQ l) l.length 0
def textQ (l : List Rq) : List UInt8 := joinL (l.map lineQ)
/-- What kind a word tells; none: nought. -/
def kindQ (s : List UInt8) : Int :=
  if s = [105, 110, 115, 116, 97, 108, 108] then 1 else if s = [114, 101, 109, 111, 118, 101] then 2 else if s = [117, 112, 103, 114, 97, 100, 101] then 3 else if s = [112, 105, 110] then 4 else 0
/-- What a line tells. -/
def askP (s : List UInt8) : Int × Rq :=
  if Vm.has 32 s = true ∧ kindQ (Vm.fst 32 s) ≠ 0 then
    (if (parseA (Vm.snd 32 s)).1 = 0 then
      (if checkQ ⟨kindQ (Vm.fst 32 s), (parseA (Vm.snd 32 s)).2⟩ = 0 then (0, ⟨kindQ (Vm.fst 32 s), (parseA (Vm.snd 32 s)).2⟩) else (checkQ ⟨kindQ (Vm.fst 32 s), (parseA (Vm.snd 32 s)).2⟩, ⟨0, zeroA⟩))
     else ((parseA (Vm.snd 32 s)).1, ⟨0, zeroA⟩))
  else (2, ⟨0, zeroA⟩)
def errP (ls : List (List UInt8)) (i : Nat) : Int := match ls[i]? with
  | none => 0
  | some s => (askP s).1
def readQ (s : List UInt8) : Nat × Int × List Rq :=
  if 65536 < s.length then (0, 4, []) else if endB s then
    (if 32 < (linesL s).length then (0, 4, []) else
      if (firstQ (errP (linesL s)) (linesL s).length 0).2 = 0 then (0, 0, (linesL s).map fun x => (askP x).2) else ((firstQ (errP (linesL s)) (linesL s).length 0).1, (firstQ (errP (linesL s)) (linesL s).length 0).2, []))
  else (0, 2, [])
theorem kind_cases {a : Rq} (h : checkQ a = 0) : a.kind = 1 ∨ a.kind = 2 ∨ a.kind = 3 ∨ a.kind = 4 := by
  unfold checkQ at h
  by_cases hk : a.kind < 1 ∨ 4 < a.kind
  · rw [if_pos hk] at h; cases h
  · omega
theorem check_atm {a : Rq} (h : checkQ a = 0) : checkA a.atm = 0 := by
  unfold checkQ at h
  by_cases hk : a.kind < 1 ∨ 4 < a.kind
  · rw [if_pos hk] at h; cases h
  · rw [if_neg hk] at h
    by_cases hc : checkA a.atm = 0
    · exact hc
    · rw [if_neg hc] at h; exact absurd h hc
theorem word_kind : ∀ k : Int, k = 1 ∨ k = 2 ∨ k = 3 ∨ k = 4 → kindQ (wordQ k) = k ∧ (32 : UInt8) ∉ wordQ k ∧ (10 : UInt8) ∉ wordQ k ∧ (wordQ k).length ≤ 7 := fun k h => by
  rcases h with rfl | rfl | rfl | rfl <;> decide
/-- What is told of an ask is read as it. -/
theorem ask_line {a : Rq} (h : checkQ a = 0) : askP (lineQ a) = (0, a) := by
  obtain ⟨k1, k2, _, _⟩ := word_kind a.kind (kind_cases h)
  obtain ⟨f1, f2, f3⟩ := fst_app (c := 32) (p := wordQ a.kind) (r := textA a.atm) k2
  have hp := parse_text (check_atm h)
  have hk0 : a.kind ≠ 0 := by have := kind_cases h; omega
  unfold askP lineQ
  rw [f1, f2, f3, k1, hp, if_pos ⟨rfl, hk0⟩, if_pos rfl]
  show (if checkQ ⟨a.kind, a.atm⟩ = 0 then _ else _) = _
  rw [if_pos h]

/-! No line ends in a line. -/
theorem ver_10 {v : List UInt8} (h : Vm.check v = 0) : (10 : UInt8) ∉ v := fun hm => absurd (ver_chars h _ hm) (by decide)
theorem name_10 {s : List UInt8} (h : nameB s = true) : (10 : UInt8) ∉ s := by
  unfold nameB at h
  simp only [Bool.and_eq_true] at h
  obtain ⟨_, _, _, h4⟩ := h
  exact fun hm => absurd (List.all_eq_true.1 h4 _ hm) (by decide)
theorem sign_10 : ∀ i, i < 6 → (10 : UInt8) ∉ sgnT i := by decide +kernel
theorem cond_10 {c : Cond} (h : At.CondOk c) : (10 : UInt8) ∉ condT c := by
  obtain ⟨i, hi, hs, ho⟩ := h
  obtain ⟨s, v⟩ := c
  obtain rfl : s = sgnT i := hs
  unfold condT
  intro hm
  rcases List.mem_append.1 hm with h | h
  · exact sign_10 i hi h
  · rcases List.mem_cons.1 h with h | h
    · exact absurd h (by decide)
    · exact ver_10 ho.1 h
theorem alt_10 {l : List Cond} (h : ∀ c ∈ l, At.CondOk c) : (10 : UInt8) ∉ altT l := fun hm => by
  unfold altT at hm
  rcases mem_join hm with ⟨p, hp, hx⟩ | hx
  · obtain ⟨c, hc, rfl⟩ := List.mem_map.1 hp
    exact cond_10 (h c hc) hx
  · exact absurd hx (by decide)
theorem term_10 {t : List (List Cond)} (h : ∀ l ∈ t, ∀ c ∈ l, At.CondOk c) : (10 : UInt8) ∉ termT t := fun hm => by
  unfold termT at hm
  split at hm
  · exact absurd hm (by decide)
  rcases mem_join hm with ⟨p, hp, hx⟩ | hx
  · obtain ⟨c, hc, rfl⟩ := List.mem_map.1 hp
    exact alt_10 (h c hc) hx
  · exact absurd hx (by decide)
theorem text_10 {a : Atm} (h : checkA a = 0) : (10 : UInt8) ∉ textA a := by
  obtain ⟨h1, h2, _⟩ := check_parts h
  unfold textA
  split
  · exact name_10 h1
  obtain ⟨_, _, h3⟩ := check_spans h2
  have t1 := term_10 (t := At.termOf a.rng) (fun l hl => by
    obtain ⟨s, hs, rfl⟩ := List.mem_map.1 hl
    exact conds_ok (h3 s hs))
  intro hm
  rcases List.mem_append.1 hm with hm | hm
  · exact name_10 h1 hm
  rcases List.mem_cons.1 hm with hm | hm
  · exact absurd hm (by decide)
  rcases List.mem_cons.1 hm with hm | hm
  · exact absurd hm (by decide)
  rcases List.mem_append.1 hm with hm | hm
  · exact t1 hm
  · exact absurd hm (by decide)
theorem line_10 {a : Rq} (h : checkQ a = 0) : (10 : UInt8) ∉ lineQ a := fun hm => by
  unfold lineQ at hm
  obtain ⟨_, _, k3, _⟩ := word_kind a.kind (kind_cases h)
  rcases List.mem_append.1 hm with h1 | h1
  · exact k3 h1
  · rcases List.mem_cons.1 h1 with h1 | h1
    · exact absurd h1 (by decide)
    · exact text_10 (check_atm h) h1
theorem line_le {a : Rq} (h : checkQ a = 0) : (lineQ a).length ≤ 1008 := by
  obtain ⟨_, _, _, k4⟩ := word_kind a.kind (kind_cases h)
  have := text_le (check_atm h)
  unfold lineQ
  rw [List.length_append, List.length_cons]; omega
theorem checks_of {l : List Rq} (h : (checkQs l).2 = 0) : l.length ≤ 32 ∧ (checkQs l).1 = 0 ∧ ∀ a ∈ l, checkQ a = 0 := by
  unfold checkQs at h ⊢
  by_cases h1 : 32 < l.length
  · rw [if_pos h1] at h; cases h
  · rw [if_neg h1] at h ⊢
    obtain ⟨h2, h3⟩ := firstQ_all _ _ _ h
    refine ⟨by omega, h2, fun a ha => ?_⟩
    obtain ⟨i, hi, rfl⟩ := List.mem_iff_getElem.1 ha
    have := h3 i hi
    unfold errQ at this
    rw [Nat.zero_add, List.getElem?_eq_getElem hi] at this
    exact this
theorem text_lines {l : List Rq} (h : ∀ a ∈ l, checkQ a = 0) : linesL (textQ l) = l.map lineQ := lines_join _ fun s hs => by
  obtain ⟨a, ha, rfl⟩ := List.mem_map.1 hs
  exact line_10 (h a ha)
theorem joinL_le (n : Nat) : ∀ ls : List (List UInt8), (∀ s ∈ ls, s.length ≤ n) → (joinL ls).length ≤ ls.length * (n + 1)
  | [], _ => by simp [joinL]
  | s :: ls, h => by
    have ih := joinL_le n ls fun x hx => h x (by simp [hx])
    have h1 := h s (by simp)
    rw [joinL_cons, List.length_append, List.length_append, List.length_singleton, List.length_cons, Nat.add_mul]; omega
theorem textQ_le {l : List Rq} (h : ∀ a ∈ l, checkQ a = 0) : (textQ l).length ≤ l.length * 1009 := by
  have := joinL_le 1008 (l.map lineQ) fun s hs => by
    obtain ⟨a, ha, rfl⟩ := List.mem_map.1 hs
    exact line_le (h a ha)
  rw [List.length_map] at this
  exact this
theorem readQ_text {l : List Rq} (h : (checkQs l).2 = 0) : readQ (textQ l) = (0, 0, l) := by
  obtain ⟨h1, _, h3⟩ := checks_of h
  have hl := textQ_le h3
  have hm : l.length * 1009 ≤ 32 * 1009 := Nat.mul_le_mul_right _ h1
  unfold readQ
  rw [if_neg (by omega), if_pos (show endB (textQ l) = true from end_join _), text_lines h3]
  have hf : firstQ (errP (l.map lineQ)) (l.map lineQ).length 0 = (0, 0) := firstQ_ok _ _ _ fun j hj => by
    rw [List.length_map] at hj
    unfold errP
    rw [Nat.zero_add, List.getElem?_eq_getElem (by rw [List.length_map]; exact hj)]
    dsimp only
    rw [List.getElem_map, ask_line (h3 _ (List.getElem_mem hj))]
  rw [if_neg (show ¬ 32 < (l.map lineQ).length by rw [List.length_map]; omega), hf, if_pos (show ((0 : Nat), (0 : Int)).2 = 0 from rfl), List.map_map]
  refine Prod.ext rfl (Prod.ext rfl ?_)
  show l.map _ = l
  conv => rhs; rw [← List.map_id l]
  refine List.map_congr_left fun a ha => ?_
  show (askP (lineQ a)).2 = a
  rw [ask_line (h3 a ha)]
theorem askP_check {s : List UInt8} (h : (askP s).1 = 0) : checkQ (askP s).2 = 0 := by
  unfold askP at h ⊢
  split
  · rename_i h1
    rw [if_pos h1] at h
    split
    · rename_i h2
      rw [if_pos h2] at h
      split
      · rename_i h3; exact h3
      · rename_i h3; rw [if_neg h3] at h; exact absurd h h3
    · rename_i h2; rw [if_neg h2] at h; exact absurd h h2
  · rename_i h1; rw [if_neg h1] at h; cases h
theorem readQ_check {s : List UInt8} : ∀ a ∈ (readQ s).2.2, checkQ a = 0 := fun a ha => by
  unfold readQ at ha
  split at ha
  · cases ha
  split at ha
  · split at ha
    · cases ha
    · split at ha
      · rename_i h4
        obtain ⟨x, hx, rfl⟩ := List.mem_map.1 ha
        obtain ⟨i, hi, rfl⟩ := List.mem_iff_getElem.1 hx
        have := (firstQ_all _ _ _ h4).2 i hi
        unfold errP at this
        rw [Nat.zero_add, List.getElem?_eq_getElem hi] at this
        exact askP_check this
      · cases ha
  · cases ha
theorem readQ_few {s : List UInt8} : (readQ s).2.2.length ≤ 32 := by
  unfold readQ
  split
  · exact Nat.zero_le _
  split
  · split
    · exact Nat.zero_le _
    · split
      · show (List.map _ _).length ≤ 32
        rw [List.length_map]; omega
      · exact Nat.zero_le _
  · exact Nat.zero_le _
end Go.Proofs.YtkdildgdodnbbaaGreatDoor.Ak
namespace Go.Proofs.YtkdildgdodnbbaaGreatDoor.Ak
open Go.RowKit Rs At Pg
/-- An ask as it lies in three cells. -/
abbrev QD := Int × List UInt8 × Desc
def encQ (d : QD) : List Value := [.int .i64 d.1, .string ⟨d.2.1.toArray⟩, .slice d.2.2.1 d.2.2.2.1 d.2.2.2.2]
theorem fitsQ : Rg.Fits encQ 3 := ⟨fun _ => rfl, fun x u hu => by
  simp only [encQ, List.mem_cons, List.not_mem_nil, or_false] at hu
  rcases hu with rfl | rfl | rfl <;> rfl⟩
theorem sliceQ : Rg.SliceT Tryz.prog encQ 3 25 34 := ⟨fitsQ, by decide, by kernel_rfl, Rg.info_of (z := .agg #[.int .i64 0, .string ByteArray.empty, .slice none 0 0]) (b := 48) (by kernel_rfl) (by rfl) (by decide)⟩
theorem sliceRQ : Rg.SliceT Tryz.prog encQ 3 22 40 := ⟨fitsQ, by decide, by kernel_rfl, Rg.info_of (z := .agg #[.int .i64 0, .string ByteArray.empty, .slice none 0 0]) (b := 48) (by kernel_rfl) (by rfl) (by decide)⟩
theorem zeroQ_nob : ∀ i, Tryz.prog.info? 34 = some i → ∀ z, i.zero = some z → ∀ u ∈ z.cells, NoB u := zero_is (z0 := .agg #[.int .i64 0, .string ByteArray.empty, .slice none 0 0]) (by kernel_rfl) (fun u hu b e => by subst e; simp [Value.cells] at hu)
theorem zeroRQ_nob : ∀ i, Tryz.prog.info? 40 = some i → ∀ z, i.zero = some z → ∀ u ∈ z.cells, NoB u := zero_is (z0 := .agg #[.int .i64 0, .string ByteArray.empty, .slice none 0 0]) (by kernel_rfl) (fun u hu b e => by subst e; simp [Value.cells] at hu)
theorem encQ_nob : ∀ x : QD, ∀ u ∈ encQ x, NoB u := fun x u hu b e => by subst e; simp [encQ] at hu
def QIn (w : World) (ds : List QD) (l : List Rq) : Prop := ds.length = l.length ∧ ∀ (i : Nat) (d : QD) (a : Rq), ds[i]? = some d → l[i]? = some a → d.1 = a.kind ∧ d.2.1 = a.atm.name ∧ d.2.2.2.1 = a.atm.rng.length ∧ SRow w d.2.2.1 a.atm.rng
def QRow (w : World) (A : Option Addr) (l : List Rq) : Prop := ∃ ds, Rg.Row encQ 3 w A ds ∧ QIn w ds l
theorem qin_below {w w' : World} {ds : List QD} {l : List Rq} (h : QIn w ds l) (hb : Below w.heap.size w w') : QIn w' ds l :=
  ⟨h.1, fun i d a h1 h2 => ⟨(h.2 i d a h1 h2).1, (h.2 i d a h1 h2).2.1, (h.2 i d a h1 h2).2.2.1, srow_below (h.2 i d a h1 h2).2.2.2 hb⟩⟩
theorem qrow_below {w w' : World} {A : Option Addr} {l : List Rq} (h : QRow w A l) (hb : Below w.heap.size w w') : QRow w' A l := by
  obtain ⟨ds, h1, h2⟩ := h; exact ⟨ds, Rg.row_below h1 hb, qin_below h2 hb⟩
theorem qrow_nil (w : World) : QRow w none [] := ⟨[], Rg.row_nil _ _, rfl, fun i d a h => by simp at h⟩
theorem qrow_at {w : World} {A : Option Addr} {l : List Rq} (h : QRow w A l) (k : Nat) (hk : k < l.length) : ∃ ad C n c, A = some ad ∧ l[k].atm.rng.length = n ∧ SRow w C l[k].atm.rng ∧ ∀ u, Below w.heap.size w u → u.cell? (ad.add (k * 3)) = some (.int .i64 l[k].kind) ∧ u.cell? ⟨(ad.add (k * 3)).block, (ad.add (k * 3)).off + 1, none⟩ = some (.string ⟨l[k].atm.name.toArray⟩) ∧ u.cell? ⟨(ad.add (k * 3)).block, (ad.add (k * 3)).off + 2, none⟩ = some (.slice C n c) := by
  obtain ⟨ds, h1, h2, h3⟩ := h
  have hkd : k < ds.length := by omega
  obtain ⟨ad, e, _, _⟩ := h1 (by omega)
  obtain ⟨q0, q1, q2, q3⟩ := h3 k ds[k] l[k] (List.getElem?_eq_getElem hkd) (List.getElem?_eq_getElem hk)
  refine ⟨ad, ds[k].2.2.1, ds[k].2.2.2.1, ds[k].2.2.2.2, e, q2.symm, q3, fun u hb => ?_⟩
  obtain ⟨ad', x, e', hx, _, hc⟩ := Rg.row_at (Rg.row_below h1 hb) k hkd
  rw [e] at e'; cases e'
  subst hx
  exact ⟨by rw [← q0]; exact hc 0 _ rfl, by rw [← q1]; exact hc 1 _ rfl, hc 2 _ rfl⟩
/-- Asks that are not too great. -/
def QFew (l : List Rq) : Prop := ∀ a ∈ l, a.atm.name.length ≤ maxLen ∧ a.atm.rng.length ≤ 1000
theorem qfew_at {l : List Rq} (h : QFew l) (k : Nat) (hk : k < l.length) : l[k].atm.name.length ≤ maxLen ∧ l[k].atm.rng.length ≤ 1000 := h _ (List.getElem_mem hk)
/-- Asks of one's own, in a row that grows. -/
def QOwn (w : World) (B : Nat) (T : TypeId) (v : Value) (ds : List QD) (l : List Rq) : Prop := Rg.Own encQ 3 w B T v ds ∧ QIn w ds l ∧ Pure NoB w v
theorem qown_nil (w : World) (B : Nat) (T : TypeId) : QOwn w B T (.slice none 0 0) [] [] := ⟨Rg.own_nil _ _ _, ⟨rfl, fun i d a h => by simp at h⟩, pure_nil _ _⟩
theorem qown_below {w w' : World} {B : Nat} {T : TypeId} {v : Value} {ds : List QD} {l : List Rq} (h : QOwn w B T v ds l) (hb : Below w.heap.size w w') : QOwn w' B T v ds l := ⟨Rg.own_below h.1 hb, qin_below h.2.1 hb, pure_below h.2.2 h.1 hb⟩
theorem qin_snoc {w : World} {ds : List QD} {l : List Rq} {d : QD} {a : Rq} (h : QIn w ds l) (h0 : d.1 = a.kind) (h1 : d.2.1 = a.atm.name) (h2 : d.2.2.2.1 = a.atm.rng.length) (h3 : SRow w d.2.2.1 a.atm.rng) : QIn w (ds ++ [d]) (l ++ [a]) := by
  refine ⟨by rw [List.length_append, List.length_append, h.1]; rfl, fun i x y e1 e2 => ?_⟩
  rcases get_snoc e1 with ⟨q1, q2⟩ | ⟨q1, q2⟩
  · rcases get_snoc e2 with ⟨_, p2⟩ | ⟨p1, _⟩
    · exact h.2 i x y q2 p2
    · have := h.1; omega
  · rcases get_snoc e2 with ⟨p1, _⟩ | ⟨_, p2⟩
    · have := h.1; omega
    · subst q2 p2; exact ⟨h0, h1, h2, h3⟩
theorem qin_but {r : Option Nat} {w u : World} {ds : List QD} {l : List Rq} (h : QIn w ds l) (hb : But r w u) (hg : ∀ g, r = some g → ∀ j x, w.cell? ⟨g, j, none⟩ = some x → NoB x) : QIn u ds l :=
  ⟨h.1, fun i d a h1 h2 => ⟨(h.2 i d a h1 h2).1, (h.2 i d a h1 h2).2.1, (h.2 i d a h1 h2).2.2.1, srow_but (h.2 i d a h1 h2).2.2.2 hb (fun h0 q hq e => by
    cases r with
    | none => cases e
    | some g => exact srow_nob (h.2 i d a h1 h2).2.2.2 (hg g rfl) h0 q hq e)⟩⟩
theorem qown_add {w w' : World} {B : Nat} {T : TypeId} {v v' : Value} {ds : List QD} {l : List Rq} {C : Option Addr} {m c : Nat} {a : Rq} (h : QOwn w B T v ds l) (hr : SRow w C a.atm.rng) (hm : a.atm.rng.length = m) (ho : Rg.Own encQ 3 w' B T v' (ds ++ [(a.kind, a.atm.name, C, m, c)])) (hp : Pure NoB w' v') (hg : w.grownBy w' v.ownBlock) : QOwn w' B T v' (ds ++ [(a.kind, a.atm.name, C, m, c)]) (l ++ [a]) := by
  have hb : But v.ownBlock w w' := but_grown hg
  refine ⟨ho, qin_snoc (qin_but h.2.1 hb h.2.2) rfl rfl hm.symm (srow_but hr hb fun h0 q hq e => ?_), hp⟩
  cases hv : v.ownBlock with
  | none => rw [hv] at e; cases e
  | some g => rw [hv] at e; exact srow_nob hr (h.2.2 g hv) h0 q hq e
theorem qown_row {w : World} {B : Nat} {T : TypeId} {v : Value} {ds : List QD} {l : List Rq} (h : QOwn w B T v ds l) : ∃ A c, v = .slice A l.length c ∧ QRow w A l ∧ ∀ a, A = some a → B ≤ a.block := by
  obtain ⟨A, c, hv, hr, _, _⟩ := Rg.row_own fitsQ h.1
  rw [h.2.1.1] at hv
  exact ⟨A, c, hv, ⟨ds, hr, h.2.1⟩, fun a ha => by subst ha; exact (Rg.own_lt h.1 a.block (by rw [hv]; rfl)).1⟩
/-- A row in another block stays as it is where cells of a block without bools turn. -/
theorem qrow_set {u : World} {b j : Nat} {T : TypeId} {v : Value} {A : Option Addr} {l : List Rq} (h : QRow u A l) (hb : u.heap[b]? = some (.cells #[.int .i64 0] T (0, 0))) : QRow (u.setCell ⟨b, j, none⟩ v) A l := by
  have hbut : But (some b) u (u.setCell ⟨b, j, none⟩ v) := but_set u ⟨b, j, none⟩ v
  have hcell : ∀ j x, u.cell? ⟨b, j, none⟩ = some x → x = .int .i64 0 ∧ j = 0 := fun j x hx => by
    simp only [World.cell?, hb] at hx
    cases j with
    | zero => simp at hx; exact ⟨hx.symm, rfl⟩
    | succ j => simp at hx
  obtain ⟨ds, h1, h2⟩ := h
  refine ⟨ds, row_but h1 hbut (fun h0 a ha e => ?_), qin_but h2 hbut (fun g hg j x hx => by
    cases hg
    obtain ⟨rfl, _⟩ := hcell j x hx
    intro b e; cases e)⟩
  obtain ⟨a', e', _, hc⟩ := h1 h0
  rw [ha] at e'; cases e'
  have h3 := hc 0 h0 1 _ rfl
  rw [if_neg (by decide)] at h3
  have hbl : (a.add (0 * 3)).block = b := by rw [add_block]; exact (Option.some.inj e).symm
  rw [hbl] at h3
  have := (hcell _ _ h3).2
  omega
/-- How a function leaves that asks something of ask i. -/
def okAt (i : Nat) (k : Int) : Ending := if k = 0 then .returned (.tuple #[]) else panAt i k
theorem okAt_zero (i : Nat) : okAt i 0 = .returned (.tuple #[]) := rfl
theorem okAt_ne {i : Nat} {k : Int} (h : k ≠ 0) : okAt i k = panAt i k := if_neg h
end Go.Proofs.YtkdildgdodnbbaaGreatDoor.Ak
