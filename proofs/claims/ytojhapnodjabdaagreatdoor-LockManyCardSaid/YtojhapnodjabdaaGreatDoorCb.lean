/- Names, versions, entries and lists of what is installed, plain: what may be, what is written, what is read; what is written is read again, and with one byte turned it is not. No program is named here. -/
import Derived.Test.YtojhapnodjabdaaGreatDoorCa
import Derived.Test.YtojhapnodjabdaaGreatDoorSa
namespace Go.Proofs.YtojhapnodjabdaaGreatDoor.At
theorem fst_snd {c : UInt8} {s : List UInt8} (h : Vm.has c s = true) : s = Vm.fst c s ++ c :: Vm.snd c s := by
  unfold Vm.has at h
  have hm : c ∈ s := by simpa using h
  unfold Vm.fst Vm.snd
  induction s with
  | nil => cases hm
  | cons b l ih =>
    by_cases hb : b = c
    · subst hb; simp
    · have : c ∈ l := by rcases List.mem_cons.1 hm with e | e
                         · exact absurd e.symm hb
                         · exact e
      have h2 := ih (by simpa using this) this
      have e : (b != c) = true := by simpa using hb
      rw [List.takeWhile_cons, List.dropWhile_cons, if_pos e, if_pos e, List.cons_append, ← h2]
theorem fst_app {c : UInt8} {p r : List UInt8} (h : c ∉ p) : Vm.fst c (p ++ c :: r) = p ∧ Vm.snd c (p ++ c :: r) = r ∧ Vm.has c (p ++ c :: r) = true := by
  have hp : ∀ x ∈ p, (x != c) = true := fun x hx => by simp; exact fun e => h (e ▸ hx)
  refine ⟨?_, ?_, ?_⟩
  · unfold Vm.fst
    rw [List.takeWhile_append_of_pos hp, List.takeWhile_cons, if_neg (by simp), List.append_nil]
  · unfold Vm.snd
    rw [List.dropWhile_append_of_pos hp, List.dropWhile_cons, if_neg (by simp)]; rfl
  · unfold Vm.has; simp
theorem fst_none {c : UInt8} {p : List UInt8} (h : c ∉ p) : Vm.fst c p = p ∧ Vm.has c p = false := by
  constructor
  · unfold Vm.fst
    have hp : ∀ x ∈ p, (x != c) = true := fun x hx => by simp; exact fun e => h (e ▸ hx)
    have := List.takeWhile_append_of_pos (l₂ := []) hp
    simpa using this
  · unfold Vm.has; simpa using h
/-- A byte of a version. -/
def verC (c : UInt8) : Bool := Vm.ok1 c || (c == 58 || c == 45)
theorem ok1_verC {c : UInt8} (h : Vm.ok1 c = true) : verC c = true := by unfold verC; rw [h]; rfl
theorem dig_verC {c : UInt8} (h : Vm.dig c = true) : verC c = true := ok1_verC (by unfold Vm.ok1; rw [h]; rfl)
theorem ver_chars {v : List UInt8} (h : Vm.check v = 0) : ∀ c ∈ v, verC c = true := by
  obtain ⟨_, h1, h2, h3⟩ := Vm.ver_of h
  have part : ∀ l, Vm.partOk l = true → ∀ c ∈ l, verC c = true := fun l hl c hc => by
    unfold Vm.partOk at hl
    simp only [Bool.and_eq_true] at hl
    exact ok1_verC (List.all_eq_true.1 hl.2.2.2 c hc)
  have hrest : ∀ c ∈ Vm.rest v, verC c = true := fun c hc => by
    by_cases h45 : Vm.has 45 (Vm.rest v) = true
    · rw [fst_snd h45] at hc
      rcases List.mem_append.1 hc with hc | hc
      · exact part _ h2 c hc
      · rcases List.mem_cons.1 hc with rfl | hc
        · rfl
        · refine part _ h3 c ?_
          unfold Vm.rv; rw [if_pos h45]; exact hc
    · have e : Vm.fst 45 (Vm.rest v) = Vm.rest v := (fst_none (by unfold Vm.has at h45; simpa using h45)).1
      refine part _ h2 c ?_
      unfold Vm.pt; rw [e]; exact hc
  intro c hc
  by_cases h58 : Vm.has 58 v = true
  · have e := fst_snd h58
    rw [e] at hc
    rcases List.mem_append.1 hc with hc | hc
    · have he : Vm.ep v = Vm.fst 58 v := by unfold Vm.ep; rw [if_pos h58]
      rw [he] at h1
      unfold Vm.epOk at h1
      simp only [Bool.and_eq_true] at h1
      exact dig_verC (List.all_eq_true.1 h1.2.2 c hc)
    · rcases List.mem_cons.1 hc with rfl | hc
      · rfl
      · refine hrest c ?_
        unfold Vm.rest; rw [if_pos h58]; exact hc
  · refine hrest c ?_
    unfold Vm.rest; rw [if_neg h58]; exact hc
def low (c : UInt8) : Bool := decide (97 ≤ c.toNat) && decide (c.toNat ≤ 122)
def nameC (c : UInt8) : Bool := low c || (Vm.dig c || c == 45)
/-- Is it a package's name? -/
def nameB (s : List UInt8) : Bool := !s.isEmpty && (decide (s.length ≤ 24) && (low (s.getD 0 0) && s.all nameC))
theorem name_no24 {l : List UInt8} (h : 24 < l.length) : nameB l = false := by
  unfold nameB
  rw [decide_eq_false (show ¬ l.length ≤ 24 by omega)]; simp
theorem name_cons {c : UInt8} {l : List UInt8} (h : (c :: l).length ≤ 24) : nameB (c :: l) = (low c && (c :: l).all nameC) := by
  unfold nameB
  rw [decide_eq_true h]; rfl
theorem nameC_low {c : UInt8} (h : low c = true) : nameC c = true := by unfold nameC; rw [h]; rfl
theorem nameC_dig {c : UInt8} (h : Vm.dig c = true) : nameC c = true := by unfold nameC; rw [h]; simp
theorem nameC_else {c : UInt8} (h : low c = false) (h2 : Vm.dig c = false) : nameC c = (c == 45) := by unfold nameC; rw [h, h2]; rfl
end Go.Proofs.YtojhapnodjabdaaGreatDoor.At
namespace Go.Proofs.YtojhapnodjabdaaGreatDoor.Lk
open At Sz
def wordC (c : UInt8) : Bool := decide (33 ≤ c.toNat) && decide (c.toNat ≤ 126)
def wordB (s : List UInt8) : Bool := !s.isEmpty && s.all wordC
theorem u8_imp (p q : UInt8 → Bool) (h : ∀ n, n < 256 → p (UInt8.ofNat n) = true → q (UInt8.ofNat n) = true) (c : UInt8) (hc : p c = true) : q c = true := by
  have := h c.toNat c.toNat_lt
  rw [UInt8.ofNat_toNat] at this
  exact this hc
theorem nameC_word (c : UInt8) : nameC c = true → wordC c = true := u8_imp nameC wordC (by decide +kernel) c
theorem verC_word (c : UInt8) : verC c = true → wordC c = true := u8_imp verC wordC (by decide +kernel) c
theorem name_word {s : List UInt8} (h : nameB s = true) : wordB s = true := by
  unfold nameB at h
  simp only [Bool.and_eq_true] at h
  unfold wordB
  rw [Bool.and_eq_true]
  exact ⟨h.1, List.all_eq_true.2 fun c hc => nameC_word c (List.all_eq_true.1 h.2.2.2 c hc)⟩
theorem ver_word {v : List UInt8} (h : Vm.check v = 0) : wordB v = true := by
  unfold wordB
  rw [Bool.and_eq_true]
  refine ⟨?_, List.all_eq_true.2 fun c hc => verC_word c (ver_chars h c hc)⟩
  cases v with
  | nil => exact absurd h (by decide)
  | cons _ _ => rfl
theorem word_not {s : List UInt8} (h : wordB s = true) {c : UInt8} (hc : wordC c = false) : c ∉ s := fun hm => by
  unfold wordB at h
  rw [Bool.and_eq_true] at h
  have := List.all_eq_true.1 h.2 c hm
  rw [hc] at this; cases this
abbrev Ent := List UInt8 × List UInt8
def verE (v : List UInt8) : Int := if Vm.check v = 0 then (if Vm.canon v = v then 0 else 5) else Vm.check v
def entE (e : Ent) : Int := if nameB e.1 then verE e.2 else 3
def lessB (a b : List UInt8) : Bool := Op.bytesLess a b
def nextE (p e : Ent) : Int := if entE e = 0 then (if p.1 = e.1 then 6 else if lessB p.1 e.1 then 0 else 7) else entE e
/-- What is wrong of entry i. -/
def errAt (l : List Ent) (i : Nat) : Int := match l[i]? with
  | none => 0
  | some e => if i = 0 then entE e else nextE (l.getD (i - 1) ([], [])) e
/-- The first of n places from i on where f is not nought. -/
def firstE (f : Nat → Int) : Nat → Nat → Nat × Int
  | 0, _ => (0, 0)
  | n + 1, i => if f i = 0 then firstE f n (i + 1) else (i, f i)
theorem first_ok (f : Nat → Int) : ∀ (n i : Nat), (∀ j, j < n → f (i + j) = 0) → firstE f n i = (0, 0)
  | 0, _, _ => rfl
  | n + 1, i, h => by
    unfold firstE
    rw [if_pos (show f i = 0 from h 0 (Nat.succ_pos _))]
    exact first_ok f n (i + 1) fun j hj => by rw [Nat.add_right_comm]; exact h (j + 1) (Nat.succ_lt_succ hj)
theorem first_bad (f : Nat → Int) : ∀ (n i k : Nat), k < n → (∀ j, j < k → f (i + j) = 0) → f (i + k) ≠ 0 → firstE f n i = (i + k, f (i + k))
  | 0, _, _, h, _, _ => absurd h (Nat.not_lt_zero _)
  | n + 1, i, 0, _, _, h => by
    unfold firstE
    exact if_neg h
  | n + 1, i, k + 1, hk, ho, h => by
    unfold firstE
    rw [if_pos (show f i = 0 from ho 0 (Nat.succ_pos _))]
    have e : i + 1 + k = i + (k + 1) := by omega
    have := first_bad f n (i + 1) k (Nat.lt_of_succ_lt_succ hk) (fun j hj => by rw [Nat.add_right_comm]; exact ho (j + 1) (Nat.succ_lt_succ hj)) (by rw [e]; exact h)
    rw [e] at this; exact this
theorem first_all (f : Nat → Int) : ∀ (n i : Nat), (firstE f n i).2 = 0 → (firstE f n i).1 = 0 ∧ ∀ j, j < n → f (i + j) = 0
  | 0, _, _ => ⟨rfl, fun _ h => absurd h (Nat.not_lt_zero _)⟩
  | n + 1, i, h => by
    unfold firstE at h ⊢
    by_cases h0 : f i = 0
    · rw [if_pos h0] at h ⊢
      obtain ⟨h1, h2⟩ := first_all f n (i + 1) h
      refine ⟨h1, fun j hj => ?_⟩
      cases j with
      | zero => exact h0
      | succ j => have := h2 j (by omega); rw [Nat.add_right_comm] at this; exact this
    · rw [if_neg h0] at h; exact absurd h h0
/-- What is wrong of a list first, and where. -/
def checkL (l : List Ent) : Nat × Int := if 64 < l.length then (0, 4) else firstE (errAt l) l.length 0
theorem check_ent {l : List Ent} (h : (checkL l).2 = 0) : l.length ≤ 64 ∧ (checkL l).1 = 0 ∧ ∀ j, j < l.length → errAt l j = 0 := by
  unfold checkL at h ⊢
  split at h
  · cases h
  · rename_i h64
    rw [if_neg h64]
    obtain ⟨h1, h2⟩ := first_all _ _ _ h
    exact ⟨by omega, h1, fun j hj => by have := h2 j hj; rwa [Nat.zero_add] at this⟩
theorem err_ent {l : List Ent} {j : Nat} (hj : j < l.length) (h : errAt l j = 0) : entE l[j] = 0 := by
  unfold errAt at h
  rw [List.getElem?_eq_getElem hj] at h
  dsimp only at h
  by_cases h0 : j = 0
  · rwa [if_pos h0] at h
  · rw [if_neg h0] at h
    unfold nextE at h
    by_cases he : entE l[j] = 0
    · exact he
    · rw [if_neg he] at h; exact h
theorem ent_words {e : Ent} (h : entE e = 0) : wordB e.1 = true ∧ wordB e.2 = true ∧ e.1.length ≤ 24 ∧ e.2.length ≤ 40 := by
  unfold entE at h
  by_cases hn : nameB e.1 = true
  · rw [if_pos hn] at h
    unfold verE at h
    by_cases hv : Vm.check e.2 = 0
    · refine ⟨name_word hn, ver_word hv, ?_, (Vm.ver_of hv).1⟩
      by_cases h24 : 24 < e.1.length
      · rw [name_no24 h24] at hn; cases hn
      · omega
    · rw [if_neg hv] at h; exact absurd h hv
  · rw [if_neg hn] at h; cases h
theorem check_all {l : List Ent} (h : (checkL l).2 = 0) : ∀ e ∈ l, entE e = 0 := fun e he => by
  obtain ⟨j, hj, rfl⟩ := List.getElem_of_mem he
  exact err_ent hj ((check_ent h).2.2 j hj)
/-! What is written. -/
def entT (e : Ent) : List UInt8 := e.1 ++ [32] ++ e.2
def entsT (l : List Ent) : List UInt8 := joinL (l.map entT)
def writeT (l : List Ent) : List UInt8 := entsT l ++ sumLine (entsT l)
theorem entsT_snoc (l : List Ent) (e : Ent) : entsT (l ++ [e]) = entsT l ++ (e.1 ++ [32] ++ e.2 ++ [10]) := by
  unfold entsT joinL
  rw [List.map_append, List.flatMap_append]
  simp [entT]
theorem entsT_take (l : List Ent) (k : Nat) (hk : k < l.length) : entsT (l.take (k + 1)) = entsT (l.take k) ++ (l[k].1 ++ [32] ++ l[k].2 ++ [10]) := by
  rw [List.take_succ_eq_append_getElem hk, entsT_snoc]
theorem joinL_app (a b : List (List UInt8)) : joinL (a ++ b) = joinL a ++ joinL b := List.flatMap_append
theorem entsT_le (l : List Ent) (k : Nat) : (entsT (l.take k)).length ≤ (entsT l).length := by
  have h : entsT l = entsT (l.take k) ++ entsT (l.drop k) := by
    unfold entsT; rw [← joinL_app, ← List.map_append, List.take_append_drop]
  rw [h, List.length_append]; omega
theorem entsT_len : ∀ (l : List Ent), (∀ e ∈ l, entE e = 0) → (entsT l).length ≤ l.length * 66
  | [], _ => Nat.zero_le _
  | e :: l, h => by
    have ih := entsT_len l (fun x hx => h x (List.mem_cons_of_mem _ hx))
    obtain ⟨_, _, h1, h2⟩ := ent_words (h e (List.mem_cons_self ..))
    have e2 : entsT (e :: l) = entT e ++ [10] ++ entsT l := by unfold entsT; rw [List.map_cons, joinL_cons]
    rw [e2]
    unfold entT
    simp only [List.length_append, List.length_cons, List.length_nil]
    omega
theorem write_len {l : List Ent} (h : (checkL l).2 = 0) : (entsT l).length ≤ 4224 ∧ (writeT l).length ≤ 4237 := by
  have h1 := entsT_len l (check_all h)
  have h2 := (check_ent h).1
  unfold writeT
  rw [List.length_append, sumLine_len]
  omega
/-! What is read. -/
def entOf (s : List UInt8) : Option Ent := if wordB (Vm.fst 32 s) && wordB (Vm.snd 32 s) then some (Vm.fst 32 s, Vm.snd 32 s) else none
def formE (ls : List (List UInt8)) (i : Nat) : Int := match ls[i]? with
  | none => 0
  | some s => if (entOf s).isSome then 0 else 2
def linesE (hd : List (List UInt8)) : Nat × Int × List Ent :=
  if (firstE (formE hd) hd.length 0).2 = 0 then
    (if (checkL (hd.filterMap entOf)).2 = 0 then (0, 0, hd.filterMap entOf) else ((checkL (hd.filterMap entOf)).1, (checkL (hd.filterMap entOf)).2, []))
  else ((firstE (formE hd) hd.length 0).1, 2, [])
def readL (s : List UInt8) : Nat × Int × List Ent :=
  if 65536 < s.length then (0, 4, []) else
  if s.isEmpty || !endB s then (0, 2, []) else
  if (linesL s).getLastD [] ++ [10] = sumLine (joinL (linesL s).dropLast) then linesE (linesL s).dropLast else ((linesL s).dropLast.length, 9, [])
theorem lines_no : ∀ (k : Nat) (s : List UInt8), s.length ≤ k → ∀ x ∈ linesL s, (10 : UInt8) ∉ x
  | 0, s, hk, x, hx => by
    have : s = [] := List.length_eq_zero_iff.1 (by omega)
    subst this; cases hx
  | k + 1, s, hk, x, hx => by
    rcases ten_cut s with h | ⟨a, r, e, h⟩
    · rw [lines_miss s h] at hx; cases hx
    · subst e
      rw [lines_hit a r h] at hx
      rcases List.mem_cons.1 hx with rfl | hx
      · exact h
      · exact lines_no k r (by simp at hk; omega) x hx
/-- A text that ends with a line's end: its lines ahead, its last one. -/
theorem shape {s : List UInt8} (h : s.isEmpty = false) (he : endB s = true) : ∃ hd last, linesL s = hd ++ [last] ∧ s = joinL hd ++ last ++ [10] ∧ (∀ x ∈ hd, (10 : UInt8) ∉ x) ∧ (10 : UInt8) ∉ last ∧ linesL (joinL hd) = hd := by
  have hb := lines_back _ s (Nat.le_refl _) he
  have hn := lines_no _ s (Nat.le_refl _)
  rcases List.eq_nil_or_concat (linesL s) with e | ⟨hd, last, e⟩
  · rw [e] at hb
    have : s = [] := hb.symm
    subst this; cases h
  · rw [List.concat_eq_append] at e
    rw [e] at hb hn
    refine ⟨hd, last, e, ?_, fun x hx => hn x (by simp [hx]), hn last (by simp), lines_join hd fun x hx => hn x (by simp [hx])⟩
    rw [← hb, joinL_app]
    simp [joinL]
theorem last_of {hd : List (List UInt8)} {last : List UInt8} : (hd ++ [last]).getLastD [] = last ∧ (hd ++ [last]).dropLast = hd := by
  constructor
  · simp [List.getLastD_eq_getLast?]
  · simp
theorem read_shape {s : List UInt8} {hd : List (List UInt8)} {last : List UInt8} (hl : s.length ≤ 65536) (h : s.isEmpty = false) (he : endB s = true) (e : linesL s = hd ++ [last]) :
    readL s = if last ++ [10] = sumLine (joinL hd) then linesE hd else (hd.length, 9, []) := by
  unfold readL
  rw [if_neg (by omega), h, he, if_neg (by decide), e, last_of.1, last_of.2]
theorem read_long {s : List UInt8} (h : 65536 < s.length) : readL s = (0, 4, []) := by unfold readL; exact if_pos h
theorem read_form {s : List UInt8} (hl : s.length ≤ 65536) (h : s.isEmpty = true ∨ endB s = false) : readL s = (0, 2, []) := by
  unfold readL
  rw [if_neg (by omega), if_pos]
  rcases h with h | h <;> rw [h] <;> simp
/-- What is accepted ends with its sum. -/
theorem read_sum {s : List UInt8} (h : (readL s).2.1 = 0) : ∃ hd, s = joinL hd ++ sumLine (joinL hd) ∧ readL s = linesE hd := by
  by_cases h1 : 65536 < s.length
  · rw [read_long h1] at h; cases h
  · cases h2 : s.isEmpty
    · cases h3 : endB s
      · rw [read_form (by omega) (Or.inr h3)] at h; cases h
      · obtain ⟨hd, last, e, e2, _⟩ := shape h2 h3
        have hr := read_shape (by omega) h2 h3 e
        rw [hr] at h
        by_cases h4 : last ++ [10] = sumLine (joinL hd)
        · exact ⟨hd, by rw [← h4, ← List.append_assoc]; exact e2, by rw [hr, if_pos h4]⟩
        · rw [if_neg h4] at h; cases h
    · rw [read_form (by omega) (Or.inl h2)] at h; cases h
/-- With one byte turned what was written is not read. -/
theorem turned (l : List Ent) (k : Nat) (b : UInt8) (hk : k < (writeT l).length) (hb : (writeT l)[k] ≠ b) : (readL ((writeT l).set k b)).2.1 ≠ 0 := fun h => by
  obtain ⟨hd, e, _⟩ := read_sum h
  obtain ⟨E, hE⟩ : ∃ E, entsT l = E := ⟨_, rfl⟩
  obtain ⟨F, hF⟩ : ∃ F, joinL hd = F := ⟨_, rfl⟩
  have ht : writeT l = E ++ sumLine E := by unfold writeT; rw [hE]
  rw [hF] at e
  have hlen : E.length = F.length := by
    have := congrArg List.length e
    rw [List.length_set, ht, List.length_append, List.length_append, sumLine_len, sumLine_len] at this
    omega
  by_cases h1 : k < E.length
  · have e2 : (E.set k b) ++ sumLine E = F ++ sumLine F := by
      rw [← e, ht, List.set_append, if_pos h1]
    obtain ⟨e3, e4⟩ := List.append_inj e2 (by rw [List.length_set]; exact hlen)
    have hne : E[k] ≠ b := by
      have : (writeT l)[k] = E[k] := by simp only [ht]; exact List.getElem_append_left h1
      rwa [this] at hb
    exact sum_one E k b h1 hne (by rw [e3]; exact (sumLine_inj e4).symm)
  · have e2 : E ++ (sumLine E).set (k - E.length) b = F ++ sumLine F := by
      rw [← e, ht, List.set_append, if_neg h1]
    obtain ⟨e3, e4⟩ := List.append_inj e2 hlen
    have e5 : (writeT l).set k b = writeT l := by rw [e, ht, ← e3]
    have := List.getElem_set_self (l := writeT l) (i := k) (a := b) (by rw [List.length_set]; exact hk)
    apply hb
    rw [← this]
    simp only [e5]
theorem entOf_ent {e : Ent} (h1 : wordB e.1 = true) (h2 : wordB e.2 = true) : entOf (entT e) = some e := by
  have h32 : (32 : UInt8) ∉ e.1 := word_not h1 (by decide)
  have hx : entT e = e.1 ++ 32 :: e.2 := by unfold entT; simp
  obtain ⟨f1, f2, _⟩ := fst_app (c := 32) (p := e.1) (r := e.2) h32
  unfold entOf
  rw [hx, f1, f2, h1, h2]; rfl
theorem entOf_back {s : List UInt8} {e : Ent} (h : entOf s = some e) : entT e = s ∧ wordB e.1 = true ∧ wordB e.2 = true := by
  unfold entOf at h
  by_cases hw : (wordB (Vm.fst 32 s) && wordB (Vm.snd 32 s)) = true
  · rw [if_pos hw] at h
    rw [Bool.and_eq_true] at hw
    obtain rfl := (Option.some.inj h).symm
    refine ⟨?_, hw.1, hw.2⟩
    have hh : Vm.has 32 s = true := by
      cases hc : Vm.has 32 s with
      | true => rfl
      | false =>
        have : (32 : UInt8) ∉ s := by unfold Vm.has at hc; simpa using hc
        have hd : Vm.snd 32 s = [] := by
          unfold Vm.snd
          have hp : ∀ x ∈ s, (x != 32) = true := fun x hx => by simp; exact fun e => this (e ▸ hx)
          have h0 : s.dropWhile (fun x => x != 32) = [] := by
            have := List.dropWhile_append_of_pos (l₂ := []) hp
            simpa using this
          rw [h0]; rfl
        rw [hd] at hw
        exact absurd hw.2 (by decide)
    unfold entT
    have := fst_snd hh
    simp only [List.append_assoc, List.singleton_append]
    exact this.symm
  · rw [if_neg hw] at h; cases h
theorem formE_ok {hd : List (List UInt8)} (h : ∀ j, j < hd.length → formE hd j = 0) : ∃ l : List Ent, hd.filterMap entOf = l ∧ hd = l.map entT := by
  refine ⟨_, rfl, ?_⟩
  induction hd with
  | nil => rfl
  | cons s hd ih =>
    have h0 := h 0 (by simp)
    have ih2 := ih fun j hj => by have := h (j + 1) (by simpa using hj); exact this
    cases he : entOf s with
    | none =>
      unfold formE at h0
      rw [List.getElem?_cons_zero] at h0
      dsimp only at h0
      rw [he] at h0; cases h0
    | some e =>
      rw [List.filterMap_cons_some he, List.map_cons, ← ih2, (entOf_back he).1]
theorem lines_good {hd : List (List UInt8)} {i : Nat} {l : List Ent} (h : linesE hd = (i, 0, l)) : i = 0 ∧ (checkL l).2 = 0 ∧ hd = l.map entT := by
  unfold linesE at h
  by_cases h1 : (firstE (formE hd) hd.length 0).2 = 0
  · rw [if_pos h1] at h
    obtain ⟨_, h3⟩ := first_all _ _ _ h1
    obtain ⟨l', e1, e2⟩ := formE_ok fun j hj => by have := h3 j hj; rwa [Nat.zero_add] at this
    rw [e1] at h
    by_cases h2 : (checkL l').2 = 0
    · rw [if_pos h2] at h
      have ha := (Prod.mk.inj h).1
      have hb := (Prod.mk.inj (Prod.mk.inj h).2).2
      rw [← hb]
      exact ⟨ha.symm, h2, e2⟩
    · rw [if_neg h2] at h
      exact absurd (Prod.mk.inj (Prod.mk.inj h).2).1 h2
  · rw [if_neg h1] at h
    exact absurd (Prod.mk.inj (Prod.mk.inj h).2).1 (by decide)
/-- What is read is told so again. -/
theorem write_read {s : List UInt8} {i : Nat} {l : List Ent} (h : readL s = (i, 0, l)) : i = 0 ∧ (checkL l).2 = 0 ∧ writeT l = s := by
  obtain ⟨hd, e, e2⟩ := read_sum (s := s) (by rw [h])
  rw [h] at e2
  obtain ⟨h1, h2, h3⟩ := lines_good e2.symm
  refine ⟨h1, h2, ?_⟩
  unfold writeT entsT
  rw [← h3, e]
theorem lines_of {l : List Ent} (h : (checkL l).2 = 0) : linesE (l.map entT) = (0, 0, l) := by
  have hw : ∀ e ∈ l, entOf (entT e) = some e := fun e he => by
    have := ent_words (check_all h e he)
    exact entOf_ent this.1 this.2.1
  have hf : (l.map entT).filterMap entOf = l := by
    clear h
    induction l with
    | nil => rfl
    | cons e l ih => rw [List.map_cons, List.filterMap_cons_some (hw e (by simp)), ih fun x hx => hw x (by simp [hx])]
  have h0 : firstE (formE (l.map entT)) (l.map entT).length 0 = (0, 0) := first_ok _ _ _ fun j hj => by
    rw [Nat.zero_add]
    unfold formE
    rw [List.getElem?_eq_getElem hj]
    dsimp only
    rw [List.getElem_map, hw _ (List.getElem_mem _)]; rfl
  unfold linesE
  rw [h0, if_pos rfl, hf, if_pos h]
theorem ten_digit (d : Nat) : hexd d ≠ 10 := by
  unfold hexd
  by_cases h : d < 16
  · have key : ∀ d, d < 16 → ([48, 49, 50, 51, 52, 53, 54, 55, 56, 57, 97, 98, 99, 100, 101, 102] : List UInt8)[d]?.getD 48 ≠ 10 := by decide
    exact key d h
  · rw [List.getElem?_eq_none (by simp; omega)]; decide
theorem ten_hexj : ∀ (j n : Nat), (10 : UInt8) ∉ hexj j n
  | 0, _ => by simp [hexj]
  | j + 1, n => fun h => by
    unfold hexj at h
    rcases List.mem_append.1 h with h | h
    · exact ten_hexj j _ h
    · exact ten_digit _ (List.mem_singleton.1 h).symm
/-- What is written is read again. -/
theorem read_write {l : List Ent} (h : (checkL l).2 = 0) : readL (writeT l) = (0, 0, l) := by
  have hlen := (write_len h).2
  obtain ⟨last, hl⟩ : ∃ x, [115, 117, 109, 32] ++ hexj 8 (sumL (entsT l)) = x := ⟨_, rfl⟩
  have hs : sumLine (entsT l) = last ++ [10] := by rw [← hl]; rfl
  have h10 : (10 : UInt8) ∉ last := by
    rw [← hl]
    intro hm
    rcases List.mem_append.1 hm with hm | hm
    · revert hm; decide
    · exact ten_hexj _ _ hm
  have hw : writeT l = joinL (l.map entT ++ [last]) := by
    rw [joinL_app]
    unfold writeT
    rw [hs]
    unfold entsT
    congr 1
    simp [joinL]
  have hno : ∀ x ∈ l.map entT ++ [last], (10 : UInt8) ∉ x := fun x hx => by
    rcases List.mem_append.1 hx with hx | hx
    · obtain ⟨e, he, rfl⟩ := List.mem_map.1 hx
      obtain ⟨w1, w2, _⟩ := ent_words (check_all h e he)
      have n1 := word_not w1 (c := 10) (by decide)
      have n2 := word_not w2 (c := 10) (by decide)
      unfold entT
      simp [n1, n2]
    · have : x = last := by simpa using hx
      rw [this]; exact h10
  have hL : linesL (writeT l) = l.map entT ++ [last] := by rw [hw]; exact lines_join _ hno
  have hE : endB (writeT l) = true := by rw [hw]; exact end_join _
  have hne : (writeT l).isEmpty = false := by
    rw [List.isEmpty_eq_false_iff]
    intro e
    have := congrArg List.length e
    unfold writeT at this
    rw [List.length_append, sumLine_len] at this
    simp at this
  rw [read_shape (by omega) hne hE hL, if_pos (by rw [← hs]; rfl)]
  exact lines_of h
end Go.Proofs.YtojhapnodjabdaaGreatDoor.Lk
