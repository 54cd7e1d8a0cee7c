/- Clauses in words, plain: what is written is read, what is read is written. No program is named here. -/
import Derived.Test.YtjkmdghlhodhiaaEa
import Derived.Test.YtjkmdghlhodhiaaEb
import Derived.Test.YtjkmdghlhodhiaaSa
namespace Go.Proofs.Ytjkmdghlhodhiaa.Cl
open Sz Up
theorem sp_hit (a r : List UInt8) (h : (32 : UInt8) ∉ a) : Lib.split (a ++ 32 :: r) [32] = a :: Lib.split r [32] := by
  have hi : Lib.index (a ++ 32 :: r) [32] = a.length := by
    refine Lib.index_first (by simp) ?_ fun j hj => ?_
    · unfold Lib.occAt; rw [List.drop_left]; rfl
    · cases ho : Lib.occAt (a ++ 32 :: r) [32] j with
      | false => rfl
      | true =>
        have h2 := Lib.occAt_head (c := 32) (t := []) rfl ho
        rw [List.getElem?_append_left hj] at h2
        exact absurd (List.mem_of_getElem? h2) h
  rw [At.split_hit (by simp) hi, List.take_left]
  have e : (a ++ 32 :: r).drop (a.length + ([32] : List UInt8).length) = r := by
    rw [← List.drop_drop, List.drop_left]; rfl
  rw [e]
theorem sp_miss (a : List UInt8) (h : (32 : UInt8) ∉ a) : Lib.split a [32] = [a] := by
  refine At.split_miss (Lib.index_none fun j _ => ?_)
  cases ho : Lib.occAt a [32] j with
  | false => rfl
  | true => exact absurd (List.mem_of_getElem? (Lib.occAt_head (c := 32) (t := []) rfl ho)) h
theorem sp_cut (s : List UInt8) : ((32 : UInt8) ∉ s) ∨ ∃ a r, s = a ++ 32 :: r ∧ (32 : UInt8) ∉ a := by
  induction s with
  | nil => left; simp
  | cons b l ih =>
    by_cases hb : b = 32
    · right; exact ⟨[], l, by rw [hb]; rfl, by simp⟩
    · rcases ih with h | ⟨a, r, e, h⟩
      · left; simp; exact ⟨fun e => hb e.symm, h⟩
      · right; refine ⟨b :: a, r, by rw [e]; rfl, ?_⟩
        simp; exact ⟨fun e => hb e.symm, h⟩
theorem sp_some (s : List UInt8) : Lib.split s [32] ≠ [] := by
  unfold Lib.split
  cases Lib.count s [32] with
  | zero => unfold Lib.splitK; simp
  | succ k => unfold Lib.splitK; split <;> simp
/-- Words, each but the last followed by a blank. -/
def wordsT : List (List UInt8) → List UInt8
  | [] => []
  | [p] => p
  | p :: q :: r => p ++ 32 :: wordsT (q :: r)
theorem sp_back : ∀ (k : Nat) (s : List UInt8), s.length ≤ k → wordsT (Lib.split s [32]) = s
  | k, s, hk => by
    rcases sp_cut s with h | ⟨a, r, rfl, h⟩
    · rw [sp_miss s h]; rfl
    · rw [sp_hit a r h]
      have hl : r.length < k := by rw [List.length_append, List.length_cons] at hk; omega
      match k, hl with
      | k + 1, hl =>
        have ih := sp_back k r (by omega)
        match hd : Lib.split r [32] with
        | [] => exact absurd hd (sp_some r)
        | q :: t => rw [hd] at ih; show a ++ 32 :: wordsT (q :: t) = _; rw [ih]
theorem sp_words : ∀ (l : List (List UInt8)), l ≠ [] → (∀ p ∈ l, (32 : UInt8) ∉ p) → Lib.split (wordsT l) [32] = l
  | [], h, _ => absurd rfl h
  | [p], _, hp => sp_miss p (hp p (by simp))
  | p :: q :: r, _, hp => by
    show Lib.split (p ++ 32 :: wordsT (q :: r)) [32] = _
    rw [sp_hit p _ (hp p (by simp)), sp_words (q :: r) (by simp) fun x hx => hp x (List.mem_cons_of_mem _ hx)]
/-- A clause's line. -/
def clLine (c : List Int) : List UInt8 := c.flatMap (fun x => wordZ x ++ [32]) ++ [48]
theorem clLine_cons (x : Int) (c : List Int) : clLine (x :: c) = wordZ x ++ 32 :: clLine c := by unfold clLine; rw [List.flatMap_cons]; simp
theorem clLine_words : ∀ c : List Int, clLine c = wordsT (c.map wordZ ++ [[48]])
  | [] => rfl
  | x :: c => by
    rw [clLine_cons, clLine_words c, List.map_cons, List.cons_append]
    match hd : c.map wordZ ++ [[48]] with
    | [] => simp at hd
    | p :: r => rfl
def clauseP (s : List UInt8) : Option (List Int) := if (Lib.split s [32]).getLastD [] == [48] then (Lib.split s [32]).dropLast.mapM litP else none
theorem mapM_all {α β : Type} {f : α → Option β} : ∀ {l : List α} {r : List β}, l.mapM f = some r → l.length = r.length ∧ ∀ i (h1 : i < l.length) (h2 : i < r.length), f l[i] = some r[i]
  | [], r, h => by
    obtain rfl : r = [] := by simpa using h.symm
    exact ⟨rfl, fun i h => absurd h (by simp)⟩
  | a :: l, r, h => by
    rw [List.mapM_cons] at h
    cases ha : f a with
    | none => rw [ha] at h; cases h
    | some b =>
      cases hl : l.mapM f with
      | none => rw [ha, hl] at h; cases h
      | some t =>
        rw [ha, hl] at h
        obtain rfl := Option.some.inj h
        obtain ⟨h1, h2⟩ := mapM_all hl
        refine ⟨by rw [List.length_cons, List.length_cons, h1], fun i p q => ?_⟩
        match i with
        | 0 => exact ha
        | i + 1 => exact h2 i (by simpa using p) (by simpa using q)
theorem mapM_map {α β : Type} {f : α → Option β} {g : β → α} : ∀ (l : List β), (∀ b ∈ l, f (g b) = some b) → (l.map g).mapM f = some l
  | [], _ => rfl
  | b :: l, h => by
    rw [List.map_cons, List.mapM_cons, h b (by simp), mapM_map l fun x hx => h x (List.mem_cons_of_mem _ hx)]; rfl
theorem clauseP_line {c : List Int} (h : ∀ x ∈ c, x ≠ 0 ∧ x.natAbs < 1000000) : clauseP (clLine c) = some c := by
  have hs : Lib.split (clLine c) [32] = c.map wordZ ++ [[48]] := by
    rw [clLine_words, sp_words _ (by simp)]
    intro p hp
    rcases List.mem_append.1 hp with hp | hp
    · obtain ⟨x, _, rfl⟩ := List.mem_map.1 hp
      exact word_not (by decide) (by decide)
    · rw [List.mem_singleton.1 hp]; decide
  unfold clauseP
  rw [hs, List.dropLast_concat, List.getLastD_eq_getLast?, List.getLast?_concat]
  exact (if_pos rfl).trans (mapM_map c fun x hx => litP_word (h x hx).1 (h x hx).2)
theorem clauseP_back {s : List UInt8} {c : List Int} (h : clauseP s = some c) : clLine c = s ∧ ∀ x ∈ c, x ≠ 0 := by
  unfold clauseP at h
  split at h
  · rename_i hl
    obtain ⟨h1, h2⟩ := mapM_all h
    have hb := sp_back _ s (Nat.le_refl _)
    have hne := sp_some s
    have hcat : Lib.split s [32] = (Lib.split s [32]).dropLast ++ [[48]] := by
      have e := List.dropLast_concat_getLast hne
      have e2 : (Lib.split s [32]).getLast hne = [48] := by
        have : (Lib.split s [32]).getLastD [] = (Lib.split s [32]).getLast hne := by rw [List.getLastD_eq_getLast?, List.getLast?_eq_some_getLast hne]; rfl
        rw [← this]; simpa using hl
      rw [e2] at e; exact e.symm
    have hw : (Lib.split s [32]).dropLast = c.map wordZ := by
      refine List.ext_getElem (by rw [List.length_map]; exact h1) fun i p q => ?_
      rw [List.getElem_map]
      exact ((litP_back (h2 i p (by rw [List.length_map] at q; exact q))).1).symm
    refine ⟨?_, fun x hx => ?_⟩
    · rw [clLine_words, ← hw, ← hcat, hb]
    · obtain ⟨i, hi, rfl⟩ := List.mem_iff_getElem.1 hx
      exact (litP_back (h2 i (by omega) hi)).2.1
  · cases h
def cnfT : List UInt8 := [99, 110, 102]
def headT (n k : Nat) : List UInt8 := wordsT [cnfT, decT n, decT k]
def headP (s : List UInt8) : Option (Nat × Nat) := match Lib.split s [32] with
  | [a, b, c] => if a == cnfT then (match numP b with | some n => (match numP c with | some k => some (n, k) | none => none) | none => none) else none
  | _ => none
theorem headP_head {n k : Nat} (hn : n < 1000000) (hk : k < 1000000) : headP (headT n k) = some (n, k) := by
  unfold headP headT
  rw [sp_words _ (by simp) (fun p hp => by
    rcases List.mem_cons.1 hp with rfl | hp
    · decide
    · rcases List.mem_cons.1 hp with rfl | hp
      · exact dec_not _ _ (by decide)
      · rw [List.mem_singleton.1 hp]; exact dec_not _ _ (by decide))]
  show (if (cnfT == cnfT) = true then (match numP (decT n) with | some n => (match numP (decT k) with | some k => some (n, k) | none => none) | none => none) else none) = some (n, k)
  rw [if_pos (by simp), numP_dec hn, numP_dec hk]
theorem headP_back {s : List UInt8} {n k : Nat} (h : headP s = some (n, k)) : headT n k = s ∧ n < 1000000 ∧ k < 1000000 := by
  have hb := sp_back _ s (Nat.le_refl _)
  unfold headP at h
  split at h
  · rename_i a b c e
    split at h
    · rename_i ha
      obtain rfl : a = cnfT := by simpa using ha
      cases h1 : numP b with
      | none => rw [h1] at h; cases h
      | some n' =>
        cases h2 : numP c with
        | none => rw [h1, h2] at h; cases h
        | some k' =>
          rw [h1, h2] at h
          obtain ⟨rfl, rfl⟩ := Prod.mk.inj (Option.some.inj h)
          obtain ⟨e1, l1⟩ := numP_back h1
          obtain ⟨e2, l2⟩ := numP_back h2
          refine ⟨?_, l1, l2⟩
          unfold headT
          rw [e1, e2, ← hb, e]
    · cases h
  · cases h
/-- The whole text. -/
def textC (n : Nat) (l : List (List Int)) : List UInt8 := joinL (headT n l.length :: l.map clLine)
/-- The first line that is no clause, from i on. -/
def badAt : Nat → List (List UInt8) → Option Nat
  | _, [] => none
  | i, s :: ls => if (clauseP s).isNone then some i else badAt (i + 1) ls
theorem badAt_none : ∀ (i : Nat) (ls : List (List UInt8)), (∀ s ∈ ls, (clauseP s).isNone = false) → badAt i ls = none
  | _, [], _ => rfl
  | i, s :: ls, h => by rw [badAt, h s (by simp), if_neg (by decide)]; exact badAt_none (i + 1) ls fun x hx => h x (List.mem_cons_of_mem _ hx)
theorem badAt_all : ∀ (i : Nat) (ls : List (List UInt8)), badAt i ls = none → ∀ s ∈ ls, (clauseP s).isNone = false
  | _, [], _ => fun s h => absurd h (by simp)
  | i, s :: ls, h => by
    rw [badAt] at h
    cases hc : (clauseP s).isNone
    · rw [hc, if_neg (by decide)] at h
      intro x hx
      rcases List.mem_cons.1 hx with rfl | hx
      · exact hc
      · exact badAt_all (i + 1) ls h x hx
    · rw [hc, if_pos rfl] at h; cases h
theorem badAt_some : ∀ (i : Nat) (ls : List (List UInt8)) (k : Nat) (hk : k < ls.length), (∀ s ∈ ls.take k, (clauseP s).isNone = false) → (clauseP ls[k]).isNone = true → badAt i ls = some (i + k)
  | i, s :: ls, 0, _, _, h => by rw [badAt, show (clauseP s).isNone = true from h, if_pos rfl]; rfl
  | i, s :: ls, k + 1, hk, h0, h => by
    rw [badAt, h0 s (by simp), if_neg (by decide), badAt_some (i + 1) ls k (by simpa using hk) (fun x hx => h0 x (by simp [hx])) h]
    exact congrArg some (by omega)
def parseC (s : List UInt8) : Nat × Int × Nat × List (List Int) :=
  if 262144 < s.length then (0, 4, 0, []) else if s.isEmpty || !endB s then (0, 2, 0, []) else
  match headP ((linesL s).headD []) with
  | none => (0, 2, 0, [])
  | some (n, k) => if k ≠ (linesL s).length - 1 then (0, 2, 0, []) else
    match badAt 1 ((linesL s).drop 1) with
    | some i => (i, 2, 0, [])
    | none =>
      if (checkAll n (((linesL s).drop 1).filterMap clauseP)).2 = 0 then (0, 0, n, ((linesL s).drop 1).filterMap clauseP)
      else (if nBad n || decide (131072 < (((linesL s).drop 1).filterMap clauseP).length) then 0 else (checkAll n (((linesL s).drop 1).filterMap clauseP)).1 + 1, (checkAll n (((linesL s).drop 1).filterMap clauseP)).2, 0, [])
theorem head_10 (n k : Nat) : (10 : UInt8) ∉ headT n k := by
  unfold headT
  show (10 : UInt8) ∉ cnfT ++ 32 :: (decT n ++ 32 :: decT k)
  intro hm
  rcases List.mem_append.1 hm with h | h
  · exact absurd h (by decide)
  · rcases List.mem_cons.1 h with h | h
    · exact absurd h (by decide)
    · rcases List.mem_append.1 h with h | h
      · exact dec_not _ _ (by decide) h
      · rcases List.mem_cons.1 h with h | h
        · exact absurd h (by decide)
        · exact dec_not _ _ (by decide) h
theorem line_10 (c : List Int) : (10 : UInt8) ∉ clLine c := by
  unfold clLine
  intro hm
  rcases List.mem_append.1 hm with h | h
  · obtain ⟨x, _, hx⟩ := List.mem_flatMap.1 h
    rcases List.mem_append.1 hx with h | h
    · exact word_not (by decide) (by decide) h
    · exact absurd h (by decide)
  · exact absurd h (by decide)
theorem filterMap_map {l : List (List Int)} (h : ∀ c ∈ l, clauseP (clLine c) = some c) : (l.map clLine).filterMap clauseP = l := by
  rw [List.filterMap_map]
  have : ∀ l : List (List Int), (∀ c ∈ l, clauseP (clLine c) = some c) → l.filterMap (clauseP ∘ clLine) = l := fun l => by
    induction l with
    | nil => exact fun _ => rfl
    | cons c l ih =>
      intro h
      rw [List.filterMap_cons, show (clauseP ∘ clLine) c = some c from h c (by simp)]
      exact congrArg _ (ih fun d hd => h d (List.mem_cons_of_mem _ hd))
  exact this l h
theorem parse_text {n : Nat} {l : List (List Int)} (h : (checkAll n l).2 = 0) (hl : (textC n l).length ≤ 262144) : parseC (textC n l) = (0, 0, n, l) := by
  obtain ⟨h0, h1, h2, h3, h4⟩ := all_ok h
  have hlit : ∀ c ∈ l, clauseP (clLine c) = some c := fun c hc => clauseP_line fun x hx => by
    obtain ⟨p, q, r⟩ := (check_ok (h4 c hc)).2.2.2 x hx
    exact ⟨p, by omega⟩
  have hlines : linesL (textC n l) = headT n l.length :: l.map clLine := lines_join _ fun s hs => by
    rcases List.mem_cons.1 hs with rfl | hs
    · exact head_10 _ _
    · obtain ⟨c, _, rfl⟩ := List.mem_map.1 hs
      exact line_10 c
  have he : endB (textC n l) = true := end_join _
  have hem : (textC n l).isEmpty = false := by
    show (joinL (headT n l.length :: l.map clLine)).isEmpty = false
    rw [joinL_cons]
    cases headT n l.length <;> rfl
  unfold parseC
  rw [if_neg (by omega), hem, he, if_neg (by decide), hlines, List.headD_cons, headP_head (by omega) (by omega)]
  show (if l.length ≠ (headT n l.length :: l.map clLine).length - 1 then _ else _) = _
  rw [if_neg (by simp), List.drop_one, List.tail_cons, badAt_none 1 _ (fun s hs => by
    obtain ⟨c, hc, rfl⟩ := List.mem_map.1 hs
    rw [hlit c hc]; rfl), filterMap_map hlit]
  show (if (checkAll n l).2 = 0 then _ else _) = _
  rw [if_pos h]
theorem text_parse {s : List UInt8} {i n : Nat} {l : List (List Int)} (h : parseC s = (i, 0, n, l)) : i = 0 ∧ textC n l = s ∧ (checkAll n l).2 = 0 := by
  have no : ∀ {a b : Nat} {x : Int} {c d : List (List Int)}, x ≠ 0 → ((a, x, 0, c) : Nat × Int × Nat × List (List Int)) = (i, 0, n, d) → False := fun hx h => hx (Prod.mk.inj (Prod.mk.inj h).2).1
  unfold parseC at h
  split at h
  · exact (no (b := 0) (by decide) h).elim
  · split at h
    · exact (no (b := 0) (by decide) h).elim
    · rename_i hse
      have he : endB s = true := by
        cases hs : endB s
        · rw [hs] at hse; simp at hse
        · rfl
      have hb := lines_back _ s (Nat.le_refl _) he
      split at h
      · exact (no (b := 0) (by decide) h).elim
      · rename_i n' k hh
        split at h
        · exact (no (b := 0) (by decide) h).elim
        · rename_i hk
          split at h
          · exact (no (b := 0) (by decide) h).elim
          · rename_i hbad
            split at h
            · rename_i hc
              obtain ⟨e1, e2⟩ := Prod.mk.inj h
              obtain ⟨_, e3⟩ := Prod.mk.inj e2
              obtain ⟨rfl, rfl⟩ := Prod.mk.inj e3
              refine ⟨e1.symm, ?_, hc⟩
              have hls : linesL s ≠ [] := fun e => by
                rw [e] at hh
                have : headP [] = none := by
                  unfold headP; rw [sp_miss [] (by simp)]
                rw [show ([] : List (List UInt8)).headD [] = [] from rfl, this] at hh; cases hh
              have hall := badAt_all 1 _ hbad
              have hf : ∀ ls : List (List UInt8), (∀ x ∈ ls, (clauseP x).isNone = false) → (ls.filterMap clauseP).map clLine = ls ∧ (ls.filterMap clauseP).length = ls.length := fun ls => by
                induction ls with
                | nil => exact fun _ => ⟨rfl, rfl⟩
                | cons x ls ih =>
                  intro h
                  obtain ⟨i1, i2⟩ := ih fun y hy => h y (List.mem_cons_of_mem _ hy)
                  cases hx : clauseP x with
                  | none => have := h x (by simp); rw [hx] at this; exact absurd this (by decide)
                  | some c =>
                    rw [List.filterMap_cons, hx]
                    exact ⟨by show clLine c :: _ = _; rw [i1, (clauseP_back hx).1], by show _ + 1 = _ + 1; rw [i2]⟩
              obtain ⟨f1, f2⟩ := hf _ hall
              unfold textC
              rw [f1, f2]
              match hd : linesL s with
              | [] => exact absurd hd hls
              | x :: r =>
                rw [hd] at hh hk hb
                have hk' : k = r.length := by simpa using hk
                rw [List.drop_one, List.tail_cons, ← hk', (headP_back hh).1]
                exact hb
            · rename_i hc
              exact (no (b := 0) hc (show ((_, _, 0, []) : Nat × Int × Nat × List (List Int)) = (i, 0, n, l) from h)).elim
end Go.Proofs.Ytjkmdghlhodhiaa.Cl
