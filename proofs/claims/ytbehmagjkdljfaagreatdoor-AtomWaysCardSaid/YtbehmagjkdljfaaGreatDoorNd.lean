/- Two ways, two terms of one Span each, in words: what is read of them. No program is named here. -/
import Derived.Test.YtbehmagjkdljfaaGreatDoorNc
namespace Go.Proofs.YtbehmagjkdljfaaGreatDoor
open Go.RowKit Rs At
theorem parse_n {B : List UInt8} {T : List (List Cond)} {r : List (Rm.P Cut)} (hT : termP B = some T) (hv : vers T ≤ 16) (hr : hTerm [] T = (0, r)) (hg : Rs.Good r) (hl : r.length ≤ 8) :
    parseA ([110, 32, 40] ++ B ++ [41]) = (0, ⟨[110], r.map spOf⟩) := by
  have e : [110, 32, 40] ++ B ++ [41] = [110] ++ 32 :: (40 :: (B ++ [41])) := by simp
  obtain ⟨h1, h2, h3⟩ := At.fst_app (c := 32) (p := [110]) (r := 40 :: (B ++ [41])) (by decide)
  rw [e, parse_more h3, h1, h2, body_text, if_pos (by decide)]
  show (match termP B with | none => (2, zeroA) | some t => readA [110] t) = _
  rw [hT]
  have hc : checkA ⟨[110], r.map spOf⟩ = 0 := by
    unfold checkA
    have hvr := vers_range (r.map spOf)
    rw [List.length_map] at hvr
    rw [if_pos (show nameB [110] = true by decide), if_pos (show checkR (r.map spOf) = 0 from good_check hg), if_neg (show ¬ 16 < vers (At.termOf (r.map spOf)) by omega)]
  show readA [110] T = _
  unfold readA
  rw [if_pos (show nameB [110] = true by decide), if_pos hv, hr]
  dsimp only
  rw [if_pos rfl, if_pos hc]
theorem hAlt_app : ∀ (l m : List Cond) (r : List (Rm.P Cut)), (hAlt r l).1 = 0 → hAlt r (l ++ m) = hAlt (hAlt r l).2 m
  | [], _, _, _ => rfl
  | c :: l, m, r, h => by
    rw [hAlt_step] at h
    rw [List.cons_append, hAlt_step, hAlt_step]
    by_cases h0 : ofE c.1 c.2 = 0
    · rw [if_pos h0] at h
      rw [if_pos h0, if_pos h0]; exact hAlt_app l m _ h
    · rw [if_neg h0] at h; exact absurd h h0
theorem cond_ofE {c : Cond} (h : At.CondOk c) : ofE c.1 c.2 = 0 ∧ (ofR c.1 c.2).length ≤ 2 := by
  obtain ⟨i, hi, he, ho⟩ := h
  have := of_own i hi ho
  rw [he]
  exact ⟨this.2, by rw [this.1]; exact len_sign _ _⟩
theorem hAlt_ok : ∀ (l : List Cond) (r : List (Rm.P Cut)), (∀ c ∈ l, At.CondOk c) → (hAlt r l).1 = 0
  | [], _, _ => rfl
  | c :: l, r, h => by
    rw [hAlt_step, if_pos (cond_ofE (h c (by simp))).1]
    exact hAlt_ok l _ (fun x hx => h x (by simp [hx]))
theorem hAlt_len : ∀ (l : List Cond) (r : List (Rm.P Cut)), (∀ c ∈ l, At.CondOk c) → r.length + 2 * l.length ≤ 64 → (hAlt r l).2.length ≤ r.length + 2 * l.length
  | [], _, _, _ => Nat.le_refl _
  | c :: l, r, h, hl => by
    obtain ⟨h0, h2⟩ := cond_ofE (h c (by simp))
    rw [hAlt_step, if_pos h0]
    simp only [List.length_cons] at hl ⊢
    have ha : (andR r (ofR c.1 c.2)).length ≤ r.length + 2 := by rw [andR_few (by omega)]; have := Rm.andK_len Ln r (ofR c.1 c.2); omega
    have := hAlt_len l (andR r (ofR c.1 c.2)) (fun x hx => h x (by simp [hx])) (by omega)
    omega
theorem hAlt_has {v : List UInt8} (hv : Vm.check v = 0) : ∀ (l : List Cond) (r : List (Rm.P Cut)), Rs.Good r → (∀ c ∈ l, At.CondOk c) → r.length + 2 * l.length ≤ 64 → hasR (hAlt r l).2 v = (hasR r v && l.all fun c => hasR (ofR c.1 c.2) v)
  | [], r, _, _, _ => by show hasR r v = (hasR r v && true); rw [Bool.and_true]
  | c :: l, r, hg, h, hl => by
    obtain ⟨h0, h2⟩ := cond_ofE (h c (by simp))
    rw [hAlt_step, if_pos h0]
    simp only [List.length_cons] at hl
    have ha : (andR r (ofR c.1 c.2)).length ≤ r.length + 2 := by rw [andR_few (by omega)]; have := Rm.andK_len Ln r (ofR c.1 c.2); omega
    rw [hAlt_has hv l _ (goodA hg (ofR_good _ _)) (fun x hx => h x (by simp [hx])) (by omega), hasA hg (ofR_good _ _) hv (by omega), List.all_cons, Bool.and_assoc]
theorem has_all (v : List UInt8) : hasR allR v = true := rfl
theorem join_app {m : List UInt8} : ∀ {l k : List (List UInt8)}, l ≠ [] → k ≠ [] → Lib.join (l ++ k) m = Lib.join l m ++ m ++ Lib.join k m
  | [], _, h, _ => absurd rfl h
  | [a], b :: k, _, _ => by
    show Lib.join (a :: b :: k) m = Lib.join [a] m ++ m ++ Lib.join (b :: k) m
    rw [Lib.join_cons, Lib.join_one, Lib.join_cons]; simp [Lib.joinTail]
  | [_], [], _, h => absurd rfl h
  | a :: b :: l, k, _, hk => by
    have ih := join_app (m := m) (l := b :: l) (k := k) (by simp) hk
    have e : ∀ t : List (List UInt8), Lib.join (a :: b :: t) m = a ++ m ++ Lib.join (b :: t) m := fun t => by
      rw [Lib.join_cons, Lib.join_cons]; simp [Lib.joinTail]
    show Lib.join (a :: b :: (l ++ k)) m = Lib.join (a :: b :: l) m ++ m ++ Lib.join k m
    rw [e, e]
    have ih2 : Lib.join (b :: (l ++ k)) m = Lib.join (b :: l) m ++ m ++ Lib.join k m := ih
    rw [ih2]; simp
/-- A Span that has a text. -/
structure WSp (s : Sp) : Prop where
  err : s.err = 0
  good : Rs.Good [s.piece]
  ne : conds s ≠ []
theorem wsp_or {x y : Sp} (hx : WSp x) (hy : WSp y) : parseA ([110, 32, 40] ++ (altT (conds x) ++ [32, 124, 32] ++ altT (conds y)) ++ [41]) = (0, ⟨[110], (orR (orR [] [x.piece]) [y.piece]).map spOf⟩) := by
  have hT : termP (termT [conds x, conds y]) = some [conds x, conds y] := termP_termT (fun l hl => by
    simp only [List.mem_cons, List.not_mem_nil, or_false] at hl
    rcases hl with rfl | rfl
    · exact hx.ne
    · exact hy.ne) (fun l hl => by
    simp only [List.mem_cons, List.not_mem_nil, or_false] at hl
    rcases hl with rfl | rfl
    · exact conds_ok hx.err
    · exact conds_ok hy.err)
  have e : termT [conds x, conds y] = altT (conds x) ++ [32, 124, 32] ++ altT (conds y) := by
    unfold termT
    rw [if_neg (by simp), List.map_cons, List.map_cons, List.map_nil, Lib.join_cons]
    simp [Lib.joinTail]
  rw [e] at hT
  have g1 : Rs.Good (orR [] [x.piece]) := goodO good_nil hx.good
  have l1 : (orR [] [x.piece]).length ≤ 1 := by rw [orR_few good_nil.1 hx.good.1 (Nat.le_of_ble_eq_true rfl)]; exact lenO good_nil.1 hx.good.1
  have l2 : (orR (orR [] [x.piece]) [y.piece]).length ≤ 2 := by
    rw [orR_few g1.1 hy.good.1 (by show _ + 1 ≤ 64; omega)]
    have := lenO g1.1 hy.good.1
    show _ ≤ 2
    have e1 : [y.piece].length = 1 := rfl
    omega
  refine parse_n hT ?_ ?_ (goodO g1 hy.good) (by omega)
  · have a1 := conds_len x
    have a2 := conds_len y
    show (conds x).length + ((conds y).length + 0) ≤ 16
    omega
  · rw [hTerm_step, hAlt_conds hx.err, if_pos rfl, hTerm_step, hAlt_conds hy.err, if_pos rfl]; rfl
theorem wsp_and {x y : Sp} (hx : WSp x) (hy : WSp y) : parseA ([110, 32, 40] ++ (altT (conds x) ++ [32, 38, 32] ++ altT (conds y)) ++ [41]) = (0, ⟨[110], (orR [] (hAlt [x.piece] (conds y)).2).map spOf⟩) := by
  have hok : ∀ c ∈ conds x ++ conds y, At.CondOk c := fun c hc => by
    rcases List.mem_append.1 hc with h | h
    · exact conds_ok hx.err c h
    · exact conds_ok hy.err c h
  have hT : termP (termT [conds x ++ conds y]) = some [conds x ++ conds y] := termP_termT (fun l hl => by
    rw [List.mem_singleton.1 hl]; simp [hx.ne]) (fun l hl => by rw [List.mem_singleton.1 hl]; exact hok)
  have e : termT [conds x ++ conds y] = altT (conds x) ++ [32, 38, 32] ++ altT (conds y) := by
    unfold termT
    rw [if_neg (by simp), List.map_cons, List.map_nil, Lib.join_one]
    unfold altT
    rw [List.map_append, join_app (by simpa using hx.ne) (by simpa using hy.ne)]
  rw [e] at hT
  have a1 := conds_len x
  have a2 := conds_len y
  have hA : hAlt allR (conds x ++ conds y) = hAlt [x.piece] (conds y) := by rw [hAlt_app _ _ _ (by rw [hAlt_conds hx.err]), hAlt_conds hx.err]
  have hg : Rs.Good (hAlt [x.piece] (conds y)).2 := hAlt_good _ _ hx.good
  have hl : (hAlt [x.piece] (conds y)).2.length ≤ 5 := by
    have := hAlt_len (conds y) [x.piece] (conds_ok hy.err) (by show 1 + _ ≤ 64; omega)
    have e1 : [x.piece].length = 1 := rfl
    omega
  refine parse_n hT ?_ ?_ (goodO good_nil hg) ?_
  · show (conds x ++ conds y).length + 0 ≤ 16
    rw [List.length_append]; omega
  · rw [hTerm_step, hA, if_pos (hAlt_ok _ _ (conds_ok hy.err))]; rfl
  · rw [orR_few good_nil.1 hg.1 (by show 0 + _ ≤ 64; omega)]
    have := lenO good_nil.1 hg.1
    have e1 : ([] : List (Rm.P Cut)).length = 0 := rfl
    omega
theorem wsp_has {x y : Sp} (hx : WSp x) (hy : WSp y) {v : List UInt8} (hv : Vm.check v = 0) :
    (Rs.Good (orR (orR [] [x.piece]) [y.piece]) ∧ hasR (orR (orR [] [x.piece]) [y.piece]) v = (hasR [x.piece] v || hasR [y.piece] v)) ∧
    (Rs.Good (orR [] (hAlt [x.piece] (conds y)).2) ∧ hasR (orR [] (hAlt [x.piece] (conds y)).2) v = (hasR [x.piece] v && hasR [y.piece] v)) := by
  have g1 : Rs.Good (orR [] [x.piece]) := goodO good_nil hx.good
  have l1 : (orR [] [x.piece]).length ≤ 1 := by rw [orR_few good_nil.1 hx.good.1 (Nat.le_of_ble_eq_true rfl)]; exact lenO good_nil.1 hx.good.1
  have hg : Rs.Good (hAlt [x.piece] (conds y)).2 := hAlt_good _ _ hx.good
  have a2 := conds_len y
  have hl : (hAlt [x.piece] (conds y)).2.length ≤ 5 := by
    have := hAlt_len (conds y) [x.piece] (conds_ok hy.err) (by show 1 + _ ≤ 64; omega)
    have e1 : [x.piece].length = 1 := rfl
    omega
  have hy2 : hasR [y.piece] v = (conds y).all fun c => hasR (ofR c.1 c.2) v := by
    have := hAlt_has hv (conds y) allR goodAll (conds_ok hy.err) (by show 1 + _ ≤ 64; omega)
    rw [hAlt_conds hy.err, has_all, Bool.true_and] at this
    exact this
  have e0 : hasR [] v = false := rfl
  refine ⟨⟨goodO g1 hy.good, ?_⟩, goodO good_nil hg, ?_⟩
  · rw [hasO g1 hy.good hv (by show _ + 1 ≤ 64; omega), hasO good_nil hx.good hv (Nat.le_of_ble_eq_true rfl), e0, Bool.false_or]
  · rw [hasO good_nil hg hv (by show 0 + _ ≤ 64; omega), e0, Bool.false_or, hAlt_has hv _ _ hx.good (conds_ok hy.err) (by show 1 + _ ≤ 64; omega), hy2]
theorem wsp_text {x : Sp} (hk : checkA ⟨[110], [x]⟩ = 0) (hne : [x] ≠ allS) : WSp x ∧ textA ⟨[110], [x]⟩ = [110, 32, 40] ++ altT (conds x) ++ [41] := by
  obtain ⟨_, h2, _⟩ := check_parts hk
  obtain ⟨g1, g2, g3⟩ := check_spans (show checkR [x] = 0 from h2)
  have hcn : conds x ≠ [] := fun e => hne (free_alone (show checkR [x] = 0 from h2) (by simp) e)
  refine ⟨⟨g3 x (by simp), g1, hcn⟩, ?_⟩
  unfold textA
  rw [if_neg (show ¬ [x] = allS from hne)]
  show [110] ++ 32 :: 40 :: (termT [conds x] ++ [41]) = _
  have : termT [conds x] = altT (conds x) := by
    unfold termT
    rw [if_neg (by simp), List.map_cons, List.map_nil, Lib.join_one]
  rw [this]; simp
theorem wsp_len {x : Sp} (hx : WSp x) : (altT (conds x)).length ≤ 92 ∧ 1 ≤ (altT (conds x)).length := by
  constructor
  · have h := alt_le (l := conds x) (fun c hc => by
      obtain ⟨i, hi, he, ho⟩ := conds_ok hx.err c hc
      have h40 := own_len ho
      have hsg : (sgnT i).length ≤ 2 := by
        match i, hi with
        | 0, _ | 1, _ | 2, _ | 3, _ | 4, _ | 5, _ => decide
      unfold condT
      rw [he]
      simp only [List.length_append, List.length_cons]
      omega)
    have := conds_len x
    omega
  · have := (altT_free hx.ne (conds_ok hx.err)).2
    exact List.length_pos_of_mem this
end Go.Proofs.YtbehmagjkdljfaaGreatDoor
