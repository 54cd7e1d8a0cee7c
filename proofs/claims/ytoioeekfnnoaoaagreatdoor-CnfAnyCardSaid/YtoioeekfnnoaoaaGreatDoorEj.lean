/- The reference reads all clauses of a text: walked. -/
import Derived.Test.YtoioeekfnnoaoaaGreatDoorEi
namespace Go.Proofs.YtoioeekfnnoaoaaGreatDoor.Cl
open Go.RowKit Sz Up
def finC (n : Nat) (l : List (List Int)) : Nat × Int × Nat × List (List Int) := if (checkAll n l).2 = 0 then (0, 0, n, l) else (if nBad n || decide (131072 < l.length) then 0 else (checkAll n l).1 + 1, (checkAll n l).2, 0, [])
theorem parse_form {s : List UInt8} (hl : s.length ≤ 262144) (h : (s.isEmpty || !endB s) = true) : parseC s = (0, 2, 0, []) := by
  unfold parseC; rw [if_neg (by omega), h, if_pos rfl]
theorem parse_go {s : List UInt8} (hl : s.length ≤ 262144) (h : (s.isEmpty || !endB s) = false) {n k : Nat} (hh : headP ((linesL s).headD []) = some (n, k)) (hk : k = (linesL s).length - 1) :
    (∀ i, badAt 1 ((linesL s).drop 1) = some i → parseC s = (i, 2, 0, [])) ∧ (badAt 1 ((linesL s).drop 1) = none → parseC s = finC n (((linesL s).drop 1).filterMap clauseP)) := by
  unfold parseC
  rw [if_neg (by omega), h, if_neg (by decide), hh]
  dsimp only
  rw [if_neg (by omega)]
  refine ⟨fun i e => ?_, fun e => ?_⟩ <;> rw [e] <;> rfl
theorem parse_head {s : List UInt8} (hl : s.length ≤ 262144) (h : (s.isEmpty || !endB s) = false) (hh : headP ((linesL s).headD []) = none ∨ ∃ n k, headP ((linesL s).headD []) = some (n, k) ∧ k ≠ (linesL s).length - 1) : parseC s = (0, 2, 0, []) := by
  unfold parseC
  rw [if_neg (by omega), h, if_neg (by decide)]
  rcases hh with hh | ⟨n, k, hh, hk⟩
  · rw [hh]
  · rw [hh]; dsimp only; rw [if_pos hk]
theorem lines_some {s : List UInt8} (h : (s.isEmpty || !endB s) = false) : 0 < (linesL s).length := by
  rw [Bool.or_eq_false_iff] at h
  have hb := lines_back _ s (Nat.le_refl _) (by simpa using h.2)
  refine List.length_pos_iff.2 fun e => ?_
  rw [e] at hb
  have : s = [] := hb.symm
  rw [this] at h; exact absurd h.1 (by decide)
theorem split_piece (s : List UInt8) : ∀ p ∈ Lib.split s [32], p.length ≤ s.length := by
  have hb := sp_back _ s (Nat.le_refl _)
  have : ∀ l : List (List UInt8), ∀ x ∈ l, x.length ≤ (wordsT l).length := fun l => by
    induction l with
    | nil => exact fun x h => absurd h (by simp)
    | cons a l ih =>
      intro x hx
      match l, ih with
      | [], _ => rw [List.mem_singleton.1 hx]; exact Nat.le_refl _
      | b :: r, ih =>
        show _ ≤ (a ++ 32 :: wordsT (b :: r)).length
        rw [List.length_append, List.length_cons]
        rcases List.mem_cons.1 hx with rfl | hx
        · omega
        · have := ih x hx; omega
  intro p hp
  have := this _ p hp
  rw [hb] at this; exact this
/-- The header's words. -/
theorem headP_len {s : List UInt8} (h : (Lib.split s [32]).length ≠ 3) : headP s = none := by
  unfold headP
  split
  · rename_i e; rw [e] at h; exact absurd rfl h
  · rfl
theorem headP_three {s a b c : List UInt8} (h : Lib.split s [32] = [a, b, c]) : headP s = if (a == cnfT) = true ∧ (numR b).2 = true ∧ (numR c).2 = true then some ((numR b).1.toNat, (numR c).1.toNat) else none := by
  unfold headP numR
  rw [h]
  by_cases ha : a = cnfT
  · subst ha
    cases hb : numP b with
    | none => simp [hb]
    | some n =>
      cases hc : numP c with
      | none => simp [hb, hc]
      | some k => simp [hb, hc]
  · simp [ha]
/-- What the loop over the lines keeps. -/
def LSt (ls : List (List UInt8)) (k : Nat) (out : List (List Int)) : Prop := 1 ≤ k ∧ (∀ y ∈ (ls.drop 1).take (k - 1), (clauseP y).isNone = false) ∧ out = ((ls.drop 1).take (k - 1)).filterMap clauseP ∧ out.length = k - 1
theorem lst_start (ls : List (List UInt8)) : LSt ls 1 [] := ⟨Nat.le_refl _, fun y h => absurd h (by simp), by simp, rfl⟩
theorem drop_at {ls : List (List UInt8)} {k : Nat} (h1 : 1 ≤ k) (hk : k < ls.length) : ∃ h : k - 1 < (ls.drop 1).length, (ls.drop 1)[k - 1] = ls[k] := by
  refine ⟨by rw [List.length_drop]; omega, ?_⟩
  rw [List.getElem_drop]
  have : ∀ i (h : i < ls.length), i = k → ls[i] = ls[k] := fun i h e => by subst e; rfl
  exact this _ _ (by omega)
theorem lst_more {ls : List (List UInt8)} {k : Nat} {out : List (List Int)} {c : List Int} (h : LSt ls k out) (hk : k < ls.length) (hc : clauseP ls[k] = some c) : LSt ls (k + 1) (out ++ [c]) := by
  obtain ⟨h1, h2, h3, h4⟩ := h
  obtain ⟨hd, he⟩ := drop_at h1 hk
  have e : (ls.drop 1).take (k + 1 - 1) = (ls.drop 1).take (k - 1) ++ [ls[k]] := by
    rw [show k + 1 - 1 = (k - 1) + 1 by omega, List.take_succ_eq_append_getElem hd, he]
  refine ⟨by omega, fun y hy => ?_, ?_, by rw [List.length_append, h4]; show k - 1 + 1 = k + 1 - 1; omega⟩
  · rw [e] at hy
    rcases List.mem_append.1 hy with hy | hy
    · exact h2 y hy
    · rw [List.mem_singleton.1 hy, hc]; rfl
  · rw [e, List.filterMap_append, ← h3, List.filterMap_cons, hc]; rfl
theorem lst_bad {ls : List (List UInt8)} {k : Nat} {out : List (List Int)} (h : LSt ls k out) (hk : k < ls.length) (hc : clauseP ls[k] = none) : badAt 1 (ls.drop 1) = some k := by
  obtain ⟨h1, h2, _, _⟩ := h
  obtain ⟨hd, he⟩ := drop_at h1 hk
  have := badAt_some 1 (ls.drop 1) (k - 1) hd h2 (by rw [he, hc]; rfl)
  rw [this]; exact congrArg some (by omega)
theorem lst_end {ls : List (List UInt8)} {k : Nat} {out : List (List Int)} (h : LSt ls k out) (hk : k = ls.length) : badAt 1 (ls.drop 1) = none ∧ out = (ls.drop 1).filterMap clauseP := by
  obtain ⟨h1, h2, h3, _⟩ := h
  rw [List.take_of_length_le (by rw [List.length_drop]; omega)] at h2 h3
  exact ⟨badAt_none 1 _ h2, h3⟩
theorem clause_len {s : List UInt8} {c : List Int} (h : clauseP s = some c) : c.length ≤ s.length := by
  have e := (clauseP_back h).1
  have : ∀ c : List Int, c.length ≤ (clLine c).length := fun c => by
    induction c with
    | nil => exact Nat.zero_le _
    | cons x c ih => rw [clLine_cons, List.length_append, List.length_cons, List.length_cons]; omega
  have := this c
  rw [e] at this; exact this
def PcRet (w : World) (s : List UInt8) (e : Ending) (w' : World) : Prop := Below w.heap.size w w' ∧ ∃ v, e = .returned (.tuple #[.int .i64 ((parseC s).2.2.1 : Int), v, .int .i64 ((parseC s).1 : Int), .int .i64 (parseC s).2.1]) ∧ Gr.Own encI 1 w' w.heap.size 35 v (parseC s).2.2.2
theorem pc_err {w w' : World} {s : List UInt8} {i : Nat} {k : Int} (h : parseC s = (i, k, 0, [])) (hb : Below w.heap.size w w') : PcRet w s (.returned (.tuple #[.int .i64 0, .slice none 0 0, .int .i64 i, .int .i64 k])) w' := by
  refine ⟨hb, .slice none 0 0, ?_, ?_⟩ <;> rw [h]
  · rfl
  · exact Gr.own_nil _ _ _
theorem pc_ok {w w' : World} {s : List UInt8} {n : Nat} {l : List (List Int)} {v : Value} (h : parseC s = (0, 0, n, l)) (hb : Below w.heap.size w w') (ho : Gr.Own encI 1 w' w.heap.size 35 v l) : PcRet w s (.returned (.tuple #[.int .i64 n, v, .int .i64 0, .int .i64 0])) w' := by
  refine ⟨hb, v, ?_, ?_⟩ <;> rw [h]
  · rfl
  · exact ho
theorem own_block {α : Type} {enc : α → List Value} {K : Nat} {w : World} {B : Nat} {T : TypeId} {A : Option Addr} {n c : Nat} {l : List α} (h : Rg.Own enc K w B T (.slice A n c) l) : ∀ a, A = some a → B ≤ a.block := fun a ha => by
  rcases h.2 with ⟨e, _⟩ | ⟨g, cap, cur, e, hb, _⟩
  · cases e; cases ha
  · cases e; obtain rfl := Option.some.inj ha; exact hb
theorem goOwn_weak {w : World} {B B' : Nat} {T : TypeId} {v : Value} {t : List (List Int)} (hB : B ≤ B') (h : Gr.Own encI 1 w B' T v t) : Gr.Own encI 1 w B T v t := by
  obtain ⟨ds, h1, h2⟩ := h
  exact ⟨ds, Rg.own_weak hB h1, h2⟩
theorem sliceII : Rg.SliceT Tryz.prog encO 1 22 35 := ⟨fitsO, by decide, by kernel_rfl, Rg.info_of (z := .slice none 0 0) (b := 24) (by kernel_rfl) (by rfl) (by decide)⟩
end Go.Proofs.YtoioeekfnnoaoaaGreatDoor.Cl
namespace Go.Proofs.YtoioeekfnnoaoaaGreatDoor
open Go.RowKit Cl Sz Up
attribute [local go_sem ↓] Go.wp_at_zero Go.wp_at_succ
set_option maxRecDepth 100000 in
set_option maxHeartbeats 6400000 in
theorem refParseCnf_any (s : List UInt8) (w : World) (hs : s.length ≤ 9000) :
    Calls Tryz.prog 22 #[.string ⟨s.toArray⟩] w (PcRet w s) := by
  have d1 : decide ((262144 : Int) < (s.length : Int)) = false := decide_eq_false (by omega)
  have HROWS := Lib.hid (refRows_any s w (by omega))
  by_cases h0 : s = []
  · have HZ := Lib.hid (parse_form (s := s) (by omega) (by rw [h0]; rfl))
    have e0 : (s == []) = true := by rw [h0]; rfl
    have hE : endB s = true := by rw [h0]; rfl
    clear h0
    go_enter Tryz.func22, Tryz.ntmps22
    go_wp2_with (go_at_call 46; refine HROWS.out.mono ?_)
    rintro _ w1 ⟨hb, _, hr⟩
    rw [hE, if_pos rfl] at hr
    obtain ⟨A, n, c, rfl, _, _, _⟩ := hr
    have HB := Lib.hid hb
    clear hb hE
    go_wp2_with fail
    exact bodyPost_ret (v := .tuple #[.int .i64 0, .slice none 0 0, .int .i64 0, .int .i64 2]) (by simp [results, Tryz.results22, go_sem]) rfl (pc_err HZ.out HB.out)
  · have e0 : (s == []) = false := by simpa using h0
    have em : s.isEmpty = false := by simpa using h0
    clear h0
    cases hE : endB s
    · have HZ := Lib.hid (parse_form (s := s) (by omega) (by rw [em, hE]; rfl))
      go_enter Tryz.func22, Tryz.ntmps22
      go_wp2_with (go_at_call 46; refine HROWS.out.mono ?_)
      rintro _ w1 ⟨hb, _, hr⟩
      rw [hE, if_neg (by decide)] at hr
      subst hr
      have HB := Lib.hid hb
      clear hb hE em
      go_wp2_with fail
      exact bodyPost_ret (v := .tuple #[.int .i64 0, .slice none 0 0, .int .i64 0, .int .i64 2]) (by simp [results, Tryz.results22, go_sem]) rfl (pc_err HZ.out HB.out)
    · have hem : (s.isEmpty || !endB s) = false := by rw [em, hE]; rfl
      have hpos := lines_some hem
      have hgo := fun n k => parse_go (s := s) (n := n) (k := k) (by omega) hem
      have hhd := parse_head (s := s) (by omega) hem
      have hlsl : ∀ i (h : i < (linesL s).length), (linesL s)[i].length ≤ s.length := fun i h => by
        have hb := lines_back _ s (Nat.le_refl _) hE
        have : ∀ l : List (List UInt8), ∀ x ∈ l, x.length ≤ (joinL l).length := fun l => by
          induction l with
          | nil => exact fun x h => absurd h (by simp)
          | cons a l ih =>
            intro x hx
            rw [joinL_cons, List.length_append, List.length_append]
            rcases List.mem_cons.1 hx with rfl | hx
            · omega
            · have := ih x hx; omega
        have := this (linesL s) _ (List.getElem_mem h)
        rw [hb] at this; exact this
      go_enter Tryz.func22, Tryz.ntmps22
      go_wp2_with (go_at_call 46; refine HROWS.out.mono ?_)
      rintro _ w1 ⟨hb, hsz, hr⟩
      rw [hE, if_pos rfl] at hr
      obtain ⟨A, m, c, rfl, hm, hml, hrow⟩ := hr
      obtain ⟨ls, hls⟩ : ∃ ls, linesL s = ls := ⟨_, rfl⟩
      rw [hls] at hpos hgo hhd hlsl hm hrow
      have HGO := Lib.hid hgo
      have HHD := Lib.hid hhd
      have HLL := Lib.hid hlsl
      have HM := Lib.hid hm
      have HROW := Lib.hid hrow
      have HB1 := Lib.hid hb
      have hm1 : 1 ≤ m := by omega
      have hm9 : m ≤ 9000 := by omega
      clear hb hsz hgo hhd hlsl hm hrow hls hem em hE HROWS hml
      obtain ⟨ad, x, rfl, hx, hxb, hxc⟩ := trow_at HROW.out 0 hpos
      have HX : Hid (ls.headD [] = x) := by
        show _ = _
        rw [← hx]
        cases ls with
        | nil => simp at hpos
        | cons a r => rfl
      have hxl : x.length ≤ 9000 := by have := HLL.out 0 hpos; rw [hx] at this; omega
      have HCUT := Lib.hid (refCut_any x [32] w1 (by omega) (by decide) (by decide))
      have m0 : (0 : Int) < (m : Int) := by omega
      have hxc0 : w1.cell? ad = some (.string ⟨x.toArray⟩) := by rw [Rg.add_zero] at hxc; exact hxc
      clear hpos hx hxc
      go_wp2_with (go_at_call 47; refine HCUT.out.mono ?_)
      rintro _ w2 ⟨B, n3, c3, rfl, hn3, hn3b, hrow3, _, hb2⟩
      have HB2 := Lib.hid hb2
      clear hb2 hxc0 hxb HCUT
      have hpl := split_piece x
      obtain ⟨T, hT⟩ : ∃ T, Lib.split x [32] = T := ⟨_, rfl⟩
      rw [hT] at hn3 hrow3 hpl
      have HPL := Lib.hid hpl
      clear hpl
      have hlen3 := headP_len (s := x)
      have hthree := fun a b c => headP_three (s := x) (a := a) (b := b) (c := c)
      rw [hT] at hlen3 hthree
      have HN3 := Lib.hid hn3
      have HROW3 := Lib.hid hrow3
      have HB12 : Hid (Below w.heap.size w w2) := HB1.out.trans (HB2.out.mono HB1.out.size)
      have HLEN3 := Lib.hid hlen3
      have HTHREE := Lib.hid hthree
      clear hn3 hrow3 hlen3 hthree hT
      cases h3 : (n3 : Int) == 3
      · have d3 : ((n3 : Int) != 3) = true := by show (!((n3 : Int) == 3)) = true; rw [h3]; rfl
        have HZ : Hid (parseC s = (0, 2, 0, [])) := HHD.out (.inl (by rw [HX.out]; exact HLEN3.out (by rw [HN3.out]; intro e; rw [e] at h3; exact absurd h3 (by decide))))
        go_wp2_with fail
        exact bodyPost_ret (v := .tuple #[.int .i64 0, .slice none 0 0, .int .i64 0, .int .i64 2]) (by simp [results, Tryz.results22, go_sem]) rfl (pc_err HZ.out HB12.out)
      · have e3 : n3 = 3 := by have : (n3 : Int) = 3 := by simpa using h3
                               omega
        subst e3
        obtain ⟨a, b, c', hT3⟩ : ∃ a b c', T = [a, b, c'] := by
          have := HN3.out
          match T, this with
          | [a, b, c'], _ => exact ⟨a, b, c', rfl⟩
        subst hT3
        obtain ⟨be, a0, rfl, ha, _, hac⟩ := trow_at HROW3.out 0 (by simp)
        obtain ⟨be1, b0, hbe1, hbb, _, hbc⟩ := trow_at HROW3.out 1 (by simp)
        obtain ⟨be2, c0, hbe2, hcc, _, hccc⟩ := trow_at HROW3.out 2 (by simp)
        obtain rfl := Option.some.inj hbe1
        obtain rfl := Option.some.inj hbe2
        obtain rfl : a = a0 := ha
        obtain rfl : b = b0 := hbb
        obtain rfl : c' = c0 := hcc
        have k0 : w2.cell? be = some (.string ⟨a.toArray⟩) := by rw [Rg.add_zero] at hac; exact hac
        have k1 : w2.cell? ⟨be.block, be.off + 1, none⟩ = some (.string ⟨b.toArray⟩) := hbc
        have k2 : w2.cell? ⟨be.block, be.off + 2, none⟩ = some (.string ⟨c'.toArray⟩) := hccc
        have HTH := Lib.hid (HTHREE.out a b c' rfl)
        have hbl : b.length ≤ 100000 ∧ c'.length ≤ 100000 := ⟨by have := HPL.out b (by simp); omega, by have := HPL.out c' (by simp); omega⟩
        clear hac hbc hccc hbe1 hbe2 h3
        cases hcn : a == ([99, 110, 102] : List UInt8)
        · have d3 : (a != ([99, 110, 102] : List UInt8)) = true := by show (!(a == ([99, 110, 102] : List UInt8))) = true; rw [hcn]; rfl
          have HZ : Hid (parseC s = (0, 2, 0, [])) := HHD.out (.inl (by rw [HX.out, HTH.out, if_neg (fun h => absurd (h.1.symm.trans hcn) (by decide))]))
          go_wp2_with fail
          exact bodyPost_ret (v := .tuple #[.int .i64 0, .slice none 0 0, .int .i64 0, .int .i64 2]) (by simp [results, Tryz.results22, go_sem]) rfl (pc_err HZ.out HB12.out)
        · have d3 : (a != ([99, 110, 102] : List UInt8)) = false := by show (!(a == ([99, 110, 102] : List UInt8))) = false; rw [hcn]; rfl
          have hq1 := numR_lt b
          have hq2 := numR_lt c'
          have HNb := Lib.hid (refNumber_any b w2 hbl.1)
          have HNc := Lib.hid (refNumber_any c' w2 hbl.2)
          obtain ⟨⟨q1, r1⟩, hr1⟩ : ∃ q, numR b = q := ⟨_, rfl⟩
          obtain ⟨⟨q2, r2⟩, hr2⟩ : ∃ q, numR c' = q := ⟨_, rfl⟩
          rw [hr1] at hq1 HNb
          rw [hr2] at hq2 HNc
          have hth := HTH.out
          rw [show (a == cnfT) = true from hcn, hr1, hr2] at hth
          have HTQ := Lib.hid hth
          obtain ⟨N, hN⟩ : ∃ N : Nat, q1 = (N : Int) := ⟨q1.toNat, by have := hq1.1; show q1 = _; omega⟩
          obtain ⟨M, hM⟩ : ∃ M : Nat, q2 = (M : Int) := ⟨q2.toNat, by have := hq2.1; show q2 = _; omega⟩
          subst hN
          subst hM
          have hN9 : N ≤ 1000000 := by have := hq1.2.1; omega
          have hM9 : M ≤ 1000000 := by have := hq2.2.1; omega
          obtain ⟨p, hp⟩ : ∃ p, m = p + 1 := ⟨m - 1, by omega⟩
          have wp : IntKind.i64.wrap ((m : Int) - 1) = (p : Int) := (IntWalk.i64_in _ (by omega)).trans (by omega)
          have HP := Lib.hid hp
          have w1n : Hid (∀ (_ : r1 = true) (_ : r2 = true), headP (ls.headD []) = some (N, M)) := fun h1 h2 => by
            rw [HX.out, HTQ.out, if_pos ⟨rfl, h1, h2⟩]; rfl
          have HNON : Hid (r1 = false ∨ r2 = false → parseC s = (0, 2, 0, [])) := fun h => HHD.out (.inl (by
            rw [HX.out, HTQ.out, if_neg]
            rintro ⟨_, h1, h2⟩
            rcases h with h | h
            · exact absurd (h1.symm.trans h) (by decide)
            · exact absurd (h2.symm.trans h) (by decide)))
          clear hth hq1 hq2 hr1 hr2 hbl hp
          cases r1
          · have HZ := Lib.hid (HNON.out (.inl rfl))
            clear HNON w1n
            go_wp2_with (go_at_call 48; refine HNb.out.mono ?_)
            first | (rintro _ w3 ⟨rfl, rfl⟩) | skip
            go_wp2_with (go_at_call 48; refine HNc.out.mono ?_)
            first | (rintro _ w4 ⟨rfl, rfl⟩) | skip
            first | (go_wp2_with fail) | skip
            exact bodyPost_ret (v := .tuple #[.int .i64 0, .slice none 0 0, .int .i64 0, .int .i64 2]) (by simp [results, Tryz.results22, go_sem]) rfl (pc_err HZ.out HB12.out)
          · cases r2
            · have HZ := Lib.hid (HNON.out (.inr rfl))
              clear HNON w1n
              go_wp2_with (go_at_call 48; refine HNb.out.mono ?_)
              first | (rintro _ w3 ⟨rfl, rfl⟩) | skip
              go_wp2_with (go_at_call 48; refine HNc.out.mono ?_)
              first | (rintro _ w4 ⟨rfl, rfl⟩) | skip
              first | (go_wp2_with fail) | skip
              exact bodyPost_ret (v := .tuple #[.int .i64 0, .slice none 0 0, .int .i64 0, .int .i64 2]) (by simp [results, Tryz.results22, go_sem]) rfl (pc_err HZ.out HB12.out)
            · have HH := Lib.hid (w1n.out rfl rfl)
              clear HNON w1n
              cases hmp : (M : Int) == p
              · have d4 : ((M : Int) != p) = true := by show (!((M : Int) == p)) = true; rw [hmp]; rfl
                have HZ : Hid (parseC s = (0, 2, 0, [])) := HHD.out (.inr ⟨N, M, HH.out, fun e => by
                  have h1 := HM.out
                  have h2 := HP.out
                  have : M = p := by omega
                  rw [this] at hmp; simp at hmp⟩)
                go_wp2_with (go_at_call 48; refine HNb.out.mono ?_)
                first | (rintro _ w3 ⟨rfl, rfl⟩) | skip
                go_wp2_with (go_at_call 48; refine HNc.out.mono ?_)
                first | (rintro _ w4 ⟨rfl, rfl⟩) | skip
                first | (go_wp2_with fail) | skip
                exact bodyPost_ret (v := .tuple #[.int .i64 0, .slice none 0 0, .int .i64 0, .int .i64 2]) (by simp [results, Tryz.results22, go_sem]) rfl (pc_err HZ.out HB12.out)
              · have d4 : ((M : Int) != p) = false := by show (!((M : Int) == p)) = false; rw [hmp]; rfl
                have HG := Lib.hid (HGO.out N M HH.out (by
                  have h1 := HM.out
                  have h2 := HP.out
                  have : (M : Int) = p := by simpa using hmp
                  omega))
                go_wp2_with (go_at_call 48; refine HNb.out.mono ?_)
                first | (rintro _ w3 ⟨rfl, rfl⟩) | skip
                go_wp2_with (go_at_call 48; refine HNc.out.mono ?_)
                first | (rintro _ w4 ⟨rfl, rfl⟩) | skip
                first | (go_wp2_with fail) | skip
                clear k0 k1 k2 d3 d4 hcn hmp wp HNb HNc HHD HGO HTH HTQ HH HLEN3 HTHREE
                go_loopw [13, 14, 15, 16] (fun v i _ _ wr => ∃ (k : Nat) (out : List (List Int)), k ≤ m ∧ i = .int .i64 k ∧ Hid (LSt ls k out) ∧ Hid (Gr.Own encI 1 wr w2.heap.size 35 v out) ∧ Hid (Below w2.heap.size w2 wr ∧ w2.heap.size ≤ wr.heap.size)) (fun _ i _ _ _ => m - (intOf i).toNat)
                case atStart => exact ⟨1, [], hm1, rfl, lst_start ls, Gr.own_nil _ _ _, Below.refl _ _, Nat.le_refl _⟩
                case round =>
                  obtain ⟨k, out, hk, rfl, HST, HO, HB⟩ := hrel
                  by_cases hlt : k < m
                  · have hkl : k < ls.length := by rw [HM.out]; exact hlt
                    obtain ⟨ad2, y, had, hy, hyb, hyc⟩ := trow_at (Rg.row_below (Rg.row_below HROW.out HB2.out) HB.out.1) k hkl
                    obtain rfl := Option.some.inj had
                    have hyl : y.length ≤ 9000 := by have := HLL.out k hkl; rw [hy] at this; omega
                    have HCL := Lib.hid (refClause_any y wr hyl)
                    have HYES : Hid (∀ c, clauseP y = some c → LSt ls (k + 1) (out ++ [c])) := fun c h => lst_more HST.out hkl (by rw [hy]; exact h)
                    have HNO : Hid (clauseP y = none → parseC s = (k, 2, 0, [])) := fun h => HG.out.1 k (lst_bad HST.out hkl (by rw [hy]; exact h))
                    have k0 : (0 : Int) ≤ (k : Int) := by omega
                    have k1 : (k : Int) < (m : Int) := by omega
                    clear had hy hyb hkl hyl
                    go_wp2_with (go_at_call 49; refine HCL.out.mono ?_)
                    rintro e w3 ⟨hb3, hres⟩
                    have HB3 := Lib.hid hb3
                    clear hb3 hyc HCL
                    have HBZ : Hid (Below w2.heap.size w2 w3 ∧ w2.heap.size ≤ w3.heap.size) := ⟨HB.out.1.trans (HB3.out.mono HB.out.2), Nat.le_trans HB.out.2 HB3.out.size⟩
                    cases hcl : clauseP y with
                    | none =>
                      rw [hcl] at hres
                      subst hres
                      have HZ := Lib.hid (HNO.out hcl)
                      clear hcl HYES HNO
                      go_wp2_with fail
                      exact bodyPost_ret (v := .tuple #[.int .i64 0, .slice none 0 0, .int .i64 k, .int .i64 2]) (by simp [results, Tryz.results22, go_sem]) rfl (pc_err HZ.out (HB12.out.trans (HBZ.out.1.mono HB12.out.size)))
                    | some cc =>
                      rw [hcl] at hres
                      obtain ⟨v, rfl, ho, hcll⟩ := hres
                      have HST2 := Lib.hid (HYES.out cc hcl)
                      obtain ⟨C, ccap, rfl, hrow4, _, _⟩ := Rg.row_own fitsI ho
                      have HROW4 := Lib.hid hrow4
                      have HFR := Lib.hid (Gr.fresh HO.out (Nat.le_refl _) (own_block ho) cc)
                      have HSZ : Hid (out.length + 1 ≤ 1000000) := by have := HST.out.2.2.2; show _ ≤ _; omega
                      obtain ⟨nn, hnn⟩ : ∃ nn, cc.length = nn := ⟨_, rfl⟩
                      have HNN := Lib.hid hnn
                      rw [hnn]
                      clear hcl HYES HNO ho hcll hrow4 hnn
                      go_wp2_with (at_builtin; refine Gr.wpList_gapp sliceII rfl (.tmp 90) (.tmp 92) rfl w2.heap.size _ out cc C nn ccap rfl rfl (Gr.own_below HO.out HB3.out) HNN.out HROW4.out HFR.out HSZ.out HBZ.out.2 ?_)
                      intro v5 W5 ho5 hb5 hz5
                      have HO5 := Lib.hid ho5
                      have HB5 : Hid (Below w2.heap.size w2 W5 ∧ w2.heap.size ≤ W5.heap.size) := ⟨HBZ.out.1.trans hb5, Nat.le_trans HBZ.out.2 hz5⟩
                      clear ho5 hb5 hz5 HO HB HBZ HROW4 HFR HB3
                      go_wp2_with fail
                      go_roundw
                      case rel => exact ⟨k + 1, out ++ [cc], by omega, by go_num, HST2.out, HO5.out, HB5.out⟩
                      case measure => simp [intOf]; omega
                  · have hke : k = ls.length := by rw [HM.out]; omega
                    obtain ⟨hbad, hout⟩ := lst_end HST.out hke
                    have hfin := HG.out.2 hbad
                    rw [← hout] at hfin
                    have HFIN := Lib.hid hfin
                    have hol : out.length ≤ 9000 := by have := HST.out.2.2.2; omega
                    obtain ⟨V, vc, rfl, hgrow⟩ := Gr.row_own HO.out
                    have HGROW := Lib.hid hgrow
                    obtain ⟨z, hz⟩ : ∃ z, out.length = z := ⟨_, rfl⟩
                    rw [hz] at hol HO
                    rw [hz]
                    have HZL := Lib.hid hz
                    have HCLEN : Hid (∀ c ∈ out, c.length ≤ 9000) := fun c hc => by
                      rw [hout] at hc
                      obtain ⟨y, hy, hyc⟩ := List.mem_filterMap.1 hc
                      have h1 := clause_len hyc
                      obtain ⟨i, hi, rfl⟩ := List.mem_iff_getElem.1 (List.mem_of_mem_drop hy)
                      have := HLL.out i hi
                      omega
                    clear hke hbad hout hfin hgrow hz
                    have d5 : decide ((131072 : Int) < (z : Int)) = false := decide_eq_false (by omega)
                    have hn0 : decide ((N : Int) < 0) = false := decide_eq_false (by omega)
                    cases hN2 : decide ((256 : Int) < (N : Int))
                    · have hnb : nBad (N : Int) = false := by unfold nBad; rw [hn0, hN2]; rfl
                      have HFC : Hid (finC N out = if (firstC N 0 out).2 = 0 then (0, 0, N, out) else ((firstC N 0 out).1 + 1, (firstC N 0 out).2, 0, [])) := by
                        show _ = _
                        unfold finC checkAll
                        have hnl : ¬ 131072 < out.length := by rw [HZL.out]; omega
                        rw [hnb, decide_eq_false hnl]
                        simp only [Bool.false_eq_true, if_false, if_neg hnl, Bool.or_self]
                      clear hnb hn0
                      obtain ⟨z1, hz1⟩ : ∃ z1, z1 = wr := ⟨_, rfl⟩
                      subst hz1
                      go_wp2_with fail
                      clear hN2 d5
                      go_loopw [17, 18] (fun i _ w5 => ∃ j : Nat, j ≤ z ∧ i = .int .i64 j ∧ Hid (AllC N out j) ∧ Hid (Below z1.heap.size z1 w5)) (fun i _ _ => z - (intOf i).toNat)
                      case atStart => exact ⟨0, Nat.zero_le _, rfl, fun c hc => absurd hc (by simp), Below.refl _ _⟩
                      case round =>
                        obtain ⟨j, hj, rfl, HT, HW⟩ := hrel
                        by_cases hlt2 : j < z
                        · have h1 : j < out.length := by rw [HZL.out]; exact hlt2
                          obtain ⟨ae, C, kk, cc, y, rfl, hb, hc, hy, hyl, hyr⟩ := grow_at (Gr.row_below HGROW.out HW.out) j h1
                          have j0 : (0 : Int) ≤ (j : Int) := by omega
                          have j1 : (j : Int) < (z : Int) := by omega
                          have hkk : kk ≤ 1000000 := by
                            have := HCLEN.out _ (List.getElem_mem h1)
                            rw [hy, hyl] at this; omega
                          have HS := Lib.hid (refCheckClause_any N C kk cc y wr hyl hyr)
                          obtain ⟨q, hq⟩ : ∃ q, checkC N y = q := ⟨_, rfl⟩
                          rw [hq] at HS
                          have HYes : Hid (q = 0 → AllC N out (j + 1)) := fun e => allC_more h1 HT.out (by rw [hy, hq, e])
                          have HNo : Hid (q ≠ 0 → parseC s = (j + 1, q, 0, [])) := fun e => by
                            rw [HFIN.out, HFC.out, firstC_bad N out 0 j h1 HT.out (by rw [hy, hq]; exact e), hy, hq, if_neg e, Nat.zero_add]
                          clear hy hyl hyr hq hb h1 hkk
                          cases hqz : q == 0
                          · have d2 : (q != 0) = true := by show (!(q == 0)) = true; rw [hqz]; rfl
                            have HZ := Lib.hid (HNo.out fun e => by rw [e] at hqz; exact absurd hqz (by decide))
                            have wj : IntKind.i64.wrap ((j : Int) + 1) = ((j + 1 : Nat) : Int) := (IntWalk.i64_in _ (by omega)).trans (by omega)
                            clear HYes HNo
                            go_wp2_with (go_at_call 17; refine HS.out.mono ?_)
                            rintro _ w6 ⟨rfl, hb2⟩
                            have HW2 := Lib.hid (HW.out.trans (hb2.mono HW.out.size))
                            clear hb2
                            go_wp2_with fail
                            exact bodyPost_ret (v := .tuple #[.int .i64 0, .slice none 0 0, .int .i64 ((j + 1 : Nat) : Int), .int .i64 q]) (by simp [results, Tryz.results22, go_sem]) rfl (pc_err HZ.out (HB12.out.trans ((HB.out.1.trans (HW2.out.mono HB.out.2)).mono HB12.out.size)))
                          · have d2 : (q != 0) = false := by show (!(q == 0)) = false; rw [hqz]; rfl
                            have HZ := Lib.hid (HYes.out (by simpa using hqz))
                            clear HYes HNo
                            go_wp2_with (go_at_call 17; refine HS.out.mono ?_)
                            rintro _ w6 ⟨rfl, hb2⟩
                            have HW2 := Lib.hid (HW.out.trans (hb2.mono HW.out.size))
                            clear hb2
                            go_wp2_with fail
                            go_roundw
                            case rel => exact ⟨j + 1, by omega, by go_num, HZ.out, HW2.out⟩
                            case measure => simp [intOf]; omega
                        · have HZ : Hid (parseC s = (0, 0, N, out)) := by
                            show _ = _
                            have hall : firstC N 0 out = (0, 0) := firstC_ok N out 0 fun c hc => HT.out c (by
                              rw [List.take_of_length_le (by rw [HZL.out]; omega)]; exact hc)
                            rw [HFIN.out, HFC.out, hall]; rfl
                          go_wp2_with fail
                          exact bodyPost_ret (v := .tuple #[.int .i64 N, .slice V z vc, .int .i64 0, .int .i64 0]) (by simp [results, Tryz.results22, go_sem]) rfl (pc_ok HZ.out (HB12.out.trans ((HB.out.1.trans (HW.out.mono HB.out.2)).mono HB12.out.size)) (goOwn_weak HB12.out.size (Gr.own_below HO.out HW.out)))
                    · have HZ : Hid (parseC s = (0, 1, 0, [])) := by
                        show _ = _
                        have hnb : nBad (N : Int) = true := by unfold nBad; rw [hn0, hN2]; rfl
                        rw [HFIN.out]
                        unfold finC checkAll
                        rw [hnb]; rfl
                      clear hn0
                      go_wp2_with fail
                      exact bodyPost_ret (v := .tuple #[.int .i64 0, .slice none 0 0, .int .i64 0, .int .i64 1]) (by simp [results, Tryz.results22, go_sem]) rfl (pc_err HZ.out (HB12.out.trans (HB.out.1.mono HB12.out.size)))
end Go.Proofs.YtoioeekfnnoaoaaGreatDoor
