/- Part 25 of what the laws lean on. -/
import Derived.Test.YtkplahkkmmoppaaGreatDoorK23
namespace Go.Proofs.YtkplahkkmmoppaaGreatDoor
open Go.RowKit Rs At Pg
namespace Pg
theorem split_free {sep : List UInt8} (hs : sep ≠ []) : ∀ (l : List (List UInt8)), l ≠ [] → (∀ p ∈ l, (∀ r, Lib.index (p ++ sep ++ r) sep = p.length) ∧ Lib.index p sep = -1) → Lib.split (Lib.join l sep) sep = l
 | [], h, _ => absurd rfl h
 | [p], _, hp => by rw [Lib.join_one, split_miss ((hp p (by simp)).2)]
 | p :: q :: r, _, hp => by
  have e : Lib.join (p :: q :: r) sep = p ++ sep ++ Lib.join (q :: r) sep := by
   rw [Lib.join_cons, Lib.join_cons]
   simp [Lib.joinTail]
  have ih := split_free hs (q :: r) (by simp) (fun y hy => hp y (by simp [hy]))
  have e2 : (p ++ sep ++ Lib.join (q :: r) sep).drop (p.length + sep.length) = Lib.join (q :: r) sep := by
   rw [← List.length_append, List.drop_left]
  rw [e, split_hit hs ((hp p (by simp)).1 _), e2, ih, List.append_assoc, List.take_left]
theorem occ_get {s m : List UInt8} {j : Nat} (h : Lib.occAt s m j = true) (i : Nat) (hi : i < m.length) : s[j + i]? = m[i]? := by
 unfold Lib.occAt at h
 obtain ⟨t, ht⟩ := List.isPrefixOf_iff_prefix.1 h
 have h2 : (m ++ t)[i]? = (s.drop j)[i]? := by rw [ht]
 rw [List.getElem?_drop, List.getElem?_append_left hi] at h2
 exact h2.symm
theorem occ_here (p sep r : List UInt8) : Lib.occAt (p ++ sep ++ r) sep p.length = true := by
 unfold Lib.occAt
 rw [List.append_assoc, List.drop_left]
 exact List.isPrefixOf_iff_prefix.2 ⟨r, rfl⟩
theorem semi_at {p : List UInt8} (h : (59 : UInt8) ∉ p) : (∀ r, Lib.index (p ++ semi ++ r) semi = p.length) ∧ Lib.index p semi = -1 := by
 refine ⟨fun r => Lib.index_first (by rw [List.length_append, List.length_append]; omega) (occ_here _ _ _) fun j hj => ?_, Lib.index_none fun j _ => ?_⟩
 ·cases hh : Lib.occAt (p ++ semi ++ r) semi j with
  | false => rfl
  | true =>
   have h2 := occ_get hh 0 (by decide)
   rw [Nat.add_zero, List.append_assoc, List.getElem?_append_left hj] at h2
   exact absurd (List.mem_of_getElem? (h2.trans rfl)) h
 ·cases hh : Lib.occAt p semi j with
  | false => rfl
  | true =>
   have h2 := occ_get hh 0 (by decide)
   rw [Nat.add_zero] at h2
   exact absurd (List.mem_of_getElem? (h2.trans rfl)) h
def NoSo (l : List UInt8) : Prop := ∀ j : Nat, l[j]? = some 32 → l[j + 1]? ≠ some 111
theorem noSo_a {l : List UInt8} (h : (32 : UInt8) ∉ l) : NoSo l := fun _ hj => absurd (List.mem_of_getElem? hj) h
theorem noSo_b {l : List UInt8} (h : (111 : UInt8) ∉ l) : NoSo l := fun _ _ hj => h (List.mem_of_getElem? hj)
theorem noSo_app {a b : List UInt8} (ha : NoSo a) (hb : NoSo b) (hx : a.getLast? ≠ some 32 ∨ b[0]? ≠ some 111) : NoSo (a ++ b) := fun j hj hk => by
 by_cases h1 : j + 1 < a.length
 ·rw [List.getElem?_append_left (by omega)] at hj
  rw [List.getElem?_append_left h1] at hk
  exact ha j hj hk
 ·by_cases h2 : j + 1 = a.length
  ·rw [List.getElem?_append_left (by omega)] at hj
   rw [List.getElem?_append_right (by omega), h2, Nat.sub_self] at hk
   rcases hx with hx | hx
   ·refine hx ?_
    rw [List.getLast?_eq_getElem?, ← h2, Nat.add_sub_cancel]; exact hj
   ·exact hx hk
  ·rw [List.getElem?_append_right (by omega)] at hj hk
   rw [show j + 1 - a.length = j - a.length + 1 from by omega] at hk
   exact hb _ hj hk
theorem noSo_join {x : UInt8} (hx : x ≠ 111) : ∀ (l : List (List UInt8)), (∀ p ∈ l, NoSo p ∧ p[0]? ≠ some 111) → NoSo (Lib.join l [32, x, 32]) ∧ (Lib.join l [32, x, 32])[0]? ≠ some 111
 | [], _ => by rw [Lib.join_nil]; exact ⟨noSo_a (by simp), by simp⟩
 | [p], h => by rw [Lib.join_one]; exact h p (by simp)
 | p :: q :: r, h => by
  have e : Lib.join (p :: q :: r) [32, x, 32] = p ++ ([32, x, 32] ++ Lib.join (q :: r) [32, x, 32]) := by
   rw [Lib.join_cons, Lib.join_cons]
   simp [Lib.joinTail]
  have ih := noSo_join hx (q :: r) (fun y hy => h y (by simp [hy]))
  have hp := h p (by simp)
  have hm : (111 : UInt8) ∉ [32, x, 32] := by
   intro hm
   simp at hm
   exact hx hm.symm
  rw [e]
  refine ⟨noSo_app hp.1 (noSo_app (noSo_b hm) ih.1 (Or.inr ih.2)) (Or.inr ?_), ?_⟩
  ·show some (32 : UInt8) ≠ some 111
   decide
  ·cases p with
   | nil => show some (32 : UInt8) ≠ some 111; decide
   | cons c l => exact hp.2
theorem orT_at {p : List UInt8} (h : NoSo p) : (∀ r, Lib.index (p ++ orT ++ r) orT = p.length) ∧ Lib.index p orT = -1 := by
 refine ⟨fun r => Lib.index_first (by rw [List.length_append, List.length_append]; omega) (occ_here _ _ _) fun j hj => ?_, Lib.index_none fun j _ => ?_⟩
 ·cases hh : Lib.occAt (p ++ orT ++ r) orT j with
  | false => rfl
  | true =>
   have h0 := occ_get hh 0 (by decide)
   have h1 := occ_get hh 1 (by decide)
   rw [Nat.add_zero, List.append_assoc, List.getElem?_append_left hj] at h0
   rw [List.append_assoc] at h1
   by_cases h3 : j + 1 < p.length
   ·rw [List.getElem?_append_left h3] at h1
    exact absurd (h1.trans rfl) (h j (h0.trans rfl))
   ·have h4 : j + 1 = p.length := by omega
    rw [List.getElem?_append_right (by omega), h4, Nat.sub_self] at h1
    have h5 : some (32 : UInt8) = some 111 := h1
    exact absurd h5 (by decide)
 ·cases hh : Lib.occAt p orT j with
  | false => rfl
  | true =>
   have h0 := occ_get hh 0 (by decide)
   have h1 := occ_get hh 1 (by decide)
   rw [Nat.add_zero] at h0
   exact absurd (h1.trans rfl) (h j (h0.trans rfl))
theorem fst_head {x : UInt8} {v : List UInt8} (h : (Vm.fst x v).isEmpty = false) : ∃ d l k, v = d :: l ∧ Vm.fst x v = d :: k := by
 cases v with
 | nil => cases h
 | cons d l =>
  unfold Vm.fst at h ⊢
  rw [List.takeWhile_cons] at h ⊢
  cases hd : d != x with
  | false => rw [hd] at h; cases h
  | true => exact ⟨d, l, _, rfl, rfl⟩
theorem dig_o {c : UInt8} (h : Vm.dig c = true) : some c ≠ some (111 : UInt8) := fun e => by cases e; exact absurd h (by decide)
theorem ver_head {v : List UInt8} (h : Vm.check v = 0) : v[0]? ≠ some 111 := by
 obtain ⟨_, h1, h2, _⟩ := Vm.ver_of h
 by_cases h58 : Vm.has 58 v = true
 ·have e : Vm.ep v = Vm.fst 58 v := by unfold Vm.ep; rw [if_pos h58]
  rw [e] at h1
  unfold Vm.epOk at h1
  simp only [Bool.and_eq_true] at h1
  obtain ⟨d, l, k, rfl, ek⟩ := fst_head (by simpa using h1.1)
  rw [ek] at h1
  exact dig_o (List.all_eq_true.1 h1.2.2 d (by simp))
 ·have e : Vm.pt v = Vm.fst 45 v := by unfold Vm.pt Vm.rest; rw [if_neg h58]
  rw [e] at h2
  unfold Vm.partOk at h2
  simp only [Bool.and_eq_true] at h2
  obtain ⟨d, l, k, rfl, ek⟩ := fst_head (by simpa using h2.1)
  rw [ek] at h2
  exact dig_o (h2.2.1 : Vm.dig d = true)
theorem verC_free {c : UInt8} (h : verC c = true) : c ≠ 32 ∧ c ≠ 59 := by
 refine ⟨fun e => ?_, fun e => ?_⟩ <;> (subst e; exact absurd h (by decide))
theorem ver_free {v : List UInt8} (h : Vm.check v = 0) : (32 : UInt8) ∉ v ∧ (59 : UInt8) ∉ v :=
 ⟨fun hm => (verC_free (ver_chars h _ hm)).1 rfl, fun hm => (verC_free (ver_chars h _ hm)).2 rfl⟩
theorem name_free {s : List UInt8} (h : nameB s = true) : (32 : UInt8) ∉ s ∧ (59 : UInt8) ∉ s ∧ (61 : UInt8) ∉ s := by
 unfold nameB at h
 simp only [Bool.and_eq_true] at h
 obtain ⟨_, _, _, h4⟩ := h
 have hc := List.all_eq_true.1 h4
 exact ⟨fun hm => absurd (hc _ hm) (by decide), fun hm => absurd (hc _ hm) (by decide), fun hm => absurd (hc _ hm) (by decide)⟩
theorem sign_free2 : ∀ i, i < 6 → (32 : UInt8) ∉ sgnT i ∧ (59 : UInt8) ∉ sgnT i ∧ (sgnT i)[0]? ≠ some 111 ∧ 0 < (sgnT i).length := by decide +kernel
theorem cond_o {c : Cond} (h : At.CondOk c) : (NoSo (condT c) ∧ (condT c)[0]? ≠ some 111) ∧ (59 : UInt8) ∉ condT c := by
 obtain ⟨i, hi, hs, ho⟩ := h
 obtain ⟨s, v⟩ := c
 obtain rfl : s = sgnT i := hs
 obtain ⟨f1, f2, f3, f4⟩ := sign_free2 i hi
 obtain ⟨v1, v2⟩ := ver_free ho.1
 have hv := ver_head ho.1
 have h1 : NoSo (32 :: v) := noSo_app (a := [32]) (noSo_b (by decide)) (noSo_a v1) (Or.inr hv)
 unfold condT
 refine ⟨⟨noSo_app (noSo_a f1) h1 (Or.inr ?_), ?_⟩, fun hm => ?_⟩
 ·show some (32 : UInt8) ≠ some 111
  decide
 ·rw [List.getElem?_append_left f4]; exact f3
 ·rcases List.mem_append.1 hm with h | h
  ·exact f2 h
  ·rcases List.mem_cons.1 h with h | h
   ·exact absurd h (by decide)
   ·exact v2 h
theorem alt_o {l : List Cond} (h : ∀ c ∈ l, At.CondOk c) : (NoSo (altT l) ∧ (altT l)[0]? ≠ some 111) ∧ (59 : UInt8) ∉ altT l := by
 unfold altT
 refine ⟨noSo_join (by decide) _ fun p hp => ?_, fun hm => ?_⟩
 ·obtain ⟨c, hc, rfl⟩ := List.mem_map.1 hp
  exact (cond_o (h c hc)).1
 ·rcases mem_join hm with ⟨p, hp, hx⟩ | hx
  ·obtain ⟨c, hc, rfl⟩ := List.mem_map.1 hp
   exact (cond_o (h c hc)).2 hx
  ·exact absurd hx (by decide)
theorem term_o {t : List (List Cond)} (h : ∀ l ∈ t, ∀ c ∈ l, At.CondOk c) : NoSo (termT t) ∧ (59 : UInt8) ∉ termT t := by
 unfold termT
 split
 ·exact ⟨noSo_a (by decide), by decide⟩
 refine ⟨(noSo_join (by decide) _ fun p hp => ?_).1, fun hm => ?_⟩
 ·obtain ⟨c, hc, rfl⟩ := List.mem_map.1 hp
  exact (alt_o (h c hc)).1
 ·rcases mem_join hm with ⟨p, hp, hx⟩ | hx
  ·obtain ⟨c, hc, rfl⟩ := List.mem_map.1 hp
   exact (alt_o (h c hc)).2 hx
  ·exact absurd hx (by decide)
theorem text_o {a : Atm} (h : checkA a = 0) : NoSo (textA a) ∧ (59 : UInt8) ∉ textA a := by
 obtain ⟨h1, h2, _⟩ := check_parts h
 obtain ⟨n1, n2, _⟩ := name_free h1
 unfold textA
 split
 ·exact ⟨noSo_a n1, n2⟩
 obtain ⟨_, _, h3⟩ := check_spans h2
 obtain ⟨t1, t2⟩ := term_o (t := termOf a.rng) (fun l hl => by
  obtain ⟨s, hs, rfl⟩ := List.mem_map.1 hl
  exact conds_ok (h3 s hs))
 have q1 : NoSo (32 :: 40 :: (termT (termOf a.rng) ++ [41])) := by
  refine noSo_app (a := [32, 40]) (noSo_b (by decide)) (noSo_app t1 (noSo_b (by decide)) (Or.inr ?_)) (Or.inl (by decide))
  show some (41 : UInt8) ≠ some 111
  decide
 refine ⟨noSo_app (noSo_a n1) q1 (Or.inr ?_), fun hm => ?_⟩
 ·show some (32 : UInt8) ≠ some 111
  decide
 ·rcases List.mem_append.1 hm with hm | hm
  ·exact n2 hm
  rcases List.mem_cons.1 hm with hm | hm
  ·exact absurd hm (by decide)
  rcases List.mem_cons.1 hm with hm | hm
  ·exact absurd hm (by decide)
  rcases List.mem_append.1 hm with hm | hm
  ·exact t2 hm
  ·exact absurd hm (by decide)
theorem rdL_map {β : Type} {rd : List UInt8 → Except Int β} {g : β → List UInt8} : ∀ (l acc : List β), (∀ b ∈ l, rd (g b) = .ok b) → rdL rd acc (l.map g) = .ok (acc ++ l)
 | [], acc, _ => by rw [List.append_nil]; rfl
 | b :: l, acc, h => by
  rw [List.map_cons, rdL_ok (h b (by simp)), rdL_map l (acc ++ [b]) (fun x hx => h x (by simp [hx])), List.append_assoc]
  rfl
theorem partsR_join {β : Type} {rd : List UInt8 → Except Int β} {g : β → List UInt8} {sep : List UInt8} (hs : sep ≠ []) {most : Nat} {l : List β} (h0 : l ≠ []) (hl : l.length ≤ most) (h1 : ∀ b ∈ l, rd (g b) = .ok b) (h2 : ∀ b ∈ l, (∀ r, Lib.index (g b ++ sep ++ r) sep = (g b).length) ∧ Lib.index (g b) sep = -1) : partsR rd sep most (Lib.join (l.map g) sep) = .ok l := by
 unfold partsR
 rw [split_free hs (l.map g) (by simpa using h0) (fun p hp => by
  obtain ⟨b, hb, rfl⟩ := List.mem_map.1 hp
  exact h2 b hb), List.length_map, if_pos hl, rdL_map l [] h1]
 rfl
theorem atomR_text {a : Atm} (h : checkA a = 0) : atomR (textA a) = .ok a := by
 unfold atomR
 rw [At.parse_text h]; rfl
theorem depR_text {d : List Atm} (h : atomsE d = 0) (h1 : 1 ≤ d.length) (h8 : d.length ≤ 8) : depR (depT d) = .ok d :=
 partsR_join (by decide) (fun e => by rw [e] at h1; exact absurd h1 (by decide)) h8 (fun _ hb => atomR_text (atomsE_all h _ hb)) (fun _ hb => orT_at (text_o (atomsE_all h _ hb)).1)
theorem depT_semi {d : List Atm} (h : atomsE d = 0) : (59 : UInt8) ∉ depT d := fun hm => by
 rcases mem_join hm with ⟨p, hp, hx⟩ | hx
 ·obtain ⟨a, ha, rfl⟩ := List.mem_map.1 hp
  exact (text_o (atomsE_all h a ha)).2 hx
 ·exact absurd hx (by decide)
theorem deps_text {t : List (List Atm)} (h : depsE t = 0) (h0 : t ≠ []) (hl : t.length ≤ 16) : partsR depR semi 16 (Lib.join (t.map depT) semi) = .ok t :=
 partsR_join (by decide) h0 hl (fun _ hb => depR_text (depsE_all h _ hb).2.2 (depsE_all h _ hb).1 (depsE_all h _ hb).2.1) (fun _ hb => semi_at (depT_semi (depsE_all h _ hb).2.2))
theorem confl_text {l : List Atm} (h : atomsE l = 0) (h0 : l ≠ []) (hl : l.length ≤ 16) : partsR atomR semi 16 (Lib.join (l.map textA) semi) = .ok l :=
 partsR_join (by decide) h0 hl (fun _ hb => atomR_text (atomsE_all h _ hb)) (fun _ hb => semi_at (text_o (atomsE_all h _ hb)).2)
theorem cut_joint {p r : List UInt8} (hp : (61 : UInt8) ∉ p) : Lib.cut (p ++ [32, 61, 32] ++ r) isT = (p, r, true) := by
 have hi := index_joint (x := 61) (by decide) p r hp
 unfold Lib.cut isT
 rw [hi, if_pos (by omega), Int.toNat_natCast]
 have e : (p ++ [32, 61, 32] ++ r).drop (p.length + ([32, 61, 32] : List UInt8).length) = r := by rw [← List.length_append, List.drop_left]
 rw [e, List.append_assoc, List.take_left]
theorem cut_lone {p : List UInt8} (hp : (61 : UInt8) ∉ p) : Lib.cut p isT = (p, [], false) := by
 have hi := index_lone (x := 61) p hp
 unfold Lib.cut isT
 rw [hi, if_neg (by decide)]
theorem canonOf_own {v : List UInt8} (h : verE v = 0) : Vm.check v = 0 ∧ canonOf v = v := by
 obtain ⟨h1, h2⟩ := verE_parts h
 exact ⟨h1, by rw [canonOf, if_pos h1, h2]⟩
theorem gvR_text {g : Gv} (h : giveE g = 0) : gvR (gvT g) = .ok g := by
 obtain ⟨h1, h2⟩ := giveE_parts h
 obtain ⟨n1, n2, n3⟩ := name_free h1
 obtain ⟨nm, v⟩ := g
 dsimp only at h1 h2 n3
 unfold gvR gvT
 by_cases hv : v = []
 ·subst hv
  rw [if_pos rfl, cut_lone n3, if_pos h1, if_neg (by simp)]
 ·rw [if_neg hv, cut_joint n3, if_pos h1, if_pos rfl]
  obtain ⟨c1, c2⟩ := canonOf_own (h2.resolve_left hv)
  rw [if_pos c1]
  dsimp only
  rw [c2]
theorem give_semi {g : Gv} (h : giveE g = 0) : (59 : UInt8) ∉ gvT g := fun hm => by
 obtain ⟨h1, h2⟩ := giveE_parts h
 obtain ⟨n1, n2, n3⟩ := name_free h1
 unfold gvT at hm
 split at hm
 ·exact n2 hm
 ·rename_i hv
  rcases List.mem_append.1 hm with hm | hm
  ·rcases List.mem_append.1 hm with hm | hm
   ·exact n2 hm
   ·exact absurd hm (by decide)
  ·exact (ver_free (canonOf_own (h2.resolve_left hv)).1).2 hm
theorem prov_text {l : List Gv} (h : givesE l = 0) (h0 : l ≠ []) (hl : l.length ≤ 16) : partsR gvR semi 16 (Lib.join (l.map gvT) semi) = .ok l :=
 partsR_join (by decide) h0 hl (fun _ hb => gvR_text (givesE_all h _ hb)) (fun _ hb => semi_at (give_semi (givesE_all h _ hb)))
theorem wtR_text {b : Nat} (hb : b < Wm.W) (h : chkW b = 0) : wtR (Wm.textW b) = .ok b := by
 have hn : Wm.nan b = false := by
  unfold chkW at h
  cases hh : Wm.nan b
  ·rfl
  ·rw [hh, if_pos rfl] at h; cases h
 obtain ⟨h1, h2⟩ := _root_.Go.Proofs.YtkplahkkmmoppaaGreatDoor.parse_text b hb hn
 unfold wtR
 rw [if_pos h1, h2, if_pos h]
def optF (c : Prop) [Decidable c] (k v : List UInt8) : List Sz.Fld := if c then [] else [⟨k, v, 0⟩]
theorem toPk_opts (p : Pk) : toPk p = ⟨kPkg, p.name, 0⟩ :: ⟨kVer, p.ver, 0⟩ :: (optF (p.deps = []) kDep (depsT p) ++ (optF (p.confl = []) kCon (conflT p) ++ (optF (p.prov = []) kPro (provT p) ++ (optF (Wm.textW p.wt = [48]) kWei (Wm.textW p.wt) ++ [])))) := by
 unfold toPk to3 to2 to1 to0 optF
 split <;> split <;> split <;> split <;> rfl
theorem read_opt {q q' : Pk} {c : Prop} [Decidable c] {k v : List UInt8} (h1 : c → q = q') (h2 : ¬ c → takeR q k v = .ok q') (i : Nat) (l : List Sz.Fld) : ∃ j, readR i q (optF c k v ++ l) = readR j q' l := by
 unfold optF
 by_cases hc : c
 ·rw [if_pos hc]; exact ⟨i, by rw [h1 hc]; rfl⟩
 ·rw [if_neg hc]; exact ⟨i + 1, readR_ok (f := ⟨k, v, 0⟩) (h2 hc)⟩
theorem ord_opt {c : Prop} [Decidable c] {k v : List UInt8} {n : Nat} {l : List Sz.Fld} {b : Int} (hk : Sz.placeOf keys6 k = some n) (hb : b < n) (h : ∀ i last, last ≤ (n : Int) → (Sz.ordP keys6 i last l).2 = 0) (i : Nat) (last : Int) (hl : last ≤ b) : (Sz.ordP keys6 i last (optF c k v ++ l)).2 = 0 := by
 unfold optF
 by_cases hc : c
 ·rw [if_pos hc]; exact h i last (by omega)
 ·rw [if_neg hc]
  show (Sz.ordP keys6 i last (⟨k, v, 0⟩ :: l)).2 = 0
  rw [Sz.ordP, hk]
  show (if last < (n : Int) then _ else _ : Int × Int).2 = 0
  rw [if_pos (by omega)]
  exact h _ _ (Int.le_refl _)
theorem ord_to (p : Pk) : (Sz.ordP keys6 0 (-1) (toPk p)).2 = 0 := by
 rw [toPk_opts]
 have h5 : ∀ i last, last ≤ ((4 : Nat) : Int) → (Sz.ordP keys6 i last (optF (Wm.textW p.wt = [48]) kWei (Wm.textW p.wt) ++ [])).2 = 0 := ord_opt (n := 5) (by decide) (by decide) (fun _ _ _ => rfl)
 have h4 : ∀ i last, last ≤ ((3 : Nat) : Int) → (Sz.ordP keys6 i last (optF (p.prov = []) kPro (provT p) ++ _)).2 = 0 := ord_opt (n := 4) (by decide) (by decide) h5
 have h3 : ∀ i last, last ≤ ((2 : Nat) : Int) → (Sz.ordP keys6 i last (optF (p.confl = []) kCon (conflT p) ++ _)).2 = 0 := ord_opt (n := 3) (by decide) (by decide) h4
 have h2 : ∀ i last, last ≤ ((1 : Nat) : Int) → (Sz.ordP keys6 i last (optF (p.deps = []) kDep (depsT p) ++ _)).2 = 0 := ord_opt (n := 2) (by decide) (by decide) h3
 exact h2 2 1 (Int.le_refl _)
theorem wt_zero {b : Nat} (hb : b < Wm.W) (h : chkW b = 0) (e : Wm.textW b = [48]) : (0 : Nat) = b := by
 have h1 := wtR_text hb h
 rw [e] at h1
 have h2 : errW [48] = 0 ∧ chkW (outW [48]) = 0 ∧ outW [48] = 0 := by decide +kernel
 unfold wtR at h1
 rw [if_pos h2.1, if_pos h2.2.1, h2.2.2] at h1
 cases h1; rfl
theorem read_to {p : Pk} (h : checkP p = 0) (hw : p.wt < Wm.W) : readP (toPk p) = .ok p := by
 obtain ⟨h1, h2, h3, h4, h5, h6, h7, h8, h9⟩ := checkP_all h
 obtain ⟨v1, v2⟩ := canonOf_own h2
 have e := toPk_opts p
 unfold readP
 rw [if_pos (ord_to p), Sz.getF_has, Sz.getF_has]
 have g1 : (Sz.hasK (toPk p) kPkg && Sz.hasK (toPk p) kVer) = true := by rw [e]; rfl
 rw [if_pos g1, e]
 obtain ⟨nm, v, D, C, G, b⟩ := p
 dsimp only at h1 h2 h3 h4 h5 h6 h7 h8 h9 v1 v2 hw ⊢
 clear e g1
 have t1 : takeR zeroP kPkg nm = .ok ⟨nm, [], [], [], [], 0⟩ := by unfold takeR; rw [if_pos rfl, if_pos h1]; rfl
 have t2 : takeR ⟨nm, [], [], [], [], 0⟩ kVer v = .ok ⟨nm, v, [], [], [], 0⟩ := by unfold takeR; rw [if_neg (by decide), if_pos rfl, if_pos v1, v2]
 have t3 : ¬ D = [] → takeR ⟨nm, v, [], [], [], 0⟩ kDep (depsT ⟨nm, v, D, C, G, b⟩) = .ok ⟨nm, v, D, [], [], 0⟩ := fun h0 => by
  unfold takeR depsT
  rw [if_neg (by decide), if_neg (by decide), if_pos rfl, deps_text h4 h0 h3]
 have t4 : ¬ C = [] → takeR ⟨nm, v, D, [], [], 0⟩ kCon (conflT ⟨nm, v, D, C, G, b⟩) = .ok ⟨nm, v, D, C, [], 0⟩ := fun h0 => by
  unfold takeR conflT
  rw [if_neg (by decide), if_neg (by decide), if_neg (by decide), if_pos rfl, confl_text h6 h0 h5]
 have t5 : ¬ G = [] → takeR ⟨nm, v, D, C, [], 0⟩ kPro (provT ⟨nm, v, D, C, G, b⟩) = .ok ⟨nm, v, D, C, G, 0⟩ := fun h0 => by
  unfold takeR provT
  rw [if_neg (by decide), if_neg (by decide), if_neg (by decide), if_neg (by decide), if_pos rfl, prov_text h8 h0 h7]
 have t6 : takeR ⟨nm, v, D, C, G, 0⟩ kWei (Wm.textW b) = .ok ⟨nm, v, D, C, G, b⟩ := by
  unfold takeR
  rw [if_neg (by decide), if_neg (by decide), if_neg (by decide), if_neg (by decide), if_neg (by decide), if_pos rfl, wtR_text hw h9]
 rw [readR_ok (f := ⟨kPkg, nm, 0⟩) t1, readR_ok (f := ⟨kVer, v, 0⟩) t2]
 obtain ⟨i3, e3⟩ := read_opt (q := ⟨nm, v, [], [], [], 0⟩) (q' := ⟨nm, v, D, [], [], 0⟩) (c := D = []) (fun e => by rw [e]) t3 (0 + 1 + 1) (optF (C = []) kCon (conflT ⟨nm, v, D, C, G, b⟩) ++ (optF (G = []) kPro (provT ⟨nm, v, D, C, G, b⟩) ++ (optF (Wm.textW b = [48]) kWei (Wm.textW b) ++ [])))
 obtain ⟨i4, e4⟩ := read_opt (q := ⟨nm, v, D, [], [], 0⟩) (q' := ⟨nm, v, D, C, [], 0⟩) (c := C = []) (fun e => by rw [e]) t4 i3 (optF (G = []) kPro (provT ⟨nm, v, D, C, G, b⟩) ++ (optF (Wm.textW b = [48]) kWei (Wm.textW b) ++ []))
 obtain ⟨i5, e5⟩ := read_opt (q := ⟨nm, v, D, C, [], 0⟩) (q' := ⟨nm, v, D, C, G, 0⟩) (c := G = []) (fun e => by rw [e]) t5 i4 (optF (Wm.textW b = [48]) kWei (Wm.textW b) ++ [])
 obtain ⟨i6, e6⟩ := read_opt (q := ⟨nm, v, D, C, G, 0⟩) (q' := ⟨nm, v, D, C, G, b⟩) (c := Wm.textW b = [48]) (fun e => by rw [wt_zero hw h9 e]) (fun _ => t6) i5 []
 exact e3.trans (e4.trans (e5.trans (e6.trans rfl)))
theorem from_to {p : Pk} (h : checkP p = 0) (hw : p.wt < Wm.W) : fromP (toPk p) = (0, 0, p) := by
 unfold fromP
 rw [read_to h hw]
theorem sam_self (p : Pk) : samP p p = true := by
 unfold samP
 simp only [decide_true, Bool.true_and]
 have : Vm.sgn (Wm.placeN p.wt) (Wm.placeN p.wt) = 0 := by unfold Vm.sgn; simp
 rw [this]; rfl
end Pg
end Go.Proofs.YtkplahkkmmoppaaGreatDoor
namespace Go.Proofs.YtkplahkkmmoppaaGreatDoor
open Go.RowKit Rs At Pg
namespace Pg
theorem atomsE_of : ∀ {l : List Atm}, (∀ a ∈ l, checkA a = 0) → atomsE l = 0
 | [], _ => rfl
 | a :: l, h => by
  unfold atomsE
  rw [if_pos (h a (by simp))]
  exact atomsE_of fun x hx => h x (by simp [hx])
theorem givesE_of : ∀ {l : List Gv}, (∀ a ∈ l, giveE a = 0) → givesE l = 0
 | [], _ => rfl
 | a :: l, h => by
  unfold givesE
  rw [if_pos (h a (by simp))]
  exact givesE_of fun x hx => h x (by simp [hx])
theorem depsE_of : ∀ {l : List (List Atm)}, (∀ d ∈ l, 1 ≤ d.length ∧ d.length ≤ 8 ∧ atomsE d = 0) → depsE l = 0
 | [], _ => rfl
 | a :: l, h => by
  obtain ⟨h1, h2, h3⟩ := h a (by simp)
  unfold depsE
  rw [if_pos ⟨h1, h2⟩, if_pos h3]
  exact depsE_of fun x hx => h x (by simp [hx])
end Pg
end Go.Proofs.YtkplahkkmmoppaaGreatDoor
namespace Go.Proofs.YtkplahkkmmoppaaGreatDoor
open Go.RowKit Rs At Pg
namespace Pg
def szX : Atm := ⟨[120], allS⟩
def szG : Gv := ⟨[120], []⟩
def szP (n m o q : Nat) : Pk := ⟨[112], [49], List.replicate n (List.replicate q szX), List.replicate m szX, List.replicate o szG, 0⟩
theorem szX_ok : checkA szX = 0 ∧ textA szX = [120] := by decide +kernel
theorem sz_atoms (k : Nat) : atomsE (List.replicate k szX) = 0 := atomsE_of fun a ha => by rw [List.eq_of_mem_replicate ha]; exact szX_ok.1
theorem sz_gives (k : Nat) : givesE (List.replicate k szG) = 0 := givesE_of fun a ha => by rw [List.eq_of_mem_replicate ha]; decide +kernel
theorem sz_deps (n q : Nat) (hq : 1 ≤ q) : depsE (List.replicate n (List.replicate q szX)) = if 0 < n ∧ 8 < q then 4 else 0 := by
 by_cases h8 : 8 < q
 ·cases n with
  | zero => rw [if_neg (by omega)]; rfl
  | succ n =>
   rw [if_pos ⟨by omega, h8⟩, List.replicate_succ, depsE_cons, if_neg]
   rw [List.length_replicate]; omega
 ·rw [if_neg (by omega)]
  refine depsE_of fun d hd => ?_
  rw [List.eq_of_mem_replicate hd, List.length_replicate]
  exact ⟨hq, by omega, sz_atoms q⟩
def szLong (n m o q : Nat) : Prop := 16 < n ∨ (0 < n ∧ 8 < q) ∨ 16 < m ∨ 16 < o
instance (n m o q : Nat) : Decidable (szLong n m o q) := by unfold szLong; infer_instance
theorem sz_check (n m o q : Nat) (hq : 1 ≤ q) : checkP (szP n m o q) = if szLong n m o q then 4 else 0 := by
 have L1 : 16 < n → szLong n m o q := fun h => Or.inl h
 have L2 : 0 < n ∧ 8 < q → szLong n m o q := fun h => Or.inr (Or.inl h)
 have L3 : 16 < m → szLong n m o q := fun h => Or.inr (Or.inr (Or.inl h))
 have L4 : 16 < o → szLong n m o q := fun h => Or.inr (Or.inr (Or.inr h))
 have L5 : szLong n m o q → 16 < n ∨ (0 < n ∧ 8 < q) ∨ 16 < m ∨ 16 < o := fun h => h
 unfold checkP szP
 dsimp only
 rw [if_neg (by decide +kernel), if_neg (by decide +kernel), List.length_replicate, List.length_replicate, List.length_replicate, sz_deps n q hq, sz_atoms, sz_gives]
 by_cases h1 : 16 < n
 ·rw [if_pos h1, if_pos (L1 h1)]
 rw [if_neg h1]
 by_cases h2 : 0 < n ∧ 8 < q
 ·rw [if_pos h2, if_pos (L2 h2)]; rfl
 rw [if_neg h2, if_neg (by decide)]
 by_cases h3 : 16 < m
 ·rw [if_pos h3, if_pos (L3 h3)]
 rw [if_neg h3, if_neg (by decide)]
 by_cases h4 : 16 < o
 ·rw [if_pos h4, if_pos (L4 h4)]
 rw [if_neg h4, if_neg (by decide), if_neg (fun h => by
  rcases L5 h with h | h | h | h
  ·exact h1 h
  ·exact h2 h
  ·exact h3 h
  ·exact h4 h)]
 decide +kernel
theorem sz_afew (k : Nat) : AFew (List.replicate k szX) := fun a ha => by rw [List.eq_of_mem_replicate ha]; exact ⟨by decide +kernel, by decide +kernel⟩
theorem sz_few (n m o q : Nat) (hn : n ≤ 18) (hm : m ≤ 18) (ho : o ≤ 18) (hq : q ≤ 10) : PFew (szP n m o q) := by
 refine ⟨by show ([112] : List UInt8).length ≤ _; decide +kernel, ?_, fun d hd => ?_, ?_, sz_afew m, ?_, fun g hg => ?_, by show 0 < Wm.W; decide +kernel⟩
 ·show (List.replicate _ _).length ≤ _
  rw [List.length_replicate]; omega
 ·rw [List.eq_of_mem_replicate hd, List.length_replicate]
  exact ⟨by omega, sz_afew q⟩
 ·show (List.replicate _ _).length ≤ _
  rw [List.length_replicate]; omega
 ·show (List.replicate _ _).length ≤ _
  rw [List.length_replicate]; omega
 ·rw [List.eq_of_mem_replicate hg]; exact ⟨by decide +kernel, by decide +kernel⟩
theorem sz_short (n m o q : Nat) (_ : 1 ≤ q) (hl : ¬ szLong n m o q) : ∀ f ∈ toPk (szP n m o q), f.key.length ≤ 1000 ∧ f.val.length ≤ 1000 := by
 have ht : ∀ k, ∀ x ∈ (List.replicate k szX).map textA, x.length ≤ 1 := fun k x hx => by
  obtain ⟨a, ha, rfl⟩ := List.mem_map.1 hx
  rw [List.eq_of_mem_replicate ha, szX_ok.2]; decide
 have l1 : n ≤ 16 ∧ (n = 0 ∨ q ≤ 8) ∧ m ≤ 16 ∧ o ≤ 16 := by unfold szLong at hl; omega
 have hd : (depsT (szP n m o q)).length ≤ 1000 := by
  have h1 := join_le (B := 40) ((szP n m o q).deps.map depT) semi (fun x hx => by
   obtain ⟨d, hd, rfl⟩ := List.mem_map.1 hx
   have hn0 : n ≠ 0 := fun e => by subst e; cases hd
   rw [List.eq_of_mem_replicate hd]
   have h2 := join_le ((List.replicate q szX).map textA) orT (ht q)
   rw [List.length_map, List.length_replicate] at h2
   have h3 : q * (1 + orT.length) ≤ 8 * 5 := Nat.mul_le_mul (l1.2.1.resolve_left hn0) (by decide)
   exact Nat.le_trans h2 h3)
  rw [List.length_map] at h1
  have h2 : (szP n m o q).deps.length * (40 + semi.length) ≤ 16 * 42 := Nat.mul_le_mul (by show (List.replicate _ _).length ≤ _; rw [List.length_replicate]; exact l1.1) (by decide)
  exact Nat.le_trans h1 (Nat.le_trans h2 (by decide))
 have hc : (conflT (szP n m o q)).length ≤ 1000 := by
  have h1 := join_le ((List.replicate m szX).map textA) semi (ht m)
  rw [List.length_map, List.length_replicate] at h1
  have h2 : m * (1 + semi.length) ≤ 16 * 3 := Nat.mul_le_mul l1.2.2.1 (by decide)
  exact Nat.le_trans h1 (Nat.le_trans h2 (by decide))
 have hp : (provT (szP n m o q)).length ≤ 1000 := by
  have h1 := join_le (B := 1) ((List.replicate o szG).map gvT) semi (fun x hx => by
   obtain ⟨a, ha, rfl⟩ := List.mem_map.1 hx
   rw [List.eq_of_mem_replicate ha]; decide)
  rw [List.length_map, List.length_replicate] at h1
  have h2 : o * (1 + semi.length) ≤ 16 * 3 := Nat.mul_le_mul l1.2.2.2 (by decide)
  exact Nat.le_trans h1 (Nat.le_trans h2 (by decide))
 have opt : ∀ (c : Prop) [Decidable c] (k v : List UInt8) (f : Sz.Fld), f ∈ optF c k v → k.length ≤ 1000 → v.length ≤ 1000 → f.key.length ≤ 1000 ∧ f.val.length ≤ 1000 := fun c _ k v f hf h1 h2 => by
  unfold optF at hf
  split at hf
  ·cases hf
  ·rw [List.mem_singleton.1 hf]; exact ⟨h1, h2⟩
 intro f hf
 rw [toPk_opts] at hf
 rcases List.mem_cons.1 hf with rfl | hf
 ·exact ⟨by show kPkg.length ≤ _; decide, by show ([112] : List UInt8).length ≤ _; decide⟩
 rcases List.mem_cons.1 hf with rfl | hf
 ·exact ⟨by show kVer.length ≤ _; decide, by show ([49] : List UInt8).length ≤ _; decide⟩
 rcases List.mem_append.1 hf with hf | hf
 ·exact opt _ _ _ f hf (by decide) hd
 rcases List.mem_append.1 hf with hf | hf
 ·exact opt _ _ _ f hf (by decide) hc
 rcases List.mem_append.1 hf with hf | hf
 ·exact opt _ _ _ f hf (by decide) hp
 rcases List.mem_append.1 hf with hf | hf
 ·exact opt _ _ _ f hf (by decide) (by show (Wm.textW 0).length ≤ _; decide +kernel)
 ·cases hf
end Pg
end Go.Proofs.YtkplahkkmmoppaaGreatDoor
