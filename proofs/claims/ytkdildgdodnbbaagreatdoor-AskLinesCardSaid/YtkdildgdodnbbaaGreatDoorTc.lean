/- The text of a term, walked. The text of an atom, walked. Blanks and brackets in a word: strings.ContainsAny(s, " ()") for any s, walked; requireWord. The parts of the reader of atoms, walked: words, signs, conditions, brackets. -/
import Derived.Test.YtkdildgdodnbbaaGreatDoorTb
import Derived.Test.YtkdildgdodnbbaaGreatDoorShelfB
import Derived.Laws.Runes
import Derived.Laws.RangeAny
import Derived.Deep.LoopGhost
import Derived.WalkMore
namespace Go.Proofs.YtkdildgdodnbbaaGreatDoor
open Go.RowKit Rs At

theorem txt_back (l : List (List UInt8)) : (l.map fun t => (⟨t.toArray⟩ : ByteArray)).map (·.data.toList) = l := by
  rw [List.map_map]; conv => rhs; rw [← List.map_id l]
  rfl
theorem join_any {w : World} {B : Nat} {v : Value} {l : List (List UInt8)} (sep : List UInt8) (h : Rg.Own encT 1 w B 9 v l) (hl : l.length ≤ 100000) (hj : (Lib.join l sep).length ≤ 1000000) :
    Calls Tryz.prog 78 #[v, .string ⟨sep.toArray⟩] w fun e w' => e = .returned (.string ⟨(Lib.join l sep).toArray⟩) ∧ Below w.heap.size w w' := by
  obtain ⟨A, c, hv, hr, hc, _⟩ := Rg.row_own fitsT h
  by_cases h0 : l = []
  · subst h0 hv
    exact (Tryz.strings_Join_none A c ⟨sep.toArray⟩ w).mono fun e w' hh => ⟨hh.1, hh.2 ▸ Below.refl _ _⟩
  · have hpos : 0 < l.length := List.length_pos_iff.2 h0
    obtain ⟨g, cap, hv2, _, hg⟩ := World.ownsRow.form h hpos
    have hcell : ∀ (j : Nat) (t : List UInt8), l[j]? = some t → w.cell? ⟨g, 0 + j, none⟩ = some (.string ⟨t.toArray⟩) := fun j t ht => by
      obtain ⟨hjl, hjt⟩ := List.getElem?_eq_some_iff.1 ht
      have hat := World.ownsRow.cells h (g := g) (by rw [hv2]; rfl) j (.string ⟨t.toArray⟩) (by
        have := Rg.flat_get fitsT l j hjl 0 (by decide)
        rw [Nat.mul_one, Nat.add_zero, hjt] at this
        exact this)
      have e : (⟨g, 0, none⟩ : Addr).add j = ⟨g, 0 + j, none⟩ := by unfold Addr.add; split <;> simp_all
      rwa [e] at hat
    have hlen : (l.map fun t => (⟨t.toArray⟩ : ByteArray)).length = l.length := List.length_map _
    have hcap : l.length ≤ cap := by rw [hv] at hv2; cases hv2; exact hc
    have := Tryz.strings_Join g 0 cap (l.map fun t => (⟨t.toArray⟩ : ByteArray)) ⟨sep.toArray⟩ w (fun j x hx => by
      rw [List.getElem?_map] at hx
      cases hlj : l[j]? with
      | none => rw [hlj] at hx; cases hx
      | some t => rw [hlj] at hx; cases hx; exact hcell j t hlj) hg (by rw [hlen]; omega) (by rw [hlen]; exact hcap) (by rw [txt_back]; exact Nat.le_trans hj (by decide))
    rw [hlen, txt_back] at this
    rw [hv2]
    exact this
theorem cat3 (a b c : List UInt8) : (({ data := a.toArray } : ByteArray) ++ { data := b.toArray } ++ { data := c.toArray }) = { data := (a ++ b ++ c).toArray } := by
  rw [ByteArray.mk_append_mk, ByteArray.mk_append_mk]
theorem join_step_le (m : List UInt8) (l : List (List UInt8)) (b : Nat) (h : ∀ t ∈ l, t.length ≤ b) : (Lib.join l m).length ≤ l.length * (b + m.length) := by
  cases l with
  | nil => rw [Lib.join_nil]; simp
  | cons x r =>
    rw [Lib.join_length]
    have hb : ∀ r : List (List UInt8), (∀ t ∈ r, t.length ≤ b) → Lib.lens r ≤ r.length * b := fun r => by
      induction r with
      | nil => intro _; simp [Lib.lens]
      | cons y r ih =>
        intro h
        have h1 := h y (by simp)
        have h2 := ih (fun t ht => h t (by simp [ht]))
        have e : Lib.lens (y :: r) = y.length + Lib.lens r := by simp [Lib.lens]
        rw [e, List.length_cons, Nat.succ_mul]; omega
    have h1 := hb (x :: r) h
    have h2 : m.length * r.length ≤ m.length * (x :: r).length := Nat.mul_le_mul_left _ (by simp)
    have e : (x :: r).length * (b + m.length) = (x :: r).length * b + m.length * (x :: r).length := by rw [Nat.mul_add, Nat.mul_comm m.length]
    rw [e]; omega
theorem app_done4 {α : Type} {enc : α → List Value} {K : Nat} {T : TypeId} {v : Value} {l : List α} {w wr wq W5 : World} {o : Obj} (hB : Hid (Below w.heap.size w wr ∧ w.heap.size ≤ wr.heap.size)) (hq : Below wr.heap.size wr wq) (hO : Hid (Rg.Own enc K wr w.heap.size T v l)) (hg : (wq.alloc o).grownBy W5 v.ownBlock) :
    Hid (Below w.heap.size w W5 ∧ w.heap.size ≤ W5.heap.size) := by
  have hs : w.heap.size ≤ wq.heap.size := Nat.le_trans hB.out.2 hq.size
  have h1 : Below w.heap.size w (wq.alloc o) := (hB.out.1.trans (hq.mono hB.out.2)).alloc hs _
  have e : (wq.alloc o).heap.size = wq.heap.size + 1 := by simp
  have h2 : w.heap.size ≤ (wq.alloc o).heap.size := by omega
  exact ⟨h1.trans (Rg.grown_below (Rg.own_below hO.out (hq.alloc hq.size _)) h2 hg), Nat.le_trans h2 hg.size⟩
/-- Conditions that are short. -/
def Short (l : List Cond) : Prop := ∀ c ∈ l, c.1.length ≤ 10 ∧ c.2.length ≤ 100
theorem short_cond {c : Cond} (h : c.1.length ≤ 10 ∧ c.2.length ≤ 100) : (condT c).length ≤ 111 := by
  unfold condT; rw [List.length_append, List.length_cons]; omega
theorem short_alt {l : List Cond} (h : Short l) : (altT l).length ≤ l.length * 114 := by
  have := join_step_le [32, 38, 32] (l.map condT) 111 (fun t ht => by
    obtain ⟨c, hc, rfl⟩ := List.mem_map.1 ht
    exact short_cond (h c hc))
  rw [List.length_map] at this
  exact this
theorem text_snoc {α : Type} (f : α → List UInt8) (l : List α) (k : Nat) (hk : k < l.length) (c : α) (hc : l[k] = c) : (l.take (k + 1)).map f = (l.take k).map f ++ [f c] := by
  rw [List.take_succ_eq_append_getElem hk, List.map_append, hc]; rfl
theorem cat_cond (sg ver : List UInt8) : (({ data := sg.toArray } : ByteArray) ++ { data := #[32] } ++ { data := ver.toArray }) = { data := (condT (sg, ver)).toArray } := by
  have := cat3 sg [32] ver
  rw [List.append_assoc] at this
  exact this
theorem newsC (w : World) (sg ver : List UInt8) (T : TypeId) (b : Nat) (hb : w.heap.size = b) : ∀ j u, (Rg.flat encT [condT (sg, ver)])[j]? = some u → (w.alloc (.cells #[.string (({ data := sg.toArray } : ByteArray) ++ { data := #[32] } ++ { data := ver.toArray })] T)).cell? ((⟨b, 0, none⟩ : Addr).add j) = some u := by
  subst hb; exact Rg.news_new w T _ _ (by rw [cat_cond]; rfl)
set_option maxRecDepth 100000 in
set_option maxHeartbeats 1600000 in
theorem altText_any (A : Option Addr) (n c : Nat) (l : List Cond) (w : World) (hn : l.length = n) (hr : DRow w A l) (hl : n ≤ 100) (hs : Short l) :
    Calls Tryz.prog 77 #[.slice A n c] w fun e w' => e = .returned (.string ⟨(altT l).toArray⟩) ∧ Below w.heap.size w w' := by
  have HR := Lib.hid hr
  have HN := Lib.hid hn
  have HSH := Lib.hid hs
  clear hr hn hs
  go_enter Tryz.func77, Tryz.ntmps77
  go_wp2_with fail
  go_loopw [3, 8] (fun v i wr => ∃ k : Nat, k ≤ n ∧ i = .int .i64 k ∧ Hid (Rg.Own encT 1 wr w.heap.size 9 v ((l.take k).map condT)) ∧ Hid (Below w.heap.size w wr ∧ w.heap.size ≤ wr.heap.size)) (fun _ i _ => n - (intOf i).toNat)
  case atStart => exact ⟨0, Nat.zero_le _, rfl, Rg.own_nil _ _ _, Below.refl _ _, Nat.le_refl _⟩
  case round =>
    obtain ⟨k, hk, rfl, HO, HB⟩ := hrel
    by_cases hlt : k < n
    · have hlr : k < l.length := by rw [HN.out]; exact hlt
      obtain ⟨ad, rfl, _, c0, c1⟩ := drow_at (Rg.row_below HR.out HB.out.1) k hlr
      obtain ⟨sg, ver, hc⟩ : ∃ s v, l[k] = (s, v) := ⟨_, _, rfl⟩
      have HS := Lib.hid (text_snoc condT l k hlr _ hc)
      have hsh := HSH.out _ (List.getElem_mem hlr)
      rw [hc] at c0 c1 hsh
      dsimp only at c0 c1
      obtain ⟨b1, b2⟩ := hsh
      dsimp only at b1 b2
      obtain ⟨tk, htk⟩ : ∃ x, (l.take k).map condT = x := ⟨_, rfl⟩
      have hsz : tk.length + 1 ≤ 1000000 := by rw [← htk, List.length_map, List.length_take]; omega
      rw [htk] at HS HO
      clear hc htk
      go_wp2_with (at_builtin; refine Rg.wpList_app sliceTx rfl (.tmp 12) (.tmp 19) rfl w.heap.size _ tk [condT (sg, ver)] rfl (Rg.own_below HO.out (((Below.refl _ _).alloc (Nat.le_refl _) _).alloc (by simp) _)) _ _ rfl (newsC (wr.alloc (.cells #[.string ⟨sg.toArray⟩, .string ⟨ver.toArray⟩] 142)) sg ver _ (wr.heap.size + 1) (by simp)) (Nat.zero_lt_succ _) hsz ?b2 ?_)
      case b2 => have := HB.out.2; simp; omega
      intro v5 W5 ho5 hg5 hz5
      have hq : Below wr.heap.size wr (wr.alloc (.cells #[.string ⟨sg.toArray⟩, .string ⟨ver.toArray⟩] 142)) := (Below.refl _ _).alloc (Nat.le_refl _) _
      have HB5 := app_done4 HB hq HO hg5
      have HO5 : Hid (Rg.Own encT 1 W5 w.heap.size 9 v5 ((l.take (k + 1)).map condT)) := by show Rg.Own _ _ _ _ _ _ _; rw [HS.out]; exact ho5
      clear ho5 hg5 hz5 hq c0 c1 HO HB
      go_wp2_with fail
      go_roundw
      case rel => exact ⟨k + 1, by omega, by go_num, HO5, HB5⟩
      case measure => simp [intOf]; omega
    · obtain rfl : k = n := by omega
      have HOO : Hid (Rg.Own encT 1 wr w.heap.size 9 u3 (l.map condT)) := by
        have := HO.out
        rwa [List.take_of_length_le (by rw [HN.out]; exact Nat.le_refl _)] at this
      have HLN : Hid ((l.map condT).length ≤ 100000) := by show _ ≤ _; rw [List.length_map, HN.out]; omega
      have HJL : Hid ((Lib.join (l.map condT) [32, 38, 32]).length ≤ 1000000) := by
        show _ ≤ _
        have := short_alt HSH.out
        rw [HN.out] at this
        exact Nat.le_trans this (by omega)
      clear HO
      go_wp2_with fail
      refine (join_any [32, 38, 32] HOO.out HLN.out HJL.out).mono ?_
      rintro _ u ⟨rfl, hb⟩
      have HBU : Hid (Below w.heap.size w u) := HB.out.1.trans (hb.mono HB.out.2)
      clear hb
      go_wp2_with fail
      go_ret
      exact ⟨rfl, HBU.out⟩
end Go.Proofs.YtkdildgdodnbbaaGreatDoor
namespace Go.Proofs.YtkdildgdodnbbaaGreatDoor
open Go.RowKit Rs At
attribute [local go_sem ↓] Go.wp_at_zero Go.wp_at_succ

/-- Ways that are short. -/
def ShortT (t : List (List Cond)) : Prop := ∀ l ∈ t, l.length ≤ 10 ∧ Short l
theorem short_term {t : List (List Cond)} (h : ShortT t) (hl : t.length ≤ 100) : (Lib.join (t.map altT) [32, 124, 32]).length ≤ 120000 := by
  have := join_step_le [32, 124, 32] (t.map altT) 1140 (fun x hx => by
    obtain ⟨l, hl, rfl⟩ := List.mem_map.1 hx
    exact Nat.le_trans (short_alt (h l hl).2) (by have := (h l hl).1; omega))
  rw [List.length_map] at this
  have e : [32, 124, 32].length = 3 := rfl
  have h2 : t.length * (1140 + 3) ≤ 100 * 1143 := Nat.mul_le_mul hl (Nat.le_refl _)
  exact Nat.le_trans this (Nat.le_trans h2 (by decide))
set_option maxRecDepth 100000 in
set_option maxHeartbeats 1600000 in
theorem termText_any (A : Option Addr) (n c : Nat) (t : List (List Cond)) (w : World) (hn : t.length = n) (hr : TRow w A t) (hl : n ≤ 100) (hs : ShortT t) :
    Calls Tryz.prog 50 #[.slice A n c] w fun e w' => e = .returned (.string ⟨(termT t).toArray⟩) ∧ Below w.heap.size w w' := by
  have HR := Lib.hid hr
  have HN := Lib.hid hn
  have HSH := Lib.hid hs
  obtain ⟨R, hR⟩ : ∃ R, termT t = R := ⟨_, rfl⟩
  rw [hR]
  by_cases h0 : n = 0
  · subst h0
    have HRE : Hid (R = noneT) := by show _ = _; rw [← hR]; unfold termT; rw [if_pos (List.length_eq_zero_iff.1 hn)]
    clear hr hn hs hR
    go_enter Tryz.func50, Tryz.ntmps50
    go_wp2_with fail
    go_ret
    exact ⟨by rw [HRE.out]; rfl, Below.refl _ _⟩
  · have hn0 : ((n : Int) == 0) = false := by simpa using h0
    have hpos : (0 : Int) < (n : Int) := by omega
    have HRE : Hid (Lib.join (t.map altT) [32, 124, 32] = R) := by
      show _ = _; rw [← hR]; unfold termT; rw [if_neg (fun e => h0 (by rw [← hn, e]; rfl))]
    clear hr hn hs hR h0
    go_enter Tryz.func50, Tryz.ntmps50
    go_wp2_with fail
    go_loopw [3, 11] (fun v i wr => ∃ k : Nat, k ≤ n ∧ i = .int .i64 k ∧ Hid (Rg.Own encT 1 wr w.heap.size 9 v ((t.take k).map altT)) ∧ Hid (Below w.heap.size w wr ∧ w.heap.size ≤ wr.heap.size)) (fun _ i _ => n - (intOf i).toNat)
    case atStart => exact ⟨0, Nat.zero_le _, rfl, Rg.own_nil _ _ _, Below.refl _ _, Nat.le_refl _⟩
    case round =>
      obtain ⟨k, hk, rfl, HO, HB⟩ := hrel
      by_cases hlt : k < n
      · have hlr : k < t.length := by rw [HN.out]; exact hlt
        obtain ⟨ad, C1, n1, d1, rfl, _, c0, hm1, hrow⟩ := trow_at (tRow_below HR.out HB.out.1) k hlr
        obtain ⟨l, hll⟩ : ∃ l, t[k] = l := ⟨_, rfl⟩
        have HS := Lib.hid (text_snoc altT t k hlr _ hll)
        have hsh := HSH.out _ (List.getElem_mem hlr)
        rw [hll] at hsh hm1 hrow
        have h1l : n1 ≤ 100 := by rw [← hm1]; exact Nat.le_trans hsh.1 (by decide)
        obtain ⟨tk, htk⟩ : ∃ x, (t.take k).map altT = x := ⟨_, rfl⟩
        have hsz : tk.length + 1 ≤ 1000000 := by rw [← htk, List.length_map, List.length_take]; omega
        rw [htk] at HS HO
        have HSZ := Lib.hid hsz
        have HSL := Lib.hid hsh.2
        have HM := Lib.hid hm1
        have HROW := Lib.hid hrow
        clear htk hll hsh hm1 hrow hsz
        go_wp2_with fail
        refine (altText_any C1 n1 d1 l _ HM.out HROW.out h1l HSL.out).mono ?_
        rintro _ u2 ⟨rfl, hb⟩
        have HBU := Lib.hid hb
        clear hb c0
        go_wp2_with (at_builtin; refine Rg.wpList_app sliceTx rfl (.tmp 15) (.tmp 18) rfl w.heap.size _ tk [altT l] rfl (Rg.own_below HO.out (HBU.out.alloc HBU.out.size _)) _ _ rfl (Rg.news_new u2 _ _ _ (by rfl)) (Nat.zero_lt_succ _) HSZ.out ?b2 ?_)
        case b2 => have := HB.out.2; have := HBU.out.size; simp; omega
        intro v5 W5 ho5 hg5 hz5
        have HB5 := app_done4 HB HBU.out HO hg5
        have HO5 : Hid (Rg.Own encT 1 W5 w.heap.size 9 v5 ((t.take (k + 1)).map altT)) := by show Rg.Own _ _ _ _ _ _ _; rw [HS.out]; exact ho5
        clear ho5 hg5 hz5 HO HB HBU
        go_wp2_with fail
        go_roundw
        case rel => exact ⟨k + 1, by omega, by go_num, HO5, HB5⟩
        case measure => simp [intOf]; omega
      · obtain rfl : k = n := by omega
        have HOO : Hid (Rg.Own encT 1 wr w.heap.size 9 u3 (t.map altT)) := by
          have := HO.out
          rwa [List.take_of_length_le (by rw [HN.out]; exact Nat.le_refl _)] at this
        have HLN : Hid ((t.map altT).length ≤ 100000) := by show _ ≤ _; rw [List.length_map, HN.out]; omega
        have HJL : Hid ((Lib.join (t.map altT) [32, 124, 32]).length ≤ 1000000) := Nat.le_trans (short_term HSH.out (by rw [HN.out]; exact hl)) (by decide)
        clear HO
        go_wp2_with fail
        refine (join_any [32, 124, 32] HOO.out HLN.out HJL.out).mono ?_
        rintro _ u ⟨rfl, hb⟩
        rw [HRE.out]
        have HBU : Hid (Below w.heap.size w u) := HB.out.1.trans (hb.mono HB.out.2)
        clear hb
        go_wp2_with fail
        go_ret
        exact ⟨rfl, HBU.out⟩
theorem own_len {v : List UInt8} (h : Rs.Own v) : v.length ≤ 40 := (Vm.ver_of h.1).1
theorem short_range {l : List Sp} (h : checkR l = 0) : ShortT (termOf l) := fun x hx => by
  obtain ⟨s, hs, rfl⟩ := List.mem_map.1 hx
  refine ⟨Nat.le_trans (conds_len s) (by decide), fun c hc => ?_⟩
  obtain ⟨i, hi, he, ho⟩ := conds_ok ((check_spans h).2.2 s hs) c hc
  have := own_len ho
  have hsg : (sgnT i).length ≤ 10 := by
    match i, hi with
    | 0, _ => decide
    | 1, _ => decide
    | 2, _ => decide
    | 3, _ => decide
    | 4, _ => decide
    | 5, _ => decide
  rw [he]; exact ⟨hsg, by omega⟩
theorem cat_run (a b : ByteArray) (h : a.size + b.size ≤ 1000000) : ∀ W : World, (Op.stringOp .add a b).run Tryz.prog W = .ok (.string (a ++ b)) W := fun W => run_string_add_sum W a b (by omega)
theorem cat_text (name T : List UInt8) : (({ data := name.toArray } : ByteArray) ++ { data := #[32, 40] } ++ { data := T.toArray } ++ { data := #[41] }) = { data := (name ++ 32 :: 40 :: (T ++ [41])).toArray } := by
  have h := cat3 name [32, 40] T
  rw [h, ByteArray.mk_append_mk]
  simp
set_option maxRecDepth 100000 in
set_option maxHeartbeats 3200000 in
theorem atomText_any (name : List UInt8) (A : Option Addr) (n c : Nat) (l : List Sp) (w : World) (hw : MaxOk w) (hm : name.length ≤ 100) (hn : l.length = n) (hr : SRow w A l) (hl : n ≤ 64) (hk : checkR l = 0) :
    Calls Tryz.prog 23 #[.agg #[.string ⟨name.toArray⟩, .slice A n c]] w fun e w' => e = .returned (.string ⟨(textA ⟨name, l⟩).toArray⟩) ∧ Below w.heap.size w w' := by
  obtain ⟨R, hR⟩ : ∃ R, textA ⟨name, l⟩ = R := ⟨_, rfl⟩
  rw [hR]
  obtain ⟨b, hb⟩ : ∃ b, w.heap.size = b := ⟨_, rfl⟩
  obtain ⟨W1, hW1⟩ : ∃ W, w.alloc (.cells #[.string ⟨name.toArray⟩, .slice A n c] 32) = W := ⟨_, rfl⟩
  have HX1 : Hid (Bx2 b name A n c W1) := by rw [← hW1, ← hb]; exact bx2_new w name A n c _
  have HW1 : Hid (Below w.heap.size w W1) := by rw [← hW1]; exact (Below.refl _ _).alloc (Nat.le_refl _) _
  have hb1 : b < W1.heap.size := by rw [← hW1, ← hb]; simp
  have HR1 : Hid (SRow W1 A l) := srow_below hr HW1.out
  have HN := Lib.hid hn
  obtain ⟨sm, hsm⟩ : ∃ x, decide (l = allR.map spOf) = x := ⟨_, rfl⟩
  have HSM := Lib.hid hsm
  have HT1 : Hid (sm = true → R = name) := fun h => by rw [← hR]; unfold textA; rw [if_pos (by rw [h] at hsm; exact of_decide_eq_true hsm)]
  have HT0 : Hid (sm = false → R = name ++ 32 :: 40 :: (termT (termOf l) ++ [41])) := fun h => by rw [← hR]; unfold textA; rw [if_neg (by rw [h] at hsm; exact of_decide_eq_false hsm)]
  have HSR := Lib.hid (short_range hk)
  have htl : (termT (termOf l)).length ≤ 120000 := by
    unfold termT
    split
    · decide
    · exact short_term HSR.out (by show (l.map conds).length ≤ 100; rw [List.length_map]; omega)
  obtain ⟨k0, k1⟩ := HX1.out
  have HMX : Hid (MaxOk W1) := maxOk_below hw HW1.out
  clear hr hn hR hk hsm hw
  go_enter Tryz.func23, Tryz.ntmps23
  go_wp2_with fail
  clear hb hW1
  have HS1 : Hid (St W1 W1.drew [⟨A, n, l⟩]) := ⟨HMX.out, (Below.refl _ _).drew, fun x hx => by rw [List.mem_singleton.1 hx]; exact ⟨srow_below HR1.out (Below.refl _ _).drew, HN.out⟩⟩
  go_region_held3 (fun w' => w'.cell? ⟨b, 0, none⟩ = some (.string ⟨name.toArray⟩) ∧ w'.cell? ⟨b, 1, none⟩ = some (.slice A n c))
    (first
      | exact bx2_below HX1.out hb1 HS1.out.2.1
      | exact bx2_below HX1.out hb1 HS2.out.2.1
      | exact bx2_below HX1.out hb1 HS3.out.2.1)
    (first
      | (go_at_call 22; refine (s_all HS1.out allR rfl).mono ?_; rintro _ u2 ⟨C, m2, d, rfl, hs⟩; have HS2 := Lib.hid hs; have hm2 : m2 = 1 := (st_row hs 0 rfl).2.symm; have HM2 := Lib.hid hm2; clear hs hm2)
      | (go_at_call 47; refine (s_same HS2.out 1 0 rfl rfl (by omega) (by rw [HM2.out]; decide) _ _ sm HSM.out).mono ?_; rintro _ u3 ⟨rfl, hs⟩; have HS3 := Lib.hid hs; clear hs))
  have HS4 : Hid (St W1 u3 [⟨A, n, l⟩]) := st_front HS3.out
  have HX4 := Lib.hid (bx2_below HX1.out hb1 HS4.out.2.1)
  clear k0 k1
  obtain ⟨k0, k1⟩ := HX4.out
  cases sm
  · have HT := Lib.hid (HT0.out rfl)
    obtain ⟨T, hT⟩ : ∃ T, termT (termOf l) = T := ⟨_, rfl⟩
    rw [hT] at htl HT
    have HTT := Lib.hid hT
    have q1 := cat_run { data := name.toArray } { data := #[32, 40] } (by show name.toArray.size + 2 ≤ _; rw [List.size_toArray]; omega)
    have q2 := cat_run ({ data := name.toArray } ++ { data := #[32, 40] }) { data := T.toArray } (by rw [ByteArray.size_append]; show name.toArray.size + 2 + T.toArray.size ≤ _; rw [List.size_toArray, List.size_toArray]; omega)
    have q3 := cat_run ({ data := name.toArray } ++ { data := #[32, 40] } ++ { data := T.toArray }) { data := #[41] } (by rw [ByteArray.size_append, ByteArray.size_append]; show name.toArray.size + 2 + T.toArray.size + 1 ≤ _; rw [List.size_toArray, List.size_toArray]; omega)
    clear HT0 HT1 HS2 HS3 HM2 hT
    go_wp2_with fail
    have HS5 : Hid (St W1 u3.drew [⟨A, n, l⟩]) := st_step HS4.out (Below.refl _ _).drew
    go_region_held3 (fun w' => w'.cell? ⟨b, 0, none⟩ = some (.string ⟨name.toArray⟩) ∧ w'.cell? ⟨b, 1, none⟩ = some (.slice A n c))
      (first
        | exact bx2_below HX1.out hb1 HS5.out.2.1
        | exact bx2_below HX1.out hb1 HS6.out.2.1
        | exact bx2_below HX1.out hb1 HS7.out.2.1)
      (first
        | (go_at_call 49; refine (termOf_any A n c l _ HN.out (st_row HS5.out 0 rfl).1 (by omega)).mono ?_; rintro _ u6 ⟨C6, n6, d6, rfl, hn6, hr6, hb6⟩; have HS6 := Lib.hid (st_step HS5.out hb6); have HN6 := Lib.hid hn6; have HR6 := Lib.hid hr6; clear hn6 hr6 hb6)
        | (go_at_call 50; refine (termText_any C6 n6 d6 (termOf l) _ HN6.out HR6.out (by rw [← HN6.out]; show (l.map conds).length ≤ 100; rw [List.length_map, HN.out]; omega) HSR.out).mono ?_; rintro _ u7 ⟨rfl, hb7⟩; rw [HTT.out]; have HS7 := Lib.hid (st_step HS6.out hb7); clear hb7))
    go_wp2_with fail
    go_ret
    rw [HT.out]
    exact ⟨congrArg (fun x => Ending.returned (Value.string x)) (cat_text name T), HW1.out.trans (HS7.out.2.1.mono HW1.out.size)⟩
  · have HT := Lib.hid (HT1.out rfl)
    clear HT0 HT1 HS2 HS3 HM2
    go_wp2_with fail
    refine (clone_any name _ (by omega)).mono ?_
    rintro _ u5 ⟨rfl, hb5⟩
    have HB5 : Hid (Below w.heap.size w u5) := HW1.out.trans ((HS4.out.2.1.trans (hb5.mono HS4.out.2.1.size)).mono HW1.out.size)
    clear hb5
    go_wp2_with fail
    go_ret
    rw [HT.out]
    exact ⟨rfl, HB5.out⟩
end Go.Proofs.YtkdildgdodnbbaaGreatDoor
namespace Go.Proofs.YtkdildgdodnbbaaGreatDoor
open Go.RowKit Rs At

/-- A rune that is no ASCII one lies in no string of ASCII bytes. -/
theorem indexByte_high {l : List UInt8} {c : UInt8} (h : ∀ b ∈ l, b.toNat < 128) (hc : 128 ≤ c.toNat) : Lib.indexByte l c = -1 := by
  induction l with
  | nil => rfl
  | cons b l ih =>
    have hb : (b == c) = false := by
      refine beq_eq_false_iff_ne.2 fun e => ?_
      have := h b (by simp)
      rw [e] at this; omega
    rw [Lib.indexByte, hb, ih (fun x hx => h x (by simp [hx]))]
    simp
def sp3 : List UInt8 := [32, 40, 41]
theorem sp3_low : ∀ b ∈ sp3, b.toNat < 128 := by decide
theorem sp3_at : ∀ i : Nat, ∀ h : i < (⟨sp3.toArray⟩ : ByteArray).size, ((⟨sp3.toArray⟩ : ByteArray)[i]'h).toNat < 128 ∧ ((⟨sp3.toArray⟩ : ByteArray)[i]'h).toNat ≠ 65533 := by
  intro i h
  have : ((⟨sp3.toArray⟩ : ByteArray)[i]'h) ∈ sp3 := by
    have : ((⟨sp3.toArray⟩ : ByteArray)[i]'h) = sp3[i]'h := rfl
    rw [this]; exact List.getElem_mem _
  have := sp3_low _ this
  omega
theorem sp3_size : (⟨sp3.toArray⟩ : ByteArray).size = 3 := rfl
theorem low_ext : ∀ b ∈ ((⟨#[32, 40, 41]⟩ : ByteArray).extract 2 3).data.toList, b.toNat < 128 := fun b hb => sp3_low b (mem_extract (s := ⟨#[32, 40, 41]⟩) hb)
theorem low_emp : ∀ b ∈ ByteArray.empty.data.toList, b.toNat < 128 := fun b hb => by simp at hb
set_option maxRecDepth 100000 in
set_option maxHeartbeats 1600000 in
theorem indexRune_err (w : World) :
    Calls Tryz.prog 179 #[.string ⟨#[32, 40, 41]⟩, .int .i32 65533] w fun e w' => e = .returned (.int .i64 (-1)) ∧ Below w.heap.size w w' := by
  go_enter Tryz.func179, Tryz.ntmps179
  go_wp2_with fail
  go_loopg [5, 6] 3 (fun g _ _ wx => ∃ i : Nat, i + g = 3 ∧ wx = w.iter ⟨#[32, 40, 41]⟩ i)
  case atStart => exact ⟨0, by omega, rfl⟩
  case round =>
    obtain ⟨i, hig, rfl⟩ := hrel
    cases gk with
    | zero =>
      obtain rfl : i = 3 := by omega
      have hnx := fun ty => run_next_end (P := Tryz.prog) w ⟨#[32, 40, 41]⟩ 3 ty (by decide)
      go_wp2_with fail
      go_ret
      exact ⟨rfl, (Below.refl _ _).alloc (Nat.le_refl _) _⟩
    | succ g =>
      have hi : i < (⟨sp3.toArray⟩ : ByteArray).size := by rw [sp3_size]; omega
      obtain ⟨x, hx⟩ : ∃ x : UInt8, (⟨sp3.toArray⟩ : ByteArray)[i]'hi = x := ⟨_, rfl⟩
      obtain ⟨h1, h2⟩ := sp3_at i hi
      have hnx := fun ty => run_next_ascii (P := Tryz.prog) w ⟨sp3.toArray⟩ i ty hi h1
      rw [hx] at hnx h1 h2
      rw [show (⟨sp3.toArray⟩ : ByteArray) = ⟨#[32, 40, 41]⟩ from rfl] at hnx
      have hne : ((x.toNat : Int) == 65533) = false := beq_eq_false_iff_ne.2 (by omega)
      clear hx
      go_wp2_with fail
      go_roundg g
      case measure => omega
      case rel => exact ⟨i + 1, by omega, rfl⟩
set_option maxRecDepth 100000 in
set_option maxHeartbeats 1600000 in
theorem indexRune_high (r : Int) (w : World) (h0 : 128 ≤ r) (hr : r ≠ 65533) :
    Calls Tryz.prog 179 #[.string ⟨#[32, 40, 41]⟩, .int .i32 r] w fun e w' => e = .returned (.int .i64 (-1)) ∧ Below w.heap.size w w' := by
  have hr1 : (r == 65533) = false := beq_eq_false_iff_ne.2 hr
  have hr2 : ¬ r < 128 := by omega
  have hr3 : (0 : Int) ≤ r := by omega
  cases hv : Lib.validRune r
  · go_enter Tryz.func179, Tryz.ntmps179
    go_wp2_with fail
    refine (Tryz.utf8_ValidRune r _).mono ?_
    rintro e w' ⟨rfl, hw⟩; rw [hw, hv]
    go_wp2_with fail
    go_ret
    exact ⟨rfl, Below.refl _ _⟩
  · obtain ⟨f1, f2, f3⟩ := encode_facts r (by rw [validRune_eq]; exact hv) h0
    obtain ⟨rs, hrs⟩ : ∃ s, Utf8.encode r = s := ⟨_, rfl⟩
    rw [hrs] at f1 f2 f3
    obtain ⟨n, hn⟩ : ∃ n : Nat, rs.size = n := ⟨_, rfl⟩
    have hlt : rs.size - 1 < rs.size := by omega
    obtain ⟨c, hc⟩ : ∃ c : UInt8, rs[rs.size - 1]'hlt = c := ⟨_, rfl⟩
    have hc128 := f3 hlt
    rw [hc] at hc128
    obtain ⟨L, hL⟩ : ∃ L, rs.data.toList = L := ⟨_, rfl⟩
    obtain rfl : rs = ⟨L.toArray⟩ := by rw [← hL]
    have hsz : L.length = n := by rw [← hn]; rfl
    obtain ⟨k, rfl⟩ : ∃ k : Nat, n = k + 1 := ⟨n - 1, by omega⟩
    have hk4 : k ≤ 3 := by omega
    have hk1 : 1 ≤ k := by omega
    have hkL : k < L.length := by omega
    obtain ⟨d, hd, hd'⟩ := byte_at L k hkL
    obtain rfl : d = c := by
      rw [← hd', ← hc]
      show L[k] = L[L.toArray.size - 1]
      congr 1
      simp; omega
    have hcv : ∀ w, (convert 21 9 (.int .i32 r)).run Tryz.prog w = .ok (.string ⟨L.toArray⟩) w := fun w => by rw [run_convert_int_string w _ _ _ _ (by rw [Tryz.underlying21]; rfl) Tryz.underlying9, hrs]
    have hl1 : ((L.length : Int)) - 1 = (k : Int) := by omega
    have hwr : IntKind.i64.wrap (k : Int) = k := wrap_small _ (by omega) (by omega)
    have hwr1 : IntKind.i64.wrap ((k : Int) + 1) = ((k + 1 : Nat) : Int) := by rw [show (k : Int) + 1 = ((k + 1 : Nat) : Int) by omega]; exact wrap_small _ (by omega) (by omega)
    have HL := Lib.hid hsz
    clear hc hlt f3 f1 f2 hn hL hrs hsz hd'
    go_enter Tryz.func179, Tryz.ntmps179
    go_wp2_with fail
    refine (Tryz.utf8_ValidRune r _).mono ?_
    rintro e w' ⟨rfl, hw⟩; rw [hw, hv]
    go_wp2_with fail
    go_step3
    go_wp2_with fail
    go_loopw [9] (fun i wx => i = .int .i64 k ∧ wx = w) (fun _ _ => 0)
    case atStart => exact ⟨rfl, rfl⟩
    case round =>
      obtain ⟨rfl, rfl⟩ := hrel
      by_cases hk3 : k < 3
      · have HIB : Hid (∀ t : ByteArray, (∀ b ∈ t.data.toList, b.toNat < 128) → Lib.indexByte t.data.toList (d.toNat : Int).toNat.toUInt8 = -1) := fun t ht => indexByte_high ht (by simpa using hc128)
        have HD : Hid (∃ h : k < (⟨L.toArray⟩ : ByteArray).size, (⟨L.toArray⟩ : ByteArray)[k]'h = d) := ⟨hkL, hd⟩
        obtain rfl | rfl : k = 1 ∨ k = 2 := by omega
        · obtain ⟨y, hy⟩ : ∃ y : UInt8, (⟨#[32, 40, 41]⟩ : ByteArray)[1]'(by decide) = y := ⟨_, rfl⟩
          have hyn : y.toNat = 40 := by rw [← hy]; rfl
          have hne : ((y.toNat : Int) != (d.toNat : Int)) = true := bne_iff_ne.2 (by omega)
          clear hyn
          have hw2 : IntKind.i64.wrap 2 = 2 := by decide
          go_wp2_with fail
          go_step3
          go_wp2_with fail
          go_quiet (fail)
          go_wp2_with fail
          obtain ⟨hkS, hdd⟩ := HD.out
          have hkM : 1 < L.length := hkS
          have hkI : (1 : Int) < (L.length : Int) := by omega
          go_quiet (first |  (refine (Tryz.strings_IndexByte _ _ _).mono ?_; rintro e5 w5 ⟨rfl, h5⟩; rw [HIB.out _ low_ext]; exact ⟨rfl, _, h5⟩) | fail)
          go_wp2_with fail
          rw [Exit.noGoto_ret]
          show Exit.noGoto (Exit.inBlock 0 _) Exit.ret _ _
          simp only [Exit.inBlock, Exit.then, Exit.noGoto_ret]
          go_ret
          exact ⟨rfl, below_drewN (Below.refl _ _) _⟩
        · obtain ⟨y, hy⟩ : ∃ y : UInt8, (⟨#[32, 40, 41]⟩ : ByteArray)[2]'(by decide) = y := ⟨_, rfl⟩
          have hyn : y.toNat = 41 := by rw [← hy]; rfl
          have hne : ((y.toNat : Int) != (d.toNat : Int)) = true := bne_iff_ne.2 (by omega)
          clear hyn
          have hw2 : IntKind.i64.wrap 3 = 3 := by decide
          go_wp2_with fail
          go_step3
          go_wp2_with fail
          go_quiet (fail)
          go_wp2_with fail
          obtain ⟨hkS, hdd⟩ := HD.out
          have hkM : 2 < L.length := hkS
          have hkI : (2 : Int) < (L.length : Int) := by omega
          go_quiet (first |  (refine (Tryz.strings_IndexByte _ _ _).mono ?_; rintro e5 w5 ⟨rfl, h5⟩; rw [HIB.out _ low_emp]; exact ⟨rfl, _, h5⟩) | fail)
          go_wp2_with fail
          rw [Exit.noGoto_ret]
          show Exit.noGoto (Exit.inBlock 0 _) Exit.ret _ _
          simp only [Exit.inBlock, Exit.then, Exit.noGoto_ret]
          go_ret
          exact ⟨rfl, below_drewN (Below.refl _ _) _⟩
      · obtain rfl : k = 3 := by omega
        go_wp2_with fail
        rw [Exit.noGoto_ret]
        go_ret
        exact ⟨rfl, Below.refl _ _⟩
theorem indexRune_any (r : Int) (w : World) (h0 : 128 ≤ r) :
    Calls Tryz.prog 179 #[.string ⟨#[32, 40, 41]⟩, .int .i32 r] w fun e w' => e = .returned (.int .i64 (-1)) ∧ Below w.heap.size w w' := by
  by_cases h : r = 65533
  · subst h; exact indexRune_err w
  · exact indexRune_high r w h0 h
/-- The bytes that a rune of several bytes takes with it are no ASCII ones. -/
theorem decode_cont (s : ByteArray) (pos j : Nat) (h1 : pos < j) (h2 : j < pos + (Utf8.decode s pos).2) : 128 ≤ (s.get! j).toNat := by
  have key : ∀ k, j = pos + k → (s.get! (pos + k)).toNat / 64 = 2 → 128 ≤ (s.get! j).toNat := fun k e h => by rw [e]; omega
  simp only [Utf8.decode] at h2
  split at h2
  · simp at h2; omega
  split at h2
  · rename_i h
    simp at h
    split at h2
    · simp at h2; exact key 1 (by omega) h.2.2
    · simp at h2; omega
  split at h2
  · rename_i h
    simp at h
    split at h2
    · simp at h2
      rcases (show j = pos + 1 ∨ j = pos + 2 by omega) with e | e
      · exact key 1 e h.1.2.2
      · exact key 2 e h.2.2
    · simp at h2; omega
  split at h2
  · rename_i h
    simp at h
    split at h2
    · simp at h2
      rcases (show j = pos + 1 ∨ j = pos + 2 ∨ j = pos + 3 by omega) with e | e | e
      · exact key 1 e h.1.1.2.2
      · exact key 2 e h.1.2.2
      · exact key 3 e h.2.2
    · simp at h2; omega
  · simp at h2; omega
theorem sp3_index (x : UInt8) : Lib.indexByte (⟨#[32, 40, 41]⟩ : ByteArray).data.toList x = Lib.indexByte sp3 x := rfl
/-- The model's iterator over s stands at i; nothing else that was there before has turned. -/
def It (w : World) (s : ByteArray) (i : Nat) (wx : World) : Prop := wx.heap[w.heap.size]? = some (.stringIter s i) ∧ Below w.heap.size w wx
theorem it_start (w : World) (s : ByteArray) : It w s 0 (w.iter s 0) := ⟨World.iter_heap w s 0, (Below.refl _ _).alloc (Nat.le_refl _) _⟩
theorem it_below {w wx wy : World} {s : ByteArray} {i : Nat} (h : It w s i wx) (hb : Below wx.heap.size wx wy) : It w s i wy := by
  have hlt : w.heap.size < wx.heap.size := by
    obtain ⟨hh, _⟩ := Array.getElem?_eq_some_iff.1 h.1
    exact hh
  exact ⟨by rw [hb.block _ hlt]; exact h.1, h.2.trans (hb.mono h.2.size)⟩
theorem it_next {w wx : World} {s : ByteArray} {pos : Nat} (h : It w s pos wx) (hp : pos < s.size) : ∃ W, It w s (pos + (Utf8.decode s pos).2) W ∧
    ∀ ty : TypeId, (Instr.next (.pointer (some ⟨w.heap.size, 0, none⟩)) true ty).run Tryz.prog wx = .ok (.tuple #[.bool true, .int .i64 pos, .int .i32 (Utf8.decode s pos).1]) W := by
  have hlt : w.heap.size < wx.heap.size := by
    obtain ⟨hh, _⟩ := Array.getElem?_eq_some_iff.1 h.1
    exact hh
  refine ⟨{ wx with heap := wx.heap.setIfInBounds w.heap.size (.stringIter s (pos + (Utf8.decode s pos).2)) }, ⟨?_, h.2.trans ⟨rfl, rfl, rfl, ?_, ?_⟩⟩, fun ty => ?_⟩
  · show (wx.heap.setIfInBounds _ _)[_]? = _
    rw [Array.getElem?_setIfInBounds_self_of_lt hlt]
  · show _ ≤ (wx.heap.setIfInBounds _ _).size
    simp
  · intro i hi
    show (wx.heap.setIfInBounds _ _)[i]? = _
    rw [Array.getElem?_setIfInBounds_ne (by omega)]
  · simp only [Instr.next, getObj, setObj, Sem.run_bind, Sem.run, h.1, Result.andThen, hp, if_true]
    rfl
theorem it_end {w wx : World} {s : ByteArray} {pos : Nat} (h : It w s pos wx) (hp : ¬ pos < s.size) (ty : TypeId) :
    (Instr.next (.pointer (some ⟨w.heap.size, 0, none⟩)) true ty).run Tryz.prog wx = .ok (.tuple #[.bool false]) wx := by
  simp [Instr.next, getObj, Sem.run, h.1, hp]
theorem noAny_skip {s : List UInt8} {i k : Nat} (h : Lib.NoAny s sp3 i) (hx : ∀ j b, i ≤ j → j < i + k → s[j]? = some b → 128 ≤ b.toNat) : Lib.NoAny s sp3 (i + k) := by
  intro j b hj hb
  by_cases h1 : j < i
  · exact h j b h1 hb
  · have h2 := hx j b (by omega) hj hb
    cases hc : sp3.contains b with
    | false => rfl
    | true =>
      have := sp3_low b (by simpa using hc)
      omega
set_option maxRecDepth 100000 in
set_option maxHeartbeats 1600000 in
theorem indexAny_short3 (s : List UInt8) (w : World) (h8 : s.length ≤ 8) :
    Calls Tryz.prog 163 #[.string ⟨s.toArray⟩, .string ⟨#[32, 40, 41]⟩] w fun e w' => e = .returned (.int .i64 (Lib.indexAny s sp3)) ∧ Below w.heap.size w w' := by
  obtain ⟨S, hS⟩ : ∃ S, (⟨s.toArray⟩ : ByteArray) = S := ⟨_, rfl⟩
  have hz : S.size = s.length := by rw [← hS]; rfl
  have HD : Hid (∀ i (h : i < S.size), s[i]? = some (S[i]'h)) := by
    subst hS
    intro i h
    exact List.getElem?_eq_getElem (l := s) h
  have HZ := Lib.hid hz
  obtain ⟨K, hK⟩ : ∃ K, Lib.indexAny s sp3 = K := ⟨_, rfl⟩
  rw [hS, hK]
  have HK := Lib.hid hK
  have h8z : decide ((8 : Int) < (S.size : Int)) = false := decide_eq_false (by omega)
  clear hS hK hz
  go_enter Tryz.func163, Tryz.ntmps163
  go_wp2_with fail
  refine (Tryz.strings_shouldUseASCIISet _ _).mono ?_
  rintro e w' ⟨rfl, hw⟩; rw [hw, h8z]
  go_wp2_with fail
  go_loopg [9, 10] S.size (fun g _ _ wx => ∃ i : Nat, g = S.size - i ∧ Hid (It w S i wx) ∧ Hid (Lib.NoAny s sp3 i))
  case atStart => exact ⟨0, rfl, it_start w S, Lib.NoAny.zero _ _⟩
  case round =>
    obtain ⟨i, hg, HI, HN⟩ := hrel
    subst hg
    by_cases hi : i < S.size
    · obtain ⟨W, hW, hnx⟩ := it_next HI.out hi
      obtain ⟨x, hx⟩ : ∃ x : UInt8, S[i]'hi = x := ⟨_, rfl⟩
      have hxl : s[i]? = some x := by rw [HD.out i hi, hx]
      by_cases ha : x.toNat < 128
      · rw [decode_ascii S i hi (by rw [hx]; exact ha), hx] at hW hnx
        dsimp only at hW hnx
        have HW := Lib.hid hW
        have HX := Lib.hid hxl
        have HIS : Hid (i < S.size) := hi
        have hcon := Lib.contains_iff_indexByte sp3 x
        have hback : ((x.toNat : Int)).toNat.toUInt8 = x := by simp
        clear hx hxl hW hi
        cases hin : sp3.contains x
        · rw [hin] at hcon
          have hlt : ¬ ((0 : Int) ≤ Lib.indexByte sp3 x) := of_decide_eq_false hcon.symm
          have HNN := Lib.hid (HN.out.succ HX.out hin)
          clear hcon hin
          go_wp2_with fail
          refine (Tryz.strings_IndexRune_ascii _ _ _ (by omega) (by omega)).mono ?_
          rintro e w' ⟨rfl, hw⟩; rw [hw, hback, sp3_index]
          go_wp2_with fail
          go_roundg (S.size - (i + 1))
          case measure => have := HIS.out; omega
          case rel => exact ⟨i + 1, rfl, HW.out, HNN.out⟩
        · rw [hin] at hcon
          have hge : (0 : Int) ≤ Lib.indexByte sp3 x := of_decide_eq_true hcon.symm
          have HK2 : Hid ((i : Int) = K) := by show _ = _; rw [← HK.out, Lib.indexAny_hit HN.out HX.out hin]
          clear hcon hin
          go_wp2_with fail
          refine (Tryz.strings_IndexRune_ascii _ _ _ (by omega) (by omega)).mono ?_
          rintro e w' ⟨rfl, hw⟩; rw [hw, hback, sp3_index]
          go_wp2_with fail
          go_ret
          exact ⟨by first | rfl | (rw [← HK2.out]; rfl), HW.out.2⟩
      · obtain ⟨hc, hk⟩ := decode_high S i hi (by rw [hx]; omega)
        have hsk : Lib.NoAny s sp3 (i + (Utf8.decode S i).2) := noAny_skip HN.out (fun j b h1 h2 hb => by
          have hj : j < S.size := by rw [HZ.out]; exact (List.getElem?_eq_some_iff.1 hb).1
          have e := HD.out j hj
          rw [hb] at e
          cases e
          by_cases hji : j = i
          · subst hji; rw [hx]; omega
          · have := decode_cont S i j (by omega) h2
            rw [show S.get! j = S[j] by simp [ByteArray.get!, getElem!_pos, hj]; rfl] at this
            exact this)
        obtain ⟨⟨c, k⟩, hd⟩ : ∃ p, Utf8.decode S i = p := ⟨_, rfl⟩
        rw [hd] at hW hnx hc hk hsk
        dsimp only at hW hnx hc hk hsk
        have HW := Lib.hid hW
        have HNN := Lib.hid hsk
        have HIS : Hid (i < S.size ∧ 1 ≤ k ∧ 128 ≤ c) := ⟨hi, hk, hc⟩
        clear hx hxl hW hi hd hsk hc hk ha
        go_wp2_with fail
        refine (indexRune_any _ _ (by have := HIS.out.2.2; omega)).mono ?_
        rintro e w' ⟨rfl, hb⟩
        have HB := Lib.hid (it_below HW.out hb)
        clear hb
        go_wp2_with fail
        go_roundg (S.size - (i + k))
        case measure => have := HIS.out; omega
        case rel => exact ⟨i + k, rfl, HB.out, HNN.out⟩
    · have hnx := it_end HI.out hi
      have HIS : Hid (¬ i < S.size) := hi
      clear hi
      go_wp2_with fail
      go_ret
      exact ⟨by rw [← HK.out, Lib.indexAny_none (fun j b hj hb => HN.out j b (by have := HIS.out; have := HZ.out; omega) hb)]; rfl, HI.out.2⟩
theorem sp3_ascii : ∀ (j : Nat) b, (⟨#[32, 40, 41]⟩ : ByteArray).data.toList[j]? = some b → b.toNat < 128 := fun _j b h => sp3_low b (List.mem_of_getElem? (l := sp3) h)
theorem indexAny_any3 (s : List UInt8) (w : World) (hs : s.length ≤ 1000000) :
    Calls Tryz.prog 163 #[.string ⟨s.toArray⟩, .string ⟨#[32, 40, 41]⟩] w fun e w' => e = .returned (.int .i64 (Lib.indexAny s sp3)) ∧ Below w.heap.size w w' := by
  by_cases h8 : s.length ≤ 8
  · exact indexAny_short3 s w h8
  · refine (Tryz.strings_IndexAny_long (fun _ => by kernel_rfl) ⟨s.toArray⟩ ⟨#[32, 40, 41]⟩ w (by decide) (by show 8 < s.length; omega) (by show s.length < _; omega) (by decide) sp3_ascii).mono ?_
    rintro e w' ⟨rfl, rfl⟩
    exact ⟨rfl, ((Below.refl _ _).alloc (Nat.le_refl _) _).alloc (by simp) _⟩
set_option maxRecDepth 100000 in
set_option maxHeartbeats 1600000 in
theorem containsAny_any3 (s : List UInt8) (w : World) (hs : s.length ≤ 1000000) :
    Calls Tryz.prog 145 #[.string ⟨s.toArray⟩, .string ⟨#[32, 40, 41]⟩] w fun e w' => e = .returned (.bool (s.any sp3.contains)) ∧ Below w.heap.size w w' := by
  have hany : decide ((0 : Int) ≤ Lib.indexAny s sp3) = s.any sp3.contains := by
    induction s with
    | nil => rfl
    | cons b l ih =>
      have hl := ih (by simp at hs; omega)
      have hg := Lib.indexAny_ge sp3 l
      rw [List.any_cons, ← hl, Lib.indexAny]
      cases hc : sp3.contains b
      · simp only [Bool.false_eq_true, if_false, Bool.false_or, decide_eq_decide]
        split <;> simp_all <;> omega
      · simp
  obtain ⟨K, hK⟩ : ∃ K, s.any sp3.contains = K := ⟨_, rfl⟩
  rw [hK] at hany ⊢
  have HA := Lib.hid hany
  clear hany hK
  go_enter Tryz.func145, Tryz.ntmps145
  go_wp2_with fail
  refine (indexAny_any3 s _ hs).mono ?_
  rintro e w' ⟨rfl, hb⟩
  have HB := Lib.hid hb
  clear hb
  go_wp2_with fail
  go_ret
  exact ⟨by rw [← HA.out]; rfl, HB.out⟩
end Go.Proofs.YtkdildgdodnbbaaGreatDoor
namespace Go.Proofs.YtkdildgdodnbbaaGreatDoor
open Go.RowKit Rs At

theorem wordB_eq (s : List UInt8) : wordB s = (!s.isEmpty && !(s.any sp3.contains)) := by
  unfold wordB
  congr 1
  induction s with
  | nil => rfl
  | cons b l ih =>
    rw [List.all_cons, List.any_cons, ih, Bool.not_or]
    congr 1
    unfold wordC sp3
    simp only [List.contains_cons, List.contains_nil, Bool.or_false]
set_option maxRecDepth 100000 in
set_option maxHeartbeats 1600000 in
theorem requireWord_any (s : List UInt8) (w : World) (hs : s.length ≤ 1000000) :
    Calls Tryz.prog 126 #[.string ⟨s.toArray⟩] w fun e w' => e = (if wordB s then .returned (.tuple #[]) else pan 2) ∧ Below w.heap.size w w' := by
  rw [wordB_eq]
  cases he : s.isEmpty
  · cases ha : s.any sp3.contains
    · go_enter Tryz.func126, Tryz.ntmps126
      go_wp2_with fail
      refine (containsAny_any3 s _ hs).mono ?_
      rintro _ u ⟨rfl, hb⟩
      rw [ha]
      go_wp2_with fail
      refine (require_yes _).mono ?_
      rintro _ u2 ⟨rfl, rfl⟩
      go_wp2_with fail
      go_end0
      exact ⟨rfl, hb⟩
    · go_enter Tryz.func126, Tryz.ntmps126
      go_wp2_with fail
      refine (containsAny_any3 s _ hs).mono ?_
      rintro _ u ⟨rfl, hb⟩
      rw [ha]
      go_wp2_with fail
      refine (require_no _).mono ?_
      rintro _ u2 ⟨rfl, rfl⟩
      go_wp2_with fail
      exact ⟨rfl, rfl, hb⟩
  · go_enter Tryz.func126, Tryz.ntmps126
    go_wp2_with fail
    refine (require_no _).mono ?_
    rintro _ u2 ⟨rfl, rfl⟩
    go_wp2_with fail
    exact ⟨rfl, rfl, Below.refl _ _⟩
theorem ofE_zero (s : List UInt8) : ofE s [48] = if signB s then 0 else 2 := by
  unfold ofE signB
  cases sgnOf s with
  | none => rfl
  | some i => show Vm.check [48] = 0; decide
set_option maxRecDepth 100000 in
set_option maxHeartbeats 1600000 in
theorem requireSign_any (s : List UInt8) (w : World) (hw : MaxOk w) :
    Calls Tryz.prog 183 #[.string ⟨s.toArray⟩] w fun e w' => e = (if signB s then .returned (.tuple #[]) else pan 2) ∧ Below w.heap.size w w' := by
  have hk := ofE_zero s
  cases hb : signB s
  · rw [hb] at hk
    have HK : Hid (ofE s [48] = 2) := hk
    clear hk
    go_enter Tryz.func183, Tryz.ntmps183
    go_wp2_with fail
    refine (of_all s [48] _ hw).mono ?_
    rintro _ u ⟨⟨C, d, rfl, _, _⟩, hbl⟩
    rw [HK.out]
    go_wp2_with fail
    refine (require_no _).mono ?_
    rintro _ u2 ⟨rfl, rfl⟩
    go_wp2_with fail
    exact ⟨rfl, rfl, hbl⟩
  · rw [hb] at hk
    have HK : Hid (ofE s [48] = 0) := hk
    clear hk
    go_enter Tryz.func183, Tryz.ntmps183
    go_wp2_with fail
    refine (of_all s [48] _ hw).mono ?_
    rintro _ u ⟨⟨C, d, rfl, _, _⟩, hbl⟩
    rw [HK.out]
    go_wp2_with fail
    refine (require_yes _).mono ?_
    rintro _ u2 ⟨rfl, rfl⟩
    go_wp2_with fail
    go_end0
    exact ⟨rfl, hbl⟩
theorem cut_all (c : UInt8) (s : List UInt8) (w : World) (hm : MaxOk w) (hl : s.length ≤ 1000000) :
    Calls Tryz.prog 85 #[.string ⟨s.toArray⟩, .string ⟨#[c]⟩] w fun e w' => e = .returned (.tuple #[.string ⟨(Vm.fst c s).toArray⟩, .string ⟨(if Vm.has c s then Vm.snd c s else []).toArray⟩, .bool (Vm.has c s)]) ∧ Below w.heap.size w w' := by
  obtain ⟨m, hm⟩ := hm
  refine (Tryz.strings_Cut ⟨s.toArray⟩ ⟨#[c]⟩ m w (by show s.length < _; omega) hm).mono fun e w' ⟨h1, n, h2⟩ => ⟨?_, h2 ▸ below_drewN (Below.refl _ _) n⟩
  rw [h1]
  have e : Lib.cut (⟨s.toArray⟩ : ByteArray).data.toList (⟨#[c]⟩ : ByteArray).data.toList = Lib.cut s [c] := rfl
  rw [e, cut_has]
  cases h : Vm.has c s
  · rw [(At.fst_none (c := c) (p := s) (fun hm => by unfold Vm.has at h; rw [List.contains_iff_mem.2 hm] at h; cases h)).1]; rfl
  · rfl
theorem sign_yes (s : List UInt8) (w : World) (hw : MaxOk w) (h : signB s = true) : Calls Tryz.prog 183 #[.string ⟨s.toArray⟩] w fun e w' => e = .returned (.tuple #[]) ∧ Below w.heap.size w w' := by
  have := requireSign_any s w hw; rw [h] at this; exact this
theorem sign_no (s : List UInt8) (w : World) (hw : MaxOk w) (h : signB s = false) : Calls Tryz.prog 183 #[.string ⟨s.toArray⟩] w fun e w' => e = pan 2 ∧ Below w.heap.size w w' := by
  have := requireSign_any s w hw; rw [h] at this; exact this
theorem word_yes (s : List UInt8) (w : World) (hs : s.length ≤ 1000000) (h : wordB s = true) : Calls Tryz.prog 126 #[.string ⟨s.toArray⟩] w fun e w' => e = .returned (.tuple #[]) ∧ Below w.heap.size w w' := by
  have := requireWord_any s w hs; rw [h] at this; exact this
theorem word_no (s : List UInt8) (w : World) (hs : s.length ≤ 1000000) (h : wordB s = false) : Calls Tryz.prog 126 #[.string ⟨s.toArray⟩] w fun e w' => e = pan 2 ∧ Below w.heap.size w w' := by
  have := requireWord_any s w hs; rw [h] at this; exact this
def CondR (R : Option Cond) (e : Ending) : Prop := match R with | some c => e = .returned (.agg #[.string ⟨c.1.toArray⟩, .string ⟨c.2.toArray⟩]) | none => e = pan 2
def CondOk (w : World) (s : List UInt8) (e : Ending) (w' : World) : Prop := CondR (condP s) e ∧ Below w.heap.size w w'
set_option maxRecDepth 100000 in
set_option maxHeartbeats 1600000 in
theorem parseCondition_any (s : List UInt8) (w : World) (hw : MaxOk w) (hs : s.length ≤ 1000000) :
    Calls Tryz.prog 164 #[.string ⟨s.toArray⟩] w (CondOk w s) := by
  obtain ⟨R, hR⟩ : ∃ R, condP s = R := ⟨_, rfl⟩
  obtain ⟨W1, hW1⟩ : ∃ W, w.alloc (.cells #[.string ⟨#[]⟩, .string ⟨#[]⟩] 142) = W := ⟨_, rfl⟩
  have HW1 : Hid (Below w.heap.size w W1) := by rw [← hW1]; exact (Below.refl _ _).alloc (Nat.le_refl _) _
  have HM1 : Hid (MaxOk W1) := maxOk_below hw HW1.out
  obtain ⟨x, hx⟩ : ∃ x, Vm.fst 32 s = x := ⟨_, rfl⟩
  obtain ⟨y, hy⟩ : ∃ y, (if Vm.has 32 s then Vm.snd 32 s else []) = y := ⟨_, rfl⟩
  obtain ⟨b, hb⟩ : ∃ b, Vm.has 32 s = b := ⟨_, rfl⟩
  have HR : Hid (R = if signB x && wordB y then some (x, y) else none) := by
    show _ = _
    rw [← hR, ← hx, ← hy]
    unfold condP
    cases h : Vm.has 32 s
    · simp [wordB]
    · simp
  have HY : Hid (y.length ≤ 1000000) := by
    show _ ≤ _
    rw [← hy]
    split
    · (unfold Vm.snd; rw [List.length_drop]; have := (List.dropWhile_sublist (· != (32 : UInt8)) (l := s)).length_le; omega)
    · simp
  unfold CondOk
  rw [hR]
  have hc0 := cut_all 32 s W1 HM1.out hs
  rw [hx, hy, hb] at hc0
  have HC := Lib.hid hc0
  clear hR hx hy hb hc0 hw hs
  go_enter Tryz.func164, Tryz.ntmps164
  go_wp2_with fail
  refine HC.out.mono ?_
  rintro _ u1 ⟨rfl, hb1⟩
  have HB1 : Hid (Below w.heap.size w u1) := HW1.out.trans (hb1.mono HW1.out.size)
  have HM2 : Hid (MaxOk u1) := maxOk_below HM1.out hb1
  have HBX : Hid (Below W1.heap.size W1 u1) := hb1
  clear hb1
  go_wp2_with fail
  cases hsg : signB x
  · have HR2 : Hid (R = none) := by show _ = _; rw [HR.out, hsg]; rfl
    refine (sign_no x _ HM2.out hsg).mono ?_
    clear hsg
    rintro _ u2 ⟨rfl, hb2⟩
    go_wp2_with fail
    exact ⟨rfl, by show CondR R _; rw [HR2.out]; rfl, HB1.out.trans (hb2.mono HB1.out.size)⟩
  · refine (sign_yes x _ HM2.out hsg).mono ?_
    rintro _ u2 ⟨rfl, hb2⟩
    have HB2 : Hid (Below w.heap.size w u2) := HB1.out.trans (hb2.mono HB1.out.size)
    have HBY : Hid (Below W1.heap.size W1 u2) := HBX.out.trans (hb2.mono HBX.out.size)
    have HSG := Lib.hid hsg
    clear hb2 hsg
    go_wp2_with fail
    cases hwd : wordB y
    · have HR2 : Hid (R = none) := by show _ = _; rw [HR.out, HSG.out, hwd]; rfl
      refine (word_no y _ HY.out hwd).mono ?_
      clear hwd
      rintro _ u3 ⟨rfl, hb3⟩
      go_wp2_with fail
      exact ⟨rfl, by show CondR R _; rw [HR2.out]; rfl, HB2.out.trans (hb3.mono HB2.out.size)⟩
    · have HR2 : Hid (R = some (x, y)) := by show _ = _; rw [HR.out, HSG.out, hwd]; rfl
      refine (word_yes y _ HY.out hwd).mono ?_
      clear hwd
      rintro _ u3 ⟨rfl, hb3⟩
      have HB3 : Hid (Below w.heap.size w u3) := HB2.out.trans (hb3.mono HB2.out.size)
      have HBZ : Hid (Below W1.heap.size W1 u3) := HBY.out.trans (hb3.mono HBY.out.size)
      obtain ⟨q0, q1, z0, z1⟩ := cell_two hW1 HBZ.out
      clear hb3
      go_wp2_with fail
      have e0 : ((u3.setCell ⟨w.heap.size, 0, none⟩ (.string ⟨x.toArray⟩)).setCell ⟨w.heap.size, 1, none⟩ (.string ⟨y.toArray⟩)).cell? ⟨w.heap.size, 0, none⟩ = some (.string ⟨x.toArray⟩) := by simp [go_sem, q0]
      have e1 : ((u3.setCell ⟨w.heap.size, 0, none⟩ (.string ⟨x.toArray⟩)).setCell ⟨w.heap.size, 1, none⟩ (.string ⟨y.toArray⟩)).cell? ⟨w.heap.size, 1, none⟩ = some (.string ⟨y.toArray⟩) := by simp [go_sem, q1]
      refine bodyPost_ret (v := .agg #[.string ⟨x.toArray⟩, .string ⟨y.toArray⟩]) (by simp [results, Tryz.results164, go_sem, e0, e1]) rfl ⟨?_, ?_⟩
      · show CondR R _; rw [HR2.out]; rfl
      · exact (HB3.out.setCell (Nat.le_refl _) _).setCell (Nat.le_refl _) _
end Go.Proofs.YtkdildgdodnbbaaGreatDoor
