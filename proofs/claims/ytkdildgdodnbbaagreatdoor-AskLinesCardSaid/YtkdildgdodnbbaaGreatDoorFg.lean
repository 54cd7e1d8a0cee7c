/- The law AskLines, walked. A slice of bytes that came in: how its cells read. -/
import Derived.Test.YtkdildgdodnbbaaGreatDoorFf
import Derived.Test.YtkdildgdodnbbaaGreatDoorFe
namespace Go.Proofs.YtkdildgdodnbbaaGreatDoor.Ak
open Go.RowKit Rs At Pg Sz
def encU (c : UInt8) : List Value := [.int .u8 c.toNat]
theorem u8_at {w : World} {A : Option Addr} {l : List UInt8} (h : Rg.Row encU 1 w A l) (k : Nat) (hk : k < l.length) : ∃ ad, A = some ad ∧ ad.block < w.heap.size ∧ w.cell? (ad.add k) = some (.int .u8 (l[k].toNat : Int)) := by
  obtain ⟨ad, x, e, hx, hlt, hc⟩ := Rg.row_at h k hk
  refine ⟨ad, e, hlt, ?_⟩
  have := hc 0 _ rfl
  rw [if_pos rfl, Nat.mul_one] at this
  rw [hx]
  exact this
def lineA (nm : List UInt8) (rg : List Sp) : Nat → Rq
  | 0 => ⟨1, nm, rg⟩
  | 1 => ⟨2, nm, allS⟩
  | 2 => ⟨3, nm, allS⟩
  | _ => ⟨4, nm, rg⟩
def kindsQ (nm : List UInt8) (rg : List Sp) (l : List UInt8) : List Rq := l.map fun c => lineA nm rg (c.toNat % 4)
theorem kinds_at {nm : List UInt8} {rg : List Sp} {l : List UInt8} {i : Nat} (h : i < l.length) : (kindsQ nm rg l)[i]'(by unfold kindsQ; rw [List.length_map]; exact h) = lineA nm rg (l[i].toNat % 4) := by
  unfold kindsQ; rw [List.getElem_map]
theorem all_check {nm : List UInt8} (h : nameB nm = true) : checkA ⟨nm, allS⟩ = 0 := by
  unfold checkA
  rw [if_pos h, if_pos (show checkR allS = 0 by decide +kernel), if_neg (show ¬ 16 < vers (At.termOf allS) by decide +kernel)]
theorem chk_own {k : Int} (hk : k = 1 ∨ k = 4) {nm : List UInt8} {r : List Sp} (h : checkA ⟨nm, r⟩ = 0) : checkQ ⟨k, nm, r⟩ = 0 := by
  unfold checkQ
  dsimp only
  rw [if_neg (by omega), if_pos h, if_neg (by rintro ⟨q, _⟩; omega)]
theorem chk_all {k : Int} (hk : k = 2 ∨ k = 3) {nm : List UInt8} (h : checkA ⟨nm, allS⟩ = 0) : checkQ ⟨k, nm, allS⟩ = 0 := by
  unfold checkQ
  dsimp only
  rw [if_neg (by omega), if_pos h, if_neg (fun q => q.2 rfl)]
theorem lineA_ok {nm : List UInt8} {rg : List Sp} (h : checkA ⟨nm, rg⟩ = 0) (k : Nat) : checkQ (lineA nm rg k) = 0 := by
  have ha := all_check (check_parts h).1
  match k with
  | 0 => exact chk_own (Or.inl rfl) h
  | 1 => exact chk_all (Or.inl rfl) ha
  | 2 => exact chk_all (Or.inr rfl) ha
  | k + 3 => exact chk_own (Or.inr rfl) h
theorem kinds_ok {nm : List UInt8} {rg : List Sp} (h : checkA ⟨nm, rg⟩ = 0) (l : List UInt8) : ∀ a ∈ kindsQ nm rg l, checkQ a = 0 := fun a ha => by
  obtain ⟨c, _, rfl⟩ := List.mem_map.1 ha
  exact lineA_ok h _
theorem kinds_len {nm : List UInt8} {rg : List Sp} (l : List UInt8) : (kindsQ nm rg l).length = l.length := List.length_map _
theorem checks_ok {l : List Rq} (h : ∀ a ∈ l, checkQ a = 0) : checkQs l = if 32 < l.length then (0, 4) else (0, 0) := by
  unfold checkQs
  by_cases h1 : 32 < l.length
  · rw [if_pos h1, if_pos h1]
  · rw [if_neg h1, if_neg h1]
    exact firstQ_ok _ _ _ fun j hj => by
      rw [Nat.zero_add, errQ_at hj]
      exact h _ (List.getElem_mem hj)
theorem reads_many {l : List Rq} (h : ∀ a ∈ l, checkQ a = 0) (h1 : 32 < l.length) (h2 : l.length ≤ 40) : readQ (textQ l) = (0, 4, []) := by
  have hl := textQ_le h
  have hm : l.length * 1009 ≤ 40 * 1009 := Nat.mul_le_mul_right _ h2
  unfold readQ
  rw [if_neg (by omega), if_pos (show endB (textQ l) = true from end_join _), text_lines h, if_pos (show 32 < (l.map lineQ).length by rw [List.length_map]; exact h1)]
theorem want_le {l : List Rq} (h : ∀ a ∈ l, checkQ a = 0) (h2 : l.length ≤ 40) : (textQ l).length ≤ 40360 ∧ ∀ x ∈ linesL (textQ l), x.length ≤ 4000 := by
  have hl := textQ_le h
  have hm : l.length * 1009 ≤ 40 * 1009 := Nat.mul_le_mul_right _ h2
  refine ⟨by omega, fun x hx => ?_⟩
  rw [text_lines h] at hx
  obtain ⟨a, ha, rfl⟩ := List.mem_map.1 hx
  have := line_le (h a ha)
  omega
theorem qcells {b : Nat} {k : Int} {nm : List UInt8} {A : Option Addr} {n c : Nat} {T : TypeId} {u : World} (h : u.heap[b]? = some (.cells #[.int .i64 k, .string ⟨nm.toArray⟩, .slice A n c] T (0, 0))) : u.cell? ⟨b, 0, none⟩ = some (.int .i64 k) ∧ u.cell? ⟨b, 1, none⟩ = some (.string ⟨nm.toArray⟩) ∧ u.cell? ⟨b, 2, none⟩ = some (.slice A n c) := by
  refine ⟨?_, ?_, ?_⟩ <;> simp [World.cell?, h]
theorem qcell_lt {b : Nat} {u : World} {o : Obj} (h : u.heap[b]? = some o) : b < u.heap.size := (Array.getElem?_eq_some_iff.1 h).1
theorem qfroz {b : Nat} {k : Int} {nm : List UInt8} {A : Option Addr} {n c : Nat} {T : TypeId} {u : World} (h : u.heap[b]? = some (.cells #[.int .i64 k, .string ⟨nm.toArray⟩, .slice A n c] T (0, 0))) : u.frozen? ⟨b, 2, none⟩ = false := by simp [World.frozen?, h]
theorem qset {b : Nat} {k : Int} {nm : List UInt8} {A C : Option Addr} {n c m d : Nat} {T : TypeId} {u : World} (h : u.heap[b]? = some (.cells #[.int .i64 k, .string ⟨nm.toArray⟩, .slice A n c] T (0, 0))) : (u.setCell ⟨b, 2, none⟩ (.slice C m d)).heap[b]? = some (.cells #[.int .i64 k, .string ⟨nm.toArray⟩, .slice C m d] T (0, 0)) := by
  simp [World.setCell, Array.getElem?_modify, h]
theorem qnob {b : Nat} {k : Int} {nm : List UInt8} {A : Option Addr} {n c : Nat} {T : TypeId} {u : World} (h : u.heap[b]? = some (.cells #[.int .i64 k, .string ⟨nm.toArray⟩, .slice A n c] T (0, 0))) : ∀ j x, u.cell? ⟨b, j, none⟩ = some x → NoB x := fun j x hx y e => by
  simp only [World.cell?, h] at hx
  subst e
  match j, hx with
  | 0, hx | 1, hx | 2, hx => simp at hx
  | j + 3, hx => simp at hx
theorem take_text_le (l : List Rq) (i : Nat) : (textQ (l.take i)).length ≤ (textQ l).length := by
  unfold textQ joinL
  conv => rhs; rw [← List.take_append_drop i l, List.map_append, List.flatMap_append]
  rw [List.length_append]; omega
/-- A row of Spans stays as it is where asks of one's own grow. -/
theorem qown_srow {w w' : World} {B : Nat} {T : TypeId} {v : Value} {ds : List QD} {l : List Rq} {C : Option Addr} {r : List Sp} (h : QOwn w B T v ds l) (hr : SRow w C r) (hg : w.grownBy w' v.ownBlock) : SRow w' C r :=
  srow_but hr (but_grown hg) fun h0 q hq e => by
    cases hv : v.ownBlock with
    | none => rw [hv] at e; cases e
    | some g => rw [hv] at e; exact srow_nob hr (h.2.2 g hv) h0 q hq e
end Go.Proofs.YtkdildgdodnbbaaGreatDoor.Ak
namespace Go.Proofs.YtkdildgdodnbbaaGreatDoor
open Go.RowKit Rs At Pg Ak Sz
attribute [local go_sem ↓] Go.wp_at_zero Go.wp_at_succ
set_option maxRecDepth 100000 in
set_option maxHeartbeats 6400000 in
theorem askLines_any (nm : List UInt8) (A : Option Addr) (n c0 : Nat) (rg : List Sp) (B : Option Addr) (p cb : Nat) (ks : List UInt8) (w : World) (hw : QOk w) (hnm : nm.length ≤ maxLen) (hn : rg.length = n) (hr : SRow w A rg) (hl : n ≤ maxLen) (hs : Wide rg) (hp : ks.length = p) (hk : Rg.Row encU 1 w B ks) :
    Calls Tryz.prog 5 #[.agg #[.string ⟨nm.toArray⟩, .slice A n c0], .slice B p cb] w fun e w' => e = .returned (.bool true) ∧ Below w.heap.size w w' := by
  have HW := Lib.hid hw
  have HN := Lib.hid hn
  have HR := Lib.hid hr
  have HSW := Lib.hid hs
  have HP := Lib.hid hp
  have HKS := Lib.hid hk
  clear hw hn hr hs hp hk
  obtain ⟨W0, hW0⟩ : ∃ W, w.alloc (.cells #[.string ⟨nm.toArray⟩, .slice A n c0] 38) = W := ⟨_, rfl⟩
  have HL0 : Hid (Below w.heap.size w W0) := alloc_low hW0
  have HG : Hid (∀ u, Below W0.heap.size W0 u → u.cell? ⟨w.heap.size, 0, none⟩ = some (.string ⟨nm.toArray⟩) ∧ u.cell? ⟨w.heap.size, 1, none⟩ = some (.slice A n c0)) := fun u hb => ⟨(cell_two hW0 hb).1, (cell_two hW0 hb).2.1⟩
  have HKN := Lib.hid (known9_any W0 (qok_below HW.out HL0.out))
  go_enter Tryz.func5, Tryz.ntmps5
  go_wp2_with fail
  clear hW0
  refine HKN.out.mono ?_
  rintro _ u0 ⟨rfl, hb⟩
  have HB0 := Lib.hid hb
  have HW0 := Lib.hid (HL0.out.trans (hb.mono HL0.out.size))
  clear hb HKN
  have HS0 : Hid (St W0 u0 [⟨A, n, rg⟩]) := ⟨(qok_below HW.out HL0.out).1, HB0.out, fun x hx => by
    rw [List.mem_singleton.1 hx]; exact ⟨srow_below HR.out HW0.out, HN.out⟩⟩
  obtain ⟨c0', c1'⟩ := HG.out _ HB0.out
  obtain ⟨fb, hfb⟩ : ∃ b, fewA ⟨nm, rg⟩ = b := ⟨_, rfl⟩
  have HF := Lib.hid hfb
  have HFC := Lib.hid (few4_any HS0.out nm A n c0 rg 0 rfl hnm hl HSW.out)
  rw [hfb] at HFC
  clear hfb
  go_wp2_with fail
  refine HFC.out.mono ?_
  rintro _ u1 ⟨rfl, hs⟩
  have HS1 := Lib.hid hs
  clear hs HFC c0' c1'
  obtain ⟨c0', c1'⟩ := HG.out _ HS1.out.2.1
  cases fb
  · have HE := Lib.hid (HL0.out.trans (HS1.out.2.1.mono HL0.out.size))
    go_wp2_with fail
    go_ret
    exact ⟨rfl, HE.out⟩
  have hn1 : n ≤ 1000 := by
    have h2 := (Ak.few_parts HF.out).2
    rw [← HN.out]; exact Nat.le_trans h2 (by decide)
  obtain ⟨K, hK⟩ : ∃ K, checkA ⟨nm, rg⟩ = K := ⟨_, rfl⟩
  have HCC := Lib.hid (s4_refCheck HS1.out 0 rfl hn1 c0 nm hnm K hK)
  have HK := Lib.hid hK
  clear hK
  go_wp2_with fail
  refine HCC.out.mono ?_
  rintro _ u2 ⟨rfl, hs⟩
  have HS2 := Lib.hid hs
  clear hs HCC c0' c1' HS1
  by_cases hk0 : K = 0
  case neg =>
    have dk : (K != 0) = true := by simpa using hk0
    have HE := Lib.hid (HL0.out.trans (HS2.out.2.1.mono HL0.out.size))
    clear hk0
    go_wp2_with fail
    go_ret
    exact ⟨rfl, HE.out⟩
  subst hk0
  by_cases h40 : 40 < p
  · have d40 : decide ((40 : Int) < (p : Int)) = true := decide_eq_true (by omega)
    have HE := Lib.hid (HL0.out.trans (HS2.out.2.1.mono HL0.out.size))
    clear h40
    go_wp2_with fail
    go_ret
    exact ⟨rfl, HE.out⟩
  have d40 : decide ((40 : Int) < (p : Int)) = false := decide_eq_false (by omega)
  have hp40 : p ≤ 40 := by omega
  clear h40
  obtain ⟨c0', c1'⟩ := HG.out _ HS2.out.2.1
  go_wp2_with fail
  refine (s4_to HS2.out 0 rfl hn1 c0 nm).mono ?_
  rintro _ u3 ⟨C, m, d, rfl, hs⟩
  obtain rfl : m = n := (st_row hs 0 rfl).2.symm.trans HN.out
  have HR3 := Lib.hid (st_row hs 0 rfl).1
  have HW3 := Lib.hid (HL0.out.trans (hs.2.1.mono HL0.out.size))
  clear hs c0' c1' HS2 HS0 d40
  have hcp := check_parts HK.out
  have hnl := name_len hcp.1
  dsimp only at hnl
  have HRC : Hid (checkR rg = 0) := hcp.2.1
  have hm64 : m ≤ 64 := by have h := good_n hcp.2.1; rw [← HN.out]; exact h
  have HALL := Lib.hid (kinds_ok HK.out ks)
  have HLEN : Hid ((kindsQ nm rg ks).length = p) := (kinds_len ks).trans HP.out
  clear hcp
  obtain ⟨W4, hW4⟩ : ∃ W, u3.alloc (.cells #[.string ⟨nm.toArray⟩, .slice C m d] 32) = W := ⟨_, rfl⟩
  have HL4 : Hid (Below u3.heap.size u3 W4) := alloc_low hW4
  have HW4 := Lib.hid (HW3.out.trans (HL4.out.mono HW3.out.size))
  have HG4 : Hid (∀ u, Below W4.heap.size W4 u → u.cell? ⟨u3.heap.size, 0, none⟩ = some (.string ⟨nm.toArray⟩) ∧ u.cell? ⟨u3.heap.size, 1, none⟩ = some (.slice C m d)) := fun u hb => ⟨(cell_two hW4 hb).1, (cell_two hW4 hb).2.1⟩
  have HR4 : Hid (SRow W4 C rg) := srow_below HR3.out HL4.out
  go_wp2_with fail
  clear hW4
  go_loopw [6, 7, 8] (fun v s i wr => ∃ (i' : Nat) (ds : List QD), i' ≤ p ∧ i = .int .i64 i' ∧ s = .string ⟨(textQ ((kindsQ nm rg ks).take i')).toArray⟩ ∧ Hid (QOwn wr W4.heap.size 34 v ds ((kindsQ nm rg ks).take i')) ∧ Hid (Below W4.heap.size W4 wr)) (fun _ _ i _ => p - (intOf i).toNat)
  case atStart => exact ⟨0, [], Nat.zero_le _, rfl, rfl, qown_nil _ _ _, Below.refl _ _⟩
  case round =>
    obtain ⟨i, ds, hi, rfl, rfl, HO, HB⟩ := hrel
    have HWR := Lib.hid (HW4.out.trans (HB.out.mono HW4.out.size))
    by_cases hlt : i < p
    · have hil : i < ks.length := by rw [HP.out]; exact hlt
      have hkl : i < (kindsQ nm rg ks).length := by rw [HLEN.out]; exact hlt
      obtain ⟨ad, rfl, hadl, b0⟩ := u8_at HKS.out i hil
      have b1 := (HWR.out.cell (p := ad.add i) (by rw [Rs.add_block]; exact hadl)).trans b0
      have HSZ : Hid (ds.length + 1 ≤ 1000000) := by
        have h1 := HO.out.2.1.1
        rw [List.length_take] at h1
        show _ ≤ _
        omega
      obtain ⟨x0, x1⟩ := HG4.out _ HB.out
      obtain ⟨S, hS⟩ : ∃ S, textQ ((kindsQ nm rg ks).take i) = S := ⟨_, rfl⟩
      rw [hS]
      have hka := kinds_at (nm := nm) (rg := rg) hil
      obtain ⟨c, hc⟩ : ∃ c, ks[i] = c := ⟨_, rfl⟩
      rw [hc] at b1 hka
      have h4 : c.toNat % 4 = 0 ∨ c.toNat % 4 = 1 ∨ c.toNat % 4 = 2 ∨ c.toNat % 4 = 3 := by omega
      clear hc b0
      rcases h4 with hq4 | hq4 | hq4 | hq4
      · have HLA : Hid ((kindsQ nm rg ks)[i] = ⟨1, nm, rg⟩) := by show _ = _; rw [hka, hq4]; rfl
        have e44 : ((c.toNat : Int) % 4) = 0 := by omega
        have e45 : Int.tmod (c.toNat : Int) 4 = 0 := by rw [Int.tmod_eq_emod_of_nonneg (by omega)]; exact e44
        have HTK := Lib.hid (lines_take hkl)
        rw [HLA.out] at HTK
        have HSN : Hid ((kindsQ nm rg ks).take (i + 1) = (kindsQ nm rg ks).take i ++ [⟨1, nm, rg⟩]) := by show _ = _; rw [List.take_succ_eq_append_getElem hkl, HLA.out]
        have HLL : Hid (lineQ ⟨1, nm, rg⟩ ++ [10] = [105, 110, 115, 116, 97, 108, 108, 32] ++ textA ⟨nm, rg⟩ ++ [10]) := by show _ = _; unfold lineQ; simp [wordQ]
        clear hq4 hka HLA
        obtain ⟨V, hV⟩ : ∃ V, wr.alloc (.cells #[.int .i64 1, .string ⟨nm.toArray⟩, .slice C m d] 34) = V := ⟨_, rfl⟩
        have HVL : Hid (Below wr.heap.size wr V) := alloc_low hV
        have HYV : Hid (∀ u, Below V.heap.size V u → u.heap[wr.heap.size]? = some (.cells #[.int .i64 1, .string ⟨nm.toArray⟩, .slice C m d] 34 (0, 0))) := fun u hb => (hb.block _ (by rw [← hV]; simp)).trans (by rw [← hV]; exact heap_alloc_new wr _)
        obtain ⟨y0, y1, y2⟩ := qcells (HYV.out _ (Below.refl _ _))
        have HRV : Hid (SRow V C rg) := srow_below HR4.out (HB.out.trans (HVL.out.mono HB.out.size))
        obtain ⟨tx, htx⟩ : ∃ tx, textA ⟨nm, rg⟩ = tx := ⟨_, rfl⟩
        rw [htx] at HLL
        obtain ⟨ln, hln⟩ : ∃ ln, lineQ ⟨1, nm, rg⟩ ++ [10] = ln := ⟨_, rfl⟩
        rw [hln] at HTK HLL
        rw [hS] at HTK
        obtain ⟨T, hT⟩ : ∃ T, textQ ((kindsQ nm rg ks).take (i + 1)) = T := ⟨_, rfl⟩
        rw [hT] at HTK
        obtain ⟨o1, ho1⟩ : ∃ o, S ++ [105, 110, 115, 116, 97, 108, 108, 32] = o := ⟨_, rfl⟩
        obtain ⟨o2, ho2⟩ : ∃ o, o1 ++ tx = o := ⟨_, rfl⟩
        have ho3 : o2 ++ [10] = T := by rw [HTK.out, HLL.out, ← ho2, ← ho1]; simp
        have lT : T.length ≤ 40360 := by
          rw [← hT]
          have h1 := (want_le HALL.out (by rw [HLEN.out]; exact hp40)).1
          have h2 : (textQ ((kindsQ nm rg ks).take (i + 1))).length ≤ (textQ (kindsQ nm rg ks)).length := take_text_le _ _
          omega
        have l2 : o2.length ≤ 40360 := by rw [← ho3, List.length_append] at lT; omega
        have l1 : o1.length ≤ 40360 := by rw [← ho2, List.length_append] at l2; omega
        have e1 := Ak.cat_to ho1 (by omega)
        have e2 := Ak.cat_to ho2 (by omega)
        have e3 := Ak.cat_to ho3 (by omega)
        have HT := Lib.hid hT
        have HTX : Hid (∀ u, Below w.heap.size w u → SRow u C rg → Calls Tryz.prog 23 #[.agg #[.string ⟨nm.toArray⟩, .slice C m d]] u fun e w' => e = .returned (.string ⟨tx.toArray⟩) ∧ Below u.heap.size u w') := fun u hb hr => by
          rw [← htx]
          exact atomText_any nm C m d rg u (qok_below HW.out hb).1 (by omega) HN.out hr (by exact hm64) (by first | exact HRC.out | decide +kernel)
        clear ho1 ho2 ho3 lT l1 l2 htx hln hT HLL
        go_wp2_with (at_builtin; refine Pg.wpList_app_pure sliceQ zeroQ_nob encQ_nob rfl (.tmp 59) (.tmp 61) rfl W4.heap.size _ ds [((1 : Int), nm, C, m, d)] rfl (qown_below HO.out (HVL.out.alloc HVL.out.size _)).1 (qown_below HO.out (HVL.out.alloc HVL.out.size _)).2.2 _ _ rfl (Rg.news_new V _ _ _ (by rfl)) (Nat.zero_lt_succ _) HSZ.out ?b2 ?_)
        case b2 => have := HB.out.size; have := HVL.out.size; simp; omega
        intro v5 W5 ho5 hp5 hg5 hz5
        have hal : Below wr.heap.size wr (V.alloc (.cells #[.int .i64 1, .string ⟨nm.toArray⟩, .slice C m d] 34)) := HVL.out.alloc HVL.out.size _
        have hvl : Below V.heap.size V (V.alloc (.cells #[.int .i64 1, .string ⟨nm.toArray⟩, .slice C m d] 34)) := (Below.refl _ _).alloc (Nat.le_refl _) _
        have HO5 := Lib.hid (qown_add (a := ⟨1, nm, rg⟩) (qown_below HO.out hal) (srow_below HRV.out hvl) HN.out ho5 hp5 hg5)
        rw [← HSN.out] at HO5
        have HR5 := Lib.hid (qown_srow (qown_below HO.out hal) (srow_below HRV.out hvl) hg5)
        have HB5 : Hid (Below W4.heap.size W4 W5) := (HB.out.trans (hal.mono HB.out.size)).trans (Rg.grown_below (qown_below HO.out hal).1 (Nat.le_trans HB.out.size hal.size) hg5)
        have hne : u6.ownBlock ≠ some wr.heap.size := fun e => by have := (Rg.own_lt HO.out.1 _ e).2; omega
        have HH5 : Hid (W5.heap[wr.heap.size]? = some (.cells #[.int .i64 1, .string ⟨nm.toArray⟩, .slice C m d] 34 (0, 0))) := ((but_grown hg5).2 _ (by have := qcell_lt (HYV.out _ hvl); exact this) hne).trans (HYV.out _ hvl)
        have HQ5 : Hid (∀ u, Below W5.heap.size W5 u → u.cell? ⟨wr.heap.size, 0, none⟩ = some (.int .i64 1) ∧ u.cell? ⟨wr.heap.size, 1, none⟩ = some (.string ⟨nm.toArray⟩) ∧ u.cell? ⟨wr.heap.size, 2, none⟩ = some (.slice C m d)) := fun u hb => qcells ((hb.block _ (qcell_lt HH5.out)).trans HH5.out)
        have HW5 := Lib.hid (HW4.out.trans (HB5.out.mono HW4.out.size))
        have HDW : Hid (Below W5.heap.size W5 W5.drew) := (Below.refl _ _).drew
        have HAW : Hid (Below W5.heap.size W5 (W5.alloc (.cells #[.string ⟨#[105, 110, 115, 116, 97, 108, 108, 32]⟩, .string ⟨#[114, 101, 109, 111, 118, 101, 32]⟩, .string ⟨#[117, 112, 103, 114, 97, 100, 101, 32]⟩, .string ⟨#[112, 105, 110, 32]⟩] 9)).drew) := ((Below.refl _ _).alloc (Nat.le_refl _) _).drew
        have HFV : Hid (∀ z, Below (W5.alloc (.cells #[.string ⟨#[105, 110, 115, 116, 97, 108, 108, 32]⟩, .string ⟨#[114, 101, 109, 111, 118, 101, 32]⟩, .string ⟨#[117, 112, 103, 114, 97, 100, 101, 32]⟩, .string ⟨#[112, 105, 110, 32]⟩] 9)).drew.heap.size (W5.alloc (.cells #[.string ⟨#[105, 110, 115, 116, 97, 108, 108, 32]⟩, .string ⟨#[114, 101, 109, 111, 118, 101, 32]⟩, .string ⟨#[117, 112, 103, 114, 97, 100, 101, 32]⟩, .string ⟨#[112, 105, 110, 32]⟩] 9)).drew z → z.cell? ⟨W5.heap.size, 0, none⟩ = some (.string ⟨#[105, 110, 115, 116, 97, 108, 108, 32]⟩)) := fun z hb => five_at (u := W5) (below_undrew hb) 0 _ (by rfl)
        obtain ⟨q0, q1, q2⟩ := HQ5.out _ (Below.refl _ _)
        obtain ⟨r0, r1, r2⟩ := HQ5.out _ HAW.out
        obtain ⟨d0, d1, d2⟩ := HQ5.out _ HDW.out
        have gfv := HFV.out _ (Below.refl _ _)
        clear ho5 hp5 hg5 hz5 hal hvl hne HO HB x0 x1 y0 y1 y2 b1 e44 e45
        go_wp2_with fail
        go_region_with (first
          | (go_at_call 23; refine (HTX.out _ (HW5.out.trans (HAW.out.mono HW5.out.size)) (srow_below HR5.out HAW.out)).mono ?_; rintro _ z ⟨rfl, hb⟩; have HZ : Hid (Below W5.heap.size W5 z) := HAW.out.trans (hb.mono HAW.out.size); have hfv := HFV.out z hb; obtain ⟨p0, p1, p2⟩ := HQ5.out _ HZ.out)
          | (go_at_call 23; refine (HTX.out _ (HW5.out.trans (HDW.out.mono HW5.out.size)) (srow_below HR5.out HDW.out)).mono ?_; rintro _ z ⟨rfl, hb⟩; have HZ : Hid (Below W5.heap.size W5 z) := HDW.out.trans (hb.mono HDW.out.size); obtain ⟨p0, p1, p2⟩ := HQ5.out _ HZ.out; obtain ⟨s0, s1, s2⟩ := HQ5.out _ (HZ.out.alloc HZ.out.size (.cells #[.string ⟨#[105, 110, 115, 116, 97, 108, 108, 32]⟩, .string ⟨#[114, 101, 109, 111, 118, 101, 32]⟩, .string ⟨#[117, 112, 103, 114, 97, 100, 101, 32]⟩, .string ⟨#[112, 105, 110, 32]⟩] 9))))
        all_goals
          go_wp2_with fail
          go_roundw
          case rel => exact ⟨i + 1, _, by omega, by go_num, by rw [HT.out], by first | exact qown_below HO5.out HZ.out | exact qown_below HO5.out (HZ.out.alloc HZ.out.size _), by first | exact HB5.out.trans (HZ.out.mono HB5.out.size) | exact HB5.out.trans ((HZ.out.alloc HZ.out.size _).mono HB5.out.size)⟩
          case measure => simp [intOf]; omega
      · have HLA : Hid ((kindsQ nm rg ks)[i] = ⟨2, nm, allS⟩) := by show _ = _; rw [hka, hq4]; rfl
        have e44 : ((c.toNat : Int) % 4) = 1 := by omega
        have e45 : Int.tmod (c.toNat : Int) 4 = 1 := by rw [Int.tmod_eq_emod_of_nonneg (by omega)]; exact e44
        have HTK := Lib.hid (lines_take hkl)
        rw [HLA.out] at HTK
        have HSN : Hid ((kindsQ nm rg ks).take (i + 1) = (kindsQ nm rg ks).take i ++ [⟨2, nm, allS⟩]) := by show _ = _; rw [List.take_succ_eq_append_getElem hkl, HLA.out]
        have HLL : Hid (lineQ ⟨2, nm, allS⟩ ++ [10] = [114, 101, 109, 111, 118, 101, 32] ++ textA ⟨nm, allS⟩ ++ [10]) := by show _ = _; unfold lineQ; simp [wordQ]
        clear hq4 hka HLA
        obtain ⟨V, hV⟩ : ∃ V, wr.alloc (.cells #[.int .i64 2, .string ⟨nm.toArray⟩, .slice C m d] 34) = V := ⟨_, rfl⟩
        have HVL : Hid (Below wr.heap.size wr V) := alloc_low hV
        have HYV : Hid (∀ u, Below V.heap.size V u → u.heap[wr.heap.size]? = some (.cells #[.int .i64 2, .string ⟨nm.toArray⟩, .slice C m d] 34 (0, 0))) := fun u hb => (hb.block _ (by rw [← hV]; simp)).trans (by rw [← hV]; exact heap_alloc_new wr _)
        obtain ⟨y0, y1, y2⟩ := qcells (HYV.out _ (Below.refl _ _))
        have HSV : Hid (St V V []) := ⟨(qok_below HW.out (HWR.out.trans (HVL.out.mono HWR.out.size))).1, Below.refl _ _, fun x hx => absurd hx (by simp)⟩
        go_wp2_with fail
        clear hV
        refine (s_all HSV.out allR rfl).mono ?_
        rintro _ ua ⟨C3, n3, d3, rfl, hs⟩
        obtain rfl : n3 = 1 := (st_row hs 0 rfl).2.symm
        have HR3' : Hid (SRow ua C3 allS) := (st_row hs 0 rfl).1
        have HVA := Lib.hid hs.2.1
        have HYA := Lib.hid (HYV.out _ hs.2.1)
        clear hs y0 y1 y2 x0 x1 HSV
        obtain ⟨y0, y1, y2⟩ := qcells HYA.out
        have yf := qfroz HYA.out
        obtain ⟨U, hU⟩ : ∃ U, ua.setCell ⟨wr.heap.size, 2, none⟩ (.slice C3 1 d3) = U := ⟨_, rfl⟩
        have HYU : Hid (U.heap[wr.heap.size]? = some (.cells #[.int .i64 2, .string ⟨nm.toArray⟩, .slice C3 1 d3] 34 (0, 0))) := by show _ = _; rw [← hU]; exact qset HYA.out
        have HVL : Hid (Below wr.heap.size wr U) := by show Below _ _ _; rw [← hU]; exact (HVL.out.trans (HVA.out.mono HVL.out.size)).setCell (Nat.le_refl _) _
        have HRU : Hid (SRow U C3 allS) := by show SRow _ _ _; rw [← hU]; exact srow_far HR3'.out (fun h0 a ha e => srow_nob HR3'.out (qnob HYA.out) h0 a ha (by rw [e]))
        have HYV : Hid (∀ u, Below U.heap.size U u → u.heap[wr.heap.size]? = some (.cells #[.int .i64 2, .string ⟨nm.toArray⟩, .slice C3 1 d3] 34 (0, 0))) := fun u hb => (hb.block _ (qcell_lt HYU.out)).trans HYU.out
        obtain ⟨z0, z1, z2⟩ := qcells HYU.out
        obtain ⟨x0, x1⟩ := HG4.out _ (HB.out.trans (HVL.out.mono HB.out.size))
        obtain ⟨tx, htx⟩ : ∃ tx, textA ⟨nm, allS⟩ = tx := ⟨_, rfl⟩
        rw [htx] at HLL
        obtain ⟨ln, hln⟩ : ∃ ln, lineQ ⟨2, nm, allS⟩ ++ [10] = ln := ⟨_, rfl⟩
        rw [hln] at HTK HLL
        rw [hS] at HTK
        obtain ⟨T, hT⟩ : ∃ T, textQ ((kindsQ nm rg ks).take (i + 1)) = T := ⟨_, rfl⟩
        rw [hT] at HTK
        obtain ⟨o1, ho1⟩ : ∃ o, S ++ [114, 101, 109, 111, 118, 101, 32] = o := ⟨_, rfl⟩
        obtain ⟨o2, ho2⟩ : ∃ o, o1 ++ tx = o := ⟨_, rfl⟩
        have ho3 : o2 ++ [10] = T := by rw [HTK.out, HLL.out, ← ho2, ← ho1]; simp
        have lT : T.length ≤ 40360 := by
          rw [← hT]
          have h1 := (want_le HALL.out (by rw [HLEN.out]; exact hp40)).1
          have h2 : (textQ ((kindsQ nm rg ks).take (i + 1))).length ≤ (textQ (kindsQ nm rg ks)).length := take_text_le _ _
          omega
        have l2 : o2.length ≤ 40360 := by rw [← ho3, List.length_append] at lT; omega
        have l1 : o1.length ≤ 40360 := by rw [← ho2, List.length_append] at l2; omega
        have e1 := Ak.cat_to ho1 (by omega)
        have e2 := Ak.cat_to ho2 (by omega)
        have e3 := Ak.cat_to ho3 (by omega)
        have HT := Lib.hid hT
        have HTX : Hid (∀ u, Below w.heap.size w u → SRow u C3 allS → Calls Tryz.prog 23 #[.agg #[.string ⟨nm.toArray⟩, .slice C3 1 d3]] u fun e w' => e = .returned (.string ⟨tx.toArray⟩) ∧ Below u.heap.size u w') := fun u hb hr => by
          rw [← htx]
          exact atomText_any nm C3 1 d3 allS u (qok_below HW.out hb).1 (by omega) (rfl : allS.length = 1) hr (by decide) (by first | exact HRC.out | decide +kernel)
        clear ho1 ho2 ho3 lT l1 l2 htx hln hT HLL
        go_wp2_with (at_builtin; refine Pg.wpList_app_pure sliceQ zeroQ_nob encQ_nob rfl (.tmp 59) (.tmp 61) rfl W4.heap.size _ ds [((2 : Int), nm, C3, 1, d3)] rfl (qown_below HO.out (HVL.out.alloc HVL.out.size _)).1 (qown_below HO.out (HVL.out.alloc HVL.out.size _)).2.2 _ _ rfl (Rg.news_new U _ _ _ (by rfl)) (Nat.zero_lt_succ _) HSZ.out ?b2 ?_)
        case b2 => have := HB.out.size; have := HVL.out.size; simp; omega
        intro v5 W5 ho5 hp5 hg5 hz5
        have hal : Below wr.heap.size wr (U.alloc (.cells #[.int .i64 2, .string ⟨nm.toArray⟩, .slice C3 1 d3] 34)) := HVL.out.alloc HVL.out.size _
        have hvl : Below U.heap.size U (U.alloc (.cells #[.int .i64 2, .string ⟨nm.toArray⟩, .slice C3 1 d3] 34)) := (Below.refl _ _).alloc (Nat.le_refl _) _
        have HO5 := Lib.hid (qown_add (a := ⟨2, nm, allS⟩) (qown_below HO.out hal) (srow_below HRU.out hvl) (rfl : allS.length = 1) ho5 hp5 hg5)
        rw [← HSN.out] at HO5
        have HR5 := Lib.hid (qown_srow (qown_below HO.out hal) (srow_below HRU.out hvl) hg5)
        have HB5 : Hid (Below W4.heap.size W4 W5) := (HB.out.trans (hal.mono HB.out.size)).trans (Rg.grown_below (qown_below HO.out hal).1 (Nat.le_trans HB.out.size hal.size) hg5)
        have hne : u6.ownBlock ≠ some wr.heap.size := fun e => by have := (Rg.own_lt HO.out.1 _ e).2; omega
        have HH5 : Hid (W5.heap[wr.heap.size]? = some (.cells #[.int .i64 2, .string ⟨nm.toArray⟩, .slice C3 1 d3] 34 (0, 0))) := ((but_grown hg5).2 _ (by have := qcell_lt (HYV.out _ hvl); exact this) hne).trans (HYV.out _ hvl)
        have HQ5 : Hid (∀ u, Below W5.heap.size W5 u → u.cell? ⟨wr.heap.size, 0, none⟩ = some (.int .i64 2) ∧ u.cell? ⟨wr.heap.size, 1, none⟩ = some (.string ⟨nm.toArray⟩) ∧ u.cell? ⟨wr.heap.size, 2, none⟩ = some (.slice C3 1 d3)) := fun u hb => qcells ((hb.block _ (qcell_lt HH5.out)).trans HH5.out)
        have HW5 := Lib.hid (HW4.out.trans (HB5.out.mono HW4.out.size))
        have HDW : Hid (Below W5.heap.size W5 W5.drew) := (Below.refl _ _).drew
        have HAW : Hid (Below W5.heap.size W5 (W5.alloc (.cells #[.string ⟨#[105, 110, 115, 116, 97, 108, 108, 32]⟩, .string ⟨#[114, 101, 109, 111, 118, 101, 32]⟩, .string ⟨#[117, 112, 103, 114, 97, 100, 101, 32]⟩, .string ⟨#[112, 105, 110, 32]⟩] 9)).drew) := ((Below.refl _ _).alloc (Nat.le_refl _) _).drew
        have HFV : Hid (∀ z, Below (W5.alloc (.cells #[.string ⟨#[105, 110, 115, 116, 97, 108, 108, 32]⟩, .string ⟨#[114, 101, 109, 111, 118, 101, 32]⟩, .string ⟨#[117, 112, 103, 114, 97, 100, 101, 32]⟩, .string ⟨#[112, 105, 110, 32]⟩] 9)).drew.heap.size (W5.alloc (.cells #[.string ⟨#[105, 110, 115, 116, 97, 108, 108, 32]⟩, .string ⟨#[114, 101, 109, 111, 118, 101, 32]⟩, .string ⟨#[117, 112, 103, 114, 97, 100, 101, 32]⟩, .string ⟨#[112, 105, 110, 32]⟩] 9)).drew z → z.cell? ⟨W5.heap.size, 1, none⟩ = some (.string ⟨#[114, 101, 109, 111, 118, 101, 32]⟩)) := fun z hb => five_at (u := W5) (below_undrew hb) 1 _ (by rfl)
        obtain ⟨q0, q1, q2⟩ := HQ5.out _ (Below.refl _ _)
        obtain ⟨r0, r1, r2⟩ := HQ5.out _ HAW.out
        obtain ⟨d0, d1, d2⟩ := HQ5.out _ HDW.out
        have gfv := HFV.out _ (Below.refl _ _)
        clear ho5 hp5 hg5 hz5 hal hvl hne HO HB x0 x1 y0 y1 y2 b1 e44 e45
        go_wp2_with fail
        go_region_with (first
          | (go_at_call 23; refine (HTX.out _ (HW5.out.trans (HAW.out.mono HW5.out.size)) (srow_below HR5.out HAW.out)).mono ?_; rintro _ z ⟨rfl, hb⟩; have HZ : Hid (Below W5.heap.size W5 z) := HAW.out.trans (hb.mono HAW.out.size); have hfv := HFV.out z hb; obtain ⟨p0, p1, p2⟩ := HQ5.out _ HZ.out)
          | (go_at_call 23; refine (HTX.out _ (HW5.out.trans (HDW.out.mono HW5.out.size)) (srow_below HR5.out HDW.out)).mono ?_; rintro _ z ⟨rfl, hb⟩; have HZ : Hid (Below W5.heap.size W5 z) := HDW.out.trans (hb.mono HDW.out.size); obtain ⟨p0, p1, p2⟩ := HQ5.out _ HZ.out; obtain ⟨s0, s1, s2⟩ := HQ5.out _ (HZ.out.alloc HZ.out.size (.cells #[.string ⟨#[105, 110, 115, 116, 97, 108, 108, 32]⟩, .string ⟨#[114, 101, 109, 111, 118, 101, 32]⟩, .string ⟨#[117, 112, 103, 114, 97, 100, 101, 32]⟩, .string ⟨#[112, 105, 110, 32]⟩] 9))))
        all_goals
          go_wp2_with fail
          go_roundw
          case rel => exact ⟨i + 1, _, by omega, by go_num, by rw [HT.out], by first | exact qown_below HO5.out HZ.out | exact qown_below HO5.out (HZ.out.alloc HZ.out.size _), by first | exact HB5.out.trans (HZ.out.mono HB5.out.size) | exact HB5.out.trans ((HZ.out.alloc HZ.out.size _).mono HB5.out.size)⟩
          case measure => simp [intOf]; omega
      · have HLA : Hid ((kindsQ nm rg ks)[i] = ⟨3, nm, allS⟩) := by show _ = _; rw [hka, hq4]; rfl
        have e44 : ((c.toNat : Int) % 4) = 2 := by omega
        have e45 : Int.tmod (c.toNat : Int) 4 = 2 := by rw [Int.tmod_eq_emod_of_nonneg (by omega)]; exact e44
        have HTK := Lib.hid (lines_take hkl)
        rw [HLA.out] at HTK
        have HSN : Hid ((kindsQ nm rg ks).take (i + 1) = (kindsQ nm rg ks).take i ++ [⟨3, nm, allS⟩]) := by show _ = _; rw [List.take_succ_eq_append_getElem hkl, HLA.out]
        have HLL : Hid (lineQ ⟨3, nm, allS⟩ ++ [10] = [117, 112, 103, 114, 97, 100, 101, 32] ++ textA ⟨nm, allS⟩ ++ [10]) := by show _ = _; unfold lineQ; simp [wordQ]
        clear hq4 hka HLA
        obtain ⟨V, hV⟩ : ∃ V, wr.alloc (.cells #[.int .i64 3, .string ⟨nm.toArray⟩, .slice C m d] 34) = V := ⟨_, rfl⟩
        have HVL : Hid (Below wr.heap.size wr V) := alloc_low hV
        have HYV : Hid (∀ u, Below V.heap.size V u → u.heap[wr.heap.size]? = some (.cells #[.int .i64 3, .string ⟨nm.toArray⟩, .slice C m d] 34 (0, 0))) := fun u hb => (hb.block _ (by rw [← hV]; simp)).trans (by rw [← hV]; exact heap_alloc_new wr _)
        obtain ⟨y0, y1, y2⟩ := qcells (HYV.out _ (Below.refl _ _))
        have HSV : Hid (St V V []) := ⟨(qok_below HW.out (HWR.out.trans (HVL.out.mono HWR.out.size))).1, Below.refl _ _, fun x hx => absurd hx (by simp)⟩
        go_wp2_with fail
        clear hV
        refine (s_all HSV.out allR rfl).mono ?_
        rintro _ ua ⟨C3, n3, d3, rfl, hs⟩
        obtain rfl : n3 = 1 := (st_row hs 0 rfl).2.symm
        have HR3' : Hid (SRow ua C3 allS) := (st_row hs 0 rfl).1
        have HVA := Lib.hid hs.2.1
        have HYA := Lib.hid (HYV.out _ hs.2.1)
        clear hs y0 y1 y2 x0 x1 HSV
        obtain ⟨y0, y1, y2⟩ := qcells HYA.out
        have yf := qfroz HYA.out
        obtain ⟨U, hU⟩ : ∃ U, ua.setCell ⟨wr.heap.size, 2, none⟩ (.slice C3 1 d3) = U := ⟨_, rfl⟩
        have HYU : Hid (U.heap[wr.heap.size]? = some (.cells #[.int .i64 3, .string ⟨nm.toArray⟩, .slice C3 1 d3] 34 (0, 0))) := by show _ = _; rw [← hU]; exact qset HYA.out
        have HVL : Hid (Below wr.heap.size wr U) := by show Below _ _ _; rw [← hU]; exact (HVL.out.trans (HVA.out.mono HVL.out.size)).setCell (Nat.le_refl _) _
        have HRU : Hid (SRow U C3 allS) := by show SRow _ _ _; rw [← hU]; exact srow_far HR3'.out (fun h0 a ha e => srow_nob HR3'.out (qnob HYA.out) h0 a ha (by rw [e]))
        have HYV : Hid (∀ u, Below U.heap.size U u → u.heap[wr.heap.size]? = some (.cells #[.int .i64 3, .string ⟨nm.toArray⟩, .slice C3 1 d3] 34 (0, 0))) := fun u hb => (hb.block _ (qcell_lt HYU.out)).trans HYU.out
        obtain ⟨z0, z1, z2⟩ := qcells HYU.out
        obtain ⟨x0, x1⟩ := HG4.out _ (HB.out.trans (HVL.out.mono HB.out.size))
        obtain ⟨tx, htx⟩ : ∃ tx, textA ⟨nm, allS⟩ = tx := ⟨_, rfl⟩
        rw [htx] at HLL
        obtain ⟨ln, hln⟩ : ∃ ln, lineQ ⟨3, nm, allS⟩ ++ [10] = ln := ⟨_, rfl⟩
        rw [hln] at HTK HLL
        rw [hS] at HTK
        obtain ⟨T, hT⟩ : ∃ T, textQ ((kindsQ nm rg ks).take (i + 1)) = T := ⟨_, rfl⟩
        rw [hT] at HTK
        obtain ⟨o1, ho1⟩ : ∃ o, S ++ [117, 112, 103, 114, 97, 100, 101, 32] = o := ⟨_, rfl⟩
        obtain ⟨o2, ho2⟩ : ∃ o, o1 ++ tx = o := ⟨_, rfl⟩
        have ho3 : o2 ++ [10] = T := by rw [HTK.out, HLL.out, ← ho2, ← ho1]; simp
        have lT : T.length ≤ 40360 := by
          rw [← hT]
          have h1 := (want_le HALL.out (by rw [HLEN.out]; exact hp40)).1
          have h2 : (textQ ((kindsQ nm rg ks).take (i + 1))).length ≤ (textQ (kindsQ nm rg ks)).length := take_text_le _ _
          omega
        have l2 : o2.length ≤ 40360 := by rw [← ho3, List.length_append] at lT; omega
        have l1 : o1.length ≤ 40360 := by rw [← ho2, List.length_append] at l2; omega
        have e1 := Ak.cat_to ho1 (by omega)
        have e2 := Ak.cat_to ho2 (by omega)
        have e3 := Ak.cat_to ho3 (by omega)
        have HT := Lib.hid hT
        have HTX : Hid (∀ u, Below w.heap.size w u → SRow u C3 allS → Calls Tryz.prog 23 #[.agg #[.string ⟨nm.toArray⟩, .slice C3 1 d3]] u fun e w' => e = .returned (.string ⟨tx.toArray⟩) ∧ Below u.heap.size u w') := fun u hb hr => by
          rw [← htx]
          exact atomText_any nm C3 1 d3 allS u (qok_below HW.out hb).1 (by omega) (rfl : allS.length = 1) hr (by decide) (by first | exact HRC.out | decide +kernel)
        clear ho1 ho2 ho3 lT l1 l2 htx hln hT HLL
        go_wp2_with (at_builtin; refine Pg.wpList_app_pure sliceQ zeroQ_nob encQ_nob rfl (.tmp 59) (.tmp 61) rfl W4.heap.size _ ds [((3 : Int), nm, C3, 1, d3)] rfl (qown_below HO.out (HVL.out.alloc HVL.out.size _)).1 (qown_below HO.out (HVL.out.alloc HVL.out.size _)).2.2 _ _ rfl (Rg.news_new U _ _ _ (by rfl)) (Nat.zero_lt_succ _) HSZ.out ?b2 ?_)
        case b2 => have := HB.out.size; have := HVL.out.size; simp; omega
        intro v5 W5 ho5 hp5 hg5 hz5
        have hal : Below wr.heap.size wr (U.alloc (.cells #[.int .i64 3, .string ⟨nm.toArray⟩, .slice C3 1 d3] 34)) := HVL.out.alloc HVL.out.size _
        have hvl : Below U.heap.size U (U.alloc (.cells #[.int .i64 3, .string ⟨nm.toArray⟩, .slice C3 1 d3] 34)) := (Below.refl _ _).alloc (Nat.le_refl _) _
        have HO5 := Lib.hid (qown_add (a := ⟨3, nm, allS⟩) (qown_below HO.out hal) (srow_below HRU.out hvl) (rfl : allS.length = 1) ho5 hp5 hg5)
        rw [← HSN.out] at HO5
        have HR5 := Lib.hid (qown_srow (qown_below HO.out hal) (srow_below HRU.out hvl) hg5)
        have HB5 : Hid (Below W4.heap.size W4 W5) := (HB.out.trans (hal.mono HB.out.size)).trans (Rg.grown_below (qown_below HO.out hal).1 (Nat.le_trans HB.out.size hal.size) hg5)
        have hne : u6.ownBlock ≠ some wr.heap.size := fun e => by have := (Rg.own_lt HO.out.1 _ e).2; omega
        have HH5 : Hid (W5.heap[wr.heap.size]? = some (.cells #[.int .i64 3, .string ⟨nm.toArray⟩, .slice C3 1 d3] 34 (0, 0))) := ((but_grown hg5).2 _ (by have := qcell_lt (HYV.out _ hvl); exact this) hne).trans (HYV.out _ hvl)
        have HQ5 : Hid (∀ u, Below W5.heap.size W5 u → u.cell? ⟨wr.heap.size, 0, none⟩ = some (.int .i64 3) ∧ u.cell? ⟨wr.heap.size, 1, none⟩ = some (.string ⟨nm.toArray⟩) ∧ u.cell? ⟨wr.heap.size, 2, none⟩ = some (.slice C3 1 d3)) := fun u hb => qcells ((hb.block _ (qcell_lt HH5.out)).trans HH5.out)
        have HW5 := Lib.hid (HW4.out.trans (HB5.out.mono HW4.out.size))
        have HDW : Hid (Below W5.heap.size W5 W5.drew) := (Below.refl _ _).drew
        have HAW : Hid (Below W5.heap.size W5 (W5.alloc (.cells #[.string ⟨#[105, 110, 115, 116, 97, 108, 108, 32]⟩, .string ⟨#[114, 101, 109, 111, 118, 101, 32]⟩, .string ⟨#[117, 112, 103, 114, 97, 100, 101, 32]⟩, .string ⟨#[112, 105, 110, 32]⟩] 9)).drew) := ((Below.refl _ _).alloc (Nat.le_refl _) _).drew
        have HFV : Hid (∀ z, Below (W5.alloc (.cells #[.string ⟨#[105, 110, 115, 116, 97, 108, 108, 32]⟩, .string ⟨#[114, 101, 109, 111, 118, 101, 32]⟩, .string ⟨#[117, 112, 103, 114, 97, 100, 101, 32]⟩, .string ⟨#[112, 105, 110, 32]⟩] 9)).drew.heap.size (W5.alloc (.cells #[.string ⟨#[105, 110, 115, 116, 97, 108, 108, 32]⟩, .string ⟨#[114, 101, 109, 111, 118, 101, 32]⟩, .string ⟨#[117, 112, 103, 114, 97, 100, 101, 32]⟩, .string ⟨#[112, 105, 110, 32]⟩] 9)).drew z → z.cell? ⟨W5.heap.size, 2, none⟩ = some (.string ⟨#[117, 112, 103, 114, 97, 100, 101, 32]⟩)) := fun z hb => five_at (u := W5) (below_undrew hb) 2 _ (by rfl)
        obtain ⟨q0, q1, q2⟩ := HQ5.out _ (Below.refl _ _)
        obtain ⟨r0, r1, r2⟩ := HQ5.out _ HAW.out
        obtain ⟨d0, d1, d2⟩ := HQ5.out _ HDW.out
        have gfv := HFV.out _ (Below.refl _ _)
        clear ho5 hp5 hg5 hz5 hal hvl hne HO HB x0 x1 y0 y1 y2 b1 e44 e45
        go_wp2_with fail
        go_region_with (first
          | (go_at_call 23; refine (HTX.out _ (HW5.out.trans (HAW.out.mono HW5.out.size)) (srow_below HR5.out HAW.out)).mono ?_; rintro _ z ⟨rfl, hb⟩; have HZ : Hid (Below W5.heap.size W5 z) := HAW.out.trans (hb.mono HAW.out.size); have hfv := HFV.out z hb; obtain ⟨p0, p1, p2⟩ := HQ5.out _ HZ.out)
          | (go_at_call 23; refine (HTX.out _ (HW5.out.trans (HDW.out.mono HW5.out.size)) (srow_below HR5.out HDW.out)).mono ?_; rintro _ z ⟨rfl, hb⟩; have HZ : Hid (Below W5.heap.size W5 z) := HDW.out.trans (hb.mono HDW.out.size); obtain ⟨p0, p1, p2⟩ := HQ5.out _ HZ.out; obtain ⟨s0, s1, s2⟩ := HQ5.out _ (HZ.out.alloc HZ.out.size (.cells #[.string ⟨#[105, 110, 115, 116, 97, 108, 108, 32]⟩, .string ⟨#[114, 101, 109, 111, 118, 101, 32]⟩, .string ⟨#[117, 112, 103, 114, 97, 100, 101, 32]⟩, .string ⟨#[112, 105, 110, 32]⟩] 9))))
        all_goals
          go_wp2_with fail
          go_roundw
          case rel => exact ⟨i + 1, _, by omega, by go_num, by rw [HT.out], by first | exact qown_below HO5.out HZ.out | exact qown_below HO5.out (HZ.out.alloc HZ.out.size _), by first | exact HB5.out.trans (HZ.out.mono HB5.out.size) | exact HB5.out.trans ((HZ.out.alloc HZ.out.size _).mono HB5.out.size)⟩
          case measure => simp [intOf]; omega
      · have HLA : Hid ((kindsQ nm rg ks)[i] = ⟨4, nm, rg⟩) := by show _ = _; rw [hka, hq4]; rfl
        have e44 : ((c.toNat : Int) % 4) = 3 := by omega
        have e45 : Int.tmod (c.toNat : Int) 4 = 3 := by rw [Int.tmod_eq_emod_of_nonneg (by omega)]; exact e44
        have HTK := Lib.hid (lines_take hkl)
        rw [HLA.out] at HTK
        have HSN : Hid ((kindsQ nm rg ks).take (i + 1) = (kindsQ nm rg ks).take i ++ [⟨4, nm, rg⟩]) := by show _ = _; rw [List.take_succ_eq_append_getElem hkl, HLA.out]
        have HLL : Hid (lineQ ⟨4, nm, rg⟩ ++ [10] = [112, 105, 110, 32] ++ textA ⟨nm, rg⟩ ++ [10]) := by show _ = _; unfold lineQ; simp [wordQ]
        clear hq4 hka HLA
        obtain ⟨V, hV⟩ : ∃ V, wr.alloc (.cells #[.int .i64 4, .string ⟨nm.toArray⟩, .slice C m d] 34) = V := ⟨_, rfl⟩
        have HVL : Hid (Below wr.heap.size wr V) := alloc_low hV
        have HYV : Hid (∀ u, Below V.heap.size V u → u.heap[wr.heap.size]? = some (.cells #[.int .i64 4, .string ⟨nm.toArray⟩, .slice C m d] 34 (0, 0))) := fun u hb => (hb.block _ (by rw [← hV]; simp)).trans (by rw [← hV]; exact heap_alloc_new wr _)
        obtain ⟨y0, y1, y2⟩ := qcells (HYV.out _ (Below.refl _ _))
        have HRV : Hid (SRow V C rg) := srow_below HR4.out (HB.out.trans (HVL.out.mono HB.out.size))
        obtain ⟨tx, htx⟩ : ∃ tx, textA ⟨nm, rg⟩ = tx := ⟨_, rfl⟩
        rw [htx] at HLL
        obtain ⟨ln, hln⟩ : ∃ ln, lineQ ⟨4, nm, rg⟩ ++ [10] = ln := ⟨_, rfl⟩
        rw [hln] at HTK HLL
        rw [hS] at HTK
        obtain ⟨T, hT⟩ : ∃ T, textQ ((kindsQ nm rg ks).take (i + 1)) = T := ⟨_, rfl⟩
        rw [hT] at HTK
        obtain ⟨o1, ho1⟩ : ∃ o, S ++ [112, 105, 110, 32] = o := ⟨_, rfl⟩
        obtain ⟨o2, ho2⟩ : ∃ o, o1 ++ tx = o := ⟨_, rfl⟩
        have ho3 : o2 ++ [10] = T := by rw [HTK.out, HLL.out, ← ho2, ← ho1]; simp
        have lT : T.length ≤ 40360 := by
          rw [← hT]
          have h1 := (want_le HALL.out (by rw [HLEN.out]; exact hp40)).1
          have h2 : (textQ ((kindsQ nm rg ks).take (i + 1))).length ≤ (textQ (kindsQ nm rg ks)).length := take_text_le _ _
          omega
        have l2 : o2.length ≤ 40360 := by rw [← ho3, List.length_append] at lT; omega
        have l1 : o1.length ≤ 40360 := by rw [← ho2, List.length_append] at l2; omega
        have e1 := Ak.cat_to ho1 (by omega)
        have e2 := Ak.cat_to ho2 (by omega)
        have e3 := Ak.cat_to ho3 (by omega)
        have HT := Lib.hid hT
        have HTX : Hid (∀ u, Below w.heap.size w u → SRow u C rg → Calls Tryz.prog 23 #[.agg #[.string ⟨nm.toArray⟩, .slice C m d]] u fun e w' => e = .returned (.string ⟨tx.toArray⟩) ∧ Below u.heap.size u w') := fun u hb hr => by
          rw [← htx]
          exact atomText_any nm C m d rg u (qok_below HW.out hb).1 (by omega) HN.out hr (by exact hm64) (by first | exact HRC.out | decide +kernel)
        clear ho1 ho2 ho3 lT l1 l2 htx hln hT HLL
        go_wp2_with (at_builtin; refine Pg.wpList_app_pure sliceQ zeroQ_nob encQ_nob rfl (.tmp 59) (.tmp 61) rfl W4.heap.size _ ds [((4 : Int), nm, C, m, d)] rfl (qown_below HO.out (HVL.out.alloc HVL.out.size _)).1 (qown_below HO.out (HVL.out.alloc HVL.out.size _)).2.2 _ _ rfl (Rg.news_new V _ _ _ (by rfl)) (Nat.zero_lt_succ _) HSZ.out ?b2 ?_)
        case b2 => have := HB.out.size; have := HVL.out.size; simp; omega
        intro v5 W5 ho5 hp5 hg5 hz5
        have hal : Below wr.heap.size wr (V.alloc (.cells #[.int .i64 4, .string ⟨nm.toArray⟩, .slice C m d] 34)) := HVL.out.alloc HVL.out.size _
        have hvl : Below V.heap.size V (V.alloc (.cells #[.int .i64 4, .string ⟨nm.toArray⟩, .slice C m d] 34)) := (Below.refl _ _).alloc (Nat.le_refl _) _
        have HO5 := Lib.hid (qown_add (a := ⟨4, nm, rg⟩) (qown_below HO.out hal) (srow_below HRV.out hvl) HN.out ho5 hp5 hg5)
        rw [← HSN.out] at HO5
        have HR5 := Lib.hid (qown_srow (qown_below HO.out hal) (srow_below HRV.out hvl) hg5)
        have HB5 : Hid (Below W4.heap.size W4 W5) := (HB.out.trans (hal.mono HB.out.size)).trans (Rg.grown_below (qown_below HO.out hal).1 (Nat.le_trans HB.out.size hal.size) hg5)
        have hne : u6.ownBlock ≠ some wr.heap.size := fun e => by have := (Rg.own_lt HO.out.1 _ e).2; omega
        have HH5 : Hid (W5.heap[wr.heap.size]? = some (.cells #[.int .i64 4, .string ⟨nm.toArray⟩, .slice C m d] 34 (0, 0))) := ((but_grown hg5).2 _ (by have := qcell_lt (HYV.out _ hvl); exact this) hne).trans (HYV.out _ hvl)
        have HQ5 : Hid (∀ u, Below W5.heap.size W5 u → u.cell? ⟨wr.heap.size, 0, none⟩ = some (.int .i64 4) ∧ u.cell? ⟨wr.heap.size, 1, none⟩ = some (.string ⟨nm.toArray⟩) ∧ u.cell? ⟨wr.heap.size, 2, none⟩ = some (.slice C m d)) := fun u hb => qcells ((hb.block _ (qcell_lt HH5.out)).trans HH5.out)
        have HW5 := Lib.hid (HW4.out.trans (HB5.out.mono HW4.out.size))
        have HDW : Hid (Below W5.heap.size W5 W5.drew) := (Below.refl _ _).drew
        have HAW : Hid (Below W5.heap.size W5 (W5.alloc (.cells #[.string ⟨#[105, 110, 115, 116, 97, 108, 108, 32]⟩, .string ⟨#[114, 101, 109, 111, 118, 101, 32]⟩, .string ⟨#[117, 112, 103, 114, 97, 100, 101, 32]⟩, .string ⟨#[112, 105, 110, 32]⟩] 9)).drew) := ((Below.refl _ _).alloc (Nat.le_refl _) _).drew
        have HFV : Hid (∀ z, Below (W5.alloc (.cells #[.string ⟨#[105, 110, 115, 116, 97, 108, 108, 32]⟩, .string ⟨#[114, 101, 109, 111, 118, 101, 32]⟩, .string ⟨#[117, 112, 103, 114, 97, 100, 101, 32]⟩, .string ⟨#[112, 105, 110, 32]⟩] 9)).drew.heap.size (W5.alloc (.cells #[.string ⟨#[105, 110, 115, 116, 97, 108, 108, 32]⟩, .string ⟨#[114, 101, 109, 111, 118, 101, 32]⟩, .string ⟨#[117, 112, 103, 114, 97, 100, 101, 32]⟩, .string ⟨#[112, 105, 110, 32]⟩] 9)).drew z → z.cell? ⟨W5.heap.size, 3, none⟩ = some (.string ⟨#[112, 105, 110, 32]⟩)) := fun z hb => five_at (u := W5) (below_undrew hb) 3 _ (by rfl)
        obtain ⟨q0, q1, q2⟩ := HQ5.out _ (Below.refl _ _)
        obtain ⟨r0, r1, r2⟩ := HQ5.out _ HAW.out
        obtain ⟨d0, d1, d2⟩ := HQ5.out _ HDW.out
        have gfv := HFV.out _ (Below.refl _ _)
        clear ho5 hp5 hg5 hz5 hal hvl hne HO HB x0 x1 y0 y1 y2 b1 e44 e45
        go_wp2_with fail
        go_region_with (first
          | (go_at_call 23; refine (HTX.out _ (HW5.out.trans (HAW.out.mono HW5.out.size)) (srow_below HR5.out HAW.out)).mono ?_; rintro _ z ⟨rfl, hb⟩; have HZ : Hid (Below W5.heap.size W5 z) := HAW.out.trans (hb.mono HAW.out.size); have hfv := HFV.out z hb; obtain ⟨p0, p1, p2⟩ := HQ5.out _ HZ.out)
          | (go_at_call 23; refine (HTX.out _ (HW5.out.trans (HDW.out.mono HW5.out.size)) (srow_below HR5.out HDW.out)).mono ?_; rintro _ z ⟨rfl, hb⟩; have HZ : Hid (Below W5.heap.size W5 z) := HDW.out.trans (hb.mono HDW.out.size); obtain ⟨p0, p1, p2⟩ := HQ5.out _ HZ.out; obtain ⟨s0, s1, s2⟩ := HQ5.out _ (HZ.out.alloc HZ.out.size (.cells #[.string ⟨#[105, 110, 115, 116, 97, 108, 108, 32]⟩, .string ⟨#[114, 101, 109, 111, 118, 101, 32]⟩, .string ⟨#[117, 112, 103, 114, 97, 100, 101, 32]⟩, .string ⟨#[112, 105, 110, 32]⟩] 9))))
        all_goals
          go_wp2_with fail
          go_roundw
          case rel => exact ⟨i + 1, _, by omega, by go_num, by rw [HT.out], by first | exact qown_below HO5.out HZ.out | exact qown_below HO5.out (HZ.out.alloc HZ.out.size _), by first | exact HB5.out.trans (HZ.out.mono HB5.out.size) | exact HB5.out.trans ((HZ.out.alloc HZ.out.size _).mono HB5.out.size)⟩
          case measure => simp [intOf]; omega
    · obtain rfl : i = p := by omega
      have htk : (kindsQ nm rg ks).take i = kindsQ nm rg ks := List.take_of_length_le (by rw [HLEN.out]; exact Nat.le_refl _)
      have hO := HO.out
      rw [htk] at hO
      rw [htk]
      have HAL := HALL
      have HLE := HLEN
      obtain ⟨L, hL⟩ : ∃ L, kindsQ nm rg ks = L := ⟨_, rfl⟩
      rw [hL] at hO HAL HLE
      rw [hL]
      obtain ⟨CL, dl, hv, hrw, _⟩ := qown_row hO
      rw [HLE.out] at hv
      subst hv
      have HRW := Lib.hid hrw
      obtain ⟨wl, wl2⟩ := want_le HAL.out (by rw [HLE.out]; exact hp40)
      obtain ⟨W, hW⟩ : ∃ W, textQ L = W := ⟨_, rfl⟩
      have HWT := Lib.hid hW
      rw [hW] at wl wl2
      rw [hW]
      have hck := checks_ok HAL.out
      rw [HLE.out] at hck
      have HTX := Lib.hid (askText_any CL i dl L wr (qok_below HW.out HWR.out) HLE.out HRW.out (qfew_ok HAL.out))
      have HPA := Lib.hid fun (u : World) (hb : Below w.heap.size w u) => askParse_any W u (qok_below HW.out hb) (by omega) wl2
      clear hO htk hL hrw wl wl2 hW HO
      by_cases h32 : 32 < i
      · rw [if_pos h32] at hck
        have htx : txtR L = [] := by unfold txtR; rw [hck]; rfl
        have HRD : Hid (readQ W = (0, 4, [])) := by show _ = _; rw [← HWT.out]; exact reads_many HAL.out (by rw [HLE.out]; exact h32) (by rw [HLE.out]; exact hp40)
        have d32 : decide ((32 : Int) < (i : Int)) = true := decide_eq_true (by omega)
        rw [hck, htx] at HTX
        clear hck htx h32
        go_wp2_with fail
        refine HTX.out.mono ?_
        rintro _ v1 ⟨rfl, hb⟩
        have HV1 := Lib.hid (HWR.out.trans (hb.mono HWR.out.size))
        clear hb HTX
        go_wp2_with fail
        refine (HPA.out _ HV1.out).mono ?_
        rintro e v2 h
        obtain ⟨hb, F, n9, c9, rfl, _, _⟩ := parR_get h HRD.out
        have HV2 := Lib.hid (HV1.out.trans (hb.mono HV1.out.size))
        clear h hb HPA HV1
        go_wp2_with fail
        go_ret
        exact ⟨rfl, HV2.out⟩
      · rw [if_neg h32] at hck
        have htx : txtR L = W := by unfold txtR; rw [hck]; exact HWT.out
        have HRD : Hid (readQ W = (0, 0, L)) := by show _ = _; rw [← HWT.out]; exact readQ_text (by rw [hck])
        have d32 : decide ((32 : Int) < (i : Int)) = false := decide_eq_false (by omega)
        have hww : (W == W) = true := by simp
        rw [hck, htx] at HTX
        clear hck htx h32
        go_wp2_with fail
        refine HTX.out.mono ?_
        rintro _ v1 ⟨rfl, hb⟩
        have HV1 := Lib.hid (HWR.out.trans (hb.mono HWR.out.size))
        have HR1 := Lib.hid (qrow_below HRW.out hb)
        clear hb HTX
        go_wp2_with fail
        refine (HPA.out _ HV1.out).mono ?_
        rintro e v2 h
        obtain ⟨hb, F, n9, c9, rfl, hn9, hr9⟩ := parR_get h HRD.out
        obtain rfl : n9 = i := hn9.symm.trans HLE.out
        have HV2 := Lib.hid (HV1.out.trans (hb.mono HV1.out.size))
        have HR2 := Lib.hid (qrow_below HR1.out hb)
        have HF2 := Lib.hid hr9
        clear h hb HPA HV1 hn9 hr9
        go_wp2_with fail
        refine (askSame_any F CL n9 n9 c9 dl L L v2 HLE.out HLE.out HF2.out HR2.out (by omega) (qfew_ok HAL.out) (qfew_ok HAL.out)).mono ?_
        rintro _ v3 ⟨rfl, hb⟩
        rw [decide_eq_true (rfl : L = L)]
        have HV3 := Lib.hid (HV2.out.trans (hb.mono HV2.out.size))
        clear hb
        go_wp2_with fail
        go_ret
        exact ⟨rfl, HV3.out⟩
end Go.Proofs.YtkdildgdodnbbaaGreatDoor
namespace Go.Proofs.YtkdildgdodnbbaaGreatDoor
open Go.ChangeShapes Go.WideShapes Go.RowKit
theorem Ak.open_octets {H : Type} {enc : TypeId × Value → H} {P : Program} {W : World} {b0 : Nat} {t e : TypeId} {v : Value} {d : DataW H} {ps : List MemPlace}
    (ht : P.underlying t = some (.slice e)) (hs : P.underlying e = some (.int .u8)) (ce : P.cellsOf e = 1)
    (hval : Value.okWide P W .any b0 t v) (h : DataW.Trod enc P W 0 (fun _ => true) true t v d ps) :
    ∃ (A : Option Addr) (c : Nat) (l : List UInt8), v = .slice A l.length c ∧ Rg.Row Ak.encU 1 W A l := by
  obtain ⟨a0, l0, k0, rfl⟩ := okWide_slice ht hval
  obtain ⟨fuel, hf⟩ := h
  rcases Go.Deep.open_slice ht hf with ⟨hcs, _⟩ | ⟨a, len, cap, m, n, D, Pl, hcs, _, hl, _, hmm, hx, hi⟩
  · simp [Value.cells] at hcs
    obtain ⟨rfl, rfl, rfl⟩ := hcs
    exact ⟨none, 0, [], rfl, fun h => absurd h (by simp)⟩
  · simp [Value.cells] at hcs
    obtain ⟨rfl, rfl, rfl⟩ := hcs
    simp only [if_true] at hmm
    have each : ∀ i, i < l0 → ∃ s : UInt8, Rg.At Ak.encU W (a.add (i * 1)) s ∧ (a.add (i * 1)).block < W.heap.size := fun i hil => by
      obtain ⟨cs', hc, ht'⟩ := hi i (by omega)
      rw [ce] at hc
      obtain ⟨x, e0, _, wx⟩ := DataW.trod_int hs ht'
      obtain ⟨_, hcl2, hat⟩ := World.cells?_some hc
      have c0 := (hat 0 (by omega)).trans (show cs'[0]? = some (.int .u8 x) by rw [e0]; rfl)
      have ci := Ak.cell_inZ c0
      rw [Rs.add_block] at ci
      have hx2 : 0 ≤ x ∧ x ≤ 255 := by have h : (decide ((0 : Int) ≤ x) && decide (x ≤ 255)) = true := wx; simpa using h
      refine ⟨UInt8.ofNat x.toNat, fun j u hu => ?_, ci⟩
      match j with
      | 0 =>
        have e : ((UInt8.ofNat x.toNat).toNat : Int) = x := by rw [UInt8.toNat_ofNat']; omega
        cases hu; rw [if_pos rfl]
        show _ = some (Value.int .u8 ((UInt8.ofNat x.toNat).toNat : Int))
        rw [e]; exact c0
      | j + 1 => simp [Ak.encU] at hu
    obtain ⟨f, hf2⟩ := Go.Deep.choose_lt each
    have hlen : ((List.range l0).map f).length = l0 := by simp
    refine ⟨some a, k0, (List.range l0).map f, by rw [hlen], fun h => ?_⟩
    rw [hlen] at h
    refine ⟨a, rfl, ?_, fun i hi2 => ?_⟩
    · have := (hf2 0 h).2
      rwa [Rs.add_block] at this
    · rw [hlen] at hi2
      have := (hf2 i hi2).1
      simpa using this
end Go.Proofs.YtkdildgdodnbbaaGreatDoor
