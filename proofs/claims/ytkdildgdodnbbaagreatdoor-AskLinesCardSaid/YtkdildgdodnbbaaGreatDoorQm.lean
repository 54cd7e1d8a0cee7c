/- A range of cuts. Both, either, none of ranges: the program's And, Or, Not, All. Has: is a version in a range? Has, walked through slices.ContainsFunc. Has. -/
import Derived.Test.YtkdildgdodnbbaaGreatDoorGh
import Derived.Defers
namespace Go.Proofs.YtkdildgdodnbbaaGreatDoor
open Go.RowKit
attribute [local go_sem ↓] Go.wp_at_zero Go.wp_at_succ

theorem spanOf_spOf {p : Rm.P Rs.Cut} (h : Rs.Ok2 p) : (!(Rs.txt p.lo).isEmpty && sideI p.lo == -1) = Rs.loI p.lo ∧ (!(Rs.txt p.hi).isEmpty && sideI p.hi == 1) = Rs.aft p.hi := by
  obtain ⟨lo, hi⟩ := p
  obtain ⟨h1, h2⟩ := h
  constructor
  · cases lo with
    | bot => rfl
    | top => exact h1.elim
    | pos v a => show (!v.isEmpty && (if a then (1 : Int) else -1) == -1) = !a; rw [Rs.own_ne h1]; cases a <;> rfl
  · cases hi with
    | bot => exact h2.elim
    | top => rfl
    | pos v a => show (!v.isEmpty && (if a then (1 : Int) else -1) == 1) = a; rw [Rs.own_ne h2]; cases a <;> rfl
theorem own_le {v : List UInt8} (h : Rs.Own v) : v.length ≤ 40 := (Vm.ver_of h.1).1
theorem txt_le {c : Rs.Cut} (h : Rs.LoOk c ∨ Rs.HiOk c) : (Rs.txt c).length ≤ 281474976710656 := by
  cases c with
  | bot => simp [Rs.txt]
  | top => simp [Rs.txt]
  | pos v a => have : Rs.Own v := by rcases h with h | h <;> exact h
               have := own_le this
               show v.length ≤ _; omega
theorem cuts_at : ∀ (rs : List (Rm.P Rs.Cut)) (k : Nat) (h : k < rs.length), (Rm.cuts rs)[k * 2]? = some rs[k].lo ∧ (Rm.cuts rs)[k * 2 + 1]? = some rs[k].hi
  | [], k, h => absurd h (by simp)
  | p :: rs, 0, _ => ⟨rfl, rfl⟩
  | p :: rs, k + 1, h => by
    have := cuts_at rs k (by simpa using h)
    rw [Rm.cuts_cons, show (k + 1) * 2 = k * 2 + 1 + 1 from by omega]
    exact this
def RangeRet (w : World) (l : List Rs.Sp) (e : Ending) (w' : World) : Prop := ∃ v, e = .returned v ∧ POwn w' w.heap.size v l ∧ Below w.heap.size w w'
theorem spans_snoc (rs : List (Rm.P Rs.Cut)) (k : Nat) (h : k < rs.length) : (rs.take (k + 1)).map Rs.spOf = (rs.take k).map Rs.spOf ++ [Rs.spOf rs[k]] := by
  rw [List.take_succ_eq_append_getElem h, List.map_append]; rfl
theorem newsS (w : World) (s : Rs.Sp) (T : TypeId) : ∀ j u, (Rg.flat Rs.spC [s])[j]? = some u → (w.alloc (.cells #[.string ⟨s.lo.toArray⟩, .string ⟨s.hi.toArray⟩, .bool s.li, .bool s.hn] T)).cell? ((⟨w.heap.size, 0, none⟩ : Addr).add j) = some u :=
  Rg.news_new w T _ _ (by rfl)
theorem spanOfP_any (p : Rm.P Rs.Cut) (w : World) (h : Rs.Ok2 p) :
    Calls Tryz.prog 167 #[.agg #[.string ⟨(Rs.txt p.lo).toArray⟩, .int .i64 (sideI p.lo)], .agg #[.string ⟨(Rs.txt p.hi).toArray⟩, .int .i64 (sideI p.hi)]] w fun e w' => e = .returned (.agg #[.string ⟨(Rs.spOf p).lo.toArray⟩, .string ⟨(Rs.spOf p).hi.toArray⟩, .bool (Rs.spOf p).li, .bool (Rs.spOf p).hn]) ∧ Below w.heap.size w w' := by
  have := spanOf_any (Rs.txt p.lo) (sideI p.lo) (Rs.txt p.hi) (sideI p.hi) w (txt_le (Or.inl h.1)) (txt_le (Or.inr h.2))
  rw [(spanOf_spOf h).1, (spanOf_spOf h).2] at this
  exact this
set_option maxRecDepth 100000 in
set_option maxHeartbeats 1600000 in
theorem rangeOf_any (A : Option Addr) (n c : Nat) (rs : List (Rm.P Rs.Cut)) (w : World) (hn : (Rm.cuts rs).length = n) (hr : CRow w A (Rm.cuts rs)) (ho : ∀ p ∈ rs, Rs.Ok2 p) (hl : rs.length ≤ 1000) :
    Calls Tryz.prog 149 #[.slice A n c] w (RangeRet w ((rs.take 64).map Rs.spOf)) := by
  have HR := Lib.hid hr
  have HO := Lib.hid ho
  have n1 : n ≤ rs.length * 2 := by rw [← hn, Rm.cuts_len]; exact Nat.le_refl _
  have n2 : rs.length * 2 ≤ n := by rw [← hn, Rm.cuts_len]; exact Nat.le_refl _
  obtain ⟨R, hR⟩ : ∃ R, (rs.take 64).map Rs.spOf = R := ⟨_, rfl⟩
  rw [hR]
  have HRR := Lib.hid hR
  clear hr ho hn hR
  go_enter Tryz.func149, Tryz.ntmps149
  go_wp2_with fail
  go_loopw [3, 4] (fun v i wr => ∃ k j : Nat, k ≤ rs.length ∧ k ≤ 64 ∧ j ≤ k * 2 ∧ k * 2 ≤ j ∧ i = .int .i64 j ∧ Hid (POwn wr w.heap.size v ((rs.take k).map Rs.spOf)) ∧ Hid (Below w.heap.size w wr ∧ w.heap.size ≤ wr.heap.size)) (fun _ i _ => n - (intOf i).toNat)
  case atStart => exact ⟨0, 0, Nat.zero_le _, Nat.zero_le _, Nat.le_refl _, Nat.le_refl _, rfl, Rg.own_nil _ _ _, Below.refl _ _, Nat.le_refl _⟩
  case round =>
    obtain ⟨k, j, hk, h64, j1, j2, rfl, HP, HB⟩ := hrel
    obtain ⟨C, cc, hv, _, _, _⟩ := Rg.row_own fitsS HP.out
    rw [show ((rs.take k).map Rs.spOf).length = k from by rw [List.length_map, List.length_take]; omega] at hv
    subst hv
    by_cases hlt : k < rs.length
    · by_cases hl64 : k < 64
      · have hat := cuts_at rs k hlt
        have hjn : j < (Rm.cuts rs).length := by rw [Rm.cuts_len]; omega
        have hjn2 : j + 1 < (Rm.cuts rs).length := by rw [Rm.cuts_len]; omega
        have hej : j = k * 2 := by omega
        obtain ⟨ad, x, rfl, hx, hbl, hcx⟩ := Rg.row_at (Rg.row_below HR.out HB.out.1) j hjn
        obtain ⟨ad2, y, had, hy, _, hcy⟩ := Rg.row_at (Rg.row_below HR.out HB.out.1) (j + 1) hjn2
        obtain rfl := Option.some.inj had
        have ex : x = rs[k].lo := by
          have := hat.1; rw [← hej, List.getElem?_eq_getElem hjn, hx] at this; exact Option.some.inj this
        have ey : y = rs[k].hi := by
          have := hat.2; rw [← hej, List.getElem?_eq_getElem hjn2, hy] at this; exact Option.some.inj this
        rw [ex] at hcx
        rw [ey] at hcy
        have hok := HO.out _ (List.getElem_mem hlt)
        have HT := Lib.hid (spans_snoc rs k hlt)
        generalize rs[k] = p at *
        obtain ⟨c0, c1⟩ := cutAt hcx
        obtain ⟨d0, d1⟩ := cutAt hcy
        clear hat hx hy ex ey hcx hcy had hej
        have HK := Lib.hid hok
        clear hok
        have HST : Stable (fun u => True ∧ POwn u w.heap.size (.slice C k cc) ((rs.take k).map Rs.spOf)) := and_stable (fun _ _ _ _ => trivial) (fun _ _ h hb => Rg.own_below h hb)
        have HI : Hid (Kp (fun u => True ∧ POwn u w.heap.size (.slice C k cc) ((rs.take k).map Rs.spOf)) wr wr.drew) := ⟨⟨trivial, Rg.own_below HP.out (Below.refl _ _).drew⟩, Nat.le_refl _, (Below.refl _ _).drew⟩
        have hsz : ((rs.take k).map Rs.spOf).length + 1 ≤ 1000000 := by rw [List.length_map, List.length_take]; omega
        have s1 : IntKind.i64.wrap ((j : Int) + 1) = (j : Int) + 1 := IntWalk.i64_in _ (by omega)
        have s2 : (0 : Int) ≤ (j : Int) + 1 := by omega
        have s3 : ((j : Int) + 1).toNat = j + 1 := by omega
        have s4 : (j : Int) + 1 < (n : Int) := by omega
        have s5 : (j : Int) < (n : Int) := by omega
        have s6 : (0 : Int) ≤ (j : Int) := by omega
        go_wp2_with fail
        go_region_law (first
          | (go_simp; go_at_call 167; refine (spanOfP_any p _ HK.out).mono ?_; rintro _ w4 ⟨rfl, hb⟩; have HIW := kp_step HST hb (by assumption); clear hb)
          | (refine Rg.step_app sliceS (by rfl) (.tmp 16) (.tmp 27) (by rfl) w.heap.size (.slice C k cc) ((rs.take k).map Rs.spOf) [Rs.spOf p] (by rfl) (app_own (by assumption)) _ _ (by rfl) (newsS _ _ _) (Nat.zero_lt_succ _) hsz (app_size (by assumption) HB.out.2) ?_; intro v5 W5 ho5 hg5 hz5; have HB5 := app_done HB (by assumption) hg5))
        all_goals
          have HO5 : Hid (POwn W5 w.heap.size v5 ((rs.take (k + 1)).map Rs.spOf)) := by show POwn _ _ _ _; rw [HT.out]; exact ho5
          clear ho5 hg5 hz5 s1 s3
          go_wp2_with fail
          go_roundw
          case rel => exact ⟨k + 1, j + 2, by omega, by omega, by omega, by omega, by go_num, HO5, HB5⟩
          case measure => simp [intOf]; omega
      · obtain rfl : k = 64 := by omega
        have s4 : (j : Int) < (n : Int) := by omega
        have HF : Hid (POwn wr w.heap.size (.slice C 64 cc) R) := by show POwn _ _ _ _; rw [← HRR.out]; exact HP.out
        go_wp2_with fail
        go_ret
        exact ⟨_, rfl, HF.out, HB.out.1⟩
    · have s4 : ¬ (j : Int) < (n : Int) := by omega
      have HF : Hid (POwn wr w.heap.size (.slice C k cc) R) := by
        show POwn _ _ _ _
        have := HP.out
        rw [← HRR.out]
        rw [List.take_of_length_le (by omega)] at this ⊢
        exact this
      clear HP
      go_wp2_with fail
      go_ret
      exact ⟨.slice C k cc, rfl, HF.out, HB.out.1⟩
end Go.Proofs.YtkdildgdodnbbaaGreatDoor
namespace Go.Proofs.YtkdildgdodnbbaaGreatDoor
open Go.RowKit Rs
attribute [local go_sem ↓] Go.wp_at_zero Go.wp_at_succ

theorem cuts_good {r : List (Rm.P Cut)} (h : Rs.Good r) : cutsS (r.map spOf) = Rm.cuts r ∧ (∀ c ∈ Rm.cuts r, CutG c) := by
  constructor
  · rw [cutsS_cuts, List.map_map]
    congr 1
    conv => rhs; rw [← List.map_id r]
    exact List.map_congr_left fun p hp => spOf_piece (h.2.1 p hp)
  · intro c hc
    obtain ⟨p, hp, hm⟩ := List.mem_flatMap.1 hc
    have := h.2.1 p hp
    simp only [List.mem_cons, List.not_mem_nil, or_false] at hm
    rcases hm with rfl | rfl
    · exact cutG_lo this.1
    · exact cutG_hi this.2
theorem srow_set {w : World} {C : Option Addr} {l : List Sp} (h : SRow w C l) {b j : Nat} (v : Value) (hb : ∀ a, C = some a → a.block ≠ b) : SRow (w.setCell ⟨b, j, none⟩ v) C l := fun h0 => by
  obtain ⟨a, e, hl, hc⟩ := h h0
  have hne := hb a e
  have far : ∀ p : Addr, p.block = a.block → (w.setCell ⟨b, j, none⟩ v).cell? p = w.cell? p := fun p hp => World.cell?_setCell_far w ⟨b, j, none⟩ p v (fun e => hne (by rw [← hp, ← e]))
  refine ⟨a, e, by simpa using hl, fun i hi => ?_⟩
  obtain ⟨s0, s1, s2, s3⟩ := hc i hi
  refine ⟨?_, ?_, ?_, ?_⟩
  · rw [far _ (by rw [add_block, add_block])]; exact s0
  · rw [far _ (by rw [add_block, add_block])]; exact s1
  · rw [far _ (by rw [add_block, add_block])]; exact s2
  · rw [far _ (by rw [add_block, add_block])]; exact s3
def CutsOf (w' : World) (r : List (Rm.P Cut)) (A : Option Addr) (c : Nat) : Prop := CRow w' A (Rm.cuts r) ∧ (Rm.cuts r).length ≤ c ∧ c ≤ maxLen
theorem cutsG_any (A : Option Addr) (n c : Nat) (r : List (Rm.P Cut)) (w : World) (hn : (r.map spOf).length = n) (hr : SRow w A (r.map spOf)) (hg : Rs.Good r) :
    Calls Tryz.prog 151 #[.slice A n c] w fun e w' => (∃ B d, e = .returned (.slice B (Rm.cuts r).length d) ∧ CutsOf w' r B d) ∧ Below w.heap.size w w' := by
  subst hn
  refine (cutsIn_any A c _ w hr (by rw [List.length_map]; have := hg.2.2; omega)).mono ?_
  rintro e w' ⟨v, rfl, ho, hb⟩
  rw [(cuts_good hg).1] at ho
  obtain ⟨B, d, rfl, h1, h2, h3⟩ := Rg.row_own fitsC ho
  exact ⟨⟨B, d, rfl, h1, h2, h3⟩, hb⟩
theorem cutsOf_below {w w' : World} {r : List (Rm.P Cut)} {A : Option Addr} {c : Nat} (h : CutsOf w r A c) (hb : Below w.heap.size w w') : CutsOf w' r A c := ⟨Rg.row_below h.1 hb, h.2⟩
/-- combine, on the cuts of two ranges. -/
theorem combineG_any (f : FuncId) (op : Bool → Bool → Bool) (hop : ∀ x y W, Calls Tryz.prog f #[.bool x, .bool y] W fun e w' => e = .returned (.bool (op x y)) ∧ W = w') (hcf : ∀ (args : Array Value) (W : World), (callFunc f args).run Tryz.prog W = .ok (.enter f args) W) (h0 : op false false = false)
    (A B : Option Addr) (ca cb : Nat) (a b r : List (Rm.P Cut)) (w : World) (hw : MaxOk w) (ha : CutsOf w a A ca) (hb : CutsOf w b B cb) (ga : Rs.Good a) (gb : Rs.Good b) (hr : Rm.comb Ln op (Rm.cuts a) (Rm.cuts b) false false = Rm.cuts r) :
    Calls Tryz.prog 150 #[.slice A (Rm.cuts a).length ca, .slice B (Rm.cuts b).length cb, .func (.func f) #[] #[]] w fun e w' => (∃ C d, e = .returned (.slice C (Rm.cuts r).length d) ∧ CutsOf w' r C d) ∧ Below w.heap.size w w' := by
  have la : (Rm.cuts a).length ≤ 10000 := by rw [Rm.cuts_len]; have := ga.2.2; omega
  have lb : (Rm.cuts b).length ≤ 10000 := by rw [Rm.cuts_len]; have := gb.2.2; omega
  refine (combine_any f op hop hcf h0 A B ca cb _ _ w hw ha.1 hb.1 (cuts_good ga).2 (cuts_good gb).2 la lb ha.2.1 hb.2.1 ha.2.2 hb.2.2).mono ?_
  rintro e w' ⟨v, rfl, ho, hbl⟩
  rw [hr] at ho
  obtain ⟨C, d, rfl, h1, h2, h3⟩ := Rg.row_own fitsC ho
  exact ⟨⟨C, d, rfl, h1, h2, h3⟩, hbl⟩
/-- What And, Or, Not, Of, Norm hand back: a row of Spans. -/
def SpansRet (w : World) (l : List Sp) (e : Ending) (w' : World) : Prop := (∃ C d, e = .returned (.slice C l.length d) ∧ SRow w' C l ∧ l.length ≤ d ∧ ∀ a, C = some a → w.heap.size ≤ a.block) ∧ Below w.heap.size w w'
theorem srow_of {w : World} {B : Nat} {v : Value} {l : List Sp} (h : POwn w B v l) : ∃ C d, v = .slice C l.length d ∧ SRow w C l ∧ l.length ≤ d ∧ ∀ a, C = some a → B ≤ a.block := by
  obtain ⟨C, d, hv, hr⟩ := srow_own (T := 83) h
  obtain ⟨C2, d2, hv2, _, h3, _⟩ := Rg.row_own fitsS h
  rw [hv] at hv2
  cases hv2
  exact ⟨C, d, hv, hr, h3, fun a ha => by subst ha; exact (Rg.own_lt h a.block (by rw [hv]; rfl)).1⟩
theorem rangeG_any (A : Option Addr) (c : Nat) (r : List (Rm.P Cut)) (w : World) (hr : CutsOf w r A c) (ho : ∀ p ∈ r, Ok2 p) (hl : r.length ≤ 1000) (R : List Sp) (hR : (r.take 64).map spOf = R) :
    Calls Tryz.prog 149 #[.slice A (Rm.cuts r).length c] w (SpansRet w R) := by
  subst hR
  refine (rangeOf_any A _ c r w rfl hr.1 ho hl).mono ?_
  rintro e w' ⟨v, rfl, hp, hb⟩
  obtain ⟨C, d, rfl, h1, h2⟩ := srow_of hp
  exact ⟨⟨C, d, rfl, h1, h2⟩, hb⟩
set_option maxHeartbeats 800000 in
theorem and_any (A B : Option Addr) (n m ca cb : Nat) (a b : List (Rm.P Cut)) (w : World) (hw : MaxOk w) (hn : (a.map spOf).length = n) (hm : (b.map spOf).length = m) (ha : SRow w A (a.map spOf)) (hb : SRow w B (b.map spOf)) (ga : Rs.Good a) (gb : Rs.Good b) :
    Calls Tryz.prog 154 #[.slice A n ca, .slice B m cb] w (SpansRet w ((andR a b).map spOf)) := by
  have HM := Lib.hid hw
  have HA := Lib.hid ha
  have HB := Lib.hid hb
  have HG := Lib.hid ga
  have HH := Lib.hid gb
  have HN := Lib.hid hn
  have HMM := Lib.hid hm
  have hl : (Rm.andK Ln a b).length ≤ 1000 := by have := Rm.andK_len Ln a b; have := ga.2.2; have := gb.2.2; omega
  have HL := Lib.hid hl
  clear hw ha hb ga gb hn hm hl
  obtain ⟨R, hR⟩ : ∃ R, (andR a b).map spOf = R := ⟨_, rfl⟩
  rw [hR]
  have HR := Lib.hid hR
  clear hR
  go_enter Tryz.func154, Tryz.ntmps154
  go_wp2_with fail
  refine (cutsG_any A n ca a _ HN.out HA.out HG.out).mono ?_
  rintro _ w1 ⟨⟨C, d, rfl, hc⟩, hb1⟩
  have HC := Lib.hid hc
  have HB1 := Lib.hid hb1
  clear hc hb1
  go_wp2_with fail
  refine (cutsG_any B m cb b _ HMM.out (srow_below HB.out HB1.out) HH.out).mono ?_
  rintro _ w2 ⟨⟨D, f, rfl, hd⟩, hb2⟩
  have HD := Lib.hid hd
  have HC2 := Lib.hid (cutsOf_below HC.out hb2)
  have HB2 := Lib.hid (HB1.out.trans (hb2.mono HB1.out.size))
  clear hd hb2
  go_wp2_with fail
  refine (combineG_any 172 (fun x y => x && y) both_any (fun _ _ => by kernel_rfl) rfl C D d f a b (Rm.andK Ln a b) _ (maxOk_below HM.out HB2.out) HC2.out HD.out HG.out HH.out (Rm.comb_and Ln HG.out.1 HH.out.1)).mono ?_
  rintro _ w3 ⟨⟨E, g, rfl, he⟩, hb3⟩
  have HE := Lib.hid he
  have HB3 := Lib.hid (HB2.out.trans (hb3.mono HB2.out.size))
  clear he hb3
  go_wp2_with fail
  refine (rangeG_any E g (Rm.andK Ln a b) _ HE.out (ok2_and HG.out.2.1 HH.out.2.1) HL.out R HR.out).mono ?_
  rintro _ w4 ⟨⟨F, i, rfl, hf⟩, hb4⟩
  have HF := Lib.hid hf
  have HB4 := Lib.hid (HB3.out.trans (hb4.mono HB3.out.size))
  clear hf hb4
  go_wp2_with fail
  go_ret
  exact ⟨⟨F, i, rfl, HF.out.1, HF.out.2.1, fun a ha => Nat.le_trans HB3.out.size (HF.out.2.2 a ha)⟩, HB4.out⟩
set_option maxHeartbeats 800000 in
theorem or_any (A B : Option Addr) (n m ca cb : Nat) (a b : List (Rm.P Cut)) (w : World) (hw : MaxOk w) (hn : (a.map spOf).length = n) (hm : (b.map spOf).length = m) (ha : SRow w A (a.map spOf)) (hb : SRow w B (b.map spOf)) (ga : Rs.Good a) (gb : Rs.Good b) :
    Calls Tryz.prog 129 #[.slice A n ca, .slice B m cb] w (SpansRet w ((orR a b).map spOf)) := by
  have HM := Lib.hid hw
  have HA := Lib.hid ha
  have HB := Lib.hid hb
  have HG := Lib.hid ga
  have HH := Lib.hid gb
  have HN := Lib.hid hn
  have HMM := Lib.hid hm
  have hl : (Rm.orK Ln a b).length ≤ 1000 := by have := lenO ga.1 gb.1; have := ga.2.2; have := gb.2.2; omega
  have HL := Lib.hid hl
  clear hw ha hb ga gb hn hm hl
  obtain ⟨R, hR⟩ : ∃ R, (orR a b).map spOf = R := ⟨_, rfl⟩
  rw [hR]
  have HR := Lib.hid hR
  clear hR
  go_enter Tryz.func129, Tryz.ntmps129
  go_wp2_with fail
  refine (cutsG_any A n ca a _ HN.out HA.out HG.out).mono ?_
  rintro _ w1 ⟨⟨C, d, rfl, hc⟩, hb1⟩
  have HC := Lib.hid hc
  have HB1 := Lib.hid hb1
  clear hc hb1
  go_wp2_with fail
  refine (cutsG_any B m cb b _ HMM.out (srow_below HB.out HB1.out) HH.out).mono ?_
  rintro _ w2 ⟨⟨D, f, rfl, hd⟩, hb2⟩
  have HD := Lib.hid hd
  have HC2 := Lib.hid (cutsOf_below HC.out hb2)
  have HB2 := Lib.hid (HB1.out.trans (hb2.mono HB1.out.size))
  clear hd hb2
  go_wp2_with fail
  refine (combineG_any 152 (fun x y => x || y) either_any (fun _ _ => by kernel_rfl) rfl C D d f a b (Rm.orK Ln a b) _ (maxOk_below HM.out HB2.out) HC2.out HD.out HG.out HH.out (Rm.comb_or Ln HG.out.1 HH.out.1)).mono ?_
  rintro _ w3 ⟨⟨E, g, rfl, he⟩, hb3⟩
  have HE := Lib.hid he
  have HB3 := Lib.hid (HB2.out.trans (hb3.mono HB2.out.size))
  clear he hb3
  go_wp2_with fail
  refine (rangeG_any E g (Rm.orK Ln a b) _ HE.out (ok2_or HG.out.2.1 HH.out.2.1) HL.out R HR.out).mono ?_
  rintro _ w4 ⟨⟨F, i, rfl, hf⟩, hb4⟩
  have HF := Lib.hid hf
  have HB4 := Lib.hid (HB3.out.trans (hb4.mono HB3.out.size))
  clear hf hb4
  go_wp2_with fail
  go_ret
  exact ⟨⟨F, i, rfl, HF.out.1, HF.out.2.1, fun a ha => Nat.le_trans HB3.out.size (HF.out.2.2 a ha)⟩, HB4.out⟩
theorem all_any (w : World) : Calls Tryz.prog 22 #[] w (SpansRet w (allR.map spOf)) := by
  go_enter Tryz.func22, Tryz.ntmps22
  go_wp2_with fail
  go_ret
  refine ⟨⟨some ⟨w.heap.size, 0, none⟩, 1, rfl, fun _ => ⟨_, rfl, by simp, fun i hi => ?_⟩, Nat.le_refl _, fun a ha => by cases ha; exact Nat.le_refl _⟩, (Below.refl _ _).alloc (Nat.le_refl _) _⟩
  have hi2 : i < 1 := hi
  obtain rfl : i = 0 := by omega
  have e : ∀ j, ((⟨w.heap.size, 0, none⟩ : Addr).add (0 * 4)).add j = ⟨w.heap.size, j, none⟩ := fun j => by
    rw [Nat.zero_mul, Rg.add_zero]; unfold Addr.add; split <;> simp_all
  refine ⟨?_, ?_, ?_, ?_⟩ <;> (rw [e, World.cell?_alloc_mark]; rfl)
end Go.Proofs.YtkdildgdodnbbaaGreatDoor
namespace Go.Proofs.YtkdildgdodnbbaaGreatDoor
open Go.RowKit Rs
attribute [local go_sem ↓] Go.wp_at_zero Go.wp_at_succ

def inLo (c : Cut) (v : List UInt8) : Bool := match c with | .pos w a => decide (0 < Vm.cmpV v w) || (decide (Vm.cmpV v w = 0) && !a) | _ => true
def inHi (c : Cut) (v : List UInt8) : Bool := match c with | .pos w a => decide (Vm.cmpV v w < 0) || (decide (Vm.cmpV v w = 0) && a) | _ => true
theorem inS_two (p : Rm.P Cut) (v : List UInt8) : inS p v = (inLo p.lo v && inHi p.hi v) := rfl
theorem ver_ne {v : List UInt8} (h : Vm.check v = 0) : v.isEmpty = false := by
  cases v with
  | nil => revert h; decide
  | cons a l => rfl
theorem inLo_cmp {lo : List UInt8} (li : Bool) {v : List UInt8} (hv : Vm.check v = 0) : decide (cmpVS lo (sLo lo li) v (-1) ≤ 0) = inLo (loC lo li) v := by
  unfold cmpVS sLo loC endI
  rw [ver_ne hv]
  cases lo.isEmpty
  · have r := Vm.cmpV_range lo v
    have a := Vm.cmpV_cmp.1 lo v
    show decide (Vm.both (Vm.cmpV lo v) (Vm.sgn (if (false || li) = true then -1 else 1) (-1)) ≤ 0) = (decide (0 < Vm.cmpV v lo) || (decide (Vm.cmpV v lo = 0) && !(!li)))
    rcases (show Vm.cmpV lo v = -1 ∨ Vm.cmpV lo v = 0 ∨ Vm.cmpV lo v = 1 by omega) with h | h | h <;> rw [h] at a ⊢ <;> rw [a] <;> cases li <;> rfl
  · rfl
theorem inHi_cmp {hi : List UInt8} (hn : Bool) {v : List UInt8} (hv : Vm.check v = 0) : decide (cmpVS v 1 hi (sHi hi hn) ≤ 0) = inHi (hiC hi hn) v := by
  unfold cmpVS sHi hiC endI
  rw [ver_ne hv]
  cases hi.isEmpty
  · have r := Vm.cmpV_range v hi
    show decide (Vm.both (Vm.cmpV v hi) (Vm.sgn 1 (if (false || hn) = true then 1 else -1)) ≤ 0) = (decide (Vm.cmpV v hi < 0) || (decide (Vm.cmpV v hi = 0) && hn))
    rcases (show Vm.cmpV v hi = -1 ∨ Vm.cmpV v hi = 0 ∨ Vm.cmpV v hi = 1 by omega) with h | h | h <;> rw [h] <;> cases hn <;> rfl
  · rfl
end Go.Proofs.YtkdildgdodnbbaaGreatDoor
namespace Go.Proofs.YtkdildgdodnbbaaGreatDoor
open Go.RowKit Rs
attribute [local go_sem ↓] Go.wp_at_zero Go.wp_at_succ

def IdxRet (w : World) (b : Bool) (e : Ending) (w' : World) : Prop := (∃ n : Int, e = .returned (.int .i64 n) ∧ decide (0 ≤ n) = b) ∧ Below w.heap.size w w'
theorem spAt_spOf {w : World} {p : Addr} {m : Nat} {q : Rm.P Cut} (h : SpAt w (p.add m) (spOf q)) : At4 w (p.add m) (spOf q).lo (spOf q).hi (spOf q).li (spOf q).hn := at4_of h
theorem spOf_bounds {p : Rm.P Cut} (h : Ok2 p) : Rs.bound (spOf p).lo = 0 ∧ Rs.bound (spOf p).hi = 0 ∧ toP (spOf p).lo (spOf p).hi (spOf p).li (spOf p).hn = p :=
  ⟨txt_bound (Or.inl h.1), txt_bound (Or.inr h.2), spOf_piece h⟩
theorem row_piece {w : World} {A : Option Addr} {r : List (Rm.P Cut)} (h : SRow w A (r.map spOf)) (k : Nat) (hk : k < r.length) : ∃ ad, A = some ad ∧ ad.block < w.heap.size ∧ At4 w (ad.add (k * 4)) (spOf r[k]).lo (spOf r[k]).hi (spOf r[k]).li (spOf r[k]).hn := by
  obtain ⟨ad, e, hl, hc⟩ := h (by rw [List.length_map]; omega)
  have := hc k (by rw [List.length_map]; exact hk)
  rw [List.getElem_map] at this
  exact ⟨ad, e, hl, at4_of this⟩
theorem any_snoc (r : List (Rm.P Cut)) (k : Nat) (h : k < r.length) (f : Rm.P Cut → Bool) : (r.take (k + 1)).any f = ((r.take k).any f || f r[k]) := by
  rw [List.take_succ_eq_append_getElem h, List.any_append]; simp
theorem any_yes {r : List (Rm.P Cut)} {k : Nat} (h : k < r.length) {f : Rm.P Cut → Bool} (hf : f r[k] = true) : r.any f = true := List.any_eq_true.2 ⟨_, List.getElem_mem h, hf⟩
end Go.Proofs.YtkdildgdodnbbaaGreatDoor
namespace Go.Proofs.YtkdildgdodnbbaaGreatDoor
open Go.RowKit Rs
attribute [local go_sem ↓] Go.wp_at_zero Go.wp_at_succ

end Go.Proofs.YtkdildgdodnbbaaGreatDoor
