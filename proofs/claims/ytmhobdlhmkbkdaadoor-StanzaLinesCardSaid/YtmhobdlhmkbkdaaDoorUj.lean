/- The law's own functions on stanzas, walked: To, Of, Fields, same. -/
import Derived.Test.YtmhobdlhmkbkdaaDoorUi
import Derived.Test.YtmhobdlhmkbkdaaDoorUa
import Derived.Laws.StructEq
namespace Go.Proofs.YtmhobdlhmkbkdaaDoor
open Go.RowKit Go.Maps Sz
attribute [local go_sem ↓] Go.wp_at_zero Go.wp_at_succ
theorem Sz.f3_low {w : World} {A : Option Addr} {l : List Fld} (h : Rg.Row encF 3 w A l) {k : Nat} (hk : k < l.length) {ad : Addr} {f : Fld} (hA : A = some ad) (hf : l[k] = f) {u : World} (hb : Below w.heap.size w u) :
    u.cell? (ad.add (k * 3)) = some (.string ⟨f.key.toArray⟩) ∧ u.cell? ⟨(ad.add (k * 3)).block, (ad.add (k * 3)).off + 1, none⟩ = some (.string ⟨f.val.toArray⟩) ∧ u.cell? ⟨(ad.add (k * 3)).block, (ad.add (k * 3)).off + 2, none⟩ = some (.int .i64 f.line) := by
  obtain ⟨ad2, e, _, h1, h2, h3⟩ := field_at (Rg.row_below h hb) k hk
  rw [hA] at e; cases e
  rw [hf] at h1 h2 h3
  exact ⟨h1, h2, h3⟩
/-- A struct type of two strings and an int. -/
def Sz.FldT (T : TypeId) : Prop := (Tryd.prog.fieldsOf T).toList.map (fun f => (f.name == "_", f.type, f.offset)) = [(false, 9, 0), (false, 9, 1), (false, 3, 2)] ∧ Tryd.prog.underlying T = some (.struct (Tryd.prog.fieldsOf T)) ∧ Tryd.prog.stoodInHeld T = false ∧ Tryd.prog.eqGuardType Tryd.prog.depth T = false
theorem Sz.fldR : FldT 46 := ⟨by kernel_rfl, by kernel_rfl, by kernel_rfl, by kernel_rfl⟩
theorem Sz.equal_fld {T : TypeId} (h : FldT T) (k v k' v' : List UInt8) (n n' : Int) (w : World) :
    (Op.equalIn 10000 T (.agg #[.string ⟨k.toArray⟩, .string ⟨v.toArray⟩, .int .i64 n]) (.agg #[.string ⟨k'.toArray⟩, .string ⟨v'.toArray⟩, .int .i64 n'])).run Tryd.prog w = .ok (decide (Fld.mk k v n = ⟨k', v', n'⟩)) w := by
  obtain ⟨h1, h2, h3, h4⟩ := h
  rw [run_equalIn_struct w 9999 T _ _ h2 h3]
  generalize (Tryd.prog.fieldsOf T).toList = fs at *
  have hl : fs.length = 3 := by have := congrArg List.length h1; simpa using this
  match fs, hl with
  | [f0, f1, f2], _ =>
    simp at h1
    obtain ⟨⟨n0, t0, o0⟩, ⟨n1, t1, o1⟩, ⟨n2, t2, o2⟩⟩ := h1
    simp only [Op.eqFields, n0, n1, n2, t0, t1, t2, o0, o1, o2, ne_eq, not_false_eq_true, if_true]
    simp [go_sem]
    by_cases e0 : k = k' <;> by_cases e1 : v = v' <;> by_cases e2 : n = n' <;> simp [e0, e1, e2]
theorem Sz.neq_fld {T : TypeId} (h : FldT T) (k v k' v' : List UInt8) (n n' : Int) (w : World) :
    (binOp .neq T (.agg #[.string ⟨k.toArray⟩, .string ⟨v.toArray⟩, .int .i64 n]) (.agg #[.string ⟨k'.toArray⟩, .string ⟨v'.toArray⟩, .int .i64 n'])).run Tryd.prog w = .ok (.bool (!decide (Fld.mk k v n = ⟨k', v', n'⟩))) w := by
  rw [run_neq_struct, equal_fld h]; rfl
theorem Sz.grd_fld {T : TypeId} (h : FldT T) (op : BinOp) (x y : Operand) (xs ys : Array Value) (w : World) : (eqGuard op T x y (.agg xs) (.agg ys)).run Tryd.prog w = .ok () w := run_eqGuard_agg w op T x y xs ys h.2.2.2
theorem Sz.sliceGF : Rg.SliceT Tryd.prog encF 3 38 43 := sliceF
set_option maxRecDepth 100000 in
set_option maxHeartbeats 1600000 in
theorem of5_any (A : Option Addr) (n c : Nat) (l : List Fld) (w : World) (hn : l.length = n) (hr : Rg.Row encF 3 w A l) (hl : n ≤ 100000) :
    Calls Tryd.prog 24 #[.slice A n c] w fun e w' => ∃ C d, e = .returned (.slice C n d) ∧ Rg.Row encF 3 w' C l ∧ Below w.heap.size w w' := by
  subst hn
  have HR := Lib.hid hr
  clear hr
  go_enter Tryd.func24, Tryd.ntmps24
  go_wp2_with fail
  go_loopw [3, 4] (fun v i wr => ∃ k : Nat, k ≤ l.length ∧ i = .int .i64 k ∧ Hid (Rg.Own encF 3 wr w.heap.size 46 v (l.take k)) ∧ Hid (Below w.heap.size w wr ∧ w.heap.size ≤ wr.heap.size)) (fun _ i _ => l.length - (intOf i).toNat)
  case atStart => exact ⟨0, Nat.zero_le _, rfl, Rg.own_nil _ _ _, Below.refl _ _, Nat.le_refl _⟩
  case round =>
    obtain ⟨k, hk, rfl, HO, HB⟩ := hrel
    by_cases hlt : k < l.length
    · have hsz : (l.take k).length + 1 ≤ 1000000 := by rw [List.length_take]; omega
      obtain ⟨ad, rfl, _, _⟩ := field_at HR.out k hlt
      have HT0 : Hid (l.take (k + 1) = l.take k ++ [l[k]]) := List.take_succ_eq_append_getElem hlt
      have H3 := Lib.hid (fun u hb => f3_low HR.out hlt rfl rfl (u := u) hb)
      obtain ⟨f, hf⟩ : ∃ f, l[k] = f := ⟨_, rfl⟩
      rw [hf] at HT0 H3
      obtain ⟨fk, fv, fl⟩ := f
      dsimp only at H3
      obtain ⟨pre, hpre⟩ : ∃ x, l.take k = x := ⟨_, rfl⟩
      rw [hpre] at HT0 HO hsz
      have HSZ := Lib.hid hsz
      have HD : Hid (Below w.heap.size w wr.drew) := HB.out.1.drew
      have HS : Hid (w.heap.size ≤ wr.drew.heap.size) := HB.out.2
      obtain ⟨c0, c1, c2⟩ := H3.out _ HB.out.1
      have k0 : (0 : Int) ≤ (k : Int) := by omega
      have k1 : (k : Int) < (l.length : Int) := by omega
      have hb2 : w.heap.size ≤ (wr.drew.alloc (.cells #[.string ⟨fk.toArray⟩, .string ⟨fv.toArray⟩, .int .i64 fl] 46)).heap.size := Nat.le_trans HS.out ((Below.refl _ _).alloc (Nat.le_refl _) _ : Below wr.drew.heap.size wr.drew _).size
      have HB2 := Lib.hid hb2
      clear hf hpre hsz hb2
      go_wp2_with fail
      go_region_held3 (fun w' => w'.cell? (ad.add (k * 3)) = some (.string ⟨fk.toArray⟩) ∧ w'.cell? ⟨(ad.add (k * 3)).block, (ad.add (k * 3)).off + 1, none⟩ = some (.string ⟨fv.toArray⟩) ∧ w'.cell? ⟨(ad.add (k * 3)).block, (ad.add (k * 3)).off + 2, none⟩ = some (.int .i64 fl))
        (first
          | exact H3.out _ HD.out
          | exact H3.out _ (HD.out.alloc HS.out _)
          | exact H3.out _ HB5.out.1)
        ((refine Rg.step_app sliceRF (by rfl) (.tmp 11) (.tmp 28) (by rfl) w.heap.size u3 pre [(⟨fk, fv, fl⟩ : Fld)] (by rfl) (Rg.own_below HO.out ((Below.refl _ _).drew.alloc (Nat.le_refl _) _)) _ _ (by rfl) (Rg.news_new wr.drew _ [(⟨fk, fv, fl⟩ : Fld)] _ (by rfl)) (Nat.zero_lt_succ _) HSZ.out HB2.out ?_; intro v5 W5 ho5 hg5 hz5; have HB5 := app_done HB (Below.refl _ _).drew HO hg5))
      have HO5 : Hid (Rg.Own encF 3 W5 w.heap.size 46 v5 (l.take (k + 1))) := by show Rg.Own _ _ _ _ _ _ _; rw [HT0.out]; exact ho5
      clear ho5 hg5 hz5 c0 c1 c2 HD HS
      go_wp2_with fail
      go_roundw
      case rel => exact ⟨k + 1, by omega, by go_num, HO5, HB5⟩
      case measure => simp [intOf]; omega
    · obtain rfl : k = l.length := by omega
      have HO5 : Rg.Own encF 3 wr w.heap.size 46 u3 l := by have := HO.out; rwa [List.take_length] at this
      clear HO
      obtain ⟨C, d, rfl, hrow, _, _⟩ := Rg.row_own fitsF HO5
      have HROW := Lib.hid hrow
      clear HO5 hrow
      go_wp2_with fail
      go_ret
      exact ⟨C, d, rfl, HROW.out, HB.out.1⟩
set_option maxRecDepth 100000 in
set_option maxHeartbeats 1600000 in
theorem to5_any (A : Option Addr) (n c : Nat) (l : List Fld) (w : World) (hn : l.length = n) (hr : Rg.Row encF 3 w A l) (hl : n ≤ 100000) :
    Calls Tryd.prog 13 #[.slice A n c] w fun e w' => ∃ C d, e = .returned (.slice C n d) ∧ Rg.Row encF 3 w' C l ∧ Below w.heap.size w w' := by
  subst hn
  have HR := Lib.hid hr
  clear hr
  go_enter Tryd.func13, Tryd.ntmps13
  go_wp2_with fail
  go_loopw [3, 4] (fun v i wr => ∃ k : Nat, k ≤ l.length ∧ i = .int .i64 k ∧ Hid (Rg.Own encF 3 wr w.heap.size 43 v (l.take k)) ∧ Hid (Below w.heap.size w wr ∧ w.heap.size ≤ wr.heap.size)) (fun _ i _ => l.length - (intOf i).toNat)
  case atStart => exact ⟨0, Nat.zero_le _, rfl, Rg.own_nil _ _ _, Below.refl _ _, Nat.le_refl _⟩
  case round =>
    obtain ⟨k, hk, rfl, HO, HB⟩ := hrel
    by_cases hlt : k < l.length
    · have hsz : (l.take k).length + 1 ≤ 1000000 := by rw [List.length_take]; omega
      obtain ⟨ad, rfl, _, _⟩ := field_at HR.out k hlt
      have HT0 : Hid (l.take (k + 1) = l.take k ++ [l[k]]) := List.take_succ_eq_append_getElem hlt
      have H3 := Lib.hid (fun u hb => f3_low HR.out hlt rfl rfl (u := u) hb)
      obtain ⟨f, hf⟩ : ∃ f, l[k] = f := ⟨_, rfl⟩
      rw [hf] at HT0 H3
      obtain ⟨fk, fv, fl⟩ := f
      dsimp only at H3
      obtain ⟨pre, hpre⟩ : ∃ x, l.take k = x := ⟨_, rfl⟩
      rw [hpre] at HT0 HO hsz
      have HSZ := Lib.hid hsz
      have HD : Hid (Below w.heap.size w wr.drew) := HB.out.1.drew
      have HS : Hid (w.heap.size ≤ wr.drew.heap.size) := HB.out.2
      obtain ⟨c0, c1, c2⟩ := H3.out _ HB.out.1
      have k0 : (0 : Int) ≤ (k : Int) := by omega
      have k1 : (k : Int) < (l.length : Int) := by omega
      have hb2 : w.heap.size ≤ (wr.drew.alloc (.cells #[.string ⟨fk.toArray⟩, .string ⟨fv.toArray⟩, .int .i64 fl] 43)).heap.size := Nat.le_trans HS.out ((Below.refl _ _).alloc (Nat.le_refl _) _ : Below wr.drew.heap.size wr.drew _).size
      have HB2 := Lib.hid hb2
      clear hf hpre hsz hb2
      go_wp2_with fail
      go_region_held3 (fun w' => w'.cell? (ad.add (k * 3)) = some (.string ⟨fk.toArray⟩) ∧ w'.cell? ⟨(ad.add (k * 3)).block, (ad.add (k * 3)).off + 1, none⟩ = some (.string ⟨fv.toArray⟩) ∧ w'.cell? ⟨(ad.add (k * 3)).block, (ad.add (k * 3)).off + 2, none⟩ = some (.int .i64 fl))
        (first
          | exact H3.out _ HD.out
          | exact H3.out _ (HD.out.alloc HS.out _)
          | exact H3.out _ HB5.out.1)
        ((refine Rg.step_app sliceGF (by rfl) (.tmp 11) (.tmp 28) (by rfl) w.heap.size u3 pre [(⟨fk, fv, fl⟩ : Fld)] (by rfl) (Rg.own_below HO.out ((Below.refl _ _).drew.alloc (Nat.le_refl _) _)) _ _ (by rfl) (Rg.news_new wr.drew _ [(⟨fk, fv, fl⟩ : Fld)] _ (by rfl)) (Nat.zero_lt_succ _) HSZ.out HB2.out ?_; intro v5 W5 ho5 hg5 hz5; have HB5 := app_done HB (Below.refl _ _).drew HO hg5))
      have HO5 : Hid (Rg.Own encF 3 W5 w.heap.size 43 v5 (l.take (k + 1))) := by show Rg.Own _ _ _ _ _ _ _; rw [HT0.out]; exact ho5
      clear ho5 hg5 hz5 c0 c1 c2 HD HS
      go_wp2_with fail
      go_roundw
      case rel => exact ⟨k + 1, by omega, by go_num, HO5, HB5⟩
      case measure => simp [intOf]; omega
    · obtain rfl : k = l.length := by omega
      have HO5 : Rg.Own encF 3 wr w.heap.size 43 u3 l := by have := HO.out; rwa [List.take_length] at this
      clear HO
      obtain ⟨C, d, rfl, hrow, _, _⟩ := Rg.row_own fitsF HO5
      have HROW := Lib.hid hrow
      clear HO5 hrow
      go_wp2_with fail
      go_ret
      exact ⟨C, d, rfl, HROW.out, HB.out.1⟩
set_option maxRecDepth 100000 in
set_option maxHeartbeats 1600000 in
theorem fields5_any (A B : Option Addr) (n c m d : Nat) (l r : List Fld) (w : World) (hn : l.length = n) (hm : r.length = m) (hr : Rg.Row encF 3 w A l) (hq : Rg.Row encF 3 w B r) (hl : n ≤ 100000) (hml : m ≤ 100000) :
    Calls Tryd.prog 23 #[.slice A n c, .slice B m d] w fun e w' => e = .returned (.bool (decide (l = r))) ∧ Below w.heap.size w w' := by
  obtain ⟨R, hR⟩ : ∃ R, decide (l = r) = R := ⟨_, rfl⟩
  rw [hR]
  have HN := Lib.hid hn
  have HM := Lib.hid hm
  have HR := Lib.hid hr
  have HQ := Lib.hid hq
  clear hn hm hr hq
  by_cases hnm : n = m
  · subst hnm
    have HRR : Hid ((∀ k, k ≤ l.length → l.take k = r.take k → ∀ (h1 : k < l.length) (h2 : k < r.length), l[k] ≠ r[k] → R = false) ∧ (l.take n = r.take n → R = true)) := by
      refine ⟨fun k _ _ h1 h2 hne => ?_, fun h => ?_⟩
      · rw [← hR]; refine decide_eq_false fun e => ?_
        subst e; exact hne rfl
      · rw [← hR]; refine decide_eq_true ?_
        rwa [List.take_of_length_le (by rw [HN.out]; exact Nat.le_refl _), List.take_of_length_le (by rw [HM.out]; exact Nat.le_refl _)] at h
    clear hR
    go_enter Tryd.func23, Tryd.ntmps23
    go_wp2_with fail
    go_loopw [5] (fun i wr => ∃ k : Nat, k ≤ n ∧ i = .int .i64 k ∧ Hid (l.take k = r.take k) ∧ Hid (Below w.heap.size w wr)) (fun i _ => n - (intOf i).toNat)
    case atStart => exact ⟨0, Nat.zero_le _, rfl, rfl, Below.refl _ _⟩
    case round =>
      obtain ⟨k, hk, rfl, HH, HW⟩ := hrel
      by_cases hlt : k < n
      · have h1 : k < l.length := by rw [HN.out]; exact hlt
        have h2 : k < r.length := by rw [HM.out]; exact hlt
        obtain ⟨ad, rfl, _, a0, a1, a2⟩ := field_at (Rg.row_below HR.out HW.out) k h1
        obtain ⟨ae, rfl, _, e0, e1, e2⟩ := field_at (Rg.row_below HQ.out HW.out) k h2
        have t1 := List.take_succ_eq_append_getElem h1
        have t2 := List.take_succ_eq_append_getElem h2
        have hno := HRR.out.1 k (by rw [HN.out]; exact hk) HH.out h1 h2
        obtain ⟨f, hf⟩ : ∃ f, l[k] = f := ⟨_, rfl⟩
        obtain ⟨g, hg⟩ : ∃ g, r[k] = g := ⟨_, rfl⟩
        rw [hf] at a0 a1 a2 t1 hno
        rw [hg] at e0 e1 e2 t2 hno
        obtain ⟨fk, fv, fl⟩ := f
        obtain ⟨gk, gv, gl⟩ := g
        dsimp only at a0 a1 a2 e0 e1 e2
        have HNO := Lib.hid hno
        have HT : Hid ((⟨fk, fv, fl⟩ : Fld) = ⟨gk, gv, gl⟩ → l.take (k + 1) = r.take (k + 1)) := fun e => by rw [t1, t2, HH.out, e]
        clear hf hg t1 t2 hno
        have hr1 := neq_fld fldR fk fv gk gv fl gl
        have hr2 : ∀ (x y : Operand) (W : World), (eqGuard .neq 46 x y (.agg #[.string ⟨fk.toArray⟩, .string ⟨fv.toArray⟩, .int .i64 fl]) (.agg #[.string ⟨gk.toArray⟩, .string ⟨gv.toArray⟩, .int .i64 gl])).run Tryd.prog W = .ok () W := fun x y W => grd_fld fldR .neq x y _ _ W
        have k0 : (0 : Int) ≤ (k : Int) := by omega
        have k1 : (k : Int) < (n : Int) := by omega
        by_cases hE : (⟨fk, fv, fl⟩ : Fld) = ⟨gk, gv, gl⟩
        · rw [decide_eq_true hE] at hr1
          have HT2 := Lib.hid (HT.out hE)
          clear hE
          go_wp2_with fail
          go_quiet (fail)
          clear hr1 hr2 a0 a1 a2 e0 e1 e2
          go_wp2_with fail
          go_roundw
          case rel => exact ⟨k + 1, by omega, by go_num, HT2, drewN_low HW.out _⟩
          case measure => simp [intOf]; omega
        · rw [decide_eq_false hE] at hr1
          have HF := Lib.hid (HNO.out hE)
          clear hE
          go_wp2_with fail
          go_quiet (fail)
          clear hr1 hr2 a0 a1 a2 e0 e1 e2
          go_wp2_with fail
          go_ret
          exact ⟨by rw [HF.out]; rfl, drewN_low HW.out _⟩
      · obtain rfl : k = n := by omega
        have HE := Lib.hid (HRR.out.2 HH.out)
        go_wp2_with fail
        go_ret
        exact ⟨by rw [HE.out]; rfl, HW.out⟩
  · have HF : Hid (R = false) := by
      show _ = _; rw [← hR]; refine decide_eq_false fun e => hnm ?_
      rw [← HN.out, ← HM.out, e]
    have d0 : ((n : Int) != (m : Int)) = true := by rw [bne_iff_ne]; omega
    clear hR
    go_enter Tryd.func23, Tryd.ntmps23
    go_wp2_with fail
    go_ret
    exact ⟨by rw [HF.out]; rfl, Below.refl _ _⟩
set_option maxRecDepth 100000 in
set_option maxHeartbeats 3200000 in
theorem same5_any (A B : Option Addr) (n c m d : Nat) (l r : List (List Fld)) (w : World) (hn : l.length = n) (hm : r.length = m) (hr : Gr.Row encF 3 w A l) (hq : Gr.Row encF 3 w B r) (hl : n ≤ 100000) (hml : m ≤ 100000) (hll : ∀ x ∈ l, x.length ≤ 100000) (hrl : ∀ x ∈ r, x.length ≤ 100000) :
    Calls Tryd.prog 10 #[.slice A n c, .slice B m d] w fun e w' => e = .returned (.bool (decide (l = r))) ∧ Below w.heap.size w w' := by
  obtain ⟨R, hR⟩ : ∃ R, decide (l = r) = R := ⟨_, rfl⟩
  rw [hR]
  have HN := Lib.hid hn
  have HM := Lib.hid hm
  have HR := Lib.hid hr
  have HQ := Lib.hid hq
  have HLL := Lib.hid hll
  have HRL := Lib.hid hrl
  clear hn hm hr hq hll hrl
  by_cases hnm : n = m
  · subst hnm
    have HRR : Hid ((∀ k, ∀ (h1 : k < l.length) (h2 : k < r.length), l[k] ≠ r[k] → R = false) ∧ (l.take n = r.take n → R = true)) := by
      refine ⟨fun k h1 h2 hne => ?_, fun h => ?_⟩
      · rw [← hR]; refine decide_eq_false fun e => ?_
        subst e; exact hne rfl
      · rw [← hR]; refine decide_eq_true ?_
        rwa [List.take_of_length_le (by rw [HN.out]; exact Nat.le_refl _), List.take_of_length_le (by rw [HM.out]; exact Nat.le_refl _)] at h
    clear hR
    go_enter Tryd.func10, Tryd.ntmps10
    go_wp2_with fail
    go_loopw [5] (fun i wr => ∃ k : Nat, k ≤ n ∧ i = .int .i64 k ∧ Hid (l.take k = r.take k) ∧ Hid (Below w.heap.size w wr)) (fun i _ => n - (intOf i).toNat)
    case atStart => exact ⟨0, Nat.zero_le _, rfl, rfl, Below.refl _ _⟩
    case round =>
      obtain ⟨k, hk, rfl, HH, HW⟩ := hrel
      by_cases hlt : k < n
      · have h1 : k < l.length := by rw [HN.out]; exact hlt
        have h2 : k < r.length := by rw [HM.out]; exact hlt
        obtain ⟨ad, C1, n1, c1, rfl, hn1, hr1, hc1⟩ := grid_at HR.out k h1
        obtain ⟨ae, C2, n2, c2, rfl, hn2, hr2, hc2⟩ := grid_at HQ.out k h2
        have t1 := List.take_succ_eq_append_getElem h1
        have t2 := List.take_succ_eq_append_getElem h2
        have hno := HRR.out.1 k h1 h2
        have b1 := HLL.out _ (List.getElem_mem h1)
        have b2 := HRL.out _ (List.getElem_mem h2)
        obtain ⟨f, hf⟩ : ∃ f, l[k] = f := ⟨_, rfl⟩
        obtain ⟨g, hg⟩ : ∃ g, r[k] = g := ⟨_, rfl⟩
        rw [hf] at hn1 hr1 t1 hno b1
        rw [hg] at hn2 hr2 t2 hno b2
        have HNO := Lib.hid hno
        have HT : Hid (f = g → l.take (k + 1) = r.take (k + 1)) := fun e => by rw [t1, t2, HH.out, e]
        have HN1 := Lib.hid hn1
        have HN2 := Lib.hid hn2
        have HR1 := Lib.hid hr1
        have HR2 := Lib.hid hr2
        have HC : Hid (∀ u, Below w.heap.size w u → u.cell? (ad.add k) = some (.slice C1 n1 c1) ∧ u.cell? (ae.add k) = some (.slice C2 n2 c2)) := fun u hb => ⟨hc1 u hb, hc2 u hb⟩
        have HB1 : Hid (n1 ≤ 100000 ∧ n2 ≤ 100000) := ⟨by rw [← hn1]; exact b1, by rw [← hn2]; exact b2⟩
        have HD : Hid (Below w.heap.size w wr.drew) := HW.out.drew
        obtain ⟨a0, e0⟩ := HC.out _ HW.out
        clear hf hg t1 t2 hno hn1 hn2 hr1 hr2 hc1 hc2 b1 b2
        have k0 : (0 : Int) ≤ (k : Int) := by omega
        have k1 : (k : Int) < (n : Int) := by omega
        go_wp2_with fail
        go_region_held3 (fun w' => w'.cell? (ad.add k) = some (.slice C1 n1 c1) ∧ w'.cell? (ae.add k) = some (.slice C2 n2 c2))
          (first
            | exact HC.out _ HD.out
            | exact HC.out _ HB2.out
            | exact HC.out _ HB3.out)
          (first
            | (go_at_call 23; refine (fields5_any C3 C2 n1 d3 n2 c2 f g _ HN1.out HN2.out HR3.out (Rg.row_below HR2.out HB2.out) HB1.out.1 HB1.out.2).mono ?_; rintro _ u3 ⟨rfl, hb3⟩; have HB3 := Lib.hid (HB2.out.trans (hb3.mono HB2.out.size)); clear hb3)
            | (go_at_call 24; refine (of5_any C1 n1 c1 f _ HN1.out (Rg.row_below HR1.out HD.out) HB1.out.1).mono ?_; rintro _ u2 ⟨C3, d3, rfl, hr3, hb2⟩; have HB2 := Lib.hid (HD.out.trans (hb2.mono HD.out.size)); have HR3 := Lib.hid hr3; clear hb2 hr3))
        by_cases hE : f = g
        · rw [decide_eq_true hE]
          have HT2 := Lib.hid (HT.out hE)
          clear hE a0 e0
          go_wp2_with fail
          go_roundw
          case rel => exact ⟨k + 1, by omega, by go_num, HT2, HB3.out⟩
          case measure => simp [intOf]; omega
        · rw [decide_eq_false hE]
          have HF := Lib.hid (HNO.out hE)
          clear hE a0 e0
          go_wp2_with fail
          go_ret
          exact ⟨by rw [HF.out]; rfl, HB3.out⟩
      · obtain rfl : k = n := by omega
        have HE := Lib.hid (HRR.out.2 HH.out)
        go_wp2_with fail
        go_ret
        exact ⟨by rw [HE.out]; rfl, HW.out⟩
  · have HF : Hid (R = false) := by
      show _ = _; rw [← hR]; refine decide_eq_false fun e => hnm ?_
      rw [← HN.out, ← HM.out, e]
    have d0 : ((n : Int) != (m : Int)) = true := by rw [bne_iff_ne]; omega
    clear hR
    go_enter Tryd.func10, Tryd.ntmps10
    go_wp2_with fail
    go_ret
    exact ⟨by rw [HF.out]; rfl, Below.refl _ _⟩
end Go.Proofs.YtmhobdlhmkbkdaaDoor
