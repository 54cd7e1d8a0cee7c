/- Two lists of entries held against each other: the program's Same, the reference's; the law's Of, To, Few; the reference's Get: walked. -/
import Derived.Test.YtojhapnodjabdaaGreatDoorCl
import Derived.Test.YtojhapnodjabdaaGreatDoorCe
namespace Go.Proofs.YtojhapnodjabdaaGreatDoor
open Go.RowKit Lk At
attribute [local go_sem ↓] Go.wp_at_zero Go.wp_at_succ
/-- A struct type of two strings. -/
def Lk.EntT (T : TypeId) : Prop := (Tryz.prog.fieldsOf T).toList.map (fun f => (f.name == "_", f.type, f.offset)) = [(false, 9, 0), (false, 9, 1)] ∧ Tryz.prog.underlying T = some (.struct (Tryz.prog.fieldsOf T)) ∧ Tryz.prog.stoodInHeld T = false ∧ Tryz.prog.eqGuardType Tryz.prog.depth T = false
theorem Lk.entT_p : EntT 59 := ⟨by kernel_rfl, by kernel_rfl, by kernel_rfl, by kernel_rfl⟩
theorem Lk.entT_r : EntT 61 := ⟨by kernel_rfl, by kernel_rfl, by kernel_rfl, by kernel_rfl⟩
theorem Lk.equal_ent {T : TypeId} (h : EntT T) (k v k' v' : List UInt8) (w : World) :
    (Op.equalIn 10000 T (.agg #[.string ⟨k.toArray⟩, .string ⟨v.toArray⟩]) (.agg #[.string ⟨k'.toArray⟩, .string ⟨v'.toArray⟩])).run Tryz.prog w = .ok (decide ((k, v) = (k', v'))) w := by
  obtain ⟨h1, h2, h3, h4⟩ := h
  rw [run_equalIn_struct w 9999 T _ _ h2 h3]
  generalize (Tryz.prog.fieldsOf T).toList = fs at *
  have hl : fs.length = 2 := by have := congrArg List.length h1; simpa using this
  match fs, hl with
  | [f0, f1], _ =>
    simp at h1
    obtain ⟨⟨n0, t0, o0⟩, ⟨n1, t1, o1⟩⟩ := h1
    simp only [Op.eqFields, n0, n1, t0, t1, o0, o1, ne_eq, not_false_eq_true, if_true]
    simp [go_sem]
    by_cases e0 : k = k' <;> by_cases e1 : v = v' <;> simp [e0, e1]
theorem Lk.neq_ent {T : TypeId} (h : EntT T) (k v k' v' : List UInt8) (w : World) :
    (binOp .neq T (.agg #[.string ⟨k.toArray⟩, .string ⟨v.toArray⟩]) (.agg #[.string ⟨k'.toArray⟩, .string ⟨v'.toArray⟩])).run Tryz.prog w = .ok (.bool (!decide ((k, v) = (k', v')))) w := by
  rw [run_neq_struct, equal_ent h]; rfl
theorem Lk.grd_ent {T : TypeId} (h : EntT T) (op : BinOp) (x y : Operand) (xs ys : Array Value) (w : World) : (eqGuard op T x y (.agg xs) (.agg ys)).run Tryz.prog w = .ok () w := run_eqGuard_agg w op T x y xs ys h.2.2.2
theorem Lk.efew_take {l : List Ent} {k : Nat} (hk : k < l.length) : l.take (k + 1) = l.take k ++ [l[k]] := List.take_succ_eq_append_getElem hk
set_option maxRecDepth 100000 in
set_option maxHeartbeats 1600000 in
theorem eqEnt_any (A B : Option Addr) (n c m d : Nat) (l r : List Ent) (w : World) (hn : l.length = n) (hm : r.length = m) (hr : ERow w A l) (hq : ERow w B r) (hl : n ≤ 100000) (hml : m ≤ 100000) :
    Calls Tryz.prog 37 #[.slice A n c, .slice B m d] w fun e w' => e = .returned (.bool (decide (l = r))) ∧ Below w.heap.size w w' := by
  obtain ⟨R, hR⟩ : ∃ R, decide (l = r) = R := ⟨_, rfl⟩
  rw [hR]
  have HN := Lib.hid hn
  have HM := Lib.hid hm
  have HR := Lib.hid hr
  have HQ := Lib.hid hq
  clear hn hm hr hq
  by_cases hnm : n = m
  · subst hnm
    have HRR : Hid ((∀ k, k ≤ l.length → l.take k = r.take k → ∀ (h1 : k < l.length) (h2 : k < r.length), l[k] ≠ r[k] → R = false) ∧ (l.take n = r.take n → R = true)) := by
      refine ⟨fun k _ _ h1 h2 hne => ?_, fun h => ?_⟩
      · rw [← hR]; refine decide_eq_false fun e => ?_
        subst e; exact hne rfl
      · rw [← hR]; refine decide_eq_true ?_
        rwa [List.take_of_length_le (by rw [HN.out]; exact Nat.le_refl _), List.take_of_length_le (by rw [HM.out]; exact Nat.le_refl _)] at h
    clear hR
    go_enter Tryz.func37, Tryz.ntmps37
    go_wp2_with fail
    go_loopw [13] (fun i wr => ∃ k : Nat, k ≤ n ∧ i = .int .i64 k ∧ Hid (l.take k = r.take k) ∧ Hid (Below w.heap.size w wr)) (fun i _ => n - (intOf i).toNat)
    case atStart => exact ⟨0, Nat.zero_le _, rfl, rfl, Below.refl _ _⟩
    case round =>
      obtain ⟨k, hk, rfl, HH, HW⟩ := hrel
      by_cases hlt : k < n
      · have h1 : k < l.length := by rw [HN.out]; exact hlt
        have h2 : k < r.length := by rw [HM.out]; exact hlt
        obtain ⟨ad, rfl, hca⟩ := erow_at HR.out k h1
        obtain ⟨ae, rfl, hce⟩ := erow_at HQ.out k h2
        obtain ⟨a0, a1⟩ := hca _ HW.out
        obtain ⟨e0, e1⟩ := hce _ HW.out
        have t1 := List.take_succ_eq_append_getElem h1
        have t2 := List.take_succ_eq_append_getElem h2
        have hno := HRR.out.1 k (by rw [HN.out]; exact hk) HH.out h1 h2
        obtain ⟨f, hf⟩ : ∃ f, l[k] = f := ⟨_, rfl⟩
        obtain ⟨g, hg⟩ : ∃ g, r[k] = g := ⟨_, rfl⟩
        rw [hf] at a0 a1 t1 hno
        rw [hg] at e0 e1 t2 hno
        obtain ⟨fk, fv⟩ := f
        obtain ⟨gk, gv⟩ := g
        dsimp only at a0 a1 e0 e1
        have HNO := Lib.hid hno
        have HT : Hid ((fk, fv) = (gk, gv) → l.take (k + 1) = r.take (k + 1)) := fun e => by rw [t1, t2, HH.out, e]
        clear hf hg t1 t2 hno hca hce
        have hr1 := neq_ent entT_p fk fv gk gv
        have hr2 : ∀ (x y : Operand) (W : World), (eqGuard .neq 59 x y (.agg #[.string ⟨fk.toArray⟩, .string ⟨fv.toArray⟩]) (.agg #[.string ⟨gk.toArray⟩, .string ⟨gv.toArray⟩])).run Tryz.prog W = .ok () W := fun x y W => grd_ent entT_p .neq x y _ _ W
        have k0 : (0 : Int) ≤ (k : Int) := by omega
        have k1 : (k : Int) < (n : Int) := by omega
        by_cases hE : (fk, fv) = (gk, gv)
        · rw [decide_eq_true hE] at hr1
          have HT2 := Lib.hid (HT.out hE)
          clear hE
          go_wp2_with fail
          go_quiet (fail)
          clear hr1 hr2 a0 a1 e0 e1
          go_wp2_with fail
          go_roundw
          case rel => exact ⟨k + 1, by omega, by go_num, HT2, below_drewN HW.out _⟩
          case measure => simp [intOf]; omega
        · rw [decide_eq_false hE] at hr1
          have HF := Lib.hid (HNO.out hE)
          clear hE
          go_wp2_with fail
          go_quiet (fail)
          clear hr1 hr2 a0 a1 e0 e1
          go_wp2_with fail
          go_ret
          exact ⟨by rw [HF.out]; rfl, below_drewN HW.out _⟩
      · obtain rfl : k = n := by omega
        have HE := Lib.hid (HRR.out.2 HH.out)
        go_wp2_with fail
        go_ret
        exact ⟨by rw [HE.out]; rfl, HW.out⟩
  · have HF : Hid (R = false) := by
      show _ = _; rw [← hR]; refine decide_eq_false fun e => hnm ?_
      rw [← HN.out, ← HM.out, e]
    clear hR
    have d0 : ((n : Int) != (m : Int)) = true := by simp; omega
    go_enter Tryz.func37, Tryz.ntmps37
    go_wp2_with fail
    go_ret
    exact ⟨by rw [HF.out]; rfl, Below.refl _ _⟩
theorem lockSame_any (A B : Option Addr) (n c m d : Nat) (l r : List Ent) (w : World) (hn : l.length = n) (hm : r.length = m) (hr : ERow w A l) (hq : ERow w B r) (hl : n ≤ 100000) (hml : m ≤ 100000) :
    Calls Tryz.prog 17 #[.slice A n c, .slice B m d] w fun e w' => e = .returned (.bool (decide (l = r))) ∧ Below w.heap.size w w' := by
  have HC := Lib.hid (eqEnt_any A B n c m d l r w hn hm hr hq hl hml)
  clear hn hm hr hq
  go_enter Tryz.func17, Tryz.ntmps17
  go_wp2_with fail
  refine HC.out.mono ?_
  rintro _ z ⟨rfl, hb⟩
  have HB := Lib.hid hb
  clear hb
  go_wp2_with fail
  go_ret
  exact ⟨rfl, HB.out⟩
set_option maxRecDepth 100000 in
set_option maxHeartbeats 1600000 in
theorem refSameLock_any (A B : Option Addr) (n c m d : Nat) (l r : List Ent) (w : World) (hn : l.length = n) (hm : r.length = m) (hr : ERow w A l) (hq : ERow w B r) (hl : n ≤ 100000) (hml : m ≤ 100000) :
    Calls Tryz.prog 18 #[.slice A n c, .slice B m d] w fun e w' => e = .returned (.bool (decide (l = r))) ∧ Below w.heap.size w w' := by
  obtain ⟨R, hR⟩ : ∃ R, decide (l = r) = R := ⟨_, rfl⟩
  rw [hR]
  have HN := Lib.hid hn
  have HM := Lib.hid hm
  have HR := Lib.hid hr
  have HQ := Lib.hid hq
  clear hn hm hr hq
  by_cases hnm : n = m
  · subst hnm
    have HRR : Hid ((∀ k, k ≤ l.length → l.take k = r.take k → ∀ (h1 : k < l.length) (h2 : k < r.length), l[k] ≠ r[k] → R = false) ∧ (l.take n = r.take n → R = true)) := by
      refine ⟨fun k _ _ h1 h2 hne => ?_, fun h => ?_⟩
      · rw [← hR]; refine decide_eq_false fun e => ?_
        subst e; exact hne rfl
      · rw [← hR]; refine decide_eq_true ?_
        rwa [List.take_of_length_le (by rw [HN.out]; exact Nat.le_refl _), List.take_of_length_le (by rw [HM.out]; exact Nat.le_refl _)] at h
    clear hR
    go_enter Tryz.func18, Tryz.ntmps18
    go_wp2_with fail
    go_loopw [5] (fun i wr => ∃ k : Nat, k ≤ n ∧ i = .int .i64 k ∧ Hid (l.take k = r.take k) ∧ Hid (Below w.heap.size w wr)) (fun i _ => n - (intOf i).toNat)
    case atStart => exact ⟨0, Nat.zero_le _, rfl, rfl, Below.refl _ _⟩
    case round =>
      obtain ⟨k, hk, rfl, HH, HW⟩ := hrel
      by_cases hlt : k < n
      · have h1 : k < l.length := by rw [HN.out]; exact hlt
        have h2 : k < r.length := by rw [HM.out]; exact hlt
        obtain ⟨ad, rfl, hca⟩ := erow_at HR.out k h1
        obtain ⟨ae, rfl, hce⟩ := erow_at HQ.out k h2
        obtain ⟨a0, a1⟩ := hca _ HW.out
        obtain ⟨e0, e1⟩ := hce _ HW.out
        have t1 := List.take_succ_eq_append_getElem h1
        have t2 := List.take_succ_eq_append_getElem h2
        have hno := HRR.out.1 k (by rw [HN.out]; exact hk) HH.out h1 h2
        obtain ⟨f, hf⟩ : ∃ f, l[k] = f := ⟨_, rfl⟩
        obtain ⟨g, hg⟩ : ∃ g, r[k] = g := ⟨_, rfl⟩
        rw [hf] at a0 a1 t1 hno
        rw [hg] at e0 e1 t2 hno
        obtain ⟨fk, fv⟩ := f
        obtain ⟨gk, gv⟩ := g
        dsimp only at a0 a1 e0 e1
        have HNO := Lib.hid hno
        have HT : Hid ((fk, fv) = (gk, gv) → l.take (k + 1) = r.take (k + 1)) := fun e => by rw [t1, t2, HH.out, e]
        clear hf hg t1 t2 hno hca hce
        have hr1 := neq_ent entT_r fk fv gk gv
        have hr2 : ∀ (x y : Operand) (W : World), (eqGuard .neq 61 x y (.agg #[.string ⟨fk.toArray⟩, .string ⟨fv.toArray⟩]) (.agg #[.string ⟨gk.toArray⟩, .string ⟨gv.toArray⟩])).run Tryz.prog W = .ok () W := fun x y W => grd_ent entT_r .neq x y _ _ W
        have k0 : (0 : Int) ≤ (k : Int) := by omega
        have k1 : (k : Int) < (n : Int) := by omega
        by_cases hE : (fk, fv) = (gk, gv)
        · rw [decide_eq_true hE] at hr1
          have HT2 := Lib.hid (HT.out hE)
          clear hE
          go_wp2_with fail
          go_quiet (fail)
          clear hr1 hr2 a0 a1 e0 e1
          go_wp2_with fail
          go_roundw
          case rel => exact ⟨k + 1, by omega, by go_num, HT2, below_drewN HW.out _⟩
          case measure => simp [intOf]; omega
        · rw [decide_eq_false hE] at hr1
          have HF := Lib.hid (HNO.out hE)
          clear hE
          go_wp2_with fail
          go_quiet (fail)
          clear hr1 hr2 a0 a1 e0 e1
          go_wp2_with fail
          go_ret
          exact ⟨by rw [HF.out]; rfl, below_drewN HW.out _⟩
      · obtain rfl : k = n := by omega
        have HE := Lib.hid (HRR.out.2 HH.out)
        go_wp2_with fail
        go_ret
        exact ⟨by rw [HE.out]; rfl, HW.out⟩
  · have HF : Hid (R = false) := by
      show _ = _; rw [← hR]; refine decide_eq_false fun e => hnm ?_
      rw [← HN.out, ← HM.out, e]
    clear hR
    have d0 : ((n : Int) != (m : Int)) = true := by simp; omega
    go_enter Tryz.func18, Tryz.ntmps18
    go_wp2_with fail
    go_ret
    exact ⟨by rw [HF.out]; rfl, Below.refl _ _⟩
set_option maxRecDepth 100000 in
set_option maxHeartbeats 1600000 in
theorem of8_any (A : Option Addr) (n c : Nat) (l : List Ent) (w : World) (hn : l.length = n) (hr : ERow w A l) (hl : n ≤ 100000) :
    Calls Tryz.prog 20 #[.slice A n c] w fun e w' => ∃ C d, e = .returned (.slice C n d) ∧ ERow w' C l ∧ Below w.heap.size w w' := by
  subst hn
  have HR := Lib.hid hr
  clear hr
  go_enter Tryz.func20, Tryz.ntmps20
  go_wp2_with fail
  go_loopw [3, 4] (fun v i wr => ∃ k : Nat, k ≤ l.length ∧ i = .int .i64 k ∧ Hid (Rg.Own encE 2 wr w.heap.size 61 v (l.take k)) ∧ Hid (Below w.heap.size w wr ∧ w.heap.size ≤ wr.heap.size)) (fun _ i _ => l.length - (intOf i).toNat)
  case atStart => exact ⟨0, Nat.zero_le _, rfl, Rg.own_nil _ _ _, Below.refl _ _, Nat.le_refl _⟩
  case round =>
    obtain ⟨k, hk, rfl, HO, HB⟩ := hrel
    by_cases hlt : k < l.length
    · have hsz : (l.take k).length + 1 ≤ 1000000 := by rw [List.length_take]; omega
      obtain ⟨ad, rfl, hc⟩ := erow_at HR.out k hlt
      have HT0 : Hid (l.take (k + 1) = l.take k ++ [l[k]]) := List.take_succ_eq_append_getElem hlt
      have H3 := Lib.hid hc
      obtain ⟨f, hf⟩ : ∃ f, l[k] = f := ⟨_, rfl⟩
      rw [hf] at HT0 H3
      obtain ⟨fk, fv⟩ := f
      dsimp only at H3
      obtain ⟨pre, hpre⟩ : ∃ x, l.take k = x := ⟨_, rfl⟩
      rw [hpre] at HT0 HO hsz
      have HSZ := Lib.hid hsz
      have HD : Hid (Below w.heap.size w wr.drew) := HB.out.1.drew
      have HS : Hid (w.heap.size ≤ wr.drew.heap.size) := HB.out.2
      obtain ⟨c0, c1⟩ := H3.out _ HB.out.1
      have k0 : (0 : Int) ≤ (k : Int) := by omega
      have k1 : (k : Int) < (l.length : Int) := by omega
      have hb2 : w.heap.size ≤ (wr.drew.alloc (.cells #[.string ⟨fk.toArray⟩, .string ⟨fv.toArray⟩] 61)).heap.size := Nat.le_trans HS.out ((Below.refl _ _).alloc (Nat.le_refl _) _ : Below wr.drew.heap.size wr.drew _).size
      have HB2 := Lib.hid hb2
      clear hf hpre hsz hb2 hc
      go_wp2_with fail
      go_region_held3 (fun w' => w'.cell? (ad.add (k * 2)) = some (.string ⟨fk.toArray⟩) ∧ w'.cell? ⟨(ad.add (k * 2)).block, (ad.add (k * 2)).off + 1, none⟩ = some (.string ⟨fv.toArray⟩))
        (first
          | exact H3.out _ HD.out
          | exact H3.out _ (HD.out.alloc HS.out _)
          | exact H3.out _ HB5.out.1)
        ((refine Rg.step_app sliceR (by rfl) (.tmp 11) (.tmp 23) (by rfl) w.heap.size u3 pre [((fk, fv) : Ent)] (by rfl) (Rg.own_below HO.out ((Below.refl _ _).drew.alloc (Nat.le_refl _) _)) _ _ (by rfl) (Rg.news_new wr.drew _ [((fk, fv) : Ent)] _ (by rfl)) (Nat.zero_lt_succ _) HSZ.out HB2.out ?_; intro v5 W5 ho5 hg5 hz5; have HB5 := app_done4 HB (Below.refl _ _).drew HO hg5))
      have HO5 : Hid (Rg.Own encE 2 W5 w.heap.size 61 v5 (l.take (k + 1))) := by show Rg.Own _ _ _ _ _ _ _; rw [HT0.out]; exact ho5
      clear ho5 hg5 hz5 c0 c1 HD HS
      go_wp2_with fail
      go_roundw
      case rel => exact ⟨k + 1, by omega, by go_num, HO5, HB5⟩
      case measure => simp [intOf]; omega
    · obtain rfl : k = l.length := by omega
      have HO5 : Rg.Own encE 2 wr w.heap.size 61 u3 l := by have := HO.out; rwa [List.take_length] at this
      clear HO
      obtain ⟨C, d, rfl, hrow, _, _⟩ := Rg.row_own fitsE HO5
      have HROW := Lib.hid hrow
      clear HO5 hrow
      go_wp2_with fail
      go_ret
      exact ⟨C, d, rfl, HROW.out, HB.out.1⟩
set_option maxRecDepth 100000 in
set_option maxHeartbeats 1600000 in
theorem to8_any (A : Option Addr) (n c : Nat) (l : List Ent) (w : World) (hn : l.length = n) (hr : ERow w A l) (hl : n ≤ 100000) :
    Calls Tryz.prog 10 #[.slice A n c] w fun e w' => ∃ C d, e = .returned (.slice C n d) ∧ ERow w' C l ∧ Below w.heap.size w w' := by
  subst hn
  have HR := Lib.hid hr
  clear hr
  go_enter Tryz.func10, Tryz.ntmps10
  go_wp2_with fail
  go_loopw [3, 4] (fun v i wr => ∃ k : Nat, k ≤ l.length ∧ i = .int .i64 k ∧ Hid (Rg.Own encE 2 wr w.heap.size 59 v (l.take k)) ∧ Hid (Below w.heap.size w wr ∧ w.heap.size ≤ wr.heap.size)) (fun _ i _ => l.length - (intOf i).toNat)
  case atStart => exact ⟨0, Nat.zero_le _, rfl, Rg.own_nil _ _ _, Below.refl _ _, Nat.le_refl _⟩
  case round =>
    obtain ⟨k, hk, rfl, HO, HB⟩ := hrel
    by_cases hlt : k < l.length
    · have hsz : (l.take k).length + 1 ≤ 1000000 := by rw [List.length_take]; omega
      obtain ⟨ad, rfl, hc⟩ := erow_at HR.out k hlt
      have HT0 : Hid (l.take (k + 1) = l.take k ++ [l[k]]) := List.take_succ_eq_append_getElem hlt
      have H3 := Lib.hid hc
      obtain ⟨f, hf⟩ : ∃ f, l[k] = f := ⟨_, rfl⟩
      rw [hf] at HT0 H3
      obtain ⟨fk, fv⟩ := f
      dsimp only at H3
      obtain ⟨pre, hpre⟩ : ∃ x, l.take k = x := ⟨_, rfl⟩
      rw [hpre] at HT0 HO hsz
      have HSZ := Lib.hid hsz
      have HD : Hid (Below w.heap.size w wr.drew) := HB.out.1.drew
      have HS : Hid (w.heap.size ≤ wr.drew.heap.size) := HB.out.2
      obtain ⟨c0, c1⟩ := H3.out _ HB.out.1
      have k0 : (0 : Int) ≤ (k : Int) := by omega
      have k1 : (k : Int) < (l.length : Int) := by omega
      have hb2 : w.heap.size ≤ (wr.drew.alloc (.cells #[.string ⟨fk.toArray⟩, .string ⟨fv.toArray⟩] 59)).heap.size := Nat.le_trans HS.out ((Below.refl _ _).alloc (Nat.le_refl _) _ : Below wr.drew.heap.size wr.drew _).size
      have HB2 := Lib.hid hb2
      clear hf hpre hsz hb2 hc
      go_wp2_with fail
      go_region_held3 (fun w' => w'.cell? (ad.add (k * 2)) = some (.string ⟨fk.toArray⟩) ∧ w'.cell? ⟨(ad.add (k * 2)).block, (ad.add (k * 2)).off + 1, none⟩ = some (.string ⟨fv.toArray⟩))
        (first
          | exact H3.out _ HD.out
          | exact H3.out _ (HD.out.alloc HS.out _)
          | exact H3.out _ HB5.out.1)
        ((refine Rg.step_app sliceE (by rfl) (.tmp 11) (.tmp 23) (by rfl) w.heap.size u3 pre [((fk, fv) : Ent)] (by rfl) (Rg.own_below HO.out ((Below.refl _ _).drew.alloc (Nat.le_refl _) _)) _ _ (by rfl) (Rg.news_new wr.drew _ [((fk, fv) : Ent)] _ (by rfl)) (Nat.zero_lt_succ _) HSZ.out HB2.out ?_; intro v5 W5 ho5 hg5 hz5; have HB5 := app_done4 HB (Below.refl _ _).drew HO hg5))
      have HO5 : Hid (Rg.Own encE 2 W5 w.heap.size 59 v5 (l.take (k + 1))) := by show Rg.Own _ _ _ _ _ _ _; rw [HT0.out]; exact ho5
      clear ho5 hg5 hz5 c0 c1 HD HS
      go_wp2_with fail
      go_roundw
      case rel => exact ⟨k + 1, by omega, by go_num, HO5, HB5⟩
      case measure => simp [intOf]; omega
    · obtain rfl : k = l.length := by omega
      have HO5 : Rg.Own encE 2 wr w.heap.size 59 u3 l := by have := HO.out; rwa [List.take_length] at this
      clear HO
      obtain ⟨C, d, rfl, hrow, _, _⟩ := Rg.row_own fitsE HO5
      have HROW := Lib.hid hrow
      clear HO5 hrow
      go_wp2_with fail
      go_ret
      exact ⟨C, d, rfl, HROW.out, HB.out.1⟩
end Go.Proofs.YtojhapnodjabdaaGreatDoor
