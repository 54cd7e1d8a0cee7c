/- The reference's contraries, Units, Follows; the laws' own: few clauses of few variables, literals of these: walked. -/
import Derived.Test.YtebeemnpamgmlaaOe
namespace Go.Proofs.Ytebeemnpamgmlaa.Up
open Go.RowKit Cl
theorem app_doneI {α : Type} {enc : α → List Value} {K : Nat} {T : TypeId} {v : Value} {l : List α} {w wr W5 : World} {o : Obj} (hB : Hid (Below w.heap.size w wr ∧ w.heap.size ≤ wr.heap.size)) (hO : Hid (Rg.Own enc K wr w.heap.size T v l)) (hg : (wr.alloc o).grownBy W5 v.ownBlock) :
    Hid (Below w.heap.size w W5 ∧ w.heap.size ≤ W5.heap.size) := by
  have h1 : Below w.heap.size w (wr.alloc o) := hB.out.1.alloc hB.out.2 _
  have e : (wr.alloc o).heap.size = wr.heap.size + 1 := by simp
  have h2 : w.heap.size ≤ (wr.alloc o).heap.size := by have := hB.out.2; omega
  exact ⟨h1.trans (Rg.grown_below (Rg.own_below hO.out ((Below.refl _ _).alloc (Nat.le_refl _) _)) h2 hg), Nat.le_trans h2 hg.size⟩
def IRet (w : World) (t : List Int) (e : Ending) (w' : World) : Prop := ∃ v, e = .returned v ∧ Rg.Own encI 1 w' w.heap.size 3 v t ∧ Below w.heap.size w w' ∧ w.heap.size ≤ w'.heap.size
def unitsL (l : List (List Int)) : List Int := l.flatMap fun c => if c.length = 1 then c else []
theorem unitsL_le (l : List (List Int)) : (unitsL l).length ≤ l.length := by
  induction l with
  | nil => exact Nat.le_refl _
  | cons c l ih =>
    unfold unitsL at ih ⊢
    rw [List.flatMap_cons, List.length_append, List.length_cons]
    split
    · rename_i h; omega
    · show 0 + _ ≤ _; omega
theorem unitsL_more {l : List (List Int)} {j : Nat} {c : List Int} (hj : j < l.length) (hc : l[j] = c) : unitsL (l.take (j + 1)) = unitsL (l.take j) ++ (if c.length = 1 then c else []) := by
  unfold unitsL
  rw [List.take_succ_eq_append_getElem hj, hc, List.flatMap_append]; simp
end Go.Proofs.Ytebeemnpamgmlaa.Up
namespace Go.Proofs.Ytebeemnpamgmlaa
open Go.RowKit Cl Up
attribute [local go_sem ↓] Go.wp_at_zero Go.wp_at_succ
set_option maxRecDepth 100000 in
set_option maxHeartbeats 1600000 in
theorem refUnits_any (A : Option Addr) (m d : Nat) (t : List (List Int)) (w : World) (hm : t.length = m) (hr : GRow w A t) (hl : m ≤ 500000) :
    Calls Try.prog 15 #[.slice A m d] w (IRet w (unitsL t)) := by
  have HM := Lib.hid hm
  have HR := Lib.hid hr
  clear hm hr
  go_enter Try.func15, Try.ntmps15
  go_wp2_with fail
  go_loopw [3, 4] (fun v i wr => ∃ (j : Nat) (S : List Int), j ≤ m ∧ i = .int .i64 j ∧ Hid (S = unitsL (t.take j)) ∧ Hid (Rg.Own encI 1 wr w.heap.size 3 v S) ∧ Hid (Below w.heap.size w wr ∧ w.heap.size ≤ wr.heap.size)) (fun _ i _ => m - (intOf i).toNat)
  case atStart => exact ⟨0, [], Nat.zero_le _, rfl, rfl, Rg.own_nil _ _ _, Below.refl _ _, Nat.le_refl _⟩
  case round =>
    obtain ⟨j, S, hj, rfl, HS, HO, HB⟩ := hrel
    by_cases hlt : j < m
    · have hjl : j < t.length := by rw [HM.out]; exact hlt
      obtain ⟨ad, C, k, cc, x, rfl, hbx, hc, hx, hxl, hxr⟩ := grow_at (Gr.row_below HR.out HB.out.1) j hjl
      have hmore := unitsL_more hjl hx
      rw [hxl, ← HS.out] at hmore
      have j0 : (0 : Int) ≤ (j : Int) := by omega
      have j1 : (j : Int) < (m : Int) := by omega
      have HSL : Hid (S.length + 1 ≤ 1000000) := by
        have := unitsL_le (t.take j)
        rw [List.length_take] at this
        show _ ≤ _; rw [HS.out]; omega
      cases hk1 : (k : Int) == 1
      · have hkn : k ≠ 1 := fun e => by rw [e] at hk1; exact absurd hk1 (by decide)
        have HS2 : Hid (S = unitsL (t.take (j + 1))) := by
          show _ = _
          rw [hmore, if_neg hkn, List.append_nil]
        clear hmore hbx hx hxl hxr hjl hkn
        go_wp2_with fail
        go_roundw
        case rel => exact ⟨j + 1, S, by omega, by go_num, HS2.out, HO.out, HB.out⟩
        case measure => simp [intOf]; omega
      · have hkn : k = 1 := by have : (k : Int) = 1 := by simpa using hk1
                               omega
        rw [if_pos hkn] at hmore
        obtain ⟨ae, y, rfl, hy, hyb, hyc⟩ := irow_at hxr 0 (by omega)
        rw [Rg.add_zero] at hyc
        have hxy : x = [y] := by
          match x, hxl, hy with
          | [a], _, hy => rw [← hy]; rfl
          | [], h, _ => simp at h; omega
          | _ :: _ :: _, h, _ => simp at h; omega
        have HS2 : Hid (S ++ [y] = unitsL (t.take (j + 1))) := by
          show _ = _
          rw [hmore, hxy]
        have k0 : (0 : Int) < (k : Int) := by omega
        clear hmore hbx hx hxl hxr hjl hy hyb hxy hkn
        go_wp2_with (at_builtin; refine Rg.wpList_app sliceI rfl (.tmp 17) (.tmp 24) rfl w.heap.size _ S [y] rfl (Rg.own_below HO.out ((Below.refl _ _).alloc (Nat.le_refl _) _)) _ _ rfl (Rg.news_new wr _ _ _ (by rfl)) (Nat.zero_lt_succ _) HSL.out ?b1 ?_)
        case b1 => have := HB.out.2; simp; omega
        intro v5 W5 ho5 hg5 hz5
        have HB5 := app_doneI HB HO hg5
        have HO5 := Lib.hid ho5
        clear ho5 hg5 hz5 HO HB HSL hc hyc
        go_wp2_with fail
        go_roundw
        case rel => exact ⟨j + 1, S ++ [y], by omega, by go_num, HS2.out, HO5.out, HB5.out⟩
        case measure => simp [intOf]; omega
    · have HE : Hid (S = unitsL t) := by
        show _ = _
        rw [HS.out, List.take_of_length_le (by rw [HM.out]; omega)]
      go_wp2_with fail
      go_ret
      exact ⟨_, rfl, by rw [← HE.out]; exact HO.out, HB.out.1, HB.out.2⟩
def Up.FolRet (w : World) (l : List (List Int)) (c : List Int) (e : Ending) (w' : World) : Prop := ∃ b : Bool, e = .returned (.bool b) ∧ (b = true ↔ Fol l c) ∧ Below w.heap.size w w' ∧ w.heap.size ≤ w'.heap.size
theorem Up.neg_len (l : List Int) : (neg l).length = l.length := List.length_map ..
end Go.Proofs.Ytebeemnpamgmlaa
