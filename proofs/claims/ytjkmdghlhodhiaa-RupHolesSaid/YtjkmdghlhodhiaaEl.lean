/- The law's own functions on clauses: to the program's, from there, few; rows of numbers alike: walked. -/
import Derived.Test.YtjkmdghlhodhiaaEe
import Derived.Test.YtjkmdghlhodhiaaEdc
namespace Go.Proofs.Ytjkmdghlhodhiaa.Cl
open Go.RowKit Up
/-- An append of a slice of another type with the same elements. -/
theorem run_append_tx {P : Program} {t tx ty e : TypeId} (ht : P.underlying t = some (.slice e)) (hx : P.underlying tx = some (.slice e)) (v x : Value) (w : World) :
    (Builtin.append_ #[t, tx] ty #[v, x]).run P w = (Builtin.append_ #[t, t] ty #[v, x]).run P w := by
  cases v <;> simp [Builtin.append_, run_underlying ht, run_underlying hx]
section
variable {α : Type} {P : Program} {enc : α → List Value} {K : Nat} {ST TX T : TypeId} {w : World}
/-- The same, rows of any length that can lie: elements of at most 8 bytes. -/
theorem run_appL (hT : Rg.SliceT P enc K ST T) (h8 : ∀ i, P.info? T = some i → i.bytes ≤ 8) (ty : TypeId) (B : Nat) (v : Value) (l m : List α) (hown : Rg.Own enc K w B T v l) (A : Option Addr) (c : Nat) (hrow : Rg.Row enc K w A m)
    (hsz : l.length + m.length ≤ 17592186044416) (hB : B ≤ w.heap.size) :
    ∃ v' w', (Builtin.append_ #[ST, ST] ty #[v, .slice A m.length c]).run P w = .ok v' w' ∧ Rg.Own enc K w' B T v' (l ++ m) ∧ w.grownBy w' v.ownBlock ∧ w.heap.size ≤ w'.heap.size := by
  by_cases hs : l.length + m.length ≤ 1000000
  · exact Rg.run_appS hT ty B v l m hown A c hrow hs hB
  obtain ⟨i, z, hi, hz0, hz1, hz2, hb⟩ := hT.info
  cases m with
  | nil =>
    obtain ⟨A0, c0, rfl, _, hle, _⟩ := Rg.row_own hT.fits hown
    refine ⟨.slice A0 l.length c0, w, ?_, by rw [List.append_nil]; exact hown, Rg.grown_refl w _, Nat.le_refl _⟩
    refine run_append_nothing w ST ST ty T i hT.under hi A0 l.length c0 hle _ ?_
    cases A with
    | none => exact Src.ofNil w hT.under c
    | some a => exact Src.ofSlice w hT.under a 0 c [] (by simp) (fun j u h => by simp at h) (fun u h => by cases h)
  | cons x m =>
    obtain ⟨a, rfl, _, hc⟩ := hrow (by simp)
    obtain ⟨v', w', h1, h2, h3, _⟩ := run_append_own_at w B ST ty T i z K i.bytes hT.under hi hz0 hz2 rfl hz1 hT.pos v l.length (Rg.flat enc l) hown a (x :: m).length c (Rg.flat enc (x :: m))
      (Rg.flat_len hT.fits _) (Rg.row_news hT.fits hc) (Rg.flat_ones hT.fits _) (by unfold maxLen; omega) (by
        have h1 := h8 i hi
        have : (l.length + (x :: m).length) * i.bytes ≤ 17592186044416 * 8 := Nat.mul_le_mul hsz h1
        omega) hB
    refine ⟨v', w', h1, ?_, h3, h3.size⟩
    unfold Rg.Own
    rw [Rg.flat_app, List.length_append]
    exact h2
theorem wpList_appX (hT : Rg.SliceT P enc K ST T) (htx : P.underlying TX = some (.slice T)) {ops : Array Oper} {rest : List Oper} {o : Oper} {a : Act} {Q : Exit → Act → World → Prop} (hgd : o.guard = none) (sl x : Operand)
    (ho : o.op = .call { callee := .builtin .append, args := #[sl, x], argTypes := #[ST, TX] })
    (B : Nat) (v : Value) (l m : List α) (hs : a.eval sl = v) (hown : Rg.Own enc K w B T v l) (A : Option Addr) (n c : Nat) (hn : m.length = n) (hx : a.eval x = .slice A n c)
    (hrow : Rg.Row enc K w A m) (hsz : l.length + m.length ≤ 1000000) (hB : B ≤ w.heap.size)
    (h : ∀ v' w', Rg.Own enc K w' B T v' (l ++ m) → w.grownBy w' v.ownBlock → w.heap.size ≤ w'.heap.size → wpList P ops Q rest (a.put o.dst v') w') : wpList P ops Q (o :: rest) a w := by
  subst hn
  refine wpList_plain hgd fun _ hK => ?_
  obtain ⟨v', w', hr, h2, h3, h4⟩ := Rg.run_appS hT o.type B v l m hown A c hrow hsz hB
  rw [← run_append_tx hT.under htx] at hr
  unfold Oper.wp execOp
  simp only [ho, resolve, invoke, builtin, Sem.run_bind, Sem.run_pure, Result.andThen_ok, List.map_toArray, List.map_cons, List.map_nil, hs, hx, hr]
  exact hK _ _ (h v' w' h2 h3 h4)
theorem wpList_appXL (hT : Rg.SliceT P enc K ST T) (h8 : ∀ i, P.info? T = some i → i.bytes ≤ 8) (htx : P.underlying TX = some (.slice T)) {ops : Array Oper} {rest : List Oper} {o : Oper} {a : Act} {Q : Exit → Act → World → Prop} (hgd : o.guard = none) (sl x : Operand)
    (ho : o.op = .call { callee := .builtin .append, args := #[sl, x], argTypes := #[ST, TX] })
    (B : Nat) (v : Value) (l m : List α) (hs : a.eval sl = v) (hown : Rg.Own enc K w B T v l) (A : Option Addr) (n c : Nat) (hn : m.length = n) (hx : a.eval x = .slice A n c)
    (hrow : Rg.Row enc K w A m) (hsz : l.length + m.length ≤ 17592186044416) (hB : B ≤ w.heap.size)
    (h : ∀ v' w', Rg.Own enc K w' B T v' (l ++ m) → w.grownBy w' v.ownBlock → w.heap.size ≤ w'.heap.size → wpList P ops Q rest (a.put o.dst v') w') : wpList P ops Q (o :: rest) a w := by
  subst hn
  refine wpList_plain hgd fun _ hK => ?_
  obtain ⟨v', w', hr, h2, h3, h4⟩ := run_appL hT h8 o.type B v l m hown A c hrow hsz hB
  rw [← run_append_tx hT.under htx] at hr
  unfold Oper.wp execOp
  simp only [ho, resolve, invoke, builtin, Sem.run_bind, Sem.run_pure, Result.andThen_ok, List.map_toArray, List.map_cons, List.map_nil, hs, hx, hr]
  exact hK _ _ (h v' w' h2 h3 h4)
end
theorem sliceC : Rg.SliceT Try.prog encI 1 47 3 := ⟨fitsI, by decide, by kernel_rfl, Rg.info_of (z := .int .i64 0) (b := 8) (by kernel_rfl) (by rfl) (by decide)⟩
theorem byte8 : ∀ i, Try.prog.info? 3 = some i → i.bytes ≤ 8 := fun i h => by
  have h1 : (Try.prog.info? 3).map (fun i => i.bytes) = some 8 := by kernel_rfl
  rw [h] at h1
  exact Nat.le_of_eq (Option.some.inj h1)
theorem sliceCC : Rg.SliceT Try.prog encO 1 29 47 := ⟨fitsO, by decide, by kernel_rfl, Rg.info_of (z := .slice none 0 0) (b := 24) (by kernel_rfl) (by rfl) (by decide)⟩
theorem sliceIJ : Rg.SliceT Try.prog encO 1 22 23 := ⟨fitsO, by decide, by kernel_rfl, Rg.info_of (z := .slice none 0 0) (b := 24) (by kernel_rfl) (by rfl) (by decide)⟩
theorem own_blockL {α : Type} {enc : α → List Value} {K : Nat} {w : World} {B : Nat} {T : TypeId} {A : Option Addr} {n c : Nat} {l : List α} (h : Rg.Own enc K w B T (.slice A n c) l) : ∀ a, A = some a → B ≤ a.block := fun a ha => by
  rcases h.2 with ⟨e, _⟩ | ⟨g, cap, cur, e, hb, _⟩
  · cases e; cases ha
  · cases e; obtain rfl := Option.some.inj ha; exact hb
def GRet (w : World) (T : TypeId) (t : List (List Int)) (e : Ending) (w' : World) : Prop := ∃ v, e = .returned v ∧ Gr.Own encI 1 w' w.heap.size T v t ∧ Below w.heap.size w w' ∧ w.heap.size ≤ w'.heap.size
def GRetC (w : World) (T : TypeId) (t : List (List Int)) (e : Ending) (w' : World) : Prop := ∃ v, e = .returned v ∧ COwn w' w.heap.size T v t ∧ Below w.heap.size w w' ∧ w.heap.size ≤ w'.heap.size
/-- A row of an elder block is not the own one. -/
theorem old_row {w u : World} {B : Nat} {T : TypeId} {v : Value} {t : List (List Int)} {C : Option Addr} {x : List Int} (hO : Gr.Own encI 1 u B T v t) (hr : IRow w C x) (hB : w.heap.size ≤ B) : 0 < x.length → ∀ a, C = some a → v.ownBlock ≠ some a.block := fun h a ha e => by
  obtain ⟨a', ha', hb, _⟩ := hr h
  obtain rfl := Option.some.inj (ha.symm.trans ha')
  obtain ⟨ds, h1, _⟩ := hO
  have := (Rg.own_lt h1 _ e).1
  omega
end Go.Proofs.Ytjkmdghlhodhiaa.Cl
namespace Go.Proofs.Ytjkmdghlhodhiaa
open Go.RowKit Cl Up
attribute [local go_sem ↓] Go.wp_at_zero Go.wp_at_succ
set_option maxRecDepth 100000 in
set_option maxHeartbeats 3200000 in
theorem to13c_any (A : Option Addr) (m c : Nat) (t : List (List Int)) (w : World) (hm : t.length = m) (hr : GRow w A t) (hl : m ≤ 500000) (hf : ∀ x ∈ t, x.length ≤ 17592186044416) :
    Calls Try.prog 11 #[.slice A m c] w (GRetC w 47 t) := by
  have HR := Lib.hid hr
  have HM := Lib.hid hm
  have HF := Lib.hid hf
  clear hr hm hf
  go_enter Try.func11, Try.ntmps11
  go_wp2_with fail
  go_loopw [3, 4] (fun v i wr => ∃ (j : Nat) (S : List (List Int)), j ≤ m ∧ i = .int .i64 j ∧ Hid (S = t.take j) ∧ Hid (COwn wr w.heap.size 47 v S) ∧ Hid (Below w.heap.size w wr ∧ w.heap.size ≤ wr.heap.size)) (fun _ i _ => m - (intOf i).toNat)
  case atStart => exact ⟨0, [], Nat.zero_le _, rfl, rfl, cown_nil _ _ _, Below.refl _ _, Nat.le_refl _⟩
  case round =>
    obtain ⟨j, S, hj, rfl, HS, HO, HB⟩ := hrel
    by_cases hlt : j < m
    · have hjl : j < t.length := by rw [HM.out]; exact hlt
      obtain ⟨ad, C, k, cc, x, rfl, hbx, hc, hx, hxl, hxr⟩ := grow_at (Gr.row_below HR.out HB.out.1) j hjl
      have j0 : (0 : Int) ≤ (j : Int) := by omega
      have j1 : (j : Int) < (m : Int) := by omega
      have hc2 : (wr.alloc (.cells #[] 3)).cell? (ad.add j) = some (.slice C k cc) := cell_below hc hbx ((Below.refl _ _).alloc (Nat.le_refl _) _)
      have HXR := Lib.hid (irow_below hxr ((Below.refl wr.heap.size wr).alloc (Nat.le_refl _) (.cells #[] 3)))
      have HXL := Lib.hid hxl
      have hk1 : k ≤ 17592186044416 := by rw [← hxl, ← hx]; exact HF.out _ (List.getElem_mem hjl)
      have HS2 : Hid (S ++ [x] = t.take (j + 1)) := by
        show _ = _
        rw [List.take_succ_eq_append_getElem hjl, hx, HS.out]
      have HSL : Hid (S.length + 1 ≤ 1000000) := by show _ ≤ _; rw [HS.out, List.length_take]; omega
      have HAL : Hid (Rg.Own encI 1 (wr.alloc (.cells #[] 3)) wr.heap.size 3 (.slice (some ⟨wr.heap.size, 0, none⟩) 0 0) []) := Rg.own_made wr fitsI (Nat.le_refl _)
      clear hc hbx hx hxl hxr hjl
      go_wp2_with (at_builtin; refine wpList_appXL (TX := 23) sliceC byte8 (by kernel_rfl) rfl (.tmp 12) (.tmp 16) rfl wr.heap.size _ [] x rfl HAL.out C k cc HXL.out rfl HXR.out ?s1 ?b1 ?_)
      case s1 => rw [HXL.out]; show 0 + k ≤ _; omega
      case b1 => simp
      intro v5 W5 ho5 hg5 hz5
      have HB5 : Hid (Below wr.heap.size wr W5) := ((Below.refl _ _).alloc (Nat.le_refl _) _).trans (Rg.grown_below HAL.out (by simp) hg5)
      obtain ⟨C5, c5, rfl, hrow5, hcap5, -⟩ := Rg.row_own fitsI ho5
      have HFR := Lib.hid (Gr.fresh (cown_gown HO.out) (Nat.le_refl _) (own_blockL ho5) x)
      have HR5 := Lib.hid hrow5
      have HC5 : Hid (k ≤ c5) := by show k ≤ c5; rw [← HXL.out]; exact hcap5
      rw [HXL.out]
      clear ho5 hg5 hz5 HAL hc2 hrow5 hcap5 HXR
      go_wp2_with (at_builtin; refine wpList_capp sliceCC rfl (.tmp 11) (.tmp 18) rfl w.heap.size _ S x C5 k c5 rfl rfl (cown_below HO.out HB5.out) HXL.out HC5.out HR5.out HFR.out HSL.out (Nat.le_trans HB.out.2 HB5.out.size) ?_)
      intro v6 W6 ho6 hb6 hz6
      have HO6 := Lib.hid ho6
      have HB6 : Hid (Below w.heap.size w W6 ∧ w.heap.size ≤ W6.heap.size) := ⟨(HB.out.1.trans (HB5.out.mono HB.out.2)).trans hb6, Nat.le_trans (Nat.le_trans HB.out.2 HB5.out.size) hz6⟩
      clear ho6 hb6 hz6 HO HB HB5 HR5 HFR HSL
      go_wp2_with fail
      go_roundw
      case rel => exact ⟨j + 1, S ++ [x], by omega, by go_num, HS2.out, HO6.out, HB6.out⟩
      case measure => simp [intOf]; omega
    · have HE : Hid (S = t) := by
        show _ = _
        rw [HS.out, List.take_of_length_le (by rw [HM.out]; omega)]
      go_wp2_with fail
      go_ret
      exact ⟨_, rfl, by rw [← HE.out]; exact HO.out, HB.out.1, HB.out.2⟩
theorem to13_any (A : Option Addr) (m c : Nat) (t : List (List Int)) (w : World) (hm : t.length = m) (hr : GRow w A t) (hl : m ≤ 500000) (hf : ∀ x ∈ t, x.length ≤ 17592186044416) :
    Calls Try.prog 11 #[.slice A m c] w (GRet w 47 t) :=
  (to13c_any A m c t w hm hr hl hf).mono fun _ _ ⟨v, h1, h2, h3⟩ => ⟨v, h1, cown_gown h2, h3⟩
def Cl.fewG (t : List (List Int)) : Bool := decide (t.length ≤ 200) && t.all (fun c => decide (c.length ≤ 300))
set_option maxRecDepth 100000 in
set_option maxHeartbeats 1600000 in
theorem few13_any (A : Option Addr) (m c : Nat) (t : List (List Int)) (w : World) (hm : t.length = m) (hr : GRow w A t) :
    Calls Try.prog 9 #[.slice A m c] w fun e w' => e = .returned (.bool (fewG t)) ∧ w = w' := by
  obtain ⟨X, hX⟩ : ∃ X, fewG t = X := ⟨_, rfl⟩
  rw [hX]
  have HX := Lib.hid hX
  have HR := Lib.hid hr
  have HM := Lib.hid hm
  clear hr hm hX
  by_cases hl : 200 < m
  · have d1 : decide ((200 : Int) < (m : Int)) = true := decide_eq_true (by omega)
    have HF : Hid (X = false) := by
      show _ = _
      rw [← HX.out]; unfold fewG; rw [decide_eq_false (by rw [HM.out]; omega)]; rfl
    go_enter Try.func9, Try.ntmps9
    go_wp2_with fail
    go_ret
    exact ⟨by rw [HF.out]; rfl, rfl⟩
  · have d1 : decide ((200 : Int) < (m : Int)) = false := decide_eq_false (by omega)
    have hm2 : m ≤ 200 := by omega
    have HA : Hid (X = t.all (fun c => decide (c.length ≤ 300))) := by
      show _ = _
      rw [← HX.out]; unfold fewG; rw [decide_eq_true (by rw [HM.out]; omega)]; rfl
    go_enter Try.func9, Try.ntmps9
    go_wp2_with fail
    clear d1
    go_loopw [3] (fun i wr => ∃ j : Nat, j ≤ m ∧ i = .int .i64 j ∧ Hid (∀ c ∈ t.take j, c.length ≤ 300) ∧ w = wr) (fun i _ => m - (intOf i).toNat)
    case atStart => exact ⟨0, Nat.zero_le _, rfl, fun c h => absurd h (by simp), rfl⟩
    case round =>
      obtain ⟨j, hj, rfl, HT, rfl⟩ := hrel
      by_cases hlt : j < m
      · have hjl : j < t.length := by rw [HM.out]; exact hlt
        obtain ⟨ad, C, k, cc, x, rfl, hbx, hc, hx, hxl, hxr⟩ := grow_at HR.out j hjl
        have j0 : (0 : Int) ≤ (j : Int) := by omega
        have j1 : (j : Int) < (m : Int) := by omega
        have HYes : Hid (k ≤ 300 → ∀ c ∈ t.take (j + 1), c.length ≤ 300) := fun h c hc => by
          rw [List.take_succ_eq_append_getElem hjl, hx] at hc
          rcases List.mem_append.1 hc with hc | hc
          · exact HT.out c hc
          · rw [List.mem_singleton.1 hc, hxl]; exact h
        have HNo : Hid (300 < k → X = false) := fun h => by
          rw [HA.out, List.all_eq_false]
          exact ⟨_, List.getElem_mem hjl, by rw [hx, hxl]; simp; omega⟩
        clear hbx hx hxl hxr hjl
        by_cases hk : 300 < k
        · have d2 : decide ((300 : Int) < (k : Int)) = true := decide_eq_true (by omega)
          have HF := Lib.hid (HNo.out hk)
          clear HYes HNo
          go_wp2_with fail
          go_ret
          exact ⟨by rw [HF.out]; rfl, rfl⟩
        · have d2 : decide ((300 : Int) < (k : Int)) = false := decide_eq_false (by omega)
          have HT2 := Lib.hid (HYes.out (by omega))
          clear HYes HNo
          go_wp2_with fail
          go_roundw
          case rel => exact ⟨j + 1, by omega, by go_num, HT2.out, trivial⟩
          case measure => simp [intOf]; omega
      · have HF : Hid (X = true) := by
          show _ = _
          rw [HA.out, List.all_eq_true]
          intro c hc
          exact decide_eq_true (HT.out c (by rw [List.take_of_length_le (by rw [HM.out]; omega)]; exact hc))
        go_wp2_with fail
        go_ret
        exact ⟨by rw [HF.out]; rfl, rfl⟩
end Go.Proofs.Ytjkmdghlhodhiaa
