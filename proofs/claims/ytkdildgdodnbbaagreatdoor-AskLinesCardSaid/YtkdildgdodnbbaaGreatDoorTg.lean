/- The law's own functions on atoms, walked: Few, To, Of. The calls of a law on atoms, over one state. What each statement of the atoms looks at first. What a law on atoms leans on, plain: what is read may be, its text is short. -/
import Derived.Test.YtkdildgdodnbbaaGreatDoorAz
namespace Go.Proofs.YtkdildgdodnbbaaGreatDoor
open Go.RowKit Rs At
attribute [local go_sem ↓] Go.wp_at_zero Go.wp_at_succ
theorem refParseAtom_any (s : List UInt8) (w : World) (hw : MaxOk w) (hs : s.length ≤ 4000) :
    Calls Tryz.prog 41 #[.string ⟨s.toArray⟩] w (ParseRet w (parseA s)) := by
  cases h : Vm.has 32 s
  · exact refParse_one s w hs h
  · exact refParse_more s w hw hs h
/-- The cells of the atom that came, and those of the one that goes. -/
def AC (b : Nat) (name : List UInt8) (A : Option Addr) (n c : Nat) (u : World) : Prop :=
  u.cell? ⟨b, 0, none⟩ = some (.string ⟨name.toArray⟩) ∧ u.cell? ⟨b, 1, none⟩ = some (.slice A n c) ∧ u.cell? ⟨b + 1, 0, none⟩ = some (.string ⟨#[]⟩) ∧ u.cell? ⟨b + 1, 1, none⟩ = some (.slice none 0 0) ∧ u.frozen? ⟨b + 1, 0, none⟩ = false ∧ u.frozen? ⟨b + 1, 1, none⟩ = false ∧ ∀ j, 2 ≤ j → u.cell? ⟨b + 1, j, none⟩ = none
theorem ac_of {w W1 W2 u : World} {T1 T2 : TypeId} {name : List UInt8} {A : Option Addr} {n c : Nat} (h1 : w.alloc (.cells #[.string ⟨name.toArray⟩, .slice A n c] T1) = W1) (h2 : W1.alloc (.cells #[.string ⟨#[]⟩, .slice none 0 0] T2) = W2) (hb : Below W2.heap.size W2 u) : AC w.heap.size name A n c u := by
  have hs1 : W1.heap.size = w.heap.size + 1 := by rw [← h1]; simp
  have hb1 : Below W1.heap.size W1 u := (alloc_low h2).trans (hb.mono (alloc_low h2).size)
  obtain ⟨a0, a1, _⟩ := cell_two h1 hb1
  obtain ⟨b0, b1, b2, b3⟩ := cell_two h2 hb
  have e1 : u.heap[W1.heap.size]? = some (.cells #[.string ⟨#[]⟩, .slice none 0 0] T2 (0, 0)) := (hb.block _ (by rw [← h2]; simp)).trans (by rw [← h2]; exact heap_alloc_new W1 _)
  rw [hs1] at b0 b1 b2 b3 e1
  exact ⟨a0, a1, b0, b1, b2, b3, fun j hj => by simp [World.cell?, e1]; omega⟩
theorem ac2 {b : Nat} {name : List UInt8} {A : Option Addr} {n c : Nat} {u : World} (h : AC b name A n c u) : u.cell? ⟨b, 0, none⟩ = some (.string ⟨name.toArray⟩) ∧ u.cell? ⟨b, 1, none⟩ = some (.slice A n c) := ⟨h.1, h.2.1⟩
theorem ac_set {b : Nat} {name : List UInt8} {A : Option Addr} {n c : Nat} {u : World} (h : AC b name A n c u) (x y : Value) :
    ((u.setCell ⟨b + 1, 0, none⟩ x).setCell ⟨b + 1, 1, none⟩ y).cell? ⟨b, 0, none⟩ = some (.string ⟨name.toArray⟩) ∧ ((u.setCell ⟨b + 1, 0, none⟩ x).setCell ⟨b + 1, 1, none⟩ y).cell? ⟨b, 1, none⟩ = some (.slice A n c) := by
  have far : ∀ j, ((u.setCell ⟨b + 1, 0, none⟩ x).setCell ⟨b + 1, 1, none⟩ y).cell? ⟨b, j, none⟩ = u.cell? ⟨b, j, none⟩ := fun j => by
    rw [World.cell?_setCell_far _ _ _ _ (by show b + 1 ≠ b; omega), World.cell?_setCell_far _ _ _ _ (by show b + 1 ≠ b; omega)]
  exact ⟨(far 0).trans h.1, (far 1).trans h.2.1⟩
theorem ac_get {b : Nat} {name : List UInt8} {A : Option Addr} {n c : Nat} {u : World} (h : AC b name A n c u) (x y : Value) :
    ((u.setCell ⟨b + 1, 0, none⟩ x).setCell ⟨b + 1, 1, none⟩ y).cell? ⟨b + 1, 0, none⟩ = some x ∧ ((u.setCell ⟨b + 1, 0, none⟩ x).setCell ⟨b + 1, 1, none⟩ y).cell? ⟨b + 1, 1, none⟩ = some y := by
  obtain ⟨_, _, b0, b1, _⟩ := h
  constructor <;> simp [go_sem, b0, b1]
set_option maxRecDepth 100000 in
set_option maxHeartbeats 1600000 in
theorem to4_any (name : List UInt8) (A : Option Addr) (n c : Nat) (l : List Sp) (w : World) (hn : l.length = n) (hr : SRow w A l) (hl : n ≤ 1000) :
    Calls Tryz.prog 21 #[.agg #[.string ⟨name.toArray⟩, .slice A n c]] w fun e w' => ∃ C d, e = .returned (.agg #[.string ⟨name.toArray⟩, .slice C n d]) ∧ SRow w' C l ∧ Below w.heap.size w w' := by
  obtain ⟨W1, hW1⟩ : ∃ W, w.alloc (.cells #[.string ⟨name.toArray⟩, .slice A n c] 38) = W := ⟨_, rfl⟩
  obtain ⟨W2, hW2⟩ : ∃ W, W1.alloc (.cells #[.string ⟨#[]⟩, .slice none 0 0] 32) = W := ⟨_, rfl⟩
  have HAC : Hid (∀ u, Below W2.heap.size W2 u → AC w.heap.size name A n c u) := fun u hb => ac_of hW1 hW2 hb
  have hs1 : W1.heap.size = w.heap.size + 1 := by rw [← hW1]; simp
  have HBW : Hid (Below w.heap.size w W2) := (alloc_low hW1).trans ((alloc_low hW2).mono (alloc_low hW1).size)
  have HR2 : Hid (SRow W2 A l) := srow_below hr HBW.out
  subst hn
  clear hr
  go_enter Tryz.func21, Tryz.ntmps21
  go_wp2_with fail
  have HB1 : Hid (Below W2.heap.size W2 W2.drew) := (Below.refl _ _).drew
  obtain ⟨a0, a1, _⟩ := HAC.out _ HB1.out
  clear hW1 hW2
  go_region_held3 (fun w' => w'.cell? ⟨w.heap.size, 0, none⟩ = some (.string ⟨name.toArray⟩) ∧ w'.cell? ⟨w.heap.size, 1, none⟩ = some (.slice A l.length c))
    (first
      | exact ac2 (HAC.out _ HB1.out)
      | exact ac2 (HAC.out _ HB3.out)
      | exact ac_set (HAC.out _ HB3.out) _ _)
    (first
      | (go_at_call 46; refine (to3_any A c l _ (srow_below HR2.out HB1.out) hl).mono ?_; rintro _ u3 ⟨⟨C, d, rfl, hr3, _, _⟩, hb3⟩; have HB3 := Lib.hid (HB1.out.trans (hb3.mono HB1.out.size)); have HR3 := Lib.hid hr3; clear hb3 hr3; obtain ⟨_, _, b0, b1, f0, f1, _⟩ := HAC.out _ HB3.out))
  have HBV : Hid (Below w.heap.size w ((u3.setCell ⟨w.heap.size + 1, 0, none⟩ (.string ⟨name.toArray⟩)).setCell ⟨w.heap.size + 1, 1, none⟩ (.slice C l.length d))) :=
    ((HBW.out.trans (HB3.out.mono HBW.out.size)).setCell (Nat.le_succ _) _).setCell (Nat.le_succ _) _
  have hap := row_apart HR3.out (HAC.out _ HB3.out).2.2.2.2.2.2
  have HRV : Hid (SRow ((u3.setCell ⟨w.heap.size + 1, 0, none⟩ (.string ⟨name.toArray⟩)).setCell ⟨w.heap.size + 1, 1, none⟩ (.slice C l.length d)) C l) := srow_far (srow_far HR3.out hap) hap
  have g := ac_get (HAC.out _ HB3.out) (.string ⟨name.toArray⟩) (.slice C l.length d)
  clear hap
  go_wp2_with fail
  generalize (u3.setCell ⟨w.heap.size + 1, 0, none⟩ (.string ⟨name.toArray⟩)).setCell ⟨w.heap.size + 1, 1, none⟩ (.slice C l.length d) = V at *
  obtain ⟨g0, g1⟩ := g
  refine bodyPost_ret (v := .agg #[.string ⟨name.toArray⟩, .slice C l.length d]) ?_ rfl ⟨C, d, rfl, HRV.out, HBV.out⟩
  simp [results, Tryz.results21, go_sem, g0, g1]
set_option maxRecDepth 100000 in
set_option maxHeartbeats 1600000 in
theorem of4_any (name : List UInt8) (A : Option Addr) (n c : Nat) (l : List Sp) (w : World) (hn : l.length = n) (hr : SRow w A l) (hl : n ≤ 1000) :
    Calls Tryz.prog 38 #[.agg #[.string ⟨name.toArray⟩, .slice A n c]] w fun e w' => ∃ C d, e = .returned (.agg #[.string ⟨name.toArray⟩, .slice C n d]) ∧ SRow w' C l ∧ Below w.heap.size w w' := by
  obtain ⟨W1, hW1⟩ : ∃ W, w.alloc (.cells #[.string ⟨name.toArray⟩, .slice A n c] 32) = W := ⟨_, rfl⟩
  obtain ⟨W2, hW2⟩ : ∃ W, W1.alloc (.cells #[.string ⟨#[]⟩, .slice none 0 0] 38) = W := ⟨_, rfl⟩
  have HAC : Hid (∀ u, Below W2.heap.size W2 u → AC w.heap.size name A n c u) := fun u hb => ac_of hW1 hW2 hb
  have hs1 : W1.heap.size = w.heap.size + 1 := by rw [← hW1]; simp
  have HBW : Hid (Below w.heap.size w W2) := (alloc_low hW1).trans ((alloc_low hW2).mono (alloc_low hW1).size)
  have HR2 : Hid (SRow W2 A l) := srow_below hr HBW.out
  subst hn
  clear hr
  go_enter Tryz.func38, Tryz.ntmps38
  go_wp2_with fail
  have HB1 : Hid (Below W2.heap.size W2 W2.drew) := (Below.refl _ _).drew
  obtain ⟨a0, a1, _⟩ := HAC.out _ HB1.out
  clear hW1 hW2
  go_region_held3 (fun w' => w'.cell? ⟨w.heap.size, 0, none⟩ = some (.string ⟨name.toArray⟩) ∧ w'.cell? ⟨w.heap.size, 1, none⟩ = some (.slice A l.length c))
    (first
      | exact ac2 (HAC.out _ HB1.out)
      | exact ac2 (HAC.out _ HB3.out)
      | exact ac_set (HAC.out _ HB3.out) _ _)
    (first
      | (go_at_call 64; refine (of3_any A c l _ (srow_below HR2.out HB1.out) hl).mono ?_; rintro _ u3 ⟨⟨C, d, rfl, hr3, _, _⟩, hb3⟩; have HB3 := Lib.hid (HB1.out.trans (hb3.mono HB1.out.size)); have HR3 := Lib.hid hr3; clear hb3 hr3; obtain ⟨_, _, b0, b1, f0, f1, _⟩ := HAC.out _ HB3.out))
  have HBV : Hid (Below w.heap.size w ((u3.setCell ⟨w.heap.size + 1, 0, none⟩ (.string ⟨name.toArray⟩)).setCell ⟨w.heap.size + 1, 1, none⟩ (.slice C l.length d))) :=
    ((HBW.out.trans (HB3.out.mono HBW.out.size)).setCell (Nat.le_succ _) _).setCell (Nat.le_succ _) _
  have hap := row_apart HR3.out (HAC.out _ HB3.out).2.2.2.2.2.2
  have HRV : Hid (SRow ((u3.setCell ⟨w.heap.size + 1, 0, none⟩ (.string ⟨name.toArray⟩)).setCell ⟨w.heap.size + 1, 1, none⟩ (.slice C l.length d)) C l) := srow_far (srow_far HR3.out hap) hap
  have g := ac_get (HAC.out _ HB3.out) (.string ⟨name.toArray⟩) (.slice C l.length d)
  clear hap
  go_wp2_with fail
  generalize (u3.setCell ⟨w.heap.size + 1, 0, none⟩ (.string ⟨name.toArray⟩)).setCell ⟨w.heap.size + 1, 1, none⟩ (.slice C l.length d) = V at *
  obtain ⟨g0, g1⟩ := g
  refine bodyPost_ret (v := .agg #[.string ⟨name.toArray⟩, .slice C l.length d]) ?_ rfl ⟨C, d, rfl, HRV.out, HBV.out⟩
  simp [results, Tryz.results38, go_sem, g0, g1]
/-- Is an atom small? -/
def fewA (a : Atm) : Bool := decide (a.name.length ≤ 100) && fewL a.rng
set_option maxRecDepth 100000 in
set_option maxHeartbeats 1600000 in
theorem few4_any {w0 w : World} {L : List Ent} (hS : St w0 w L) (name : List UInt8) (A : Option Addr) (n c : Nat) (l : List Sp) (i : Nat) (hi : L[i]? = some ⟨A, n, l⟩) (hm : name.length ≤ maxLen) (hn : n ≤ maxLen) (hs : Wide l) :
    Calls Tryz.prog 19 #[.agg #[.string ⟨name.toArray⟩, .slice A n c]] w (BoolRet w0 L (fewA ⟨name, l⟩)) := by
  obtain ⟨R, hR⟩ : ∃ R, fewA ⟨name, l⟩ = R := ⟨_, rfl⟩
  rw [hR]
  obtain ⟨fl, hfl⟩ : ∃ R, fewL l = R := ⟨_, rfl⟩
  have hR2 : (decide (name.length ≤ 100) && fl) = R := by rw [← hfl]; exact hR
  have HFL := Lib.hid hfl
  have HS := Lib.hid hS
  have HW := Lib.hid hs
  have hbx := bx2_new w name A n c 38
  obtain ⟨k0, k1⟩ := hbx
  have HS1 : Hid (St w0 (w.alloc (.cells #[.string ⟨name.toArray⟩, .slice A n c] 38)) L) := st_alloc hS _
  clear hS hR hfl hs
  unfold maxLen at hm
  by_cases h1 : name.length ≤ 100
  · have HR : Hid (fl = R) := by rw [decide_eq_true h1] at hR2; exact hR2
    have d0 : decide ((name.length : Int) ≤ 100) = true := decide_eq_true (by omega)
    clear hR2
    go_enter Tryz.func19, Tryz.ntmps19
    go_wp2_with fail
    refine (s_few HS1.out i hi hn HW.out _ fl HFL.out).mono ?_
    rintro _ u ⟨rfl, hs⟩
    have HS2 := Lib.hid hs
    clear hs
    go_wp2_with fail
    go_ret
    exact ⟨by rw [HR.out]; rfl, HS2.out⟩
  · have HR : Hid (false = R) := by rw [decide_eq_false h1] at hR2; exact hR2
    have d0 : decide ((name.length : Int) ≤ 100) = false := decide_eq_false (by omega)
    clear hR2
    go_enter Tryz.func19, Tryz.ntmps19
    go_wp2_with fail
    go_ret
    exact ⟨by rw [← HR.out]; rfl, HS1.out⟩
end Go.Proofs.YtkdildgdodnbbaaGreatDoor
namespace Go.Proofs.YtkdildgdodnbbaaGreatDoor
open Go.RowKit Rs At
variable {w0 u : World} {L : List Ent} {A B : Option Addr} {n m : Nat}
theorem s4_check (h : St w0 u L) (i : Nat) {l : List Sp} (hi : L[i]? = some ⟨A, n, l⟩) (hn : n ≤ 1000) (c : Nat) (name : List UInt8) (hm : name.length ≤ maxLen) (k : Int) (hk : checkA ⟨name, l⟩ = k) : Calls Tryz.prog 53 #[.agg #[.string ⟨name.toArray⟩, .slice A n c]] u (IntRet w0 L k) :=
  (atomCheck_any name A n c l u (st_max h) hm (st_row h i hi).2 (st_row h i hi).1 hn).mono fun _ _ hr => ret_int h hk hr
theorem s4_refCheck (h : St w0 u L) (i : Nat) {l : List Sp} (hi : L[i]? = some ⟨A, n, l⟩) (hn : n ≤ 1000) (c : Nat) (name : List UInt8) (hm : name.length ≤ maxLen) (k : Int) (hk : checkA ⟨name, l⟩ = k) : Calls Tryz.prog 20 #[.agg #[.string ⟨name.toArray⟩, .slice A n c]] u (IntRet w0 L k) :=
  (refCheckAtom_any name A n c l u (st_max h) hm (st_row h i hi).2 (st_row h i hi).1 hn).mono fun _ _ hr => ret_int h hk hr
theorem s4_same (h : St w0 u L) (i j : Nat) {l k : List Sp} (hi : L[i]? = some ⟨A, n, l⟩) (hj : L[j]? = some ⟨B, m, k⟩) (hn : n ≤ 1000) (hm : m ≤ 1000) (c d : Nat) (na nb : List UInt8) (b : Bool) (hb : decide ((⟨na, l⟩ : Atm) = ⟨nb, k⟩) = b) :
    Calls Tryz.prog 60 #[.agg #[.string ⟨na.toArray⟩, .slice A n c], .agg #[.string ⟨nb.toArray⟩, .slice B m d]] u (BoolRet w0 L b) :=
  (atomSame_any na nb A B n m c d l k u (st_row h i hi).2 (st_row h j hj).2 (st_row h i hi).1 (st_row h j hj).1 hn hm).mono fun _ _ hr => ret_bool h hb hr
theorem s4_refSame (h : St w0 u L) (i j : Nat) {l k : List Sp} (hi : L[i]? = some ⟨A, n, l⟩) (hj : L[j]? = some ⟨B, m, k⟩) (hn : n ≤ 1000) (hm : m ≤ 1000) (c d : Nat) (na nb : List UInt8) (b : Bool) (hb : decide ((⟨na, l⟩ : Atm) = ⟨nb, k⟩) = b) :
    Calls Tryz.prog 35 #[.agg #[.string ⟨na.toArray⟩, .slice A n c], .agg #[.string ⟨nb.toArray⟩, .slice B m d]] u (BoolRet w0 L b) :=
  (refSameAtom_any na nb A B n m c d l k u (st_row h i hi).2 (st_row h j hj).2 (st_row h i hi).1 (st_row h j hj).1 hn hm).mono fun _ _ hr => ret_bool h hb hr
/-- An atom handed back, its row the newest. -/
def AtmRet (w0 : World) (L : List Ent) (name : List UInt8) (l : List Sp) (e : Ending) (u' : World) : Prop := ∃ C n d, e = .returned (.agg #[.string ⟨name.toArray⟩, .slice C n d]) ∧ St w0 u' (⟨C, n, l⟩ :: L)
def AtmErr (w0 : World) (L : List Ent) (name : List UInt8) (l : List Sp) (k : Int) (e : Ending) (u' : World) : Prop := ∃ C n d, e = .returned (.tuple #[.agg #[.string ⟨name.toArray⟩, .slice C n d], .int .i64 k]) ∧ St w0 u' (⟨C, n, l⟩ :: L)
def TxtRet (w0 : World) (L : List Ent) (t : List UInt8) (e : Ending) (u' : World) : Prop := e = .returned (.string ⟨t.toArray⟩) ∧ St w0 u' L
theorem s4_to (h : St w0 u L) (i : Nat) {l : List Sp} (hi : L[i]? = some ⟨A, n, l⟩) (hn : n ≤ 1000) (c : Nat) (name : List UInt8) : Calls Tryz.prog 21 #[.agg #[.string ⟨name.toArray⟩, .slice A n c]] u (AtmRet w0 L name l) :=
  (to4_any name A n c l u (st_row h i hi).2 (st_row h i hi).1 hn).mono fun _ _ ⟨C, d, he, hr, hb⟩ => ⟨C, n, d, he, st_new h hb hr (st_row h i hi).2⟩
theorem s4_of (h : St w0 u L) (i : Nat) {l : List Sp} (hi : L[i]? = some ⟨A, n, l⟩) (hn : n ≤ 1000) (c : Nat) (name : List UInt8) : Calls Tryz.prog 38 #[.agg #[.string ⟨name.toArray⟩, .slice A n c]] u (AtmRet w0 L name l) :=
  (of4_any name A n c l u (st_row h i hi).2 (st_row h i hi).1 hn).mono fun _ _ ⟨C, d, he, hr, hb⟩ => ⟨C, n, d, he, st_new h hb hr (st_row h i hi).2⟩
theorem good_n {l : List Sp} (h : checkR l = 0) : l.length ≤ 64 := by
  have := (check_good h).1.2.2
  rwa [List.length_map] at this
theorem s4_text (h : St w0 u L) (i : Nat) {l : List Sp} (hi : L[i]? = some ⟨A, n, l⟩) (c : Nat) (name : List UInt8) (hm : name.length ≤ 100) (hk : checkR l = 0) (t : List UInt8) (ht : textA ⟨name, l⟩ = t) : Calls Tryz.prog 23 #[.agg #[.string ⟨name.toArray⟩, .slice A n c]] u (TxtRet w0 L t) :=
  (atomText_any name A n c l u (st_max h) hm (st_row h i hi).2 (st_row h i hi).1 (by rw [← (st_row h i hi).2]; exact good_n hk) hk).mono fun _ _ hr => ⟨by rw [hr.1, ht], st_step h hr.2⟩
theorem s4_refText (h : St w0 u L) (i : Nat) {l : List Sp} (hi : L[i]? = some ⟨A, n, l⟩) (c : Nat) (name : List UInt8) (hm : name.length ≤ 100) (hk : checkR l = 0) (t : List UInt8) (ht : textA ⟨name, l⟩ = t) : Calls Tryz.prog 59 #[.agg #[.string ⟨name.toArray⟩, .slice A n c]] u (TxtRet w0 L t) :=
  (refAtomText_any name A n c l u (st_max h) hm (st_row h i hi).2 (st_row h i hi).1 (by rw [← (st_row h i hi).2]; exact good_n hk) hk).mono fun _ _ hr => ⟨by rw [hr.1, ht], st_step h hr.2⟩
theorem s4_parse (h : St w0 u L) (s : List UInt8) (hs : s.length ≤ 4000) (k : Int) (name : List UInt8) (l : List Sp) (hX : parseA s = (k, ⟨name, l⟩)) : Calls Tryz.prog 87 #[.string ⟨s.toArray⟩] u (AtmErr w0 L name l k) :=
  (atomParse_any s u (st_max h) hs).mono fun _ _ ⟨C, m, d, he, hm, hr, hb⟩ => by
    rw [hX] at he hm hr
    exact ⟨C, m, d, he, st_new h hb hr hm⟩
theorem s4_refParse (h : St w0 u L) (s : List UInt8) (hs : s.length ≤ 4000) (k : Int) (name : List UInt8) (l : List Sp) (hX : parseA s = (k, ⟨name, l⟩)) : Calls Tryz.prog 41 #[.string ⟨s.toArray⟩] u (AtmErr w0 L name l k) :=
  (refParseAtom_any s u (st_max h) hs).mono fun _ _ ⟨C, m, d, he, hm, hr, hb⟩ => by
    rw [hX] at he hm hr
    exact ⟨C, m, d, he, st_new h hb hr hm⟩
theorem s4_name (h : St w0 u L) (l : List UInt8) (hm : l.length ≤ maxLen) (b : Bool) (hb : nameB l = b) : Calls Tryz.prog 99 #[.string ⟨l.toArray⟩] u (BoolRet w0 L b) :=
  (nameA_any l u hm).mono fun _ _ hr => ⟨by rw [hr.1, hb], hr.2 ▸ h⟩
theorem s4_refName (h : St w0 u L) (l : List UInt8) (hm : l.length ≤ maxLen) (b : Bool) (hb : nameB l = b) : Calls Tryz.prog 43 #[.string ⟨l.toArray⟩] u (BoolRet w0 L b) :=
  (refName_any l u hm).mono fun _ _ hr => ⟨by rw [hr.1, hb], hr.2 ▸ h⟩
/-! Atoms in blocks of the law's own. -/
/-- An atom's block, laid and filled. -/
theorem blk_new {u : World} {T : TypeId} (name : List UInt8) (C : Option Addr) (m d : Nat) :
    Bx2 u.heap.size name C m d (((u.alloc (.cells #[.string ⟨#[]⟩, .slice none 0 0] T)).setCell ⟨u.heap.size, 0, none⟩ (.string ⟨name.toArray⟩)).setCell ⟨u.heap.size, 1, none⟩ (.slice C m d)) ∧
    Below u.heap.size u (((u.alloc (.cells #[.string ⟨#[]⟩, .slice none 0 0] T)).setCell ⟨u.heap.size, 0, none⟩ (.string ⟨name.toArray⟩)).setCell ⟨u.heap.size, 1, none⟩ (.slice C m d)) ∧
    u.heap.size < (((u.alloc (.cells #[.string ⟨#[]⟩, .slice none 0 0] T)).setCell ⟨u.heap.size, 0, none⟩ (.string ⟨name.toArray⟩)).setCell ⟨u.heap.size, 1, none⟩ (.slice C m d)).heap.size := by
  refine ⟨⟨?_, ?_⟩, (((Below.refl _ _).alloc (Nat.le_refl _) _).setCell (Nat.le_refl _) _).setCell (Nat.le_refl _) _, ?_⟩
  · simp [go_sem]
  · simp [go_sem]
  · simp [World.setCell]
end Go.Proofs.YtkdildgdodnbbaaGreatDoor
namespace Go.Proofs.YtkdildgdodnbbaaGreatDoor
open Go.RowKit Rs At
theorem st_base {w0 u : World} {L : List Ent} (h : St w0 u L) : St u u L := ⟨st_max h, Below.refl _ _, h.2.2⟩
theorem p4a : parseA [108, 105, 98, 45, 120, 32, 40, 62, 61, 32, 49, 46, 48, 32, 38, 32, 60, 32, 50, 32, 124, 32, 61, 32, 48, 51, 41] = (0, ⟨[108, 105, 98, 45, 120], [⟨[49, 46, 48], [50], true, false⟩, ⟨[51], [51], true, true⟩]⟩) := by decide +kernel
theorem p4f : parseA [108, 105, 98, 32, 40, 62, 61, 32, 41] = (2, ⟨[], []⟩) := by decide +kernel
theorem p4g : parseA [76, 105, 98, 32, 40, 61, 32, 49, 41] = (3, ⟨[], []⟩) := by decide +kernel
theorem p4h : parseA [108, 105, 98, 32, 40, 61, 32, 49, 120, 41] = (5, ⟨[], []⟩) := by decide +kernel
theorem p4b : parseA [108, 105, 98, 32, 40, 62, 32, 50, 32, 38, 32, 60, 32, 49, 41] = (0, ⟨[108, 105, 98], []⟩) := by decide +kernel
theorem p4c : parseA [108, 105, 98, 32, 40, 60, 32, 50, 32, 124, 32, 62, 61, 32, 50, 41] = (0, ⟨[108, 105, 98], [⟨[], [], false, false⟩]⟩) := by decide +kernel
theorem p4k : parseA [108, 105, 98, 32, 32, 40, 61, 32, 49, 41] = (2, ⟨[], []⟩) := by decide +kernel
end Go.Proofs.YtkdildgdodnbbaaGreatDoor
namespace Go.Proofs.YtkdildgdodnbbaaGreatDoor
open Go.RowKit Rs At
theorem parse_check {s : List UInt8} {a : Atm} (h : parseA s = (0, a)) : checkA a = 0 := by
  have key : ∀ (name : List UInt8) (t : List (List Cond)), readA name t = (0, a) → checkA a = 0 := fun name t h => by
    unfold readA at h
    split at h
    · split at h
      · split at h
        · split at h
          · rename_i h4
            injection h with _ h2
            rw [← h2]; exact h4
          · rename_i h4
            injection h with h1 _
            exact absurd h1 h4
        · rename_i h3
          injection h with h1 _
          exact absurd h1 h3
      · injection h with h1 _; cases h1
    · injection h with h1 _; cases h1
  rw [parseA_eq] at h
  cases hp : parseT s with
  | none => rw [hp] at h; injection h with h1 _; cases h1
  | some t => rw [hp] at h; exact key _ t h
theorem parse_bad {s : List UInt8} {k : Int} {nm : List UInt8} {l : List Sp} (h : parseA s = (k, ⟨nm, l⟩)) (hk : k ≠ 0) : l = [] := by
  have key : ∀ (name : List UInt8) (t : List (List Cond)), readA name t = (k, ⟨nm, l⟩) → l = [] := fun name t h => by
    unfold readA at h
    split at h
    · split at h
      · split at h
        · split at h
          · injection h with h1 _; exact absurd h1.symm hk
          · injection h with _ h2; injection h2 with _ h3; exact h3.symm
        · injection h with _ h2; injection h2 with _ h3; exact h3.symm
      · injection h with _ h2; injection h2 with _ h3; exact h3.symm
    · injection h with _ h2; injection h2 with _ h3; exact h3.symm
  rw [parseA_eq] at h
  cases hp : parseT s with
  | none => rw [hp] at h; injection h with _ h2; injection h2 with _ h3; exact h3.symm
  | some t => rw [hp] at h; exact key _ t h
theorem check_parts {a : Atm} (h : checkA a = 0) : nameB a.name = true ∧ checkR a.rng = 0 ∧ vers (At.termOf a.rng) ≤ 16 := by
  unfold checkA at h
  split at h
  · rename_i h1
    split at h
    · rename_i h2
      split at h
      · cases h
      · rename_i h3; exact ⟨h1, h2, by omega⟩
    · rename_i h2; exact absurd h h2
  · cases h
theorem name_len {l : List UInt8} (h : nameB l = true) : l.length ≤ 24 := by
  rcases Nat.lt_or_ge 24 l.length with h1 | h1
  · rw [name_no24 h1] at h; cases h
  · exact h1
theorem alt_le {l : List Cond} (h : ∀ c ∈ l, (condT c).length ≤ 43) : (altT l).length ≤ l.length * 46 := by
  have := join_step_le [32, 38, 32] (l.map condT) 43 (fun t ht => by
    obtain ⟨c, hc, rfl⟩ := List.mem_map.1 ht
    exact h c hc)
  rw [List.length_map] at this
  exact this
theorem lens_alts : ∀ {t : List (List Cond)}, (∀ l ∈ t, ∀ c ∈ l, (condT c).length ≤ 43) → Lib.lens (t.map altT) ≤ vers t * 46
  | [], _ => by simp [Lib.lens]
  | l :: t, h => by
    have h1 := alt_le (h l (by simp))
    have h2 := lens_alts (t := t) (fun x hx => h x (by simp [hx]))
    have e1 : Lib.lens ((l :: t).map altT) = (altT l).length + Lib.lens (t.map altT) := by simp [Lib.lens]
    have e2 : vers (l :: t) = l.length + vers t := rfl
    rw [e1, e2, Nat.add_mul]; omega
theorem termT_le {t : List (List Cond)} (h : ∀ l ∈ t, ∀ c ∈ l, (condT c).length ≤ 43) (hl : t.length ≤ 64) (hv : vers t ≤ 16) : (termT t).length ≤ 928 := by
  unfold termT
  split
  · decide
  · cases t with
    | nil => contradiction
    | cons l t =>
      rw [List.map_cons, Lib.join_length, ← List.map_cons (f := altT)]
      have := lens_alts h
      simp only [List.length_map, List.length_cons] at hl ⊢
      show 3 * t.length + _ ≤ _
      omega
theorem text_le {a : Atm} (h : checkA a = 0) : (textA a).length ≤ 1000 := by
  obtain ⟨h1, h2, h3⟩ := check_parts h
  have hn := name_len h1
  unfold textA
  split
  · omega
  · have hl : (At.termOf a.rng).length ≤ 64 := by show (a.rng.map conds).length ≤ 64; rw [List.length_map]; exact good_n h2
    have ht := termT_le (t := At.termOf a.rng) (fun l hl c hc => by
      obtain ⟨s, hs, rfl⟩ := List.mem_map.1 hl
      obtain ⟨i, hi, he, ho⟩ := conds_ok ((check_spans h2).2.2 s hs) c hc
      have h40 := own_len ho
      have hsg : (sgnT i).length ≤ 2 := by
        match i, hi with
        | 0, _ | 1, _ | 2, _ | 3, _ | 4, _ | 5, _ => decide
      unfold condT
      rw [he]
      simp only [List.length_append, List.length_cons]
      omega) hl h3
    rw [List.length_append]
    simp only [List.length_cons, List.length_append, List.length_nil]
    omega
/-- An atom's block: a law's own variable. -/
def Bk (b : Nat) (name : List UInt8) (A : Option Addr) (n c : Nat) (u : World) : Prop := Bx2 b name A n c u ∧ b < u.heap.size
theorem bk_new (u : World) (name : List UInt8) (A : Option Addr) (n c : Nat) (T : TypeId) : Bk u.heap.size name A n c (u.alloc (.cells #[.string ⟨name.toArray⟩, .slice A n c] T)) := ⟨bx2_new _ _ _ _ _ _, by simp⟩
theorem bk_step {b : Nat} {name : List UInt8} {A : Option Addr} {n c : Nat} {u u' : World} (h : Bk b name A n c u) (hb : Below u.heap.size u u') : Bk b name A n c u' := ⟨bx2_below h.1 h.2 hb, Nat.lt_of_lt_of_le h.2 hb.size⟩
end Go.Proofs.YtkdildgdodnbbaaGreatDoor
