/- The law's own loops: a row of the document's Spans as the program's, and back. What a law's walk keeps: the rows that lie in memory, one behind the other; each function of ranges over it. -/
import Derived.Test.YtkdildgdodnbbaaGreatDoorQm
import Derived.Test.YtkdildgdodnbbaaGreatDoorQo
import Derived.Test.YtkdildgdodnbbaaGreatDoorQk
import Derived.Test.YtkdildgdodnbbaaGreatDoorQd
namespace Go.Proofs.YtkdildgdodnbbaaGreatDoor
open Go.RowKit Rs
attribute [local go_sem ↓] Go.wp_at_zero Go.wp_at_succ

theorem at4_low {w u : World} {p : Addr} {lo hi : List UInt8} {li hn : Bool} (hp : p.block < w.heap.size) (h : At4 w p lo hi li hn) (hb : Below w.heap.size w u) : At4 u p lo hi li hn := by
  obtain ⟨h0, h1, h2, h3⟩ := h
  refine ⟨?_, ?_, ?_, ?_⟩
  · rw [hb.cell hp]; exact h0
  · rw [hb.cell (by simpa using hp)]; exact h1
  · rw [hb.cell (by simpa using hp)]; exact h2
  · rw [hb.cell (by simpa using hp)]; exact h3
theorem app_done2 {α : Type} {enc : α → List Value} {K : Nat} {T : TypeId} {v : Value} {l : List α} {w wr W5 : World} {o : Obj} (hB : Hid (Below w.heap.size w wr ∧ w.heap.size ≤ wr.heap.size)) (hO : Hid (Rg.Own enc K wr w.heap.size T v l)) (hg : (wr.drew.alloc o).grownBy W5 v.ownBlock) :
    Hid (Below w.heap.size w W5 ∧ w.heap.size ≤ W5.heap.size) := by
  have hs : w.heap.size ≤ wr.drew.heap.size := hB.out.2
  have h1 : Below w.heap.size w (wr.drew.alloc o) := (hB.out.1.drew).alloc hs _
  have h2 : w.heap.size ≤ (wr.drew.alloc o).heap.size := by have e : (wr.drew.alloc o).heap.size = wr.drew.heap.size + 1 := by simp
                                                            omega
  exact ⟨h1.trans (Rg.grown_below (Rg.own_below hO.out ((Below.refl _ _).drew.alloc (Nat.le_refl _) _)) h2 hg), Nat.le_trans h2 hg.size⟩
theorem app_low {w wr : World} {o : Obj} (hB : Hid (Below w.heap.size w wr ∧ w.heap.size ≤ wr.heap.size)) : w.heap.size ≤ (wr.drew.alloc o).heap.size := by
  have hs : w.heap.size ≤ wr.drew.heap.size := hB.out.2
  have e : (wr.drew.alloc o).heap.size = wr.drew.heap.size + 1 := by simp
  omega
theorem rrow_own {w : World} {B n : Nat} {v : Value} {l : List Sp} (h : ROwn w B v l) (hn : l.length = n) : ∃ C d, v = .slice C n d ∧ SRow w C l ∧ n ≤ d ∧ ∀ a, C = some a → B ≤ a.block := by
  subst hn
  obtain ⟨C, d, hv, hr⟩ := srow_own (T := 90) h
  obtain ⟨C2, d2, hv2, _, h3, _⟩ := Rg.row_own fitsS h
  rw [hv] at hv2
  cases hv2
  exact ⟨C, d, hv, hr, h3, fun a ha => by subst ha; exact (Rg.own_lt h a.block (by rw [hv]; rfl)).1⟩
theorem srow_lit (w : World) (T : TypeId) (l : List Sp) (cs : Array Value) (h : cs.toList = Rg.flat spC l) : SRow (w.alloc (.cells cs T)) (some ⟨w.heap.size, 0, none⟩) l := fun _ => by
  refine ⟨_, rfl, by simp, fun i hi => ?_⟩
  have hn := Rg.news_new w T l cs h
  have e : ∀ j, j < 4 → (w.alloc (.cells cs T)).cell? (((⟨w.heap.size, 0, none⟩ : Addr).add (i * 4)).add j) = (spC l[i])[j]? := fun j hj => by
    rw [Go.Deep.add_add]
    have hg := Rg.flat_get fitsS l i hi j hj
    have hl : j < (spC l[i]).length := hj
    rw [List.getElem?_eq_getElem hl] at hg ⊢
    exact hn _ _ hg
  exact ⟨e 0 (by decide), e 1 (by decide), e 2 (by decide), e 3 (by decide)⟩
set_option maxRecDepth 100000 in
set_option maxHeartbeats 1600000 in
theorem to3_any (A : Option Addr) (c : Nat) (l : List Sp) (w : World) (hr : SRow w A l) (hl : l.length ≤ 1000) :
    Calls Tryz.prog 46 #[.slice A l.length c] w (SpansRet w l) := by
  have HR := Lib.hid hr
  clear hr
  go_enter Tryz.func46, Tryz.ntmps46
  go_wp2_with fail
  go_loopw [3, 4] (fun v i wr => ∃ k : Nat, k ≤ l.length ∧ i = .int .i64 k ∧ Hid (POwn wr w.heap.size v (l.take k)) ∧ Hid (Below w.heap.size w wr ∧ w.heap.size ≤ wr.heap.size)) (fun _ i _ => l.length - (intOf i).toNat)
  case atStart => exact ⟨0, Nat.zero_le _, rfl, Rg.own_nil _ _ _, Below.refl _ _, Nat.le_refl _⟩
  case round =>
    obtain ⟨k, hk, rfl, HO, HB⟩ := hrel
    by_cases hlt : k < l.length
    · obtain ⟨ad, lo, hi, li, hn, rfl, hs, hla, h4⟩ := srow_at HR.out k hlt
      have hsz : (l.take k).length + 1 ≤ 1000000 := by rw [List.length_take]; omega
      have HT : Hid (l.take (k + 1) = l.take k ++ [⟨lo, hi, li, hn⟩]) := by show _ = _; rw [List.take_succ_eq_append_getElem hlt, hs]
      have HLA : Hid ((ad.add (k * 4)).block < w.heap.size) := by show _ < _; rw [add_block]; exact hla
      have H4 := Lib.hid h4
      have HD : Hid (Below w.heap.size w wr.drew) := HB.out.1.drew
      have HS : Hid (w.heap.size ≤ wr.drew.heap.size) := HB.out.2
      obtain ⟨c0, c1, c2, c3⟩ := at4_low HLA.out h4 HB.out.1
      have k0 : (0 : Int) ≤ (k : Int) := by omega
      have k1 : (k : Int) < (l.length : Int) := by omega
      clear hs h4 hla
      go_wp2_with fail
      go_region_held3 (fun w' => w'.cell? (ad.add (k * 4)) = some (.string ⟨lo.toArray⟩) ∧ w'.cell? ⟨(ad.add (k * 4)).block, (ad.add (k * 4)).off + 1, none⟩ = some (.string ⟨hi.toArray⟩) ∧ w'.cell? ⟨(ad.add (k * 4)).block, (ad.add (k * 4)).off + 2, none⟩ = some (.bool li) ∧ w'.cell? ⟨(ad.add (k * 4)).block, (ad.add (k * 4)).off + 3, none⟩ = some (.bool hn))
        (first
          | exact at4_low HLA.out H4.out HD.out
          | exact at4_low HLA.out H4.out (HD.out.alloc HS.out _)
          | exact at4_low HLA.out H4.out HB5.out.1)
        ((refine Rg.step_app sliceS (by rfl) (.tmp 11) (.tmp 33) (by rfl) w.heap.size u3 (l.take k) [⟨lo, hi, li, hn⟩] (by rfl) (Rg.own_below HO.out ((Below.refl _ _).drew.alloc (Nat.le_refl _) _)) _ _ (by rfl) (newsS _ ⟨lo, hi, li, hn⟩ _) (Nat.zero_lt_succ _) hsz (app_low HB) ?_; intro v5 W5 ho5 hg5 hz5; have HB5 := app_done2 HB HO hg5))
      have HO5 : Hid (POwn W5 w.heap.size v5 (l.take (k + 1))) := by show POwn _ _ _ _; rw [HT.out]; exact ho5
      clear ho5 hg5 hz5 c0 c1 c2 c3 HD HS
      go_wp2_with fail
      go_roundw
      case rel => exact ⟨k + 1, by omega, by go_num, HO5, HB5⟩
      case measure => simp [intOf]; omega
    · obtain rfl : k = l.length := by omega
      have HO5 : POwn wr w.heap.size u3 l := by have := HO.out; rwa [List.take_length] at this
      clear HO
      obtain ⟨C, d, rfl, h1, h2, h3⟩ := srow_of HO5
      have H1 := Lib.hid h1
      have H2 := Lib.hid h2
      have H3 := Lib.hid h3
      clear h1 h2 h3 HO5
      go_wp2_with fail
      go_ret
      exact ⟨⟨C, d, rfl, H1.out, H2.out, H3.out⟩, HB.out.1⟩
set_option maxRecDepth 100000 in
set_option maxHeartbeats 1600000 in
theorem of3_any (A : Option Addr) (c : Nat) (l : List Sp) (w : World) (hr : SRow w A l) (hl : l.length ≤ 1000) :
    Calls Tryz.prog 64 #[.slice A l.length c] w (SpansRet w l) := by
  have HR := Lib.hid hr
  clear hr
  go_enter Tryz.func64, Tryz.ntmps64
  go_wp2_with fail
  go_loopw [3, 4] (fun v i wr => ∃ k : Nat, k ≤ l.length ∧ i = .int .i64 k ∧ Hid (ROwn wr w.heap.size v (l.take k)) ∧ Hid (Below w.heap.size w wr ∧ w.heap.size ≤ wr.heap.size)) (fun _ i _ => l.length - (intOf i).toNat)
  case atStart => exact ⟨0, Nat.zero_le _, rfl, Rg.own_nil _ _ _, Below.refl _ _, Nat.le_refl _⟩
  case round =>
    obtain ⟨k, hk, rfl, HO, HB⟩ := hrel
    by_cases hlt : k < l.length
    · obtain ⟨ad, lo, hi, li, hn, rfl, hs, hla, h4⟩ := srow_at HR.out k hlt
      have hsz : (l.take k).length + 1 ≤ 1000000 := by rw [List.length_take]; omega
      have HT : Hid (l.take (k + 1) = l.take k ++ [⟨lo, hi, li, hn⟩]) := by show _ = _; rw [List.take_succ_eq_append_getElem hlt, hs]
      have HLA : Hid ((ad.add (k * 4)).block < w.heap.size) := by show _ < _; rw [add_block]; exact hla
      have H4 := Lib.hid h4
      have HD : Hid (Below w.heap.size w wr.drew) := HB.out.1.drew
      have HS : Hid (w.heap.size ≤ wr.drew.heap.size) := HB.out.2
      obtain ⟨c0, c1, c2, c3⟩ := at4_low HLA.out h4 HB.out.1
      have k0 : (0 : Int) ≤ (k : Int) := by omega
      have k1 : (k : Int) < (l.length : Int) := by omega
      clear hs h4 hla
      go_wp2_with fail
      go_region_held3 (fun w' => w'.cell? (ad.add (k * 4)) = some (.string ⟨lo.toArray⟩) ∧ w'.cell? ⟨(ad.add (k * 4)).block, (ad.add (k * 4)).off + 1, none⟩ = some (.string ⟨hi.toArray⟩) ∧ w'.cell? ⟨(ad.add (k * 4)).block, (ad.add (k * 4)).off + 2, none⟩ = some (.bool li) ∧ w'.cell? ⟨(ad.add (k * 4)).block, (ad.add (k * 4)).off + 3, none⟩ = some (.bool hn))
        (first
          | exact at4_low HLA.out H4.out HD.out
          | exact at4_low HLA.out H4.out (HD.out.alloc HS.out _)
          | exact at4_low HLA.out H4.out HB5.out.1)
        ((refine Rg.step_app sliceR (by rfl) (.tmp 11) (.tmp 33) (by rfl) w.heap.size u3 (l.take k) [⟨lo, hi, li, hn⟩] (by rfl) (Rg.own_below HO.out ((Below.refl _ _).drew.alloc (Nat.le_refl _) _)) _ _ (by rfl) (newsS _ ⟨lo, hi, li, hn⟩ _) (Nat.zero_lt_succ _) hsz (app_low HB) ?_; intro v5 W5 ho5 hg5 hz5; have HB5 := app_done2 HB HO hg5))
      have HO5 : Hid (ROwn W5 w.heap.size v5 (l.take (k + 1))) := by show ROwn _ _ _ _; rw [HT.out]; exact ho5
      clear ho5 hg5 hz5 c0 c1 c2 c3 HD HS
      go_wp2_with fail
      go_roundw
      case rel => exact ⟨k + 1, by omega, by go_num, HO5, HB5⟩
      case measure => simp [intOf]; omega
    · obtain rfl : k = l.length := by omega
      have HO5 : ROwn wr w.heap.size u3 l := by have := HO.out; rwa [List.take_length] at this
      clear HO
      obtain ⟨C, d, rfl, h1, h2, h3⟩ := rrow_own HO5 rfl
      have H1 := Lib.hid h1
      have H2 := Lib.hid h2
      have H3 := Lib.hid h3
      clear h1 h2 h3 HO5
      go_wp2_with fail
      go_ret
      exact ⟨⟨C, d, rfl, H1.out, H2.out, H3.out⟩, HB.out.1⟩
end Go.Proofs.YtkdildgdodnbbaaGreatDoor
namespace Go.Proofs.YtkdildgdodnbbaaGreatDoor
open Go.RowKit Rs

/-- A row in memory: where, how long, what. -/
structure Ent where
  A : Option Addr
  n : Nat
  l : List Sp
def St (w0 u : World) (L : List Ent) : Prop := MaxOk w0 ∧ Below w0.heap.size w0 u ∧ ∀ x ∈ L, SRow u x.A x.l ∧ x.l.length = x.n
section
variable {w0 u u' : World} {L : List Ent}
theorem st_max (h : St w0 u L) : MaxOk u := maxOk_below h.1 h.2.1
theorem st_step (h : St w0 u L) (hb : Below u.heap.size u u') : St w0 u' L := ⟨h.1, h.2.1.trans (hb.mono h.2.1.size), fun x hx => ⟨srow_below (h.2.2 x hx).1 hb, (h.2.2 x hx).2⟩⟩
theorem st_new {C : Option Addr} {n : Nat} {l : List Sp} (h : St w0 u L) (hb : Below u.heap.size u u') (hr : SRow u' C l) (hn : l.length = n) : St w0 u' (⟨C, n, l⟩ :: L) := by
  obtain ⟨h1, h2, h3⟩ := st_step h hb
  refine ⟨h1, h2, fun x hx => ?_⟩
  rcases List.mem_cons.1 hx with rfl | hx
  · exact ⟨hr, hn⟩
  · exact h3 x hx
theorem st_row {A : Option Addr} {n : Nat} {l : List Sp} (h : St w0 u L) (i : Nat) (hi : L[i]? = some ⟨A, n, l⟩) : SRow u A l ∧ l.length = n := h.2.2 _ (List.mem_of_getElem? hi)
theorem st_alloc (h : St w0 u L) (o : Obj) : St w0 (u.alloc o) L := st_step h ((Below.refl _ _).alloc (Nat.le_refl _) _)
theorem st_lit {m : Nat} (h : St w0 u L) (T : TypeId) (l : List Sp) (cs : Array Value) (hc : cs.toList = Rg.flat spC l) (hm : l.length = m) : St w0 (u.alloc (.cells cs T)) (⟨some ⟨u.heap.size, 0, none⟩, m, l⟩ :: L) :=
  st_new h ((Below.refl _ _).alloc (Nat.le_refl _) _) (srow_lit u T l cs hc) hm
def RowRet (w0 : World) (L : List Ent) (l : List Sp) (e : Ending) (u' : World) : Prop := ∃ C n d, e = .returned (.slice C n d) ∧ St w0 u' (⟨C, n, l⟩ :: L)
def RowErr (w0 : World) (L : List Ent) (l : List Sp) (k : Int) (e : Ending) (u' : World) : Prop := ∃ C n d, e = .returned (.tuple #[.slice C n d, .int .i64 k]) ∧ St w0 u' (⟨C, n, l⟩ :: L)
def BoolRet (w0 : World) (L : List Ent) (b : Bool) (e : Ending) (u' : World) : Prop := e = .returned (.bool b) ∧ St w0 u' L
def IntRet (w0 : World) (L : List Ent) (k : Int) (e : Ending) (u' : World) : Prop := e = .returned (.int .i64 k) ∧ St w0 u' L
theorem ret_row (h : St w0 u L) {l : List Sp} {e : Ending} (hr : SpansRet u l e u') : RowRet w0 L l e u' := by
  obtain ⟨⟨C, d, rfl, h1, _, _⟩, hb⟩ := hr
  exact ⟨C, _, d, rfl, st_new h hb h1 rfl⟩
theorem ret_err (h : St w0 u L) {l : List Sp} {k : Int} {e : Ending} (hr : OfRet u l k e u') : RowErr w0 L l k e u' := by
  obtain ⟨⟨C, d, rfl, h1, _⟩, hb⟩ := hr
  exact ⟨C, _, d, rfl, st_new h hb h1 rfl⟩
theorem ret_bool (h : St w0 u L) {b c : Bool} (hbc : b = c) {e : Ending} (hr : e = .returned (.bool b) ∧ Below u.heap.size u u') : BoolRet w0 L c e u' := ⟨by rw [hr.1, hbc], st_step h hr.2⟩
theorem ret_int (h : St w0 u L) {b c : Int} (hbc : b = c) {e : Ending} (hr : e = .returned (.int .i64 b) ∧ Below u.heap.size u u') : IntRet w0 L c e u' := ⟨by rw [hr.1, hbc], st_step h hr.2⟩
theorem good_len {a : List (Rm.P Cut)} {n : Nat} (ga : Rs.Good a) (h : (a.map spOf).length = n) : a.length = n ∧ n ≤ 64 := by
  rw [List.length_map] at h; exact ⟨h, h ▸ ga.2.2⟩
/-! What a sign and a version make. -/
def sgnOf (s : List UInt8) : Option Nat := if s = sgnT 0 then some 0 else if s = sgnT 1 then some 1 else if s = sgnT 2 then some 2 else if s = sgnT 3 then some 3 else if s = sgnT 4 then some 4 else if s = sgnT 5 then some 5 else none
def ofE (s v : List UInt8) : Int := match sgnOf s with | none => 2 | some _ => Vm.check v
def ofR (s v : List UInt8) : List (Rm.P Cut) := match sgnOf s with | none => [] | some i => if Vm.check v = 0 then signR (Vm.canon v) i else []
theorem sgnOf_some {s : List UInt8} {i : Nat} (h : sgnOf s = some i) : i < 6 ∧ s = sgnT i := by
  unfold sgnOf at h
  split at h
  · cases h; exact ⟨by decide, by assumption⟩
  split at h
  · cases h; exact ⟨by decide, by assumption⟩
  split at h
  · cases h; exact ⟨by decide, by assumption⟩
  split at h
  · cases h; exact ⟨by decide, by assumption⟩
  split at h
  · cases h; exact ⟨by decide, by assumption⟩
  split at h
  · cases h; exact ⟨by decide, by assumption⟩
  cases h
theorem sgnOf_none {s : List UInt8} (h : sgnOf s = none) : NoSign s := fun i hi e => by
  subst e
  match i, hi with
  | 0, _ => cases h
  | 1, _ => cases h
  | 2, _ => cases h
  | 3, _ => cases h
  | 4, _ => cases h
  | 5, _ => cases h
theorem ofR_good (s v : List UInt8) : Rs.Good (ofR s v) := by
  unfold ofR
  split
  · exact ⟨trivial, fun p hp => (by cases hp), by decide⟩
  · rename_i i hs
    split
    · exact good_sign (own_canon (by assumption)) i (sgnOf_some hs).1
    · exact ⟨trivial, fun p hp => (by cases hp), by decide⟩
theorem of_all (s v : List UInt8) (w : World) (hw : MaxOk w) : Calls Tryz.prog 153 #[.string ⟨s.toArray⟩, .string ⟨v.toArray⟩] w (OfRet w ((ofR s v).map spOf) (ofE s v)) := by
  unfold ofR ofE
  cases hs : sgnOf s with
  | none => exact of_nosign s v w hw (sgnOf_none hs)
  | some i =>
    obtain ⟨hi, rfl⟩ := sgnOf_some hs
    by_cases hv : Vm.check v = 0
    · simp only [hv, if_true]; exact of_sign i hi v w hw hv
    · simp only [hv, if_false]; exact of_nover i hi v w hw hv
/-! Each function over the state. -/
theorem s_of (h : St w0 u L) (s v : List UInt8) (R : List (Rm.P Cut)) (k : Int) (hR : ofR s v = R) (hk : ofE s v = k) : Calls Tryz.prog 153 #[.string ⟨s.toArray⟩, .string ⟨v.toArray⟩] u (RowErr w0 L (R.map spOf) k) := by
  subst hR hk
  exact (of_all s v u (st_max h)).mono fun _ _ => ret_err h
variable {A B : Option Addr} {n m : Nat}
/-- What Norm hands back. -/
def nrmR (l : List Sp) : List (Rm.P Cut) := if normE 0 l = 0 then Rm.joinK Ln (l.map Sp.piece) else []
theorem nrmR_good (l : List Sp) : Rs.Good (nrmR l) := by
  unfold nrmR
  split
  · obtain ⟨h1, h2⟩ := normE_ok l 0 (by decide) (by assumption)
    exact good_join h1 (by omega)
  · exact ⟨trivial, fun p hp => (by cases hp), by decide⟩
theorem nrmR_map (l : List Sp) : (nrmR l).map spOf = if normE 0 l = 0 then (Rm.joinK Ln (l.map Sp.piece)).map spOf else [] := by unfold nrmR; split <;> rfl
theorem s_to (h : St w0 u L) (i : Nat) {l : List Sp} (hi : L[i]? = some ⟨A, n, l⟩) (hn : n ≤ 1000) (c : Nat) : Calls Tryz.prog 46 #[.slice A n c] u (RowRet w0 L l) := by
  obtain ⟨h1, rfl⟩ := st_row h i hi
  exact (to3_any A c l u h1 hn).mono fun _ _ => ret_row h
theorem s_ofr (h : St w0 u L) (i : Nat) {l : List Sp} (hi : L[i]? = some ⟨A, n, l⟩) (hn : n ≤ 1000) (c : Nat) : Calls Tryz.prog 64 #[.slice A n c] u (RowRet w0 L l) := by
  obtain ⟨h1, rfl⟩ := st_row h i hi
  exact (of3_any A c l u h1 hn).mono fun _ _ => ret_row h
theorem s_and (h : St w0 u L) (i j : Nat) {a b : List (Rm.P Cut)} (hi : L[i]? = some ⟨A, n, a.map spOf⟩) (hj : L[j]? = some ⟨B, m, b.map spOf⟩) (ga : Rs.Good a) (gb : Rs.Good b) (ca cb : Nat) (R : List (Rm.P Cut)) (hR : andR a b = R) :
    Calls Tryz.prog 154 #[.slice A n ca, .slice B m cb] u (RowRet w0 L (R.map spOf)) := by
  subst hR
  exact (and_any A B n m ca cb a b u (st_max h) (st_row h i hi).2 (st_row h j hj).2 (st_row h i hi).1 (st_row h j hj).1 ga gb).mono fun _ _ => ret_row h
theorem s_or (h : St w0 u L) (i j : Nat) {a b : List (Rm.P Cut)} (hi : L[i]? = some ⟨A, n, a.map spOf⟩) (hj : L[j]? = some ⟨B, m, b.map spOf⟩) (ga : Rs.Good a) (gb : Rs.Good b) (ca cb : Nat) (R : List (Rm.P Cut)) (hR : orR a b = R) :
    Calls Tryz.prog 129 #[.slice A n ca, .slice B m cb] u (RowRet w0 L (R.map spOf)) := by
  subst hR
  exact (or_any A B n m ca cb a b u (st_max h) (st_row h i hi).2 (st_row h j hj).2 (st_row h i hi).1 (st_row h j hj).1 ga gb).mono fun _ _ => ret_row h
theorem s_all (h : St w0 u L) (R : List (Rm.P Cut)) (hR : allR = R) : Calls Tryz.prog 22 #[] u (RowRet w0 L (R.map spOf)) := by
  subst hR
  exact (all_any u).mono fun _ _ => ret_row h
theorem s_same (h : St w0 u L) (i j : Nat) {l k : List Sp} (hi : L[i]? = some ⟨A, n, l⟩) (hj : L[j]? = some ⟨B, m, k⟩) (hn : n ≤ 1000) (hm : m ≤ 1000) (ca cb : Nat) (b : Bool) (hb : decide (l = k) = b) :
    Calls Tryz.prog 47 #[.slice A n ca, .slice B m cb] u (BoolRet w0 L b) := by
  obtain ⟨h1, rfl⟩ := st_row h i hi
  obtain ⟨h2, rfl⟩ := st_row h j hj
  exact (same_any A ca l B cb k u h1 h2 (by omega) (by omega)).mono fun _ _ => ret_bool h hb
theorem s_sameRange (h : St w0 u L) (i j : Nat) {l k : List Sp} (hi : L[i]? = some ⟨A, n, l⟩) (hj : L[j]? = some ⟨B, m, k⟩) (hn : n ≤ 1000) (hm : m ≤ 1000) (ca cb : Nat) (b : Bool) (hb : decide (l = k) = b) :
    Calls Tryz.prog 24 #[.slice A n ca, .slice B m cb] u (BoolRet w0 L b) := by
  obtain ⟨h1, rfl⟩ := st_row h i hi
  obtain ⟨h2, rfl⟩ := st_row h j hj
  exact (sameRange_any A ca l B cb k u h1 h2 (by omega) (by omega)).mono fun _ _ => ret_bool h hb
theorem s_check (h : St w0 u L) (i : Nat) {l : List Sp} (hi : L[i]? = some ⟨A, n, l⟩) (hn : n ≤ 1000) (ca : Nat) (k : Int) (hk : checkR l = k) :
    Calls Tryz.prog 100 #[.slice A n ca] u (IntRet w0 L k) :=
  (rcheck_any A n ca l u (st_max h) (st_row h i hi).2 (st_row h i hi).1 hn).mono fun _ _ => ret_int h hk
theorem s_few (h : St w0 u L) (i : Nat) {l : List Sp} (hi : L[i]? = some ⟨A, n, l⟩) (hn : n ≤ maxLen) (hs : ∀ s ∈ l, s.lo.length ≤ maxLen ∧ s.hi.length ≤ maxLen) (ca : Nat) (b : Bool) (hb : fewL l = b) :
    Calls Tryz.prog 42 #[.slice A n ca] u (BoolRet w0 L b) := by
  obtain ⟨h1, rfl⟩ := st_row h i hi
  exact (few_any A ca l u h1 hn hs).mono fun _ _ hr => ⟨by rw [hr.1, hb], hr.2 ▸ h⟩
theorem s_checkVer (h : St w0 u L) (v : List UInt8) (k : Int) (hk : Vm.check v = k) :
    Calls Tryz.prog 108 #[.string ⟨v.toArray⟩] u (IntRet w0 L k) := by
  have := checkVer_any v u
  rw [hk] at this
  exact this.mono fun _ _ hr => ⟨hr.1, hr.2 ▸ h⟩
/-! For rows in normal form. -/
theorem s_sameG (h : St w0 u L) (i j : Nat) {a b : List (Rm.P Cut)} (hi : L[i]? = some ⟨A, n, a.map spOf⟩) (hj : L[j]? = some ⟨B, m, b.map spOf⟩) (ga : Rs.Good a) (gb : Rs.Good b) (ca cb : Nat) (hab : a = b) :
    Calls Tryz.prog 47 #[.slice A n ca, .slice B m cb] u (BoolRet w0 L true) :=
  s_same h i j hi hj (by have := (good_len ga (st_row h i hi).2).2; omega) (by have := (good_len gb (st_row h j hj).2).2; omega) ca cb true (decide_eq_true (by rw [hab]))
theorem s_sameRangeG (h : St w0 u L) (i j : Nat) {a b : List (Rm.P Cut)} (hi : L[i]? = some ⟨A, n, a.map spOf⟩) (hj : L[j]? = some ⟨B, m, b.map spOf⟩) (ga : Rs.Good a) (gb : Rs.Good b) (ca cb : Nat) (hab : a = b) :
    Calls Tryz.prog 24 #[.slice A n ca, .slice B m cb] u (BoolRet w0 L true) :=
  s_sameRange h i j hi hj (by have := (good_len ga (st_row h i hi).2).2; omega) (by have := (good_len gb (st_row h j hj).2).2; omega) ca cb true (decide_eq_true (by rw [hab]))
theorem s_toG (h : St w0 u L) (i : Nat) {a : List (Rm.P Cut)} (hi : L[i]? = some ⟨A, n, a.map spOf⟩) (ga : Rs.Good a) (ca : Nat) : Calls Tryz.prog 46 #[.slice A n ca] u (RowRet w0 L (a.map spOf)) :=
  s_to h i hi (by have := (good_len ga (st_row h i hi).2).2; omega) ca
theorem s_ofG (h : St w0 u L) (i : Nat) {a : List (Rm.P Cut)} (hi : L[i]? = some ⟨A, n, a.map spOf⟩) (ga : Rs.Good a) (ca : Nat) : Calls Tryz.prog 64 #[.slice A n ca] u (RowRet w0 L (a.map spOf)) :=
  s_ofr h i hi (by have := (good_len ga (st_row h i hi).2).2; omega) ca
theorem s_checkG (h : St w0 u L) (i : Nat) {a : List (Rm.P Cut)} (hi : L[i]? = some ⟨A, n, a.map spOf⟩) (ga : Rs.Good a) (ca : Nat) : Calls Tryz.prog 100 #[.slice A n ca] u (IntRet w0 L 0) :=
  s_check h i hi (by have := (good_len ga (st_row h i hi).2).2; omega) ca 0 (good_check ga)
/-- Strings of a row that came in are no longer than any string. -/
def Wide (l : List Sp) : Prop := ∀ s ∈ l, s.lo.length ≤ maxLen ∧ s.hi.length ≤ maxLen
theorem nrmR_len (l : List Sp) : (nrmR l).length ≤ l.length := by
  unfold nrmR
  split
  · have h := (normE_ok l 0 (by decide) (by assumption)).1
    have := (Rm.joinK_spec Ln (l.map Sp.piece) (fun y hy => by
      obtain ⟨s, hs, rfl⟩ := List.mem_map.1 hy
      exact (piece_spOf (h s hs)).2.2)).2.2
    rwa [List.length_map] at this
  · exact Nat.zero_le _
theorem few_len {l : List Sp} (h : fewL l = true) : l.length ≤ 80 := by
  unfold fewL at h
  split at h
  · cases h
  · omega
end
end Go.Proofs.YtkdildgdodnbbaaGreatDoor
