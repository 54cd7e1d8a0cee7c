/- Part 20 of what the laws lean on. -/
import Derived.Test.YtkplahkkmmoppaaGreatDoorK19
set_option maxRecDepth 100000
set_option maxHeartbeats 3200000
namespace Go.Proofs.YtkplahkkmmoppaaGreatDoor
open Go.RowKit Rs At Pg
theorem Pg.two_none {w W1 u : World} {T : TypeId} {a b : Value} (h1 : w.alloc (.cells #[a, b] T) = W1) (hb : Below W1.heap.size W1 u) : ∀ j, 2 ≤ j → u.cell? ⟨w.heap.size, j, none⟩ = none := fun j hj => by
 have e1 : u.heap[w.heap.size]? = some (.cells #[a, b] T (0, 0)) := (hb.block _ (by rw [← h1]; simp)).trans (by rw [← h1]; exact heap_alloc_new w _)
 simp [World.cell?, e1]; omega
def Pg.AtomRet (w : World) (i : Int) (R : Except Int Atm) (e : Ending) (w' : World) : Prop := Below w.heap.size w w' ∧ match R with
 | .ok a => ∃ C m d, e = .returned (.agg #[.string ⟨a.name.toArray⟩, .slice C m d]) ∧ a.rng.length = m ∧ SRow w' C a.rng
 | .error k => e = panAt i k
theorem Pg.res_atomV {u : World} {b : Nat} {n : List UInt8} {C : Option Addr} {m d : Nat} {x y : Value} {tmps : Array Value} (k0 : u.cell? ⟨b, 0, none⟩ = some x) (k1 : u.cell? ⟨b, 1, none⟩ = some y) (h : tmps.getD 2 undef = .pointer (some ⟨b, 0, none⟩)) :
  (results Tryz.f160 tmps).run Tryz.prog (stA u b n C m d) = .ok (.agg #[.string ⟨n.toArray⟩, .slice C m d]) (stA u b n C m d) := by
 have g0 : (stA u b n C m d).cell? ⟨b, 0, none⟩ = some (.string ⟨n.toArray⟩) := by simp [stA, go_sem, k0]
 have g1 : (stA u b n C m d).cell? ⟨b, 1, none⟩ = some (.slice C m d) := by simp [stA, go_sem, k1]
 have hr : Tryz.f160.results = #[.cell 2 66] := Tryz.results160
 simp only [results, hr]
 generalize stA u b n C m d = V at *
 simp only [Array.getD_eq_getD_getElem?] at h ⊢
 simp [go_sem, h, g0, g1]
attribute [local go_sem ↓] Go.wp_at_zero Go.wp_at_succ
theorem valueAtom_any (t : List UInt8) (i : Int) (w : World) (hw : MaxOk w) (ht : t.length ≤ 1000) :
  Calls Tryz.prog 160 #[.agg #[.string ⟨t.toArray⟩, .int .i64 i]] w (Pg.AtomRet w i (atomR t)) := by
 obtain ⟨E, hE⟩ : ∃ E, atomR t = E := ⟨_, rfl⟩
 rw [hE]
 unfold atomR at hE
 obtain ⟨V, hV⟩ : ∃ V, w.alloc (.cells #[.string ⟨t.toArray⟩, .int .i64 i] 170) = V := ⟨_, rfl⟩
 obtain ⟨U, hU⟩ : ∃ U, V.alloc (.cells #[.string ⟨#[]⟩, .slice none 0 0] 66) = U := ⟨_, rfl⟩
 have HBV : Hid (Below w.heap.size w V) := alloc_low hV
 have HVU : Hid (Below V.heap.size V U) := alloc_low hU
 have HB : Hid (Below w.heap.size w U) := HBV.out.trans (HVU.out.mono HBV.out.size)
 have HP := Lib.hid (fun W (h : Below U.heap.size U W) => cell_pair hV (HVU.out.trans (h.mono HVU.out.size)))
 have HG := Lib.hid (fun W (h : Below U.heap.size U W) => cell_two hU h)
 have HN := Lib.hid (fun W (h : Below U.heap.size U W) => two_none hU h)
 have HC := Lib.hid (atomParse_any t U (maxOk_below hw HB.out) ht)
 have HLO : Hid (w.heap.size ≤ V.heap.size) := HBV.out.size
 obtain ⟨c0, c1⟩ := HP.out _ (Below.refl _ _)
 obtain ⟨X, hX⟩ : ∃ X, parseA t = X := ⟨_, rfl⟩
 rw [hX] at hE HC
 obtain ⟨k, nm, l⟩ := X
 dsimp only at hE
 have HE := Lib.hid hE
 clear hE hw ht hX
 go_enter Tryz.func160, Tryz.ntmps160
 go_wp2_with fail
 clear hV hU
 refine HC.out.mono ?_
 rintro _ u ⟨C, m, d, rfl, hm, hr, hb⟩
 have HUu := Lib.hid hb
 have HM := Lib.hid hm
 have HR := Lib.hid hr
 dsimp only
 clear hb hm hr HC c0 c1
 obtain ⟨G, hG⟩ : ∃ G, u.alloc (.cells #[.string ⟨nm.toArray⟩, .slice C m d] 66) = G := ⟨_, rfl⟩
 have HGL : Hid (Below u.heap.size u G) := alloc_low hG
 have HUG : Hid (Below U.heap.size U G) := HUu.out.trans (HGL.out.mono HUu.out.size)
 have HQ := Lib.hid (fun W (h : Below G.heap.size G W) => cell_pair hG h)
 obtain ⟨c0, c1⟩ := HP.out _ HUG.out
 go_wp2_with fail
 clear hG
 refine (valueOK_any t i k _).mono ?_
 rintro _ u2 ⟨rfl, hb⟩
 have HG2 := Lib.hid hb
 have HU2 : Hid (Below U.heap.size U u2) := HUG.out.trans (hb.mono HUG.out.size)
 clear hb c0 c1
 by_cases h0 : k = 0
 case neg =>
  rw [okAt_ne h0]
  have HF : Hid (E = .error k) := by show _ = _; rw [← HE.out, if_neg h0]
  clear h0
  go_wp2_with fail
  refine ⟨rfl, HB.out.trans (HU2.out.mono HB.out.size), ?_⟩
  rw [HF.out]
 subst h0
 rw [okAt_zero]
 have HF : Hid (E = .ok ⟨nm, l⟩) := by show _ = _; rw [← HE.out]; rfl
 obtain ⟨p0, p1⟩ := HQ.out _ HG2.out
 obtain ⟨k0, k1, z0, z1⟩ := HG.out _ HU2.out
 have HR2 : Hid (SRow u2 C l) := srow_below HR.out (HGL.out.trans (HG2.out.mono HGL.out.size))
 have HAP := Lib.hid (row_apart HR2.out (HN.out _ HU2.out))
 go_wp2_with fail
 (try simp only [Exit.inBlock, Exit.then])
 refine bodyPost_ret (res_atomV k0 k1 rfl) rfl ?_
 refine ⟨((HB.out.trans (HU2.out.mono HB.out.size)).setCell HLO.out _).setCell HLO.out _, ?_⟩
 rw [HF.out]
 exact ⟨C, m, d, rfl, HM.out, srow_far (srow_far HR2.out HAP.out) HAP.out⟩
theorem splitN_any (s sep : List UInt8) (n : Nat) (w : World) (hm : MaxOk w) (hl : s.length ≤ 900000) (h1 : 1 ≤ sep.length) (hn : 1 ≤ n) (hn2 : n ≤ 1000) :
  Calls Tryz.prog 204 #[.string ⟨s.toArray⟩, .string ⟨sep.toArray⟩, .int .i64 n] w fun e w' => ∃ A m c, e = .returned (.slice A m c) ∧ (Lib.splitN s sep n).length = m ∧ m ≤ 1000 ∧ Rg.Row encT 1 w' A (Lib.splitN s sep n) ∧ Below w.heap.size w w' := by
 obtain ⟨m, hm⟩ := hm
 refine (Tryz.strings_SplitN ⟨s.toArray⟩ ⟨sep.toArray⟩ n m w (by show s.length < _; omega) hm h1 hn (by omega)).mono ?_
 rintro e w' ⟨rfl, rfl⟩
 have hd : (Lib.splitB ⟨sep.toArray⟩ 0 (min n (s.length + 1) - 1) ⟨s.toArray⟩).map (·.data.toList) = Lib.splitN s sep n := Lib.splitB_data _ _ _ _
 have hlen := Lib.splitB_length_le ⟨sep.toArray⟩ 0 (min n (s.length + 1) - 1) ⟨s.toArray⟩
 obtain ⟨ps, hps⟩ : ∃ ps, Lib.splitB ⟨sep.toArray⟩ 0 (min n (s.length + 1) - 1) ⟨s.toArray⟩ = ps := ⟨_, rfl⟩
 have hsz : (⟨s.toArray⟩ : ByteArray).size = s.length := by show s.toArray.size = _; simp
 rw [hsz]
 rw [hps] at hd hlen ⊢
 rw [← hd]
 refine ⟨_, _, _, rfl, by rw [List.length_map], by omega, fun _ => ⟨_, rfl, by simp, fun i hi j v hv => ?_⟩, (Below.refl _ _).alloc (Nat.le_refl _) _⟩
 have hj : j = 0 := by have h := (List.getElem?_eq_some_iff.1 hv).1; simp only [encT, List.length_cons, List.length_nil] at h; omega
 subst hj
 rw [List.length_map] at hi
 rw [if_pos rfl, Nat.mul_one]
 have ha : (⟨w.heap.size, 0, none⟩ : Addr).add i = ⟨w.heap.size, i, none⟩ := by unfold Addr.add; split <;> simp_all
 rw [ha, cell_of_row _ w.heap.size i _ _ (0, 0) (heap_alloc_new w _)]
 rw [List.getElem_map] at hv
 unfold Lib.cellsOf
 rw [List.getElem?_toArray, List.getElem?_append_left (by rw [List.length_map]; exact hi), List.getElem?_map, List.getElem?_eq_getElem hi]
 exact hv
theorem Pg.zero_is {κ : Value → Prop} {P : Program} {T : TypeId} {z0 : Value} (h : (P.info? T).map (·.zero) = some (some z0)) (hk : ∀ u ∈ z0.cells, κ u) : ∀ i, P.info? T = some i → ∀ z, i.zero = some z → ∀ u ∈ z.cells, κ u := fun i hi z hz u hu => by
 rw [hi] at h
 simp only [Option.map_some, Option.some.injEq] at h
 rw [h] at hz
 cases hz
 exact hk u hu
theorem Pg.sliceA : Rg.SliceT Tryz.prog encA 2 31 66 := ⟨fitsA, by decide, by kernel_rfl, Rg.info_of (z := .agg #[.string ByteArray.empty, .slice none 0 0]) (b := 40) (by kernel_rfl) (by rfl) (by decide)⟩
theorem Pg.zeroA_nob : ∀ i, Tryz.prog.info? 66 = some i → ∀ z, i.zero = some z → ∀ u ∈ z.cells, NoB u := zero_is (z0 := .agg #[.string ByteArray.empty, .slice none 0 0]) (by kernel_rfl) (fun u hu b e => by subst e; simp [Value.cells] at hu)
theorem Pg.encA_nob : ∀ x : AtD, ∀ u ∈ encA x, NoB u := fun x u hu b e => by subst e; simp [encA] at hu
def Pg.AOwn (w : World) (B : Nat) (T : TypeId) (v : Value) (ds : List AtD) (l : List Atm) : Prop := Rg.Own encA 2 w B T v ds ∧ AIn w ds l ∧ Pure NoB w v
theorem Pg.aown_nil (w : World) (B : Nat) (T : TypeId) : AOwn w B T (.slice none 0 0) [] [] := ⟨Rg.own_nil _ _ _, ⟨rfl, fun i d a h => by simp at h⟩, pure_nil _ _⟩
theorem Pg.aown_below {w w' : World} {B : Nat} {T : TypeId} {v : Value} {ds : List AtD} {l : List Atm} (h : AOwn w B T v ds l) (hb : Below w.heap.size w w') : AOwn w' B T v ds l := ⟨Rg.own_below h.1 hb, ain_below h.2.1 hb, pure_below h.2.2 h.1 hb⟩
theorem Pg.ain_snoc {w : World} {ds : List AtD} {l : List Atm} {d : AtD} {a : Atm} (h : AIn w ds l) (h1 : d.1 = a.name) (h2 : d.2.2.1 = a.rng.length) (h3 : SRow w d.2.1 a.rng) : AIn w (ds ++ [d]) (l ++ [a]) := by
 refine ⟨by rw [List.length_append, List.length_append, h.1]; rfl, fun i x y e1 e2 => ?_⟩
 rcases get_snoc e1 with ⟨q1, q2⟩ | ⟨q1, q2⟩
 ·rcases get_snoc e2 with ⟨_, p2⟩ | ⟨p1, _⟩
  ·exact h.2 i x y q2 p2
  ·have := h.1; omega
 ·rcases get_snoc e2 with ⟨p1, _⟩ | ⟨_, p2⟩
  ·have := h.1; omega
  ·subst q2 p2; exact ⟨h1, h2, h3⟩
theorem Pg.aown_add {w w' : World} {B : Nat} {T : TypeId} {v v' : Value} {ds : List AtD} {l : List Atm} {C : Option Addr} {m c : Nat} {a : Atm} (h : AOwn w B T v ds l) (hr : SRow w C a.rng) (hm : a.rng.length = m) (ho : Rg.Own encA 2 w' B T v' (ds ++ [(a.name, C, m, c)])) (hp : Pure NoB w' v') (hg : w.grownBy w' v.ownBlock) : AOwn w' B T v' (ds ++ [(a.name, C, m, c)]) (l ++ [a]) := by
 have hb : But v.ownBlock w w' := but_grown hg
 refine ⟨ho, ain_snoc (ain_but h.2.1 hb h.2.2) rfl hm.symm (srow_but hr hb fun h0 q hq e => ?_), hp⟩
 cases hv : v.ownBlock with
 | none => rw [hv] at e; cases e
 | some g => rw [hv] at e; exact srow_nob hr (h.2.2 g hv) h0 q hq e
theorem Pg.aown_row {w : World} {B : Nat} {T : TypeId} {v : Value} {ds : List AtD} {l : List Atm} (h : AOwn w B T v ds l) : ∃ A c, v = .slice A l.length c ∧ ARow w A l ∧ ∀ a, A = some a → B ≤ a.block := by
 obtain ⟨A, c, hv, hr, _, _⟩ := Rg.row_own fitsA h.1
 rw [h.2.1.1] at hv
 exact ⟨A, c, hv, ⟨ds, hr, h.2.1⟩, fun a ha => by subst ha; exact (Rg.own_lt h.1 a.block (by rw [hv]; rfl)).1⟩
def Pg.PartsRet {β : Type} (M : World → Option Addr → List β → Prop) (w : World) (i : Int) (R : Except Int (List β)) (e : Ending) (w' : World) : Prop := Below w.heap.size w w' ∧ match R with
 | .ok l => ∃ A n c, e = .returned (.slice A n c) ∧ l.length = n ∧ M w' A l ∧ ∀ a, A = some a → w.heap.size ≤ a.block
 | .error k => e = panAt i k
theorem partsAtoms_any (t sep : List UInt8) (i : Int) (most : Nat) (w : World) (hw : MaxOk w) (ht : t.length ≤ 1000) (h1 : 1 ≤ sep.length) (hmo : most ≤ 100) :
  Calls Tryz.prog 159 #[.agg #[.string ⟨t.toArray⟩, .int .i64 i], .string ⟨sep.toArray⟩, .int .i64 most, .func (.func 160) #[] #[]] w (Pg.PartsRet ARow w i (partsR atomR sep most t)) := by
 obtain ⟨R, hR⟩ : ∃ R, partsR atomR sep most t = R := ⟨_, rfl⟩
 rw [hR]
 unfold partsR at hR
 obtain ⟨V, hV⟩ : ∃ V, w.alloc (.cells #[.string ⟨t.toArray⟩, .int .i64 i] 170) = V := ⟨_, rfl⟩
 have HB : Hid (Below w.heap.size w V) := alloc_low hV
 have HP := Lib.hid (fun W (h : Below V.heap.size V W) => cell_pair hV h)
 have HM := Lib.hid (fun W (h : Below V.heap.size V W) => maxOk_below (maxOk_below hw HB.out) h)
 have HC : Hid (Calls Tryz.prog 204 #[.string ⟨t.toArray⟩, .string ⟨sep.toArray⟩, .int .i64 ((most : Int) + 1)] V fun e w' => ∃ A m c, e = .returned (.slice A m c) ∧ (Lib.splitN t sep (most + 1)).length = m ∧ m ≤ 1000 ∧ Rg.Row encT 1 w' A (Lib.splitN t sep (most + 1)) ∧ Below V.heap.size V w') :=
  splitN_any t sep (most + 1) V (HM.out _ (Below.refl _ _)) (by omega) h1 (by omega) (by omega)
 have hpl : ∀ p ∈ Lib.split t sep, p.length ≤ 1000 := fun p hp => Nat.le_trans (piece_le sep _ t p hp) ht
 obtain ⟨f1, f2⟩ := splitN_few (s := t) (sep := sep) (fun e => by rw [e] at h1; simp at h1) most
 obtain ⟨ps, hps⟩ : ∃ ps, Lib.split t sep = ps := ⟨_, rfl⟩
 obtain ⟨qs, hqs⟩ : ∃ ps, Lib.splitN t sep (most + 1) = ps := ⟨_, rfl⟩
 rw [hps] at hR f1 f2 hpl
 rw [hqs] at f1 f2 HC
 have iw : IntKind.i64.wrap ((most : Int) + 1) = (most : Int) + 1 := IntWalk.i64_in _ (by omega)
 obtain ⟨c0, c1⟩ := HP.out _ (Below.refl _ _)
 have HR := Lib.hid hR
 have HF1 := Lib.hid f1
 have HF2 := Lib.hid f2
 have HPL := Lib.hid hpl
 clear hw hR hpl f1 f2 hps hqs
 go_enter Tryz.func159, Tryz.ntmps159
 go_wp2_with fail
 clear hV
 refine HC.out.mono ?_
 rintro _ z1 ⟨A, n, c, rfl, hn, hnl, hrow, hb1⟩
 have HN := Lib.hid hn
 have HROW := Lib.hid hrow
 have HB1 := Lib.hid hb1
 clear hn hrow hb1 HC c0 c1 iw
 obtain ⟨c0, c1⟩ := HP.out _ HB1.out
 by_cases hlm : n ≤ most
 case neg =>
  have HR2 : Hid (R = .error 4) := by
   show _ = _
   rw [← HR.out, if_neg]
   intro hh
   have := HF1.out hh
   rw [this] at HN
   have := HN.out
   omega
  have d0 : decide (n ≤ most) = false := decide_eq_false hlm
  clear hlm
  go_wp2_with fail
  refine (valueRequire_any t i false 4 _).mono ?_
  rintro _ u ⟨rfl, hb⟩
  have HU : Hid (Below w.heap.size w u) := HB.out.trans ((HB1.out.trans (hb.mono HB1.out.size)).mono HB.out.size)
  clear hb
  go_wp2_with fail
  exact ⟨rfl, HU.out, by rw [HR2.out]⟩
 have hpq : qs = ps := by
  rcases Nat.lt_or_ge most ps.length with h | h
  ·have := HF2.out h
   have := HN.out
   omega
  ·exact HF1.out h
 subst hpq
 have HR2 : Hid (rdL atomR [] qs = R) := by
  show _ = _
  rw [← HR.out, if_pos (by rw [HN.out]; exact hlm)]
 have d0 : decide (n ≤ most) = true := decide_eq_true hlm
 clear hlm HF1 HF2 HR
 go_wp2_with fail
 refine (valueRequire_any t i true 4 _).mono ?_
 rintro _ z2 ⟨rfl, hb⟩
 have HB2 : Hid (Below V.heap.size V z2) := HB1.out.trans (hb.mono HB1.out.size)
 have HROW2 := Lib.hid (Rg.row_below HROW.out hb)
 clear hb HROW d0 c0 c1 HB1
 go_wp2_with fail
 go_loopw [10, 27] (fun v i wr => ∃ (k : Nat) (acc : List Atm) (ds : List AtD), k ≤ n ∧ i = .int .i64 k ∧ Hid (AOwn wr z2.heap.size 66 v ds acc) ∧ Hid (Below z2.heap.size z2 wr ∧ z2.heap.size ≤ wr.heap.size) ∧ Hid (acc.length = k) ∧ Hid (rdL atomR acc (qs.drop k) = R)) (fun _ i _ => n - (intOf i).toNat)
 case atStart => exact ⟨0, [], [], Nat.zero_le _, rfl, aown_nil _ _ _, ⟨Below.refl _ _, Nat.le_refl _⟩, rfl, by show rdL _ _ (qs.drop 0) = R; rw [List.drop_zero, HR2.out]⟩
 case round =>
  obtain ⟨k, acc, ds, hk, rfl, HO, HBW, HA, HE⟩ := hrel
  have HVW : Hid (Below V.heap.size V wr) := HB2.out.trans (HBW.out.1.mono HB2.out.size)
  by_cases hlt : k < n
  ·have HLT := Lib.hid hlt
   have hlr : k < qs.length := by rw [HN.out]; exact hlt
   obtain ⟨ad, rfl, _, q0⟩ := txt_at (Rg.row_below HROW2.out HBW.out.1) k hlr
   have hpp := HPL.out _ (List.getElem_mem hlr)
   have he := HE.out
   rw [List.drop_eq_getElem_cons hlr] at he
   obtain ⟨p, hp⟩ : ∃ p, qs[k] = p := ⟨_, rfl⟩
   rw [hp] at hpp he q0
   have HSZ : Hid (ds.length + 1 ≤ 1000000) := by have h1 := HA.out; have h2 := HO.out.2.1.1; show _ ≤ _; omega
   have HPC := Lib.hid (valueAtom_any p i wr (HM.out _ HVW.out) hpp)
   obtain ⟨c0, c1⟩ := HP.out _ HVW.out
   obtain ⟨E, hE⟩ : ∃ E, atomR p = E := ⟨_, rfl⟩
   rw [hE] at HPC
   cases E with
   | error e =>
    have HR3 : Hid (R = .error e) := by show _ = _; rw [← he]; exact rdL_error hE
    clear he hp hpp hE
    go_wp2_with fail
    refine HPC.out.mono ?_
    rintro e z3 ⟨hb, rfl⟩
    have HBU : Hid (Below w.heap.size w z3) := HB.out.trans ((HVW.out.trans (hb.mono HVW.out.size)).mono HB.out.size)
    clear hb
    go_wp2_with fail
    exact ⟨rfl, HBU.out, by rw [HR3.out]⟩
   | ok a =>
    have HE2 : Hid (rdL atomR (acc ++ [a]) (qs.drop (k + 1)) = R) := by show _ = _; rw [← he]; exact (rdL_ok hE).symm
    clear he hp hpp hE
    go_wp2_with fail
    refine HPC.out.mono ?_
    rintro e z3 ⟨hb, C, m, d, rfl, hm, hr⟩
    have HBU := Lib.hid hb
    have HM3 := Lib.hid hm
    have HR3 := Lib.hid hr
    clear hb hm hr c0 c1 q0 HPC
    go_wp2_with (at_builtin; refine Pg.wpList_app_pure sliceA zeroA_nob encA_nob rfl (.tmp 31) (.tmp 38) rfl z2.heap.size _ ds [(a.name, C, m, d)] rfl (aown_below HO.out (HBU.out.alloc HBU.out.size _)).1 (aown_below HO.out (HBU.out.alloc HBU.out.size _)).2.2 _ _ rfl (Rg.news_new z3 _ _ _ (by rfl)) (Nat.zero_lt_succ _) HSZ.out ?b2 ?_)
    case b2 => have := HBW.out.2; have := HBU.out.size; simp; omega
    intro v5 W5 ho5 hp5 hg5 hz5
    have hal : Below wr.heap.size wr (z3.alloc (.cells #[.string ⟨a.name.toArray⟩, .slice C m d] 66)) := HBU.out.alloc HBU.out.size _
    have HO5 := Lib.hid (aown_add (aown_below HO.out hal) (srow_below HR3.out ((Below.refl _ _).alloc (Nat.le_refl _) _)) HM3.out ho5 hp5 hg5)
    have HB5 : Hid (Below z2.heap.size z2 W5 ∧ z2.heap.size ≤ W5.heap.size) := by
     have h2 := HBW.out.1.trans ((hal.mono HBW.out.2).trans (Rg.grown_below (aown_below HO.out hal).1 (Nat.le_trans HBW.out.2 hal.size) hg5))
     exact ⟨h2, h2.size⟩
    clear ho5 hp5 hg5 hz5 hal HO HBU HBW HVW
    go_wp2_with fail
    go_roundw
    case rel => exact ⟨k + 1, acc ++ [a], _, (by have := HLT.out; omega), by go_num, HO5, HB5, by show (acc ++ [a]).length = _; rw [List.length_append, HA.out]; rfl, HE2⟩
    case measure => have := HLT.out; simp [intOf]; omega
  ·obtain rfl : k = n := by omega
   have HR3 : Hid (R = .ok acc) := by show _ = _; rw [← HE.out, List.drop_eq_nil_of_le (by rw [HN.out]; exact Nat.le_refl _)]; rfl
   obtain ⟨C, d, rfl, hrw, hf⟩ := aown_row HO.out
   have HRW := Lib.hid hrw
   have HF := Lib.hid hf
   clear hrw hf
   go_wp2_with fail
   go_ret
   refine ⟨HB.out.trans (HVW.out.mono HB.out.size), ?_⟩
   rw [HR3.out]
   exact ⟨C, _, d, rfl, rfl, HRW.out, fun a ha => Nat.le_trans (Nat.le_trans HB.out.size HB2.out.size) (HF.out a ha)⟩
end Go.Proofs.YtkplahkkmmoppaaGreatDoor
namespace Go.Proofs.YtkplahkkmmoppaaGreatDoor
open Go.RowKit Go.ChangeShapes Go.WideShapes Go.Joins Rs At Pg
namespace Pg
instance : Inhabited Atm := ⟨⟨[], []⟩⟩
instance : Inhabited Gv := ⟨⟨[], []⟩⟩
end Pg
end Go.Proofs.YtkplahkkmmoppaaGreatDoor
namespace Go.Proofs.YtkplahkkmmoppaaGreatDoor
open Go.RowKit Rs At Pg
attribute [local go_sem ↓] Go.wp_at_zero Go.wp_at_succ
theorem Pg.cutIs_le (t : List UInt8) : (Lib.cut t [32, 61, 32]).1.length ≤ t.length := by
 unfold Lib.cut
 split
 ·show (t.take _).length ≤ _
  rw [List.length_take]; omega
 ·exact Nat.le_refl _
theorem valueGive_ret (t : List UInt8) (i : Int) (w : World) (hw : MaxOk w) (ht : t.length ≤ 1000) :
  Calls Tryz.prog 162 #[.agg #[.string ⟨t.toArray⟩, .int .i64 i]] w fun r w' => Below w.heap.size w w' ∧ match gvR t with
   | .ok a => r = .returned (.agg #[.string ⟨a.name.toArray⟩, .string ⟨a.ver.toArray⟩])
   | .error k => r = panAt i k :=
 (valueGive_any t i w hw (by omega) (Nat.le_trans (Nat.le_trans (cutIs_le t) ht) (by decide))).mono fun r w' ⟨h1, h2⟩ => by
  refine ⟨h2, ?_⟩
  rw [gvR_giveR] at h1
  cases h : gvR t with
  | ok a => rw [h] at h1; exact h1
  | error k => rw [h] at h1; exact h1
theorem Pg.sliceG : Rg.SliceT Tryz.prog encG 2 32 72 := ⟨fitsG, by decide, by kernel_rfl, Rg.info_of (z := .agg #[.string ByteArray.empty, .string ByteArray.empty]) (b := 32) (by kernel_rfl) (by rfl) (by decide)⟩
theorem Pg.gown_row {w : World} {B : Nat} {T : TypeId} {v : Value} {l : List Gv} (h : Rg.Own encG 2 w B T v l) : ∃ A c, v = .slice A l.length c ∧ GRow w A l ∧ ∀ a, A = some a → B ≤ a.block := by
 obtain ⟨A, c, hv, hr, _, _⟩ := Rg.row_own fitsG h
 exact ⟨A, c, hv, hr, fun a ha => by subst ha; exact (Rg.own_lt h a.block (by rw [hv]; rfl)).1⟩
theorem partsGives_any (t sep : List UInt8) (i : Int) (most : Nat) (w : World) (hw : MaxOk w) (ht : t.length ≤ 1000) (h1 : 1 ≤ sep.length) (hmo : most ≤ 100) :
  Calls Tryz.prog 161 #[.agg #[.string ⟨t.toArray⟩, .int .i64 i], .string ⟨sep.toArray⟩, .int .i64 most, .func (.func 162) #[] #[]] w (Pg.PartsRet GRow w i (partsR gvR sep most t)) := by
 obtain ⟨R, hR⟩ : ∃ R, partsR gvR sep most t = R := ⟨_, rfl⟩
 rw [hR]
 unfold partsR at hR
 obtain ⟨V, hV⟩ : ∃ V, w.alloc (.cells #[.string ⟨t.toArray⟩, .int .i64 i] 170) = V := ⟨_, rfl⟩
 have HB : Hid (Below w.heap.size w V) := alloc_low hV
 have HP := Lib.hid (fun W (h : Below V.heap.size V W) => cell_pair hV h)
 have HM := Lib.hid (fun W (h : Below V.heap.size V W) => maxOk_below (maxOk_below hw HB.out) h)
 have HC : Hid (Calls Tryz.prog 204 #[.string ⟨t.toArray⟩, .string ⟨sep.toArray⟩, .int .i64 ((most : Int) + 1)] V fun e w' => ∃ A m c, e = .returned (.slice A m c) ∧ (Lib.splitN t sep (most + 1)).length = m ∧ m ≤ 1000 ∧ Rg.Row encT 1 w' A (Lib.splitN t sep (most + 1)) ∧ Below V.heap.size V w') :=
  splitN_any t sep (most + 1) V (HM.out _ (Below.refl _ _)) (by omega) h1 (by omega) (by omega)
 have hpl : ∀ p ∈ Lib.split t sep, p.length ≤ 1000 := fun p hp => Nat.le_trans (piece_le sep _ t p hp) ht
 obtain ⟨f1, f2⟩ := splitN_few (s := t) (sep := sep) (fun e => by rw [e] at h1; simp at h1) most
 obtain ⟨ps, hps⟩ : ∃ ps, Lib.split t sep = ps := ⟨_, rfl⟩
 obtain ⟨qs, hqs⟩ : ∃ ps, Lib.splitN t sep (most + 1) = ps := ⟨_, rfl⟩
 rw [hps] at hR f1 f2 hpl
 rw [hqs] at f1 f2 HC
 have iw : IntKind.i64.wrap ((most : Int) + 1) = (most : Int) + 1 := IntWalk.i64_in _ (by omega)
 obtain ⟨c0, c1⟩ := HP.out _ (Below.refl _ _)
 have HR := Lib.hid hR
 have HF1 := Lib.hid f1
 have HF2 := Lib.hid f2
 have HPL := Lib.hid hpl
 clear hw hR hpl f1 f2 hps hqs
 go_enter Tryz.func161, Tryz.ntmps161
 go_wp2_with fail
 clear hV
 refine HC.out.mono ?_
 rintro _ z1 ⟨A, n, c, rfl, hn, hnl, hrow, hb1⟩
 have HN := Lib.hid hn
 have HROW := Lib.hid hrow
 have HB1 := Lib.hid hb1
 clear hn hrow hb1 HC c0 c1 iw
 obtain ⟨c0, c1⟩ := HP.out _ HB1.out
 by_cases hlm : n ≤ most
 case neg =>
  have HR2 : Hid (R = .error 4) := by
   show _ = _
   rw [← HR.out, if_neg]
   intro hh
   have := HF1.out hh
   rw [this] at HN
   have := HN.out
   omega
  have d0 : decide (n ≤ most) = false := decide_eq_false hlm
  clear hlm
  go_wp2_with fail
  refine (valueRequire_any t i false 4 _).mono ?_
  rintro _ u ⟨rfl, hb⟩
  have HU : Hid (Below w.heap.size w u) := HB.out.trans ((HB1.out.trans (hb.mono HB1.out.size)).mono HB.out.size)
  clear hb
  go_wp2_with fail
  exact ⟨rfl, HU.out, by rw [HR2.out]⟩
 have hpq : qs = ps := by
  rcases Nat.lt_or_ge most ps.length with h | h
  ·have := HF2.out h
   have := HN.out
   omega
  ·exact HF1.out h
 subst hpq
 have HR2 : Hid (rdL gvR [] qs = R) := by
  show _ = _
  rw [← HR.out, if_pos (by rw [HN.out]; exact hlm)]
 have d0 : decide (n ≤ most) = true := decide_eq_true hlm
 clear hlm HF1 HF2 HR
 go_wp2_with fail
 refine (valueRequire_any t i true 4 _).mono ?_
 rintro _ z2 ⟨rfl, hb⟩
 have HB2 : Hid (Below V.heap.size V z2) := HB1.out.trans (hb.mono HB1.out.size)
 have HROW2 := Lib.hid (Rg.row_below HROW.out hb)
 clear hb HROW d0 c0 c1 HB1
 go_wp2_with fail
 go_loopw [10, 27] (fun v i wr => ∃ (k : Nat) (acc : List Gv), k ≤ n ∧ i = .int .i64 k ∧ Hid (Rg.Own encG 2 wr z2.heap.size 72 v acc) ∧ Hid (Below z2.heap.size z2 wr ∧ z2.heap.size ≤ wr.heap.size) ∧ Hid (acc.length = k) ∧ Hid (rdL gvR acc (qs.drop k) = R)) (fun _ i _ => n - (intOf i).toNat)
 case atStart => exact ⟨0, [], Nat.zero_le _, rfl, Rg.own_nil _ _ _, ⟨Below.refl _ _, Nat.le_refl _⟩, rfl, by show rdL _ _ (qs.drop 0) = R; rw [List.drop_zero, HR2.out]⟩
 case round =>
  obtain ⟨k, acc, hk, rfl, HO, HBW, HA, HE⟩ := hrel
  have HVW : Hid (Below V.heap.size V wr) := HB2.out.trans (HBW.out.1.mono HB2.out.size)
  by_cases hlt : k < n
  ·have HLT := Lib.hid hlt
   have hlr : k < qs.length := by rw [HN.out]; exact hlt
   obtain ⟨ad, rfl, _, q0⟩ := txt_at (Rg.row_below HROW2.out HBW.out.1) k hlr
   have hpp := HPL.out _ (List.getElem_mem hlr)
   have he := HE.out
   rw [List.drop_eq_getElem_cons hlr] at he
   obtain ⟨p, hp⟩ : ∃ p, qs[k] = p := ⟨_, rfl⟩
   rw [hp] at hpp he q0
   have HSZ : Hid (acc.length + 1 ≤ 1000000) := by have h1 := HA.out; show _ ≤ _; omega
   have HPC := Lib.hid (valueGive_ret p i wr (HM.out _ HVW.out) hpp)
   obtain ⟨c0, c1⟩ := HP.out _ HVW.out
   obtain ⟨E, hE⟩ : ∃ E, gvR p = E := ⟨_, rfl⟩
   rw [hE] at HPC
   cases E with
   | error e =>
    have HR3 : Hid (R = .error e) := by show _ = _; rw [← he]; exact rdL_error hE
    clear he hp hpp hE
    go_wp2_with fail
    refine HPC.out.mono ?_
    rintro e z3 ⟨hb, rfl⟩
    have HBU : Hid (Below w.heap.size w z3) := HB.out.trans ((HVW.out.trans (hb.mono HVW.out.size)).mono HB.out.size)
    clear hb
    go_wp2_with fail
    exact ⟨rfl, HBU.out, by rw [HR3.out]⟩
   | ok a =>
    have HE2 : Hid (rdL gvR (acc ++ [a]) (qs.drop (k + 1)) = R) := by show _ = _; rw [← he]; exact (rdL_ok hE).symm
    clear he hp hpp hE
    go_wp2_with fail
    refine HPC.out.mono ?_
    rintro e z3 ⟨hb, rfl⟩
    have HBU := Lib.hid hb
    clear hb c0 c1 q0 HPC
    go_wp2_with (at_builtin; refine Rg.wpList_app sliceG rfl (.tmp 31) (.tmp 38) rfl z2.heap.size _ acc [a] rfl (Rg.own_below HO.out (HBU.out.alloc HBU.out.size _)) _ _ rfl (Rg.news_new z3 _ _ _ (by rfl)) (Nat.zero_lt_succ _) HSZ.out ?b2 ?_)
    case b2 => have := HBW.out.2; have := HBU.out.size; simp; omega
    intro v5 W5 ho5 hg5 hz5
    have hal : Below wr.heap.size wr (z3.alloc (.cells #[.string ⟨a.name.toArray⟩, .string ⟨a.ver.toArray⟩] 72)) := HBU.out.alloc HBU.out.size _
    have HO5 : Hid (Rg.Own encG 2 W5 z2.heap.size 72 v5 (acc ++ [a])) := ho5
    have HB5 : Hid (Below z2.heap.size z2 W5 ∧ z2.heap.size ≤ W5.heap.size) := by
     have h2 := HBW.out.1.trans ((hal.mono HBW.out.2).trans (Rg.grown_below (Rg.own_below HO.out hal) (Nat.le_trans HBW.out.2 hal.size) hg5))
     exact ⟨h2, h2.size⟩
    clear ho5 hg5 hz5 hal HO HBU HBW HVW
    go_wp2_with fail
    go_roundw
    case rel => exact ⟨k + 1, acc ++ [a], (by have := HLT.out; omega), by go_num, HO5, HB5, by show (acc ++ [a]).length = _; rw [List.length_append, HA.out]; rfl, HE2⟩
    case measure => have := HLT.out; simp [intOf]; omega
  ·obtain rfl : k = n := by omega
   have HR3 : Hid (R = .ok acc) := by show _ = _; rw [← HE.out, List.drop_eq_nil_of_le (by rw [HN.out]; exact Nat.le_refl _)]; rfl
   obtain ⟨C, d, rfl, hrw, hf⟩ := gown_row HO.out
   have HRW := Lib.hid hrw
   have HF := Lib.hid hf
   clear hrw hf
   go_wp2_with fail
   go_ret
   refine ⟨HB.out.trans (HVW.out.mono HB.out.size), ?_⟩
   rw [HR3.out]
   exact ⟨C, _, d, rfl, rfl, HRW.out, fun a ha => Nat.le_trans (Nat.le_trans HB.out.size HB2.out.size) (HF.out a ha)⟩
def Pg.DFresh (B : Nat) (ds : List Desc) : Prop := ∀ (i : Nat) (d : Desc), ds[i]? = some d → ∀ a, d.1 = some a → B ≤ a.block
def Pg.DRowF (B : Nat) (w : World) (A : Option Addr) (t : List (List Atm)) : Prop := ∃ ds, Rg.Row encO 1 w A ds ∧ DIn w ds t ∧ DFresh B ds
theorem Pg.drowF_mono {B B' : Nat} {w : World} {A : Option Addr} {t : List (List Atm)} (h : Pg.DRowF B w A t) (hB : B' ≤ B) : Pg.DRowF B' w A t := by
 obtain ⟨ds, h1, h2, h3⟩ := h
 exact ⟨ds, h1, h2, fun i d e a ha => Nat.le_trans hB (h3 i d e a ha)⟩
theorem Pg.drowF_row {B : Nat} {w : World} {A : Option Addr} {t : List (List Atm)} (h : Pg.DRowF B w A t) : Pg.DRow w A t := by
 obtain ⟨ds, h1, h2, _⟩ := h
 exact ⟨ds, h1, h2⟩
def Pg.DOwnF (w : World) (B : Nat) (T : TypeId) (v : Value) (ds : List Desc) (t : List (List Atm)) : Prop := Rg.Own encO 1 w B T v ds ∧ DIn w ds t ∧ DFresh B ds ∧ Pure IsSl w v
theorem Pg.down_nil (w : World) (B : Nat) (T : TypeId) : DOwnF w B T (.slice none 0 0) [] [] := ⟨Rg.own_nil _ _ _, ⟨rfl, fun i a d h => by simp at h⟩, fun i a h => by simp at h, pure_nil _ _⟩
theorem Pg.down_below {w w' : World} {B : Nat} {T : TypeId} {v : Value} {ds : List Desc} {t : List (List Atm)} (h : DOwnF w B T v ds t) (hb : Below w.heap.size w w') : DOwnF w' B T v ds t := ⟨Rg.own_below h.1 hb, din_below h.2.1 hb, h.2.2.1, pure_below h.2.2.2 h.1 hb⟩
theorem Pg.arow_pure {w w' : World} {v : Value} {A : Option Addr} {l : List Atm} (h : ARow w A l) (hp : Pure IsSl w v) (hb : But v.ownBlock w w') : ARow w' A l := by
 refine arow_but h hb ?_ fun g hg j x hx => sl_nob (hp g hg j x hx)
 cases hv : v.ownBlock with
 | none => exact fun _ a _ e => by cases e
 | some g => exact arow_sl h (hp g hv)
theorem Pg.down_add {w w' : World} {B : Nat} {T : TypeId} {v v' : Value} {ds : List Desc} {t : List (List Atm)} {C : Option Addr} {m c : Nat} {l : List Atm} (h : DOwnF w B T v ds t) (hr : ARow w C l) (hm : l.length = m) (hf : ∀ a, C = some a → B ≤ a.block) (ho : Rg.Own encO 1 w' B T v' (ds ++ [(C, m, c)])) (hp : Pure IsSl w' v') (hg : w.grownBy w' v.ownBlock) : DOwnF w' B T v' (ds ++ [(C, m, c)]) (t ++ [l]) := by
 have hb : But v.ownBlock w w' := but_grown hg
 refine ⟨ho, ⟨by rw [List.length_append, List.length_append, h.2.1.1]; rfl, fun i x y e1 e2 => ?_⟩, fun i x e1 => ?_, hp⟩
 ·rcases get_snoc e1 with ⟨q1, q2⟩ | ⟨q1, q2⟩
  ·rcases get_snoc e2 with ⟨_, p2⟩ | ⟨p1, _⟩
   ·exact ⟨(h.2.1.2 i x y q2 p2).1, arow_pure (h.2.1.2 i x y q2 p2).2 h.2.2.2 hb⟩
   ·have := h.2.1.1; omega
  ·rcases get_snoc e2 with ⟨p1, _⟩ | ⟨_, p2⟩
   ·have := h.2.1.1; omega
   ·subst q2 p2; exact ⟨hm.symm, arow_pure hr h.2.2.2 hb⟩
 ·rcases get_snoc e1 with ⟨q1, q2⟩ | ⟨q1, q2⟩
  ·exact h.2.2.1 i x q2
  ·subst q2; exact hf
theorem Pg.down_row {w : World} {B : Nat} {T : TypeId} {v : Value} {ds : List Desc} {t : List (List Atm)} (h : DOwnF w B T v ds t) : ∃ A c, v = .slice A t.length c ∧ Pg.DRowF B w A t ∧ ∀ a, A = some a → B ≤ a.block := by
 obtain ⟨A, c, hv, hr, _, _⟩ := Rg.row_own fitsO h.1
 rw [h.2.1.1] at hv
 exact ⟨A, c, hv, ⟨ds, hr, h.2.1, h.2.2.1⟩, fun a ha => by subst ha; exact (Rg.own_lt h.1 a.block (by rw [hv]; rfl)).1⟩
theorem Pg.sliceD6 : Rg.SliceT Tryz.prog encO 1 30 70 := ⟨fitsO, by decide, by kernel_rfl, Rg.info_of (z := .slice none 0 0) (b := 24) (by kernel_rfl) (by rfl) (by decide)⟩
theorem Pg.zeroD_sl : ∀ i, Tryz.prog.info? 70 = some i → ∀ z, i.zero = some z → ∀ u ∈ z.cells, IsSl u := zero_is (z0 := .slice none 0 0) (by kernel_rfl) (fun u hu => by simp [Value.cells] at hu; exact ⟨_, _, _, hu⟩)
theorem Pg.encO_sl : ∀ x : Desc, ∀ u ∈ encO x, IsSl u := fun _ _ hu => ⟨_, _, _, List.mem_singleton.1 hu⟩
theorem valueDep_any (t : List UInt8) (i : Int) (w : World) (hw : MaxOk w) (ht : t.length ≤ 1000) :
  Calls Tryz.prog 158 #[.agg #[.string ⟨t.toArray⟩, .int .i64 i]] w (Pg.PartsRet ARow w i (depR t)) := by
 obtain ⟨E, hE⟩ : ∃ E, depR t = E := ⟨_, rfl⟩
 rw [hE]
 obtain ⟨V, hV⟩ : ∃ V, w.alloc (.cells #[.string ⟨t.toArray⟩, .int .i64 i] 170) = V := ⟨_, rfl⟩
 have HB : Hid (Below w.heap.size w V) := alloc_low hV
 obtain ⟨c0, c1⟩ := cell_pair hV (Below.refl _ _)
 have HC : Hid (Calls Tryz.prog 159 #[.agg #[.string ⟨t.toArray⟩, .int .i64 i], .string ⟨#[32, 111, 114, 32]⟩, .int .i64 8, .func (.func 160) #[] #[]] V (Pg.PartsRet ARow V i E)) := by
  have h := partsAtoms_any t orT i 8 V (maxOk_below hw HB.out) ht (by decide) (by decide)
  rw [show partsR atomR orT 8 t = E from hE] at h
  exact h
 clear hw ht hE
 go_enter Tryz.func158, Tryz.ntmps158
 go_wp2_with fail
 clear hV
 refine HC.out.mono ?_
 rintro r u ⟨hb, hr⟩
 have HU : Hid (Below w.heap.size w u) := HB.out.trans (hb.mono HB.out.size)
 clear hb HC c0 c1
 cases E with
 | error k =>
  obtain rfl : r = panAt i k := hr
  go_wp2_with fail
  exact ⟨rfl, HU.out, rfl⟩
 | ok l =>
  obtain ⟨A, n, c, rfl, hn, hrow, hf⟩ := hr
  have HN := Lib.hid hn
  have HR := Lib.hid hrow
  have HF : Hid (∀ a, A = some a → w.heap.size ≤ a.block) := fun a ha => Nat.le_trans HB.out.size (hf a ha)
  clear hn hrow hf
  go_wp2_with fail
  go_ret
  exact ⟨HU.out, A, n, c, rfl, HN.out, HR.out, HF.out⟩
theorem partsDeps_any (t sep : List UInt8) (i : Int) (most : Nat) (w : World) (hw : MaxOk w) (ht : t.length ≤ 1000) (h1 : 1 ≤ sep.length) (hmo : most ≤ 100) :
  Calls Tryz.prog 157 #[.agg #[.string ⟨t.toArray⟩, .int .i64 i], .string ⟨sep.toArray⟩, .int .i64 most, .func (.func 158) #[] #[]] w (Pg.PartsRet (fun u A l => Pg.DRowF w.heap.size u A l) w i (partsR depR sep most t)) := by
 obtain ⟨R, hR⟩ : ∃ R, partsR depR sep most t = R := ⟨_, rfl⟩
 rw [hR]
 unfold partsR at hR
 obtain ⟨V, hV⟩ : ∃ V, w.alloc (.cells #[.string ⟨t.toArray⟩, .int .i64 i] 170) = V := ⟨_, rfl⟩
 have HB : Hid (Below w.heap.size w V) := alloc_low hV
 have HP := Lib.hid (fun W (h : Below V.heap.size V W) => cell_pair hV h)
 have HM := Lib.hid (fun W (h : Below V.heap.size V W) => maxOk_below (maxOk_below hw HB.out) h)
 have HC : Hid (Calls Tryz.prog 204 #[.string ⟨t.toArray⟩, .string ⟨sep.toArray⟩, .int .i64 ((most : Int) + 1)] V fun e w' => ∃ A m c, e = .returned (.slice A m c) ∧ (Lib.splitN t sep (most + 1)).length = m ∧ m ≤ 1000 ∧ Rg.Row encT 1 w' A (Lib.splitN t sep (most + 1)) ∧ Below V.heap.size V w') :=
  splitN_any t sep (most + 1) V (HM.out _ (Below.refl _ _)) (by omega) h1 (by omega) (by omega)
 have hpl : ∀ p ∈ Lib.split t sep, p.length ≤ 1000 := fun p hp => Nat.le_trans (piece_le sep _ t p hp) ht
 obtain ⟨f1, f2⟩ := splitN_few (s := t) (sep := sep) (fun e => by rw [e] at h1; simp at h1) most
 obtain ⟨ps, hps⟩ : ∃ ps, Lib.split t sep = ps := ⟨_, rfl⟩
 obtain ⟨qs, hqs⟩ : ∃ ps, Lib.splitN t sep (most + 1) = ps := ⟨_, rfl⟩
 rw [hps] at hR f1 f2 hpl
 rw [hqs] at f1 f2 HC
 have iw : IntKind.i64.wrap ((most : Int) + 1) = (most : Int) + 1 := IntWalk.i64_in _ (by omega)
 obtain ⟨c0, c1⟩ := HP.out _ (Below.refl _ _)
 have HR := Lib.hid hR
 have HF1 := Lib.hid f1
 have HF2 := Lib.hid f2
 have HPL := Lib.hid hpl
 clear hw hR hpl f1 f2 hps hqs
 go_enter Tryz.func157, Tryz.ntmps157
 go_wp2_with fail
 clear hV
 refine HC.out.mono ?_
 rintro _ z1 ⟨A, n, c, rfl, hn, hnl, hrow, hb1⟩
 have HN := Lib.hid hn
 have HROW := Lib.hid hrow
 have HB1 := Lib.hid hb1
 clear hn hrow hb1 HC c0 c1 iw
 obtain ⟨c0, c1⟩ := HP.out _ HB1.out
 by_cases hlm : n ≤ most
 case neg =>
  have HR2 : Hid (R = .error 4) := by
   show _ = _
   rw [← HR.out, if_neg]
   intro hh
   have := HF1.out hh
   rw [this] at HN
   have := HN.out
   omega
  have d0 : decide (n ≤ most) = false := decide_eq_false hlm
  clear hlm
  go_wp2_with fail
  refine (valueRequire_any t i false 4 _).mono ?_
  rintro _ u ⟨rfl, hb⟩
  have HU : Hid (Below w.heap.size w u) := HB.out.trans ((HB1.out.trans (hb.mono HB1.out.size)).mono HB.out.size)
  clear hb
  go_wp2_with fail
  exact ⟨rfl, HU.out, by rw [HR2.out]⟩
 have hpq : qs = ps := by
  rcases Nat.lt_or_ge most ps.length with h | h
  ·have := HF2.out h
   have := HN.out
   omega
  ·exact HF1.out h
 subst hpq
 have HR2 : Hid (rdL depR [] qs = R) := by
  show _ = _
  rw [← HR.out, if_pos (by rw [HN.out]; exact hlm)]
 have d0 : decide (n ≤ most) = true := decide_eq_true hlm
 clear hlm HF1 HF2 HR
 go_wp2_with fail
 refine (valueRequire_any t i true 4 _).mono ?_
 rintro _ z2 ⟨rfl, hb⟩
 have HB2 : Hid (Below V.heap.size V z2) := HB1.out.trans (hb.mono HB1.out.size)
 have HROW2 := Lib.hid (Rg.row_below HROW.out hb)
 clear hb HROW d0 c0 c1 HB1
 go_wp2_with fail
 go_loopw [10, 27] (fun v i wr => ∃ (k : Nat) (acc : List (List Atm)) (ds : List Desc), k ≤ n ∧ i = .int .i64 k ∧ Hid (DOwnF wr z2.heap.size 70 v ds acc) ∧ Hid (Below z2.heap.size z2 wr ∧ z2.heap.size ≤ wr.heap.size) ∧ Hid (acc.length = k) ∧ Hid (rdL depR acc (qs.drop k) = R)) (fun _ i _ => n - (intOf i).toNat)
 case atStart => exact ⟨0, [], [], Nat.zero_le _, rfl, down_nil _ _ _, ⟨Below.refl _ _, Nat.le_refl _⟩, rfl, by show rdL _ _ (qs.drop 0) = R; rw [List.drop_zero, HR2.out]⟩
 case round =>
  obtain ⟨k, acc, ds, hk, rfl, HO, HBW, HA, HE⟩ := hrel
  have HVW : Hid (Below V.heap.size V wr) := HB2.out.trans (HBW.out.1.mono HB2.out.size)
  by_cases hlt : k < n
  ·have HLT := Lib.hid hlt
   have hlr : k < qs.length := by rw [HN.out]; exact hlt
   obtain ⟨ad, rfl, _, q0⟩ := txt_at (Rg.row_below HROW2.out HBW.out.1) k hlr
   have hpp := HPL.out _ (List.getElem_mem hlr)
   have he := HE.out
   rw [List.drop_eq_getElem_cons hlr] at he
   obtain ⟨p, hp⟩ : ∃ p, qs[k] = p := ⟨_, rfl⟩
   rw [hp] at hpp he q0
   have HSZ : Hid (ds.length + 1 ≤ 1000000) := by have h1 := HA.out; have h2 := HO.out.2.1.1; show _ ≤ _; omega
   have HPC := Lib.hid (valueDep_any p i wr (HM.out _ HVW.out) hpp)
   obtain ⟨c0, c1⟩ := HP.out _ HVW.out
   obtain ⟨E, hE⟩ : ∃ E, depR p = E := ⟨_, rfl⟩
   rw [hE] at HPC
   cases E with
   | error e =>
    have HR3 : Hid (R = .error e) := by show _ = _; rw [← he]; exact rdL_error hE
    clear he hp hpp hE
    go_wp2_with fail
    refine HPC.out.mono ?_
    rintro e z3 ⟨hb, rfl⟩
    have HBU : Hid (Below w.heap.size w z3) := HB.out.trans ((HVW.out.trans (hb.mono HVW.out.size)).mono HB.out.size)
    clear hb
    go_wp2_with fail
    exact ⟨rfl, HBU.out, by rw [HR3.out]⟩
   | ok a =>
    have HE2 : Hid (rdL depR (acc ++ [a]) (qs.drop (k + 1)) = R) := by show _ = _; rw [← he]; exact (rdL_ok hE).symm
    clear he hp hpp hE
    go_wp2_with fail
    refine HPC.out.mono ?_
    rintro e z3 ⟨hb, C, m, d, rfl, hm, hr, hfr⟩
    have HBU := Lib.hid hb
    have HM3 := Lib.hid hm
    have HR3 := Lib.hid hr
    have HF3 : Hid (∀ a, C = some a → z2.heap.size ≤ a.block) := fun a ha => Nat.le_trans HBW.out.2 (hfr a ha)
    clear hb hm hr hfr c0 c1 q0 HPC
    go_wp2_with (at_builtin; refine Pg.wpList_app_pure sliceD6 zeroD_sl encO_sl rfl (.tmp 31) (.tmp 38) rfl z2.heap.size _ ds [(C, m, d)] rfl (down_below HO.out (HBU.out.alloc HBU.out.size _)).1 (down_below HO.out (HBU.out.alloc HBU.out.size _)).2.2.2 _ _ rfl (Rg.news_new z3 _ [(C, m, d)] _ (by rfl)) (Nat.zero_lt_succ _) HSZ.out ?b2 ?_)
    case b2 => have := HBW.out.2; have := HBU.out.size; simp; omega
    intro v5 W5 ho5 hp5 hg5 hz5
    have hal : Below wr.heap.size wr (z3.alloc (.cells #[.slice C m d] 70)) := HBU.out.alloc HBU.out.size _
    have HO5 := Lib.hid (down_add (down_below HO.out hal) (arow_below HR3.out ((Below.refl _ _).alloc (Nat.le_refl _) _)) HM3.out HF3.out ho5 hp5 hg5)
    have HB5 : Hid (Below z2.heap.size z2 W5 ∧ z2.heap.size ≤ W5.heap.size) := by
     have h2 := HBW.out.1.trans ((hal.mono HBW.out.2).trans (Rg.grown_below (down_below HO.out hal).1 (Nat.le_trans HBW.out.2 hal.size) hg5))
     exact ⟨h2, h2.size⟩
    clear ho5 hp5 hg5 hz5 hal HO HBU HBW HVW
    go_wp2_with fail
    go_roundw
    case rel => exact ⟨k + 1, acc ++ [a], _, (by have := HLT.out; omega), by go_num, HO5, HB5, by show (acc ++ [a]).length = _; rw [List.length_append, HA.out]; rfl, HE2⟩
    case measure => have := HLT.out; simp [intOf]; omega
  ·obtain rfl : k = n := by omega
   have HR3 : Hid (R = .ok acc) := by show _ = _; rw [← HE.out, List.drop_eq_nil_of_le (by rw [HN.out]; exact Nat.le_refl _)]; rfl
   obtain ⟨C, d, rfl, hrw, hf⟩ := down_row HO.out
   have HRW := Lib.hid hrw
   have HF := Lib.hid hf
   clear hrw hf
   go_wp2_with fail
   go_ret
   refine ⟨HB.out.trans (HVW.out.mono HB.out.size), ?_⟩
   rw [HR3.out]
   exact ⟨C, _, d, rfl, rfl, drowF_mono HRW.out (Nat.le_trans HB.out.size HB2.out.size), fun a ha => Nat.le_trans (Nat.le_trans HB.out.size HB2.out.size) (HF.out a ha)⟩
end Go.Proofs.YtkplahkkmmoppaaGreatDoor
namespace Go.Proofs.YtkplahkkmmoppaaGreatDoor
open Go.RowKit
namespace Wm
theorem dec_head (u : Nat) : ∃ c t, Lib.decDigits u = c :: t ∧ c ≠ 45 := by
 obtain ⟨⟨h1, h2, _⟩, _⟩ := dec_plain u u (Nat.le_refl _)
 cases h : Lib.decDigits u with
 | nil => exact absurd h h1
 | cons c t =>
  refine ⟨c, t, rfl, ?_⟩
  rw [h] at h2
  simp only [List.all_cons, Bool.and_eq_true] at h2
  intro hc; subst hc
  have := h2.1; revert this; decide
theorem itoa_parts (z : Int) : sgnd (Lib.itoa z) = decide (z < 0) ∧ mgn (Lib.itoa z) = Lib.decDigits z.natAbs := by
 unfold Lib.itoa
 split
 ·rename_i h
  refine ⟨by rw [decide_eq_true h]; rfl, rfl⟩
 ·rename_i h
  obtain ⟨c, t, e, hc⟩ := dec_head z.toNat
  have hs : sgnd (Lib.decDigits z.toNat) = false := by rw [e]; unfold sgnd; simp [hc]
  refine ⟨by rw [hs, decide_eq_false h], ?_⟩
  unfold mgn; rw [hs]
  rw [if_neg Bool.false_ne_true, show z.toNat = z.natAbs from by omega]
theorem itoa_decB (z : Int) : decB (Lib.itoa z) = true := by
 rw [decB_iff]
 obtain ⟨h1, h2⟩ := itoa_parts z
 obtain ⟨p1, p2, _⟩ := dec_plain z.natAbs z.natAbs (Nat.le_refl _)
 unfold decOk
 rw [h1, h2]
 refine ⟨p1, fun h => ?_⟩
 rw [h] at p2
 have : Vm.num [48] = 0 := by decide
 rw [this] at p2
 exact decide_eq_false (by omega)
theorem itoa_nmb (z : Int) (h1 : -9223372036854775808 ≤ z) (h2 : z < 9223372036854775808) : nmb (Lib.itoa z) = z := by
 obtain ⟨e1, e2⟩ := itoa_parts z
 obtain ⟨_, p2, _⟩ := dec_plain z.natAbs z.natAbs (Nat.le_refl _)
 unfold nmb
 rw [e1, e2, p2]
 by_cases h : z < 0
 ·rw [decide_eq_true h, if_pos rfl, if_pos (by omega)]; omega
 ·rw [decide_eq_false h, if_neg Bool.false_ne_true, if_pos (by omega)]; omega
theorem itoa_no (z : Int) (c : UInt8) (h : c ∈ Lib.itoa z) : c = 45 ∨ Vm.dig c = true := by
 obtain ⟨e1, e2⟩ := itoa_parts z
 obtain ⟨⟨_, p, _⟩, _⟩ := dec_plain z.natAbs z.natAbs (Nat.le_refl _)
 rw [List.all_eq_true] at p
 unfold Lib.itoa at h
 split at h
 ·rcases List.mem_cons.1 h with h | h
  ·exact Or.inl h
  ·exact Or.inr (p c h)
 ·rw [show z.toNat = z.natAbs from by omega] at h
  exact Or.inr (p c h)
theorem cut112 (a b : List UInt8) (h : ∀ c ∈ a, c ≠ 112) : Vm.has 112 (a ++ 112 :: b) = true ∧ Vm.fst 112 (a ++ 112 :: b) = a ∧ Vm.snd 112 (a ++ 112 :: b) = b := by
 induction a with
 | nil => refine ⟨?_, ?_, ?_⟩ <;> simp [Vm.has, Vm.fst, Vm.snd]
 | cons c t ih =>
  obtain ⟨i1, i2, i3⟩ := ih (fun x hx => h x (List.mem_cons_of_mem _ hx))
  have hc : c ≠ 112 := h c (List.mem_cons_self ..)
  have hcb : (c != 112) = true := by simp [hc]
  refine ⟨?_, ?_, ?_⟩
  ·unfold Vm.has at *; simp
  ·unfold Vm.fst at *; rw [List.cons_append, List.takeWhile_cons, hcb]; simp only [if_true]; rw [i2]
  ·unfold Vm.snd at *; rw [List.cons_append, List.dropWhile_cons, hcb]; simp only [if_true]; exact i3
end Wm
theorem lit_none (l : List UInt8) (h : Vm.has 112 l = true) : litW l = none := by
 rcases lit_cases l with rfl | rfl | rfl | rfl | rfl | ⟨h1, h2, h3, h4, h5, _, _⟩
 ·exact absurd h (by decide)
 ·exact absurd h (by decide)
 ·exact absurd h (by decide)
 ·exact absurd h (by decide)
 ·exact absurd h (by decide)
 ·rw [beq_eq_false_iff_ne] at h1 h2 h3 h4 h5
  unfold litW; rw [if_neg h1, if_neg h2, if_neg h3, if_neg h4, if_neg h5]
theorem lastOdd_itoa (z : Int) (h : z.natAbs % 2 = 1) : lastOdd (Lib.itoa z) = true := by
 obtain ⟨e1, e2⟩ := Wm.itoa_parts z
 obtain ⟨⟨p1, p2, _⟩, p3, _⟩ := Wm.dec_plain z.natAbs z.natAbs (Nat.le_refl _)
 have hlast : (Lib.itoa z).getLast? = (Lib.decDigits z.natAbs).getLast? := by
  unfold Lib.itoa
  split
  ·cases hd : Lib.decDigits z.natAbs with
   | nil => exact absurd hd p1
   | cons c t => rfl
  ·rw [show z.toNat = z.natAbs from by omega]
 have hn := Wm.num_last _ p1
 rw [p3, h] at hn
 have hdig : Vm.dig ((Lib.decDigits z.natAbs).getLast p1) = true := by rw [List.all_eq_true] at p2; exact p2 _ (List.getLast_mem p1)
 rw [Wm.dig_iff] at hdig
 unfold lastOdd
 rw [hlast, List.getLast?_eq_some_getLast p1]
 simp only [Option.getD_some]
 rw [beq_iff_eq]
 omega
theorem parse_prod (n : Bool) {k : Nat} {e : Int} (ho : k % 2 = 1) (h2 : k < 2 ^ 53) (lo : -1074 ≤ e) (hi : (k.log2 : Int) + e ≤ 1023) :
  errW (Lib.itoa (Wm.sg n k) ++ 112 :: Lib.itoa e) = 0 ∧ outW (Lib.itoa (Wm.sg n k) ++ 112 :: Lib.itoa e) = Wm.word n (Wm.rungOf k e) := by
 have hsg : Wm.sg n k = if n then -(k : Int) else k := by unfold Wm.sg; cases n <;> simp
 have hb : -9007199254740992 < Wm.sg n k ∧ Wm.sg n k < 9007199254740992 := by rw [hsg]; cases n <;> simp <;> omega
 have hna : (Wm.sg n k).natAbs = k := Wm.sg_nat n k
 obtain ⟨c1, c2, c3⟩ := Wm.cut112 (Lib.itoa (Wm.sg n k)) (Lib.itoa e) (fun c hc => by
  rcases Wm.itoa_no _ c hc with rfl | h
  ·decide
  ·intro h3; subst h3; revert h; decide)
 have hl := lit_none _ c1
 have hform : formOk (Lib.itoa (Wm.sg n k) ++ 112 :: Lib.itoa e) = true := by
  unfold formOk
  rw [c1, c2, c3, Wm.itoa_decB, Wm.itoa_decB, lastOdd_itoa _ (by rw [hna]; exact ho)]; rfl
 have he2 : e ≤ 1023 := by omega
 have hr : Wm.rangeOk (Wm.sg n k) e = true := by
  rw [Wm.rangeOk_mid hb.1 hb.2, hna, decide_eq_true lo, decide_eq_true (by omega)]; rfl
 have herr : prodErr (Lib.itoa (Wm.sg n k) ++ 112 :: Lib.itoa e) = 0 := by
  unfold prodErr
  rw [hform, c2, c3, Wm.itoa_nmb _ (by omega) (by omega), Wm.itoa_nmb _ (by omega) (by omega), hr]; rfl
 have herrW : errW (Lib.itoa (Wm.sg n k) ++ 112 :: Lib.itoa e) = 0 := by unfold errW; rw [hl]; exact herr
 refine ⟨herrW, ?_⟩
 unfold outW
 rw [if_pos herrW]
 unfold valW prodOf
 rw [hl, if_pos herr, c2, c3, Wm.itoa_nmb _ (by omega) (by omega), Wm.itoa_nmb _ (by omega) (by omega)]
 unfold Wm.prodVal
 rw [hna]
 have hd : decide (Wm.sg n k < 0) = n := by rw [hsg]; cases n <;> simp <;> omega
 rw [hd]; rfl
theorem parse_text (b : Nat) (hb : b < Wm.W) (hn : Wm.nan b = false) : errW (Wm.textW b) = 0 ∧ outW (Wm.textW b) = b := by
 rcases kinds b hb with h | ⟨n, rfl⟩ | ⟨n, r, hf, rfl⟩ | ⟨n, rfl⟩
 ·rw [hn] at h; cases h
 ·cases n <;> exact ⟨by decide +kernel, by decide +kernel⟩
 ·rw [textW_fin n hf]
  obtain ⟨s1, s2, s3, s4, s5⟩ := Wm.kOf_spec hf.1 hf.2
  have := parse_prod n s1 s2 s3 s4
  rw [s5] at this
  exact this
 ·cases n <;> exact ⟨by decide +kernel, by decide +kernel⟩
end Go.Proofs.YtkplahkkmmoppaaGreatDoor
namespace Go.Proofs.YtkplahkkmmoppaaGreatDoor
open Go.RowKit
theorem mgn_cons (l : List UInt8) : l = if Wm.sgnd l then 45 :: Wm.mgn l else Wm.mgn l := by
 unfold Wm.mgn Wm.sgnd
 cases l with
 | nil => rfl
 | cons c t =>
  by_cases hc : c = 45
  ·subst hc; simp
  ·simp [hc]
theorem pieces_sgn (l : List UInt8) : Vm.has 112 l = Vm.has 112 (Wm.mgn l) ∧ Wm.mgn (Vm.fst 112 l) = Vm.fst 112 (Wm.mgn l) ∧ Wm.sgnd (Vm.fst 112 l) = Wm.sgnd l ∧ Vm.snd 112 l = Vm.snd 112 (Wm.mgn l) := by
 have hl := mgn_cons l
 cases hs : Wm.sgnd l
 ·have hm : Wm.mgn l = l := by unfold Wm.mgn; rw [hs]; rfl
  rw [hm]
  have hf : Wm.sgnd (Vm.fst 112 l) = false := by
   unfold Vm.fst Wm.sgnd at *
   cases l with
   | nil => rfl
   | cons c t =>
    rw [List.takeWhile_cons]
    cases c != 112
    ·rfl
    ·exact hs
  refine ⟨rfl, ?_, hf, rfl⟩
  unfold Wm.mgn; rw [hf]; rfl
 ·rw [hs] at hl
  simp only [if_true] at hl
  generalize Wm.mgn l = t at *
  subst hl
  have h1 : Vm.fst 112 (45 :: t) = 45 :: Vm.fst 112 t := by unfold Vm.fst; rw [List.takeWhile_cons]; rfl
  refine ⟨?_, ?_, ?_, ?_⟩
  ·unfold Vm.has; simp
  ·rw [h1]; rfl
  ·rw [h1]; rfl
  ·unfold Vm.snd; rw [List.dropWhile_cons]; rfl
def refRange (m n : Nat) (neg : Bool) : Bool := decide (m ≤ 9007199254740991) && (decide (n ≤ 5000) && (decide (-1074 ≤ Wm.sg neg n) && decide ((m.log2 : Int) + 1 + Wm.sg neg n ≤ 1024)))
theorem refRange_eq (l : List UInt8) : refRange (Vm.num (Wm.mgn (Vm.fst 112 l))) (Vm.num (Wm.mgn (Vm.snd 112 l))) (Wm.sgnd (Vm.snd 112 l)) = Wm.rangeOk (Wm.nmb (Vm.fst 112 l)) (Wm.nmb (Vm.snd 112 l)) := by
 generalize Vm.fst 112 l = a
 generalize Vm.snd 112 l = b
 have hsg : Wm.sg (Wm.sgnd b) (Vm.num (Wm.mgn b)) = if Wm.sgnd b then -(Vm.num (Wm.mgn b) : Int) else Vm.num (Wm.mgn b) := by unfold Wm.sg; cases Wm.sgnd b <;> simp
 unfold refRange
 rw [hsg]
 unfold Wm.nmb
 generalize Vm.num (Wm.mgn a) = m at *
 generalize Vm.num (Wm.mgn b) = n at *
 by_cases hm : m ≤ 9007199254740991
 ·rw [decide_eq_true hm, Bool.true_and]
  have hF : ∀ g : Bool, (if g = true then (if m ≤ 9223372036854775808 then -(m : Int) else -9223372036854775808) else (if m < 9223372036854775808 then (m : Int) else 9223372036854775807)) = if g then -(m : Int) else m := by
   intro g; cases g <;> simp only [Bool.false_eq_true, if_false, if_true] <;> rw [if_pos (by omega)]
  rw [hF]
  rw [Wm.rangeOk_mid (by split <;> omega) (by split <;> omega)]
  have hna : (if Wm.sgnd a = true then -(m : Int) else m).natAbs = m := by split <;> omega
  rw [hna]
  rw [Bool.eq_iff_iff]
  simp only [Bool.and_eq_true, decide_eq_true_eq]
  cases Wm.sgnd b
  ·simp only [Bool.false_eq_true, if_false]
   split <;> omega
  ·simp only [if_true]
   split <;> omega
 ·rw [decide_eq_false hm, Bool.false_and]
  symm
  cases Wm.sgnd a
  ·simp only [Bool.false_eq_true, if_false]
   exact Wm.rangeOk_hi (by split <;> omega)
  ·simp only [if_true]
   exact Wm.rangeOk_lo (by split <;> omega)
end Go.Proofs.YtkplahkkmmoppaaGreatDoor
namespace Go.Proofs.YtkplahkkmmoppaaGreatDoor
open Go.RowKit
namespace Wm
theorem sub_zero {r : Nat} (h : 0 < r) (hi : r < 9218868437227405312) : Ieee.double.sub 0 r = some (word true r) := by
 obtain ⟨a1, a2, a3⟩ := rung_word false (r := r) (by omega)
 have a1' : rung r = r := a1
 have a2' : neg r = false := a2
 have e0 : Ieee.double.read 0 = .number false 0 (-1074) := by
  have := read_number 0 (by decide) (by decide)
  exact this
 have e1 := read_number r a3 (by rw [a1']; exact hi)
 rw [a1', a2'] at e1
 unfold Ieee.Format.sub
 rw [e0, e1]
 have hmin : min (-1074 : Int) (-1074 + (upOf r : Int)) = -1074 := by omega
 have hm := magOf_pos h
 unfold Ieee.Datum.opposite Ieee.Datum.sum
 simp only [hmin, signed_eq]
 have t1 : ((-1074 : Int) - -1074).toNat = 0 := rfl
 have t2 : ((-1074 : Int) + (upOf r : Int) - -1074).toNat = upOf r := by omega
 rw [t1, t2]
 have hp : 0 < magOf r * 2 ^ upOf r := Nat.mul_pos hm (Nat.two_pow_pos _)
 have tot : (if false = true then (-1 : Int) else 1) * ((0 * 2 ^ 0 : Nat) : Int) + (if (!false) = true then (-1 : Int) else 1) * ((magOf r * 2 ^ upOf r : Nat) : Int) = -((magOf r * 2 ^ upOf r : Nat) : Int) := by simp
 rw [tot]
 generalize hM : magOf r * 2 ^ upOf r = M at *
 rw [if_neg (by omega), decide_eq_true (by omega), Int.natAbs_neg, Int.natAbs_natCast]
 show some (Ieee.double.nearest true M (-1074)) = _
 rw [← hM]
 have hu : upOf r ≤ 2045 := by unfold upOf; split <;> omega
 have hlog := log2_lt53 hm (magOf_lt r)
 rw [nearest_exact true (magOf r) (upOf r) (-1074) hm (magOf_lt r) (by omega) (by omega), rungOf_self h]
end Wm
end Go.Proofs.YtkplahkkmmoppaaGreatDoor
namespace Go.Proofs.YtkplahkkmmoppaaGreatDoor.Wm
def top (n : Bool) : Int := if n then 9223372036854775808 else 0
end Go.Proofs.YtkplahkkmmoppaaGreatDoor.Wm
namespace Go.Proofs.YtkplahkkmmoppaaGreatDoor
open Go.RowKit
theorem refVal (l : List UInt8) (h : formOk l = true) (hr : Wm.rangeOk (Wm.nmb (Vm.fst 112 l)) (Wm.nmb (Vm.snd 112 l)) = true) :
  Wm.prodVal (Wm.nmb (Vm.fst 112 l)) (Wm.nmb (Vm.snd 112 l)) = Wm.word (Wm.sgnd l) (Wm.rungOf (Vm.num (Vm.fst 112 (Wm.mgn l))) (Wm.sg (Wm.sgnd (Vm.snd 112 l)) (Vm.num (Wm.mgn (Vm.snd 112 l))))) ∧ Vm.num (Vm.fst 112 (Wm.mgn l)) % 2 = 1 := by
 obtain ⟨q1, q2, q3, q4⟩ := pieces_sgn l
 rw [← q2, ← q3]
 have hf := h
 unfold formOk at hf
 simp only [Bool.and_eq_true] at hf
 obtain ⟨_, h2, _, h4⟩ := hf
 have hodd := odd_ne _ h2 h4
 have hrr := refRange_eq l
 rw [hr] at hrr
 unfold refRange at hrr
 simp only [Bool.and_eq_true, decide_eq_true_eq] at hrr
 obtain ⟨r1, r2, _⟩ := hrr
 generalize Vm.fst 112 l = a at *
 generalize Vm.snd 112 l = b at *
 have hF : Wm.nmb a = if Wm.sgnd a then -(Vm.num (Wm.mgn a) : Int) else Vm.num (Wm.mgn a) := by
  unfold Wm.nmb; cases Wm.sgnd a <;> simp only [Bool.false_eq_true, if_false, if_true] <;> rw [if_pos (by omega)]
 have hP : Wm.nmb b = Wm.sg (Wm.sgnd b) (Vm.num (Wm.mgn b)) := by
  unfold Wm.nmb Wm.sg; cases Wm.sgnd b <;> simp only [Bool.false_eq_true, if_false, if_true] <;> rw [if_pos (by omega)] <;> omega
 rw [hP]
 rw [hF] at hodd ⊢
 unfold Wm.prodVal
 generalize Vm.num (Wm.mgn a) = m at *
 cases Wm.sgnd a
 ·simp only [Bool.false_eq_true, if_false] at hodd ⊢
  rw [decide_eq_false (by omega), Int.natAbs_natCast]
  exact ⟨rfl, by omega⟩
 ·simp only [if_true] at hodd ⊢
  rw [decide_eq_true (by omega), Int.natAbs_neg, Int.natAbs_natCast]
  exact ⟨rfl, by omega⟩
theorem outW_fin (l : List UInt8) (hn : l ≠ [110, 97, 110]) : outW l < Wm.W ∧ Wm.nan (outW l) = false := by
 have h00 : (0 : Nat) < Wm.W ∧ Wm.nan 0 = false := ⟨by decide, by decide⟩
 rcases lit_cases l with rfl | rfl | rfl | rfl | rfl | ⟨_, _, _, _, _, he, hv⟩
 ·exact ⟨by decide +kernel, by decide +kernel⟩
 ·exact ⟨by decide +kernel, by decide +kernel⟩
 ·exact absurd rfl hn
 ·exact ⟨by decide +kernel, by decide +kernel⟩
 ·exact ⟨by decide +kernel, by decide +kernel⟩
 ·unfold outW
  by_cases h : errW l = 0
  ·rw [if_pos h, hv]
   rw [he] at h
   unfold prodOf
   rw [if_pos h]
   unfold prodErr at h
   cases hf : formOk l
   ·rw [hf] at h; simp at h
   ·rw [hf] at h
    simp only [if_true] at h
    cases hr : Wm.rangeOk (Wm.nmb (Vm.fst 112 l)) (Wm.nmb (Vm.snd 112 l))
    ·rw [hr] at h; simp at h
    ·obtain ⟨v1, v2⟩ := refVal l hf hr
     rw [v1]
     have hrr := refRange_eq l
     rw [hr] at hrr
     unfold refRange at hrr
     simp only [Bool.and_eq_true, decide_eq_true_eq] at hrr
     obtain ⟨r1, r2, r3, r4⟩ := hrr
     obtain ⟨q1, q2, q3, q4⟩ := pieces_sgn l
     rw [q2] at r1 r4
     have hb := Wm.rungOf_lt (k := Vm.num (Vm.fst 112 (Wm.mgn l))) (e := Wm.sg (Wm.sgnd (Vm.snd 112 l)) (Vm.num (Wm.mgn (Vm.snd 112 l)))) (by omega) (by omega) (by omega)
     have hfin : Fin (Wm.rungOf (Vm.num (Vm.fst 112 (Wm.mgn l))) (Wm.sg (Wm.sgnd (Vm.snd 112 l)) (Vm.num (Wm.mgn (Vm.snd 112 l))))) := hb
     exact ⟨(fin_word hfin _).1, (fin_word hfin _).2.1⟩
  ·rw [if_neg h]; exact h00
theorem outW_lt (l : List UInt8) : outW l < Wm.W := by
 by_cases hn : l = [110, 97, 110]
 ·subst hn; decide +kernel
 ·exact (outW_fin l hn).1
end Go.Proofs.YtkplahkkmmoppaaGreatDoor
