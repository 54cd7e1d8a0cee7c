/- Part 24 of what the laws lean on. -/
import Derived.Test.YtkplahkkmmoppaaGreatDoorK23
set_option maxRecDepth 100000
set_option maxHeartbeats 12800000
namespace Go.Proofs.YtkplahkkmmoppaaGreatDoor
open Go.RowKit Rs At Pg
attribute [local go_sem ↓] Go.wp_at_zero Go.wp_at_succ
attribute [local go_sem] Pg.run_store_float
namespace Pg
theorem s6_from {u : World} (hk : KOk u) (A : Option Addr) (n c : Nat) (l : List Sz.Fld) (hn : l.length = n) (hr : Rg.Row Sz.encF 3 u A l) (hl : n ≤ 1000) (hs : Sz.Short l) (hv : ∀ f ∈ l, f.val.length ≤ 1000) {k i : Int} {p : Pk} (hX : fromP l = (k, i, p)) {nm vr : List UInt8} {dn cn gn wt : Nat} (e0 : p.name = nm) (e1 : p.ver = vr) (e2 : p.deps.length = dn) (e3 : p.confl.length = cn) (e4 : p.prov.length = gn) (e5 : p.wt = wt) :
  Calls Tryz.prog 17 #[.slice A n c] u fun e w' => ∃ D dc C cc G gc, e = .returned (.tuple #[.agg #[.string ⟨nm.toArray⟩, .string ⟨vr.toArray⟩, .slice D dn dc, .slice C cn cc, .slice G gn gc, .float .f64 wt], .int .i64 i, .int .i64 k]) ∧ Pg.DRow w' D p.deps ∧ ARow w' C p.confl ∧ GRow w' G p.prov ∧ Below u.heap.size u w' :=
 (pkgFrom_any A n c l u hk hn hr hl hs hv).mono fun e w' ⟨hb, D, dc, C, cc, G, gc, he, hr⟩ => by
  rw [hX] at he hr
  dsimp only at he hr
  subst e0 e1 e2 e3 e4 e5
  exact ⟨D, dc, C, cc, G, gc, he, drowF_row hr.1.1, hr.2.1.1, hr.2.2.1, hb⟩
theorem s6_check {u : World} (hw : MaxOk u) (p : Pk) (D C G : Option Addr) (dn dc cn cc gn gc : Nat) (hd : Pg.DRow u D p.deps) (hdn : p.deps.length = dn) (hc : ARow u C p.confl) (hcn : p.confl.length = cn) (hg : GRow u G p.prov) (hgn : p.prov.length = gn) (hf : PFew p) {nm vr : List UInt8} {wt : Nat} (e0 : p.name = nm) (e1 : p.ver = vr) (e5 : p.wt = wt) {k : Int} (hk : checkP p = k) :
  Calls Tryz.prog 12 #[.agg #[.string ⟨nm.toArray⟩, .string ⟨vr.toArray⟩, .slice D dn dc, .slice C cn cc, .slice G gn gc, .float .f64 wt]] u fun e w' => e = .returned (.int .i64 k) ∧ Below u.heap.size u w' := by
 subst e0 e1 e5 hk
 exact pkgCheck_any p D C G dn dc cn cc gn gc u hw hd hdn hc hcn hg hgn hf
theorem s6_same {u : World} (p : Pk) (D C G : Option Addr) (dn dc cn cc gn gc : Nat) (q : Pk) (D' C' G' : Option Addr) (dn' dc' cn' cc' gn' gc' : Nat) (hd : Pg.DRow u D p.deps) (hdn : p.deps.length = dn) (hc : ARow u C p.confl) (hcn : p.confl.length = cn) (hg : GRow u G p.prov) (hgn : p.prov.length = gn) (hf : PFew p) (hd' : Pg.DRow u D' q.deps) (hdn' : q.deps.length = dn') (hc' : ARow u C' q.confl) (hcn' : q.confl.length = cn') (hg' : GRow u G' q.prov) (hgn' : q.prov.length = gn') (hf' : PFew q) {nm vr nm' vr' : List UInt8} {wt wt' : Nat} (e0 : p.name = nm) (e1 : p.ver = vr) (e5 : p.wt = wt) (e0' : q.name = nm') (e1' : q.ver = vr') (e5' : q.wt = wt') {b : Bool} (hb : samP p q = b) :
  Calls Tryz.prog 14 #[.agg #[.string ⟨nm.toArray⟩, .string ⟨vr.toArray⟩, .slice D dn dc, .slice C cn cc, .slice G gn gc, .float .f64 wt], .agg #[.string ⟨nm'.toArray⟩, .string ⟨vr'.toArray⟩, .slice D' dn' dc', .slice C' cn' cc', .slice G' gn' gc', .float .f64 wt']] u fun e w' => e = .returned (.bool b) ∧ Below u.heap.size u w' := by
 subst e0 e1 e5 e0' e1' e5' hb
 exact pkgSame_any p q D C G D' C' G' dn dc cn cc gn gc dn' dc' cn' cc' gn' gc' u hd hdn hc hcn hg hgn hf hd' hdn' hc' hcn' hg' hgn' hf'
theorem s6_meets {u : World} (hw : MaxOk u) (p : Pk) (D C G : Option Addr) (dn dc cn cc gn gc : Nat) (nm : List UInt8) (B : Option Addr) (m d : Nat) (r : List Sp) (hg : GRow u G p.prov) (hgn : p.prov.length = gn) (hgl : gn ≤ 1000000) (ho : ∀ g ∈ p.prov, g.ver = [] ∨ Vm.check g.ver = 0) (hv : Vm.check p.ver = 0) (hm : r.length = m) (hq : SRow u B r) (hm2 : m ≤ 64) (hk : checkR r = 0) {pn vr : List UInt8} {wt : Nat} (e0 : p.name = pn) (e1 : p.ver = vr) (e5 : p.wt = wt) {b : Bool} (hb : metP p ⟨nm, r⟩ = b) :
  Calls Tryz.prog 26 #[.agg #[.string ⟨pn.toArray⟩, .string ⟨vr.toArray⟩, .slice D dn dc, .slice C cn cc, .slice G gn gc, .float .f64 wt], .agg #[.string ⟨nm.toArray⟩, .slice B m d]] u fun e w' => e = .returned (.bool b) ∧ Below u.heap.size u w' := by
 subst e0 e1 e5 hb
 exact pkgMeets_any p D C G dn dc cn cc gn gc nm B m d r u hw hg hgn hgl ho hv hm hq hm2 hk
theorem s6_to {u : World} (hk : KOk u) (p : Pk) (D C G : Option Addr) (dn dc cn cc gn gc : Nat) (hd : Pg.DRow u D p.deps) (hdn : p.deps.length = dn) (hc : ARow u C p.confl) (hcn : p.confl.length = cn) (hg : GRow u G p.prov) (hgn : p.prov.length = gn) (ht : PTxt p) {nm vr : List UInt8} {wt : Nat} (e0 : p.name = nm) (e1 : p.ver = vr) (e5 : p.wt = wt) {n : Nat} (hn : (toPk p).length = n) :
  Calls Tryz.prog 16 #[.agg #[.string ⟨nm.toArray⟩, .string ⟨vr.toArray⟩, .slice D dn dc, .slice C cn cc, .slice G gn gc, .float .f64 wt]] u fun e w' => ∃ A c, e = .returned (.slice A n c) ∧ Rg.Row Sz.encF 3 w' A (toPk p) ∧ Below u.heap.size u w' := by
 subst e0 e1 e5
 refine (pkgTo_any p D C G dn dc cn cc gn gc u hk hd hdn hc hcn hg hgn ht).mono ?_
 rintro e w' ⟨A, m, c, rfl, hm, hr, hb⟩
 rw [hn] at hm
 subst hm
 exact ⟨A, c, rfl, hr, hb⟩
theorem s6_depT {u : World} (hw : MaxOk u) (A : Option Addr) (n c : Nat) (d : List Atm) (hn : d.length = n) (hr : ARow u A d) (hl : n ≤ 1000) (hg : ATxt d) {t : List UInt8} (ht : depT d = t) (hj : t.length ≤ 1000000) : Calls Tryz.prog 32 #[.slice A n c] u fun e w' => e = .returned (.string ⟨t.toArray⟩) ∧ Below u.heap.size u w' := by
 subst ht
 exact depText_any A n c d u hw hn hr hl hg hj
theorem s6_all (u : World) : Calls Tryz.prog 29 #[] u fun e w' => ∃ C d, e = .returned (.slice C 1 d) ∧ SRow w' C allS ∧ Below u.heap.size u w' :=
 (all_any u).mono fun _ _ ⟨⟨C, d, he, hr, _, _⟩, hb⟩ => ⟨C, d, he, hr, hb⟩
theorem region_named {P : Program} {id : Nat} {L : Array Oper} {b : Bool} {Q : Exit → Act → World → Prop} {a : Act} {w : World} (h : ∀ ops, L = ops → (Code.region id ops b).wp P Q a w) : (Code.region id L b).wp P Q a w := h L rfl
section
variable {P : Program} {ops : Array Oper} {L : List Oper} {md : Region.Mode} {Q : Exit → Act → World → Prop} {S : World → Prop} {fuel : Nat} {listed : Array Bool} {a : Act} {w : World}
theorem take_at (hL : L.toArray = ops) (i : Nat) {oi : Oper} {v : Value} (hi : L[i]? = some oi) (hs : Region.noSelect ops = true) (hf : Region.free md L.toArray listed i = true) (hr : (Region.ready md L.toArray listed).contains i = true)
  (hQ : ∀ c a w, Q (.panic c) (a.put oi.dst v) w → Q (.panic c) a w) (hw : Region.wanted oi (yielded L.toArray a.tmps) = true) (hS : S w) (hy : ∀ w, S w → (execOp a.eval oi).run P w = .ok (.value v) w)
  (h : wpAnyH P md ops Q S fuel (listed.setIfInBounds i true) (a.put oi.dst v) w) : wpAnyH P md ops Q S (fuel + 1) listed a w := by
 subst hL
 exact wpAnyH_take (by simpa using hi) hs hf hr hQ (Or.inl ⟨hw, hy⟩) hS h
theorem next_at (hL : L.toArray = ops) (i : Nat) {oi : Oper} (hi : L[i]? = some oi) (hr : Region.ready md L.toArray listed = [i]) (hw : Region.wanted oi (yielded L.toArray a.tmps) = true)
  (h : ∀ K : Act → World → Prop, Shut (∀ a w, S w → (S w → wpAnyH P md ops Q S fuel (listed.setIfInBounds i true) a w) → K a w) → Oper.wp P oi a w K Q) : wpAnyH P md ops Q S (fuel + 1) listed a w := by
 subst hL
 refine wpAnyH_ready (rs := [i]) hr (by simp) (AllReadyH.cons (by simpa using hi) (fun K hK => ?_) AllReadyH.nil)
 rw [if_pos hw]
 exact h K hK
theorem done_at (hL : L.toArray = ops) (hr : Region.ready md L.toArray listed = []) (h : Q .normal a w) : wpAnyH P md ops Q S fuel listed a w := by
 subst hL
 exact wpAnyH_done hr h fuel
theorem size_at (hL : L.toArray = ops) {n : Nat} (h : L.length = n) : ops.size = n := by subst hL; simpa using h
theorem nosel_at (hL : L.toArray = ops) (h : Region.noSelect L.toArray = true) : Region.noSelect ops = true := by subst hL; exact h
end
theorem grid_one (A : Option Addr) (n c : Nat) {w : World} (l : List Sz.Fld) (T : TypeId) (h : Rg.Row Sz.encF 3 w A l) (hn : l.length = n) : Gr.Row Sz.encF 3 (w.alloc (.cells #[.slice A n c] T)) (some ⟨w.heap.size, 0, none⟩) [l] := by
 refine ⟨[(A, n, c)], Rg.row_new fitsO w T [((A, n, c) : Desc)] _ rfl rfl, rfl, fun i d m e1 e2 => ?_⟩
 match i with
 | 0 => cases e1; cases e2; exact ⟨hn.symm, Rg.row_below h ((Below.refl _ _).alloc (Nat.le_refl _) _)⟩
 | i + 1 => simp at e1
theorem row_take {α : Type} {enc : α → List Value} {K : Nat} {w : World} {A : Option Addr} {l : List α} (h : Rg.Row enc K w A l) (n : Nat) : Rg.Row enc K w A (l.take n) := fun h0 => by
 have hl : (l.take n).length ≤ l.length := by rw [List.length_take]; omega
 obtain ⟨a, e, hb, hc⟩ := h (by omega)
 refine ⟨a, e, hb, fun i hi => ?_⟩
 rw [List.getElem_take]
 exact hc i (by omega)
end Pg
theorem Pg.s6_parse {w : World} (hw : MaxOk w) : Calls Tryz.prog 34 #[.string ⟨[80, 97, 99, 107, 97, 103, 101, 58, 32, 97, 112, 112, 10, 86, 101, 114, 115, 105, 111, 110, 58, 32, 49, 46, 48, 48, 10, 68, 101, 112, 101, 110, 100, 115, 58, 32, 108, 105, 98, 32, 40, 62, 61, 32, 50, 41, 32, 111, 114, 32, 97, 108, 116, 59, 32, 120, 10, 80, 114, 111, 118, 105, 100, 101, 115, 58, 32, 116, 111, 111, 108, 59, 32, 111, 108, 100, 32, 61, 32, 48, 49, 10, 87, 101, 105, 103, 104, 116, 58, 32, 51, 112, 45, 49, 10].toArray⟩] w fun e w' => ∃ ad c C0 d0, e = .returned (.tuple #[.slice (some ad) 1 c, .int .i64 0, .int .i64 0]) ∧ 5 ≤ d0 ∧ Rg.Row Sz.encF 3 w' C0 f6 ∧ (∀ u, Below w'.heap.size w' u → u.cell? ad = some (.slice C0 5 d0)) ∧ Below w.heap.size w w' :=
 (stanzaParse_cap _ w hw).mono fun e w' ⟨A, c, he, ⟨ds, h1, h2, h3⟩, hb⟩ => by
  rw [k6a] at he h2
  have hl : ds.length = 1 := h2.1
  obtain ⟨ad, x, e, hx, hlt, hc⟩ := Rg.row_at h1 0 (by omega)
  obtain ⟨q1, q2⟩ := h2.2 0 x f6 (by rw [List.getElem?_eq_getElem (by omega), hx]) rfl
  have hcap := h3 x (by rw [← hx]; exact List.getElem_mem _)
  obtain ⟨C0, n0, d0⟩ := x
  have e5 : n0 = 5 := q1
  subst e5 e
  have c0 := hc 0 _ rfl
  rw [if_pos rfl, Nat.zero_mul, Rg.add_zero] at c0
  exact ⟨ad, c, C0, d0, he, hcap, q2, fun u hu => (hu.cell (cell_in c0)).trans c0, hb⟩
theorem known6_any (w : World) (hk : KOk w) : Calls Tryz.prog 9 #[] w fun e w' => e = .returned (.bool true) ∧ Below w.heap.size w w' := by
 have HK := Lib.hid hk
 have HTX : Hid (PTxt p6) := check_txt k6h.1 (by decide +kernel)
 have HFW : Hid (PFew p6) := check_few k6h.1 (by decide +kernel)
 have HGV : Hid (Vm.check p6.ver = 0 ∧ ∀ g ∈ p6.prov, g.ver = [] ∨ Vm.check g.ver = 0) := check_gives k6h.1
 have HSH : Hid (Sz.Short f6 ∧ Sz.Short [⟨kPkg, [97, 112, 112], 0⟩] ∧ Sz.Short [⟨kPkg, [97], 0⟩, ⟨kVer, [49], 0⟩, ⟨kWei, [110, 97, 110], 0⟩]) := ⟨Sz.short_of (by decide +kernel), Sz.short_of (by decide +kernel), Sz.short_of (by decide +kernel)⟩
 have HVL : Hid ((∀ f ∈ f6, f.val.length ≤ 1000) ∧ (∀ f ∈ [(⟨kPkg, [97, 112, 112], 0⟩ : Sz.Fld)], f.val.length ≤ 1000) ∧ ∀ f ∈ [(⟨kPkg, [97], 0⟩ : Sz.Fld), ⟨kVer, [49], 0⟩, ⟨kWei, [110, 97, 110], 0⟩], f.val.length ≤ 1000) := ⟨by decide +kernel, by decide +kernel, by decide +kernel⟩
 have o1 := Wm.ord_self 4609434218613702656 (by decide)
 rw [show Wm.nan 4609434218613702656 = false from by decide +kernel] at o1
 clear hk
 go_enter Tryz.func9, Tryz.ntmps9
 go_wp2_with fail
 refine (s6_parse HK.out.1).mono ?_
 rintro _ u1 ⟨ad, c, C0, d0, rfl, hcap, hr, hcl, hb⟩
 have HB1 := Lib.hid hb
 have HR1 := Lib.hid hr
 have HC1 := Lib.hid hcl
 have HK1 : Hid (KOk u1) := kOk_below HK.out hb
 have HCAP := Lib.hid hcap
 have q0 := hcl _ (Below.refl _ _)
 clear hb hr hcl hcap
 go_wp2_with fail
 refine (s6_from HK1.out C0 5 d0 f6 rfl HR1.out (by decide) HSH.out.1 HVL.out.1 k6b (nm := [97, 112, 112]) (vr := [49, 46, 48]) (dn := 2) (cn := 0) (gn := 2) (wt := 4609434218613702656) rfl rfl rfl rfl rfl rfl).mono ?_
 rintro _ u2 ⟨D, dc, C, cc, G, gc, rfl, hd, hc, hg, hb⟩
 have HB2 := Lib.hid hb
 have HD2 := Lib.hid hd
 have HC2 := Lib.hid hc
 have HG2 := Lib.hid hg
 clear hb hd hc hg q0
 obtain ⟨W4, hW4⟩ : ∃ W, u2.alloc (.cells #[.string ⟨#[97, 112, 112]⟩, .string ⟨#[49, 46, 48]⟩, .slice D 2 dc, .slice C 0 cc, .slice G 2 gc, .float .f64 4609434218613702656] 34) = W := ⟨_, rfl⟩
 have h24 : Below u2.heap.size u2 W4 := alloc_low hW4
 have HB4 : Hid (Below u1.heap.size u1 W4) := HB2.out.trans (h24.mono HB2.out.size)
 have HK4 : Hid (KOk W4) := kOk_below HK1.out HB4.out
 have HD4 : Hid (Pg.DRow W4 D p6.deps) := drowD_below HD2.out h24
 have HCC4 : Hid (ARow W4 C p6.confl) := arow_below HC2.out h24
 have HG4 : Hid (GRow W4 G p6.prov) := Rg.row_below HG2.out h24
 obtain ⟨b4, hb4⟩ : ∃ b, u2.heap.size = b := ⟨_, rfl⟩
 have HY := Lib.hid (fun W (h : Below W4.heap.size W4 W) => cell_six hW4 h)
 rw [hb4] at HY
 obtain ⟨adD, C1, n1, c1, rfl, hn1, hr1, hcD⟩ := drowD_at HD4.out 0 (by decide)
 obtain rfl : (2 : Nat) = n1 := hn1
 have HA1 : Hid (ARow W4 C1 d60) := hr1
 obtain ⟨adA, CA, nA, cA, rfl, hnA, hrA, hcA⟩ := arow_at HA1.out 0 (by decide)
 obtain rfl : (1 : Nat) = nA := hnA
 have HSA : Hid (SRow W4 CA [⟨[50], [], true, false⟩]) := hrA
 obtain ⟨adG, rfl, hcG⟩ := grow_at HG4.out 1 (by decide)
 rw [Rg.add_zero] at hcD
 rw [Nat.zero_mul, Rg.add_zero] at hcA
 have HCD : Hid (∀ u, Below W4.heap.size W4 u → u.cell? adD = some (.slice (some adA) 2 c1)) := hcD
 have HCA : Hid (∀ u, Below W4.heap.size W4 u → u.cell? adA = some (.string ⟨#[108, 105, 98]⟩) ∧ u.cell? ⟨adA.block, adA.off + 1, none⟩ = some (.slice CA 1 cA)) := hcA
 have HCG : Hid (∀ u, Below W4.heap.size W4 u → u.cell? ⟨adG.block, adG.off + 2 + 1, none⟩ = some (.string ⟨#[49]⟩)) := fun u h => (hcG u h).2
 clear h24 hr1 hcD hrA hcA hcG
 have HQ : Hid (∀ u, Below W4.heap.size W4 u → KOk u ∧ Pg.DRow u (some adD) p6.deps ∧ ARow u C p6.confl ∧ GRow u (some adG) p6.prov ∧ ARow u (some adA) d60 ∧ SRow u CA [⟨[50], [], true, false⟩] ∧ Rg.Row Sz.encF 3 u C0 f6) := fun u h => ⟨kOk_below HK4.out h, drowD_below HD4.out h, arow_below HCC4.out h, Rg.row_below HG4.out h, arow_below HA1.out h, srow_below HSA.out h, Rg.row_below HR1.out (HB4.out.trans (h.mono HB4.out.size))⟩
 clear HD2 HC2 HG2 HD4 HCC4 HG4 HA1 HSA HK4
 have HB : Hid (Below W4.heap.size W4 W4) := Below.refl _ _
 obtain ⟨y0, y1, y2, y3, y4, y5⟩ := HY.out _ HB.out
 have q0 := HC1.out _ HB4.out
 have q1 := HCD.out _ HB.out
 have hcap1 : 1 ≤ d0 := by have := HCAP.out; omega
 go_wp2_with fail
 clear hW4 hb4 hcap1
 refine (s6_from (HQ.out _ HB.out).1 C0 1 d0 [⟨kPkg, [97, 112, 112], 0⟩] rfl (row_take (HQ.out _ HB.out).2.2.2.2.2.2 1) (by decide) HSH.out.2.1 HVL.out.2.1 k6c (nm := []) (vr := []) (dn := 0) (cn := 0) (gn := 0) (wt := 0) rfl rfl rfl rfl rfl rfl).mono ?_
 rintro _ u5 ⟨D5, dc5, C5, cc5, G5, gc5, rfl, _, _, _, hb⟩
 have HB5 : Hid (Below W4.heap.size W4 u5) := hb
 clear hb y0 y1 y2 y3 y4 y5 q0 q1
 have HB6 : Hid (Below W4.heap.size W4 (u5.alloc (.cells #[.string ⟨#[]⟩, .string ⟨#[]⟩, .slice D5 0 dc5, .slice C5 0 cc5, .slice G5 0 gc5, .float .f64 0] 34))) := Sz.below_alloc HB5.out (Nat.le_refl _) _
 have HB7 : Hid (Below W4.heap.size W4 ((u5.alloc (.cells #[.string ⟨#[]⟩, .string ⟨#[]⟩, .slice D5 0 dc5, .slice C5 0 cc5, .slice G5 0 gc5, .float .f64 0] 34)).alloc (.cells #[.string ⟨#[80, 97, 99, 107, 97, 103, 101]⟩, .string ⟨#[97]⟩, .int .i64 0, .string ⟨#[86, 101, 114, 115, 105, 111, 110]⟩, .string ⟨#[49]⟩, .int .i64 0, .string ⟨#[87, 101, 105, 103, 104, 116]⟩, .string ⟨#[110, 97, 110]⟩, .int .i64 0] 82))) := Sz.below_alloc HB6.out (Nat.le_refl _) _
 have HR7 : Hid (Rg.Row Sz.encF 3 ((u5.alloc (.cells #[.string ⟨#[]⟩, .string ⟨#[]⟩, .slice D5 0 dc5, .slice C5 0 cc5, .slice G5 0 gc5, .float .f64 0] 34)).alloc (.cells #[.string ⟨#[80, 97, 99, 107, 97, 103, 101]⟩, .string ⟨#[97]⟩, .int .i64 0, .string ⟨#[86, 101, 114, 115, 105, 111, 110]⟩, .string ⟨#[49]⟩, .int .i64 0, .string ⟨#[87, 101, 105, 103, 104, 116]⟩, .string ⟨#[110, 97, 110]⟩, .int .i64 0] 82)) (some ⟨u5.heap.size + 1, 0, none⟩) [⟨kPkg, [97], 0⟩, ⟨kVer, [49], 0⟩, ⟨kWei, [110, 97, 110], 0⟩]) := Rg.row_new Sz.fitsF _ 82 _ _ rfl (by simp)
 obtain ⟨b6, hb6⟩ : ∃ b, u5.heap.size + 1 = b := ⟨_, rfl⟩
 rw [hb6] at HR7
 go_wp2_with fail
 clear HB6 hb6
 generalize (u5.alloc (.cells #[.string ⟨#[]⟩, .string ⟨#[]⟩, .slice D5 0 dc5, .slice C5 0 cc5, .slice G5 0 gc5, .float .f64 0] 34)).alloc (.cells #[.string ⟨#[80, 97, 99, 107, 97, 103, 101]⟩, .string ⟨#[97]⟩, .int .i64 0, .string ⟨#[86, 101, 114, 115, 105, 111, 110]⟩, .string ⟨#[49]⟩, .int .i64 0, .string ⟨#[87, 101, 105, 103, 104, 116]⟩, .string ⟨#[110, 97, 110]⟩, .int .i64 0] 82) = W7 at *
 refine (s6_from (HQ.out _ HB7.out).1 (some ⟨b6, 0, none⟩) 3 3 _ rfl HR7.out (by decide) HSH.out.2.2 HVL.out.2.2 k6d (nm := []) (vr := []) (dn := 0) (cn := 0) (gn := 0) (wt := 0) rfl rfl rfl rfl rfl rfl).mono ?_
 rintro _ u8 ⟨D8, dc8, C8, cc8, G8, gc8, rfl, _, _, _, hb⟩
 have HB8 : Hid (Below W4.heap.size W4 u8) := HB7.out.trans (hb.mono HB7.out.size)
 clear hb
 have HB9 : Hid (Below W4.heap.size W4 (u8.alloc (.cells #[.string ⟨#[]⟩, .string ⟨#[]⟩, .slice D8 0 dc8, .slice C8 0 cc8, .slice G8 0 gc8, .float .f64 0] 34))) := Sz.below_alloc HB8.out (Nat.le_refl _) _
 go_wp2_with fail
 generalize u8.alloc (.cells #[.string ⟨#[]⟩, .string ⟨#[]⟩, .slice D8 0 dc8, .slice C8 0 cc8, .slice G8 0 gc8, .float .f64 0] 34) = W9 at *
 have HBa : Hid (Below W4.heap.size W4 W9.drew) := HB9.out.drew
 have HS : Hid (∀ u, Below W4.heap.size W4 u → u.cell? ⟨b4, 0, none⟩ = some (.string ⟨#[97, 112, 112]⟩) ∧ u.cell? ⟨b4, 1, none⟩ = some (.string ⟨#[49, 46, 48]⟩) ∧ u.cell? ⟨b4, 2, none⟩ = some (.slice (some adD) 2 dc) ∧ u.cell? ⟨b4, 3, none⟩ = some (.slice C 0 cc) ∧ u.cell? ⟨b4, 4, none⟩ = some (.slice (some adG) 2 gc) ∧ u.cell? ⟨b4, 5, none⟩ = some (.float .f64 4609434218613702656) ∧ u.cell? adD = some (.slice (some adA) 2 c1) ∧ u.cell? adA = some (.string ⟨#[108, 105, 98]⟩) ∧ u.cell? ⟨adA.block, adA.off + 1, none⟩ = some (.slice CA 1 cA) ∧ u.cell? ⟨adG.block, adG.off + 2 + 1, none⟩ = some (.string ⟨#[49]⟩)) := fun u h => by
  obtain ⟨y0, y1, y2, y3, y4, y5⟩ := HY.out u h
  obtain ⟨r0, r1⟩ := HCA.out u h
  exact ⟨y0, y1, y2, y3, y4, y5, HCD.out u h, r0, r1, HCG.out u h⟩
 have o2 : (FloatKind.f64.format.order 4609434218613702656 4609434218613702656 == some .eq) = true := by
  cases h : (FloatKind.f64.format.order 4609434218613702656 4609434218613702656 == some .eq)
  ·rw [bne, h] at o1; cases o1
  ·rfl
 clear o1 HB5 HB8 HB7 HCAP HC1 HR1 HVL HSH
 dsimp only [List.append]
 refine region_named (fun ops hops => ?_)
 have HOPS := Lib.hid hops
 have HNS := Lib.hid (nosel_at hops (by kernel_rfl))
 have hsz := size_at hops (n := 91) (by rfl)
 clear hops
 refine wp_region_held_drew (S := fun u => u.cell? ⟨b4, 0, none⟩ = some (.string ⟨#[97, 112, 112]⟩) ∧ u.cell? ⟨b4, 1, none⟩ = some (.string ⟨#[49, 46, 48]⟩) ∧ u.cell? ⟨b4, 2, none⟩ = some (.slice (some adD) 2 dc) ∧ u.cell? ⟨b4, 3, none⟩ = some (.slice C 0 cc) ∧ u.cell? ⟨b4, 4, none⟩ = some (.slice (some adG) 2 gc) ∧ u.cell? ⟨b4, 5, none⟩ = some (.float .f64 4609434218613702656) ∧ u.cell? adD = some (.slice (some adA) 2 c1) ∧ u.cell? adA = some (.string ⟨#[108, 105, 98]⟩) ∧ u.cell? ⟨adA.block, adA.off + 1, none⟩ = some (.slice CA 1 cA) ∧ u.cell? ⟨adG.block, adG.off + 2 + 1, none⟩ = some (.string ⟨#[49]⟩)) (by kernel_rfl) ?_ (fun hH0 => ?_)
 ·exact HS.out _ HBa.out
 rw [hsz]
 clear hsz
 refine take_at HOPS.out 0 (v := ?_) rfl HNS.out (by kernel_rfl) (by kernel_rfl) (fun _ _ _ h => h) (by rfl) (by assumption) ?_ ?_
 rotate_left 1
 ·
  (intro w hSw; (try dsimp only at hSw); go_simp; (try with_reducible rfl))
 try simp only [Act.put, List.setIfInBounds_toArray, List.set_cons_zero, List.set_cons_succ]
 refine take_at HOPS.out 1 (v := ?_) rfl HNS.out (by kernel_rfl) (by kernel_rfl) (fun _ _ _ h => h) (by rfl) (by assumption) ?_ ?_
 rotate_left 1
 ·
  (intro w hSw; (try dsimp only at hSw); go_simp; (try with_reducible rfl))
 try simp only [Act.put, List.setIfInBounds_toArray, List.set_cons_zero, List.set_cons_succ]
 refine take_at HOPS.out 2 (v := ?_) rfl HNS.out (by kernel_rfl) (by kernel_rfl) (fun _ _ _ h => h) (by rfl) (by assumption) ?_ ?_
 rotate_left 1
 ·
  (intro w hSw; (try dsimp only at hSw); go_simp; (try with_reducible rfl))
 try simp only [Act.put, List.setIfInBounds_toArray, List.set_cons_zero, List.set_cons_succ]
 refine take_at HOPS.out 3 (v := ?_) rfl HNS.out (by kernel_rfl) (by kernel_rfl) (fun _ _ _ h => h) (by rfl) (by assumption) ?_ ?_
 rotate_left 1
 ·
  (intro w hSw; (try dsimp only at hSw); go_simp; (try with_reducible rfl))
 try simp only [Act.put, List.setIfInBounds_toArray, List.set_cons_zero, List.set_cons_succ]
 refine take_at HOPS.out 4 (v := ?_) rfl HNS.out (by kernel_rfl) (by kernel_rfl) (fun _ _ _ h => h) (by rfl) (by assumption) ?_ ?_
 rotate_left 1
 ·
  (intro w hSw; (try dsimp only at hSw); go_simp; (try with_reducible rfl))
 try simp only [Act.put, List.setIfInBounds_toArray, List.set_cons_zero, List.set_cons_succ]
 refine take_at HOPS.out 5 (v := ?_) rfl HNS.out (by kernel_rfl) (by kernel_rfl) (fun _ _ _ h => h) (by rfl) (by assumption) ?_ ?_
 rotate_left 1
 ·
  (intro w hSw; (try dsimp only at hSw); go_simp; (try with_reducible rfl))
 try simp only [Act.put, List.setIfInBounds_toArray, List.set_cons_zero, List.set_cons_succ]
 refine take_at HOPS.out 6 (v := ?_) rfl HNS.out (by kernel_rfl) (by kernel_rfl) (fun _ _ _ h => h) (by rfl) (by assumption) ?_ ?_
 rotate_left 1
 ·
  (intro w hSw; (try dsimp only at hSw); go_simp; (try with_reducible rfl))
 try simp only [Act.put, List.setIfInBounds_toArray, List.set_cons_zero, List.set_cons_succ]
 refine take_at HOPS.out 7 (v := ?_) rfl HNS.out (by kernel_rfl) (by kernel_rfl) (fun _ _ _ h => h) (by rfl) (by assumption) ?_ ?_
 rotate_left 1
 ·
  (intro w hSw; (try dsimp only at hSw); go_simp; (try with_reducible rfl))
 try simp only [Act.put, List.setIfInBounds_toArray, List.set_cons_zero, List.set_cons_succ]
 refine take_at HOPS.out 8 (v := ?_) rfl HNS.out (by kernel_rfl) (by kernel_rfl) (fun _ _ _ h => h) (by rfl) (by assumption) ?_ ?_
 rotate_left 1
 ·
  (intro w hSw; (try dsimp only at hSw); go_simp; (try with_reducible rfl))
 try simp only [Act.put, List.setIfInBounds_toArray, List.set_cons_zero, List.set_cons_succ]
 refine take_at HOPS.out 9 (v := ?_) rfl HNS.out (by kernel_rfl) (by kernel_rfl) (fun _ _ _ h => h) (by rfl) (by assumption) ?_ ?_
 rotate_left 1
 ·
  (intro w hSw; (try dsimp only at hSw); go_simp; (try with_reducible rfl))
 try simp only [Act.put, List.setIfInBounds_toArray, List.set_cons_zero, List.set_cons_succ]
 refine take_at HOPS.out 10 (v := ?_) rfl HNS.out (by kernel_rfl) (by kernel_rfl) (fun _ _ _ h => h) (by rfl) (by assumption) ?_ ?_
 rotate_left 1
 ·
  (intro w hSw; (try dsimp only at hSw); go_simp; (try with_reducible rfl))
 try simp only [Act.put, List.setIfInBounds_toArray, List.set_cons_zero, List.set_cons_succ]
 refine take_at HOPS.out 11 (v := ?_) rfl HNS.out (by kernel_rfl) (by kernel_rfl) (fun _ _ _ h => h) (by rfl) (by assumption) ?_ ?_
 rotate_left 1
 ·
  (intro w hSw; (try dsimp only at hSw); go_simp; (try with_reducible rfl))
 try simp only [Act.put, List.setIfInBounds_toArray, List.set_cons_zero, List.set_cons_succ]
 refine take_at HOPS.out 12 (v := ?_) rfl HNS.out (by kernel_rfl) (by kernel_rfl) (fun _ _ _ h => h) (by rfl) (by assumption) ?_ ?_
 rotate_left 1
 ·
  (intro w hSw; (try dsimp only at hSw); go_simp; (try with_reducible rfl))
 try simp only [Act.put, List.setIfInBounds_toArray, List.set_cons_zero, List.set_cons_succ]
 refine take_at HOPS.out 13 (v := ?_) rfl HNS.out (by kernel_rfl) (by kernel_rfl) (fun _ _ _ h => h) (by rfl) (by assumption) ?_ ?_
 rotate_left 1
 ·
  (intro w hSw; (try dsimp only at hSw); go_simp; (try with_reducible rfl))
 try simp only [Act.put, List.setIfInBounds_toArray, List.set_cons_zero, List.set_cons_succ]
 refine take_at HOPS.out 14 (v := ?_) rfl HNS.out (by kernel_rfl) (by kernel_rfl) (fun _ _ _ h => h) (by rfl) (by assumption) ?_ ?_
 rotate_left 1
 ·
  (intro w hSw; (try dsimp only at hSw); go_simp; (try with_reducible rfl))
 try simp only [Act.put, List.setIfInBounds_toArray, List.set_cons_zero, List.set_cons_succ]
 refine take_at HOPS.out 15 (v := ?_) rfl HNS.out (by kernel_rfl) (by kernel_rfl) (fun _ _ _ h => h) (by rfl) (by assumption) ?_ ?_
 rotate_left 1
 ·
  (intro w hSw; (try dsimp only at hSw); go_simp; (try with_reducible rfl))
 try simp only [Act.put, List.setIfInBounds_toArray, List.set_cons_zero, List.set_cons_succ]
 refine take_at HOPS.out 16 (v := ?_) rfl HNS.out (by kernel_rfl) (by kernel_rfl) (fun _ _ _ h => h) (by rfl) (by assumption) ?_ ?_
 rotate_left 1
 ·
  (intro w hSw; (try dsimp only at hSw); go_simp; (try with_reducible rfl))
 try simp only [Act.put, List.setIfInBounds_toArray, List.set_cons_zero, List.set_cons_succ]
 refine take_at HOPS.out 17 (v := ?_) rfl HNS.out (by kernel_rfl) (by kernel_rfl) (fun _ _ _ h => h) (by rfl) (by assumption) ?_ ?_
 rotate_left 1
 ·
  (intro w hSw; (try dsimp only at hSw); go_simp; (try with_reducible rfl))
 try simp only [Act.put, List.setIfInBounds_toArray, List.set_cons_zero, List.set_cons_succ]
 refine take_at HOPS.out 18 (v := ?_) rfl HNS.out (by kernel_rfl) (by kernel_rfl) (fun _ _ _ h => h) (by rfl) (by assumption) ?_ ?_
 rotate_left 1
 ·
  (intro w hSw; (try dsimp only at hSw); go_simp; (try with_reducible rfl))
 try simp only [Act.put, List.setIfInBounds_toArray, List.set_cons_zero, List.set_cons_succ]
 refine take_at HOPS.out 19 (v := ?_) rfl HNS.out (by kernel_rfl) (by kernel_rfl) (fun _ _ _ h => h) (by rfl) (by assumption) ?_ ?_
 rotate_left 1
 ·
  (intro w hSw; (try dsimp only at hSw); go_simp; (try with_reducible rfl))
 try simp only [Act.put, List.setIfInBounds_toArray, List.set_cons_zero, List.set_cons_succ]
 refine take_at HOPS.out 20 (v := ?_) rfl HNS.out (by kernel_rfl) (by kernel_rfl) (fun _ _ _ h => h) (by rfl) (by assumption) ?_ ?_
 rotate_left 1
 ·
  (intro w hSw; (try dsimp only at hSw); go_simp; (try with_reducible rfl))
 try simp only [Act.put, List.setIfInBounds_toArray, List.set_cons_zero, List.set_cons_succ]
 refine take_at HOPS.out 21 (v := ?_) rfl HNS.out (by kernel_rfl) (by kernel_rfl) (fun _ _ _ h => h) (by rfl) (by assumption) ?_ ?_
 rotate_left 1
 ·
  (intro w hSw; (try dsimp only at hSw); go_simp; (try with_reducible rfl))
 try simp only [Act.put, List.setIfInBounds_toArray, List.set_cons_zero, List.set_cons_succ]
 refine take_at HOPS.out 22 (v := ?_) rfl HNS.out (by kernel_rfl) (by kernel_rfl) (fun _ _ _ h => h) (by rfl) (by assumption) ?_ ?_
 rotate_left 1
 ·
  (intro w hSw; (try dsimp only at hSw); go_simp; (try with_reducible rfl))
 try simp only [Act.put, List.setIfInBounds_toArray, List.set_cons_zero, List.set_cons_succ]
 refine take_at HOPS.out 23 (v := ?_) rfl HNS.out (by kernel_rfl) (by kernel_rfl) (fun _ _ _ h => h) (by rfl) (by assumption) ?_ ?_
 rotate_left 1
 ·
  (intro w hSw; (try dsimp only at hSw); go_simp; (try with_reducible rfl))
 try simp only [Act.put, List.setIfInBounds_toArray, List.set_cons_zero, List.set_cons_succ]
 refine take_at HOPS.out 24 (v := ?_) rfl HNS.out (by kernel_rfl) (by kernel_rfl) (fun _ _ _ h => h) (by rfl) (by assumption) ?_ ?_
 rotate_left 1
 ·
  (intro w hSw; (try dsimp only at hSw); go_simp; (try with_reducible rfl))
 try simp only [Act.put, List.setIfInBounds_toArray, List.set_cons_zero, List.set_cons_succ]
 refine next_at HOPS.out 25 rfl (by kernel_rfl) (by rfl) (fun K hK => ?_)
 go_simp
 go_at_call 32; refine (s6_depT (HQ.out _ HBa.out).1.1 (some adA) 2 c1 d60 rfl (HQ.out _ HBa.out).2.2.2.2.1 (by decide) (HTX.out.2.2.2.1 d60 (List.mem_cons_self ..)).2.1 k6e (by decide)).mono ?_; rintro _ zb ⟨rfl, hz⟩; have HBb : Hid (Below W4.heap.size W4 zb) := HBa.out.trans (hz.mono HBa.out.size); clear hz
 refine hK.out _ _ ?_ (fun hH1 => ?_)
 ·exact HS.out _ HBb.out
 clear hK K hH0
 try simp only [Act.put, List.setIfInBounds_toArray, List.set_cons_zero, List.set_cons_succ]
 as_aux_lemma =>
  refine take_at HOPS.out 26 (v := ?_) rfl HNS.out (by kernel_rfl) (by kernel_rfl) (fun _ _ _ h => h) (by rfl) (by assumption) ?_ ?_
  rotate_left 1
  ·
   (intro w hSw; (try dsimp only at hSw); go_simp; (try with_reducible rfl))
  try simp only [Act.put, List.setIfInBounds_toArray, List.set_cons_zero, List.set_cons_succ]
  refine take_at HOPS.out 27 (v := ?_) rfl HNS.out (by kernel_rfl) (by kernel_rfl) (fun _ _ _ h => h) (by rfl) (by assumption) ?_ ?_
  rotate_left 1
  ·
   (intro w hSw; (try dsimp only at hSw); go_simp; (try with_reducible rfl))
  try simp only [Act.put, List.setIfInBounds_toArray, List.set_cons_zero, List.set_cons_succ]
  refine take_at HOPS.out 28 (v := ?_) rfl HNS.out (by kernel_rfl) (by kernel_rfl) (fun _ _ _ h => h) (by rfl) (by assumption) ?_ ?_
  rotate_left 1
  ·
   (intro w hSw; (try dsimp only at hSw); go_simp; (try with_reducible rfl))
  try simp only [Act.put, List.setIfInBounds_toArray, List.set_cons_zero, List.set_cons_succ]
  refine take_at HOPS.out 29 (v := ?_) rfl HNS.out (by kernel_rfl) (by kernel_rfl) (fun _ _ _ h => h) (by rfl) (by assumption) ?_ ?_
  rotate_left 1
  ·
   (intro w hSw; (try dsimp only at hSw); go_simp; (try with_reducible rfl))
  try simp only [Act.put, List.setIfInBounds_toArray, List.set_cons_zero, List.set_cons_succ]
  refine next_at HOPS.out 30 rfl (by kernel_rfl) (by rfl) (fun K hK => ?_)
  go_simp
  go_at_call 16; refine (s6_to (HQ.out _ HBb.out).1 p6 (some adD) C (some adG) 2 dc 0 cc 2 gc (HQ.out _ HBb.out).2.1 rfl (HQ.out _ HBb.out).2.2.1 rfl (HQ.out _ HBb.out).2.2.2.1 rfl HTX.out rfl rfl rfl (n := 5) (by decide +kernel)).mono ?_; rintro _ zc ⟨At, ct, rfl, hrt, hz⟩; have HBc : Hid (Below W4.heap.size W4 zc) := HBb.out.trans (hz.mono HBb.out.size); have HRT := Lib.hid hrt; clear hrt; clear hz
  refine hK.out _ _ ?_ (fun hH2 => ?_)
  ·exact HS.out _ HBc.out
  clear hK K hH1
  try simp only [Act.put, List.setIfInBounds_toArray, List.set_cons_zero, List.set_cons_succ]
  as_aux_lemma =>
   refine next_at HOPS.out 31 rfl (by kernel_rfl) (by rfl) (fun K hK => ?_)
   go_simp
   refine hK.out _ _ ?_ (fun hH3 => ?_)
   ·exact HS.out _ (HBc.out.alloc HBc.out.size _)
   clear hK K hH2
   try simp only [Act.put, List.setIfInBounds_toArray, List.set_cons_zero, List.set_cons_succ]
   refine next_at HOPS.out 32 rfl (by kernel_rfl) (by rfl) (fun K hK => ?_)
   go_simp
   go_at_call 35; refine (Sz.s5_print (some ⟨zc.heap.size, 0, none⟩) 1 1 [toPk p6] rfl (grid_one At 5 ct (toPk p6) 42 HRT.out (by decide +kernel)) (by decide) (by decide +kernel) k6f (by decide)).mono ?_; rintro _ zd ⟨rfl, hz0⟩; have HBd : Hid (Below W4.heap.size W4 zd) := (HBc.out.alloc HBc.out.size _).trans (hz0.mono (HBc.out.alloc HBc.out.size _).size); clear hz0
   refine hK.out _ _ ?_ (fun hH4 => ?_)
   ·exact HS.out _ HBd.out
   clear hK K hH3
   skip
   as_aux_lemma =>
    refine take_at HOPS.out 33 (v := ?_) rfl HNS.out (by kernel_rfl) (by kernel_rfl) (fun _ _ _ h => h) (by rfl) (by assumption) ?_ ?_
    rotate_left 1
    ·
     (intro w hSw; (try dsimp only at hSw); go_simp; (try with_reducible rfl))
    try simp only [Act.put, List.setIfInBounds_toArray, List.set_cons_zero, List.set_cons_succ]
    refine take_at HOPS.out 34 (v := ?_) rfl HNS.out (by kernel_rfl) (by kernel_rfl) (fun _ _ _ h => h) (by rfl) (by assumption) ?_ ?_
    rotate_left 1
    ·
     (intro w hSw; (try dsimp only at hSw); go_simp; (try with_reducible rfl))
    try simp only [Act.put, List.setIfInBounds_toArray, List.set_cons_zero, List.set_cons_succ]
    refine take_at HOPS.out 35 (v := ?_) rfl HNS.out (by kernel_rfl) (by kernel_rfl) (fun _ _ _ h => h) (by rfl) (by assumption) ?_ ?_
    rotate_left 1
    ·
     (intro w hSw; (try dsimp only at hSw); go_simp; (try with_reducible rfl))
    try simp only [Act.put, List.setIfInBounds_toArray, List.set_cons_zero, List.set_cons_succ]
    refine take_at HOPS.out 36 (v := ?_) rfl HNS.out (by kernel_rfl) (by kernel_rfl) (fun _ _ _ h => h) (by rfl) (by assumption) ?_ ?_
    rotate_left 1
    ·
     (intro w hSw; (try dsimp only at hSw); go_simp; (try with_reducible rfl))
    try simp only [Act.put, List.setIfInBounds_toArray, List.set_cons_zero, List.set_cons_succ]
    refine take_at HOPS.out 37 (v := ?_) rfl HNS.out (by kernel_rfl) (by kernel_rfl) (fun _ _ _ h => h) (by rfl) (by assumption) ?_ ?_
    rotate_left 1
    ·
     (intro w hSw; (try dsimp only at hSw); go_simp; (try with_reducible rfl))
    try simp only [Act.put, List.setIfInBounds_toArray, List.set_cons_zero, List.set_cons_succ]
    refine take_at HOPS.out 38 (v := ?_) rfl HNS.out (by kernel_rfl) (by kernel_rfl) (fun _ _ _ h => h) (by rfl) (by assumption) ?_ ?_
    rotate_left 1
    ·
     (intro w hSw; (try dsimp only at hSw); go_simp; (try with_reducible rfl))
    try simp only [Act.put, List.setIfInBounds_toArray, List.set_cons_zero, List.set_cons_succ]
    refine take_at HOPS.out 39 (v := ?_) rfl HNS.out (by kernel_rfl) (by kernel_rfl) (fun _ _ _ h => h) (by rfl) (by assumption) ?_ ?_
    rotate_left 1
    ·
     (intro w hSw; (try dsimp only at hSw); go_simp; (try with_reducible rfl))
    try simp only [Act.put, List.setIfInBounds_toArray, List.set_cons_zero, List.set_cons_succ]
    refine take_at HOPS.out 40 (v := ?_) rfl HNS.out (by kernel_rfl) (by kernel_rfl) (fun _ _ _ h => h) (by rfl) (by assumption) ?_ ?_
    rotate_left 1
    ·
     (intro w hSw; (try dsimp only at hSw); go_simp; (try with_reducible rfl))
    try simp only [Act.put, List.setIfInBounds_toArray, List.set_cons_zero, List.set_cons_succ]
    refine take_at HOPS.out 41 (v := ?_) rfl HNS.out (by kernel_rfl) (by kernel_rfl) (fun _ _ _ h => h) (by rfl) (by assumption) ?_ ?_
    rotate_left 1
    ·
     (intro w hSw; (try dsimp only at hSw); go_simp; (try with_reducible rfl))
    try simp only [Act.put, List.setIfInBounds_toArray, List.set_cons_zero, List.set_cons_succ]
    refine take_at HOPS.out 42 (v := ?_) rfl HNS.out (by kernel_rfl) (by kernel_rfl) (fun _ _ _ h => h) (by rfl) (by assumption) ?_ ?_
    rotate_left 1
    ·
     (intro w hSw; (try dsimp only at hSw); go_simp; (try with_reducible rfl))
    try simp only [Act.put, List.setIfInBounds_toArray, List.set_cons_zero, List.set_cons_succ]
    refine take_at HOPS.out 43 (v := ?_) rfl HNS.out (by kernel_rfl) (by kernel_rfl) (fun _ _ _ h => h) (by rfl) (by assumption) ?_ ?_
    rotate_left 1
    ·
     (intro w hSw; (try dsimp only at hSw); go_simp; (try with_reducible rfl))
    try simp only [Act.put, List.setIfInBounds_toArray, List.set_cons_zero, List.set_cons_succ]
    refine take_at HOPS.out 44 (v := ?_) rfl HNS.out (by kernel_rfl) (by kernel_rfl) (fun _ _ _ h => h) (by rfl) (by assumption) ?_ ?_
    rotate_left 1
    ·
     (intro w hSw; (try dsimp only at hSw); go_simp; (try with_reducible rfl))
    try simp only [Act.put, List.setIfInBounds_toArray, List.set_cons_zero, List.set_cons_succ]
    refine take_at HOPS.out 45 (v := ?_) rfl HNS.out (by kernel_rfl) (by kernel_rfl) (fun _ _ _ h => h) (by rfl) (by assumption) ?_ ?_
    rotate_left 1
    ·
     (intro w hSw; (try dsimp only at hSw); go_simp; (try with_reducible rfl))
    try simp only [Act.put, List.setIfInBounds_toArray, List.set_cons_zero, List.set_cons_succ]
    refine take_at HOPS.out 46 (v := ?_) rfl HNS.out (by kernel_rfl) (by kernel_rfl) (fun _ _ _ h => h) (by rfl) (by assumption) ?_ ?_
    rotate_left 1
    ·
     (intro w hSw; (try dsimp only at hSw); go_simp; (try with_reducible rfl))
    try simp only [Act.put, List.setIfInBounds_toArray, List.set_cons_zero, List.set_cons_succ]
    refine take_at HOPS.out 47 (v := ?_) rfl HNS.out (by kernel_rfl) (by kernel_rfl) (fun _ _ _ h => h) (by rfl) (by assumption) ?_ ?_
    rotate_left 1
    ·
     (intro w hSw; (try dsimp only at hSw); go_simp; (try with_reducible rfl))
    try simp only [Act.put, List.setIfInBounds_toArray, List.set_cons_zero, List.set_cons_succ]
    refine take_at HOPS.out 48 (v := ?_) rfl HNS.out (by kernel_rfl) (by kernel_rfl) (fun _ _ _ h => h) (by rfl) (by assumption) ?_ ?_
    rotate_left 1
    ·
     (intro w hSw; (try dsimp only at hSw); go_simp; (try with_reducible rfl))
    try simp only [Act.put, List.setIfInBounds_toArray, List.set_cons_zero, List.set_cons_succ]
    refine take_at HOPS.out 49 (v := ?_) rfl HNS.out (by kernel_rfl) (by kernel_rfl) (fun _ _ _ h => h) (by rfl) (by assumption) ?_ ?_
    rotate_left 1
    ·
     (intro w hSw; (try dsimp only at hSw); go_simp; (try with_reducible rfl))
    try simp only [Act.put, List.setIfInBounds_toArray, List.set_cons_zero, List.set_cons_succ]
    refine take_at HOPS.out 50 (v := ?_) rfl HNS.out (by kernel_rfl) (by kernel_rfl) (fun _ _ _ h => h) (by rfl) (by assumption) ?_ ?_
    rotate_left 1
    ·
     (intro w hSw; (try dsimp only at hSw); go_simp; (try with_reducible rfl))
    try simp only [Act.put, List.setIfInBounds_toArray, List.set_cons_zero, List.set_cons_succ]
    refine take_at HOPS.out 51 (v := ?_) rfl HNS.out (by kernel_rfl) (by kernel_rfl) (fun _ _ _ h => h) (by rfl) (by assumption) ?_ ?_
    rotate_left 1
    ·
     (intro w hSw; (try dsimp only at hSw); go_simp; (try with_reducible rfl))
    try simp only [Act.put, List.setIfInBounds_toArray, List.set_cons_zero, List.set_cons_succ]
    refine take_at HOPS.out 52 (v := ?_) rfl HNS.out (by kernel_rfl) (by kernel_rfl) (fun _ _ _ h => h) (by rfl) (by assumption) ?_ ?_
    rotate_left 1
    ·
     (intro w hSw; (try dsimp only at hSw); go_simp; (try with_reducible rfl))
    try simp only [Act.put, List.setIfInBounds_toArray, List.set_cons_zero, List.set_cons_succ]
    refine next_at HOPS.out 53 rfl (by kernel_rfl) (by rfl) (fun K hK => ?_)
    go_simp
    go_at_call 29; refine (s6_all _).mono ?_; rintro _ ze ⟨Ce, de, rfl, hre, hz⟩; have HBe : Hid (Below W4.heap.size W4 ze) := HBd.out.trans (hz.mono HBd.out.size); have HRE := Lib.hid hre; clear hre; clear hz
    refine hK.out _ _ ?_ (fun hH5 => ?_)
    ·exact HS.out _ HBe.out
    clear hK K hH4
    try simp only [Act.put, List.setIfInBounds_toArray, List.set_cons_zero, List.set_cons_succ]
    as_aux_lemma =>
     refine take_at HOPS.out 54 (v := ?_) rfl HNS.out (by kernel_rfl) (by kernel_rfl) (fun _ _ _ h => h) (by rfl) (by assumption) ?_ ?_
     rotate_left 1
     ·
      (intro w hSw; (try dsimp only at hSw); go_simp; (try with_reducible rfl))
     try simp only [Act.put, List.setIfInBounds_toArray, List.set_cons_zero, List.set_cons_succ]
     refine next_at HOPS.out 55 rfl (by kernel_rfl) (by rfl) (fun K hK => ?_)
     go_simp
     go_at_call 26; refine (s6_meets (HQ.out _ HBe.out).1.1 p6 (some adD) C (some adG) 2 dc 0 cc 2 gc [111, 108, 100] Ce 1 de allS (HQ.out _ HBe.out).2.2.2.1 rfl (by decide) HGV.out.2 HGV.out.1 rfl HRE.out (by decide) (by decide +kernel) rfl rfl rfl k6g.1).mono ?_; rintro _ zf ⟨rfl, hz⟩; have HBf : Hid (Below W4.heap.size W4 zf) := HBe.out.trans (hz.mono HBe.out.size); clear hz
     refine hK.out _ _ ?_ (fun hH6 => ?_)
     ·exact HS.out _ HBf.out
     clear hK K hH5
     try simp only [Act.put, List.setIfInBounds_toArray, List.set_cons_zero, List.set_cons_succ]
     as_aux_lemma =>
      refine take_at HOPS.out 56 (v := ?_) rfl HNS.out (by kernel_rfl) (by kernel_rfl) (fun _ _ _ h => h) (by rfl) (by assumption) ?_ ?_
      rotate_left 1
      ·
       (intro w hSw; (try dsimp only at hSw); go_simp; (try with_reducible rfl))
      try simp only [Act.put, List.setIfInBounds_toArray, List.set_cons_zero, List.set_cons_succ]
      refine take_at HOPS.out 57 (v := ?_) rfl HNS.out (by kernel_rfl) (by kernel_rfl) (fun _ _ _ h => h) (by rfl) (by assumption) ?_ ?_
      rotate_left 1
      ·
       (intro w hSw; (try dsimp only at hSw); go_simp; (try with_reducible rfl))
      try simp only [Act.put, List.setIfInBounds_toArray, List.set_cons_zero, List.set_cons_succ]
      refine take_at HOPS.out 58 (v := ?_) rfl HNS.out (by kernel_rfl) (by kernel_rfl) (fun _ _ _ h => h) (by rfl) (by assumption) ?_ ?_
      rotate_left 1
      ·
       (intro w hSw; (try dsimp only at hSw); go_simp; (try with_reducible rfl))
      try simp only [Act.put, List.setIfInBounds_toArray, List.set_cons_zero, List.set_cons_succ]
      refine next_at HOPS.out 59 rfl (by kernel_rfl) (by rfl) (fun K hK => ?_)
      go_simp
      go_at_call 29; refine (s6_all _).mono ?_; rintro _ zg ⟨Cg, dg, rfl, hrg, hz⟩; have HBg : Hid (Below W4.heap.size W4 zg) := HBf.out.trans (hz.mono HBf.out.size); have HRG := Lib.hid hrg; clear hrg; clear hz
      refine hK.out _ _ ?_ (fun hH7 => ?_)
      ·exact HS.out _ HBg.out
      clear hK K hH6
      try simp only [Act.put, List.setIfInBounds_toArray, List.set_cons_zero, List.set_cons_succ]
      as_aux_lemma =>
       refine take_at HOPS.out 60 (v := ?_) rfl HNS.out (by kernel_rfl) (by kernel_rfl) (fun _ _ _ h => h) (by rfl) (by assumption) ?_ ?_
       rotate_left 1
       ·
        (intro w hSw; (try dsimp only at hSw); go_simp; (try with_reducible rfl))
       try simp only [Act.put, List.setIfInBounds_toArray, List.set_cons_zero, List.set_cons_succ]
       refine next_at HOPS.out 61 rfl (by kernel_rfl) (by rfl) (fun K hK => ?_)
       go_simp
       go_at_call 26; refine (s6_meets (HQ.out _ HBg.out).1.1 p6 (some adD) C (some adG) 2 dc 0 cc 2 gc [116, 111, 111, 108] Cg 1 dg allS (HQ.out _ HBg.out).2.2.2.1 rfl (by decide) HGV.out.2 HGV.out.1 rfl HRG.out (by decide) (by decide +kernel) rfl rfl rfl k6g.2.1).mono ?_; rintro _ zh ⟨rfl, hz⟩; have HBh : Hid (Below W4.heap.size W4 zh) := HBg.out.trans (hz.mono HBg.out.size); clear hz
       refine hK.out _ _ ?_ (fun hH8 => ?_)
       ·exact HS.out _ HBh.out
       clear hK K hH7
       try simp only [Act.put, List.setIfInBounds_toArray, List.set_cons_zero, List.set_cons_succ]
       as_aux_lemma =>
        refine take_at HOPS.out 62 (v := ?_) rfl HNS.out (by kernel_rfl) (by kernel_rfl) (fun _ _ _ h => h) (by rfl) (by assumption) ?_ ?_
        rotate_left 1
        ·
         (intro w hSw; (try dsimp only at hSw); go_simp; (try with_reducible rfl))
        try simp only [Act.put, List.setIfInBounds_toArray, List.set_cons_zero, List.set_cons_succ]
        refine take_at HOPS.out 63 (v := ?_) rfl HNS.out (by kernel_rfl) (by kernel_rfl) (fun _ _ _ h => h) (by rfl) (by assumption) ?_ ?_
        rotate_left 1
        ·
         (intro w hSw; (try dsimp only at hSw); go_simp; (try with_reducible rfl))
        try simp only [Act.put, List.setIfInBounds_toArray, List.set_cons_zero, List.set_cons_succ]
        refine take_at HOPS.out 64 (v := ?_) rfl HNS.out (by kernel_rfl) (by kernel_rfl) (fun _ _ _ h => h) (by rfl) (by assumption) ?_ ?_
        rotate_left 1
        ·
         (intro w hSw; (try dsimp only at hSw); go_simp; (try with_reducible rfl))
        try simp only [Act.put, List.setIfInBounds_toArray, List.set_cons_zero, List.set_cons_succ]
        refine take_at HOPS.out 65 (v := ?_) rfl HNS.out (by kernel_rfl) (by kernel_rfl) (fun _ _ _ h => h) (by rfl) (by assumption) ?_ ?_
        rotate_left 1
        ·
         (intro w hSw; (try dsimp only at hSw); go_simp; (try with_reducible rfl))
        try simp only [Act.put, List.setIfInBounds_toArray, List.set_cons_zero, List.set_cons_succ]
        refine next_at HOPS.out 66 rfl (by kernel_rfl) (by rfl) (fun K hK => ?_)
        go_simp
        go_at_call 26; refine (s6_meets (HQ.out _ HBh.out).1.1 p6 (some adD) C (some adG) 2 dc 0 cc 2 gc [116, 111, 111, 108] none 0 0 [] (HQ.out _ HBh.out).2.2.2.1 rfl (by decide) HGV.out.2 HGV.out.1 rfl (srow_nil _ _) (by decide) (by decide +kernel) rfl rfl rfl k6g.2.2.1).mono ?_; rintro _ zi ⟨rfl, hz⟩; have HBi : Hid (Below W4.heap.size W4 zi) := HBh.out.trans (hz.mono HBh.out.size); clear hz
        refine hK.out _ _ ?_ (fun hH9 => ?_)
        ·exact HS.out _ HBi.out
        clear hK K hH8
        try simp only [Act.put, List.setIfInBounds_toArray, List.set_cons_zero, List.set_cons_succ]
        as_aux_lemma =>
         refine take_at HOPS.out 67 (v := ?_) rfl HNS.out (by kernel_rfl) (by kernel_rfl) (fun _ _ _ h => h) (by rfl) (by assumption) ?_ ?_
         rotate_left 1
         ·
          (intro w hSw; (try dsimp only at hSw); go_simp; (try with_reducible rfl))
         try simp only [Act.put, List.setIfInBounds_toArray, List.set_cons_zero, List.set_cons_succ]
         refine take_at HOPS.out 68 (v := ?_) rfl HNS.out (by kernel_rfl) (by kernel_rfl) (fun _ _ _ h => h) (by rfl) (by assumption) ?_ ?_
         rotate_left 1
         ·
          (intro w hSw; (try dsimp only at hSw); go_simp; (try with_reducible rfl))
         try simp only [Act.put, List.setIfInBounds_toArray, List.set_cons_zero, List.set_cons_succ]
         refine take_at HOPS.out 69 (v := ?_) rfl HNS.out (by kernel_rfl) (by kernel_rfl) (fun _ _ _ h => h) (by rfl) (by assumption) ?_ ?_
         rotate_left 1
         ·
          (intro w hSw; (try dsimp only at hSw); go_simp; (try with_reducible rfl))
         try simp only [Act.put, List.setIfInBounds_toArray, List.set_cons_zero, List.set_cons_succ]
         refine take_at HOPS.out 70 (v := ?_) rfl HNS.out (by kernel_rfl) (by kernel_rfl) (fun _ _ _ h => h) (by rfl) (by assumption) ?_ ?_
         rotate_left 1
         ·
          (intro w hSw; (try dsimp only at hSw); go_simp; (try with_reducible rfl))
         try simp only [Act.put, List.setIfInBounds_toArray, List.set_cons_zero, List.set_cons_succ]
         refine take_at HOPS.out 71 (v := ?_) rfl HNS.out (by kernel_rfl) (by kernel_rfl) (fun _ _ _ h => h) (by rfl) (by assumption) ?_ ?_
         rotate_left 1
         ·
          (intro w hSw; (try dsimp only at hSw); go_simp; (try with_reducible rfl))
         try simp only [Act.put, List.setIfInBounds_toArray, List.set_cons_zero, List.set_cons_succ]
         refine take_at HOPS.out 72 (v := ?_) rfl HNS.out (by kernel_rfl) (by kernel_rfl) (fun _ _ _ h => h) (by rfl) (by assumption) ?_ ?_
         rotate_left 1
         ·
          (intro w hSw; (try dsimp only at hSw); go_simp; (try with_reducible rfl))
         try simp only [Act.put, List.setIfInBounds_toArray, List.set_cons_zero, List.set_cons_succ]
         refine take_at HOPS.out 73 (v := ?_) rfl HNS.out (by kernel_rfl) (by kernel_rfl) (fun _ _ _ h => h) (by rfl) (by assumption) ?_ ?_
         rotate_left 1
         ·
          (intro w hSw; (try dsimp only at hSw); go_simp; (try with_reducible rfl))
         try simp only [Act.put, List.setIfInBounds_toArray, List.set_cons_zero, List.set_cons_succ]
         refine take_at HOPS.out 74 (v := ?_) rfl HNS.out (by kernel_rfl) (by kernel_rfl) (fun _ _ _ h => h) (by rfl) (by assumption) ?_ ?_
         rotate_left 1
         ·
          (intro w hSw; (try dsimp only at hSw); go_simp; (try with_reducible rfl))
         try simp only [Act.put, List.setIfInBounds_toArray, List.set_cons_zero, List.set_cons_succ]
         refine take_at HOPS.out 75 (v := ?_) rfl HNS.out (by kernel_rfl) (by kernel_rfl) (fun _ _ _ h => h) (by rfl) (by assumption) ?_ ?_
         rotate_left 1
         ·
          (intro w hSw; (try dsimp only at hSw); go_simp; (try with_reducible rfl))
         try simp only [Act.put, List.setIfInBounds_toArray, List.set_cons_zero, List.set_cons_succ]
         refine take_at HOPS.out 76 (v := ?_) rfl HNS.out (by kernel_rfl) (by kernel_rfl) (fun _ _ _ h => h) (by rfl) (by assumption) ?_ ?_
         rotate_left 1
         ·
          (intro w hSw; (try dsimp only at hSw); go_simp; (try with_reducible rfl))
         try simp only [Act.put, List.setIfInBounds_toArray, List.set_cons_zero, List.set_cons_succ]
         refine next_at HOPS.out 77 rfl (by kernel_rfl) (by rfl) (fun K hK => ?_)
         go_simp
         go_at_call 26; refine (s6_meets (HQ.out _ HBi.out).1.1 p6 (some adD) C (some adG) 2 dc 0 cc 2 gc [108, 105, 98] CA 1 cA [⟨[50], [], true, false⟩] (HQ.out _ HBi.out).2.2.2.1 rfl (by decide) HGV.out.2 HGV.out.1 rfl (HQ.out _ HBi.out).2.2.2.2.2.1 (by decide) (by decide +kernel) rfl rfl rfl k6g.2.2.2).mono ?_; rintro _ zj ⟨rfl, hz⟩; have HBj : Hid (Below W4.heap.size W4 zj) := HBi.out.trans (hz.mono HBi.out.size); clear hz
         refine hK.out _ _ ?_ (fun hH10 => ?_)
         ·exact HS.out _ HBj.out
         clear hK K hH9
         try simp only [Act.put, List.setIfInBounds_toArray, List.set_cons_zero, List.set_cons_succ]
         as_aux_lemma =>
          refine take_at HOPS.out 78 (v := ?_) rfl HNS.out (by kernel_rfl) (by kernel_rfl) (fun _ _ _ h => h) (by rfl) (by assumption) ?_ ?_
          rotate_left 1
          ·
           (intro w hSw; (try dsimp only at hSw); go_simp; (try with_reducible rfl))
          try simp only [Act.put, List.setIfInBounds_toArray, List.set_cons_zero, List.set_cons_succ]
          refine take_at HOPS.out 79 (v := ?_) rfl HNS.out (by kernel_rfl) (by kernel_rfl) (fun _ _ _ h => h) (by rfl) (by assumption) ?_ ?_
          rotate_left 1
          ·
           (intro w hSw; (try dsimp only at hSw); go_simp; (try with_reducible rfl))
          try simp only [Act.put, List.setIfInBounds_toArray, List.set_cons_zero, List.set_cons_succ]
          refine take_at HOPS.out 80 (v := ?_) rfl HNS.out (by kernel_rfl) (by kernel_rfl) (fun _ _ _ h => h) (by rfl) (by assumption) ?_ ?_
          rotate_left 1
          ·
           (intro w hSw; (try dsimp only at hSw); go_simp; (try with_reducible rfl))
          try simp only [Act.put, List.setIfInBounds_toArray, List.set_cons_zero, List.set_cons_succ]
          refine take_at HOPS.out 81 (v := ?_) rfl HNS.out (by kernel_rfl) (by kernel_rfl) (fun _ _ _ h => h) (by rfl) (by assumption) ?_ ?_
          rotate_left 1
          ·
           (intro w hSw; (try dsimp only at hSw); go_simp; (try with_reducible rfl))
          try simp only [Act.put, List.setIfInBounds_toArray, List.set_cons_zero, List.set_cons_succ]
          refine next_at HOPS.out 82 rfl (by kernel_rfl) (by rfl) (fun K hK => ?_)
          go_simp
          go_at_call 12; refine (s6_check (HQ.out _ HBj.out).1.1 p6 (some adD) C (some adG) 2 dc 0 cc 2 gc (HQ.out _ HBj.out).2.1 rfl (HQ.out _ HBj.out).2.2.1 rfl (HQ.out _ HBj.out).2.2.2.1 rfl HFW.out rfl rfl rfl k6h.1).mono ?_; rintro _ zk ⟨rfl, hz⟩; have HBk : Hid (Below W4.heap.size W4 zk) := HBj.out.trans (hz.mono HBj.out.size); clear hz
          refine hK.out _ _ ?_ (fun hH11 => ?_)
          ·exact HS.out _ HBk.out
          clear hK K hH10
          try simp only [Act.put, List.setIfInBounds_toArray, List.set_cons_zero, List.set_cons_succ]
          as_aux_lemma =>
           refine take_at HOPS.out 83 (v := ?_) rfl HNS.out (by kernel_rfl) (by kernel_rfl) (fun _ _ _ h => h) (by rfl) (by assumption) ?_ ?_
           rotate_left 1
           ·
            (intro w hSw; (try dsimp only at hSw); go_simp; (try with_reducible rfl))
           try simp only [Act.put, List.setIfInBounds_toArray, List.set_cons_zero, List.set_cons_succ]
           refine take_at HOPS.out 84 (v := ?_) rfl HNS.out (by kernel_rfl) (by kernel_rfl) (fun _ _ _ h => h) (by rfl) (by assumption) ?_ ?_
           rotate_left 1
           ·
            (intro w hSw; (try dsimp only at hSw); go_simp; (try with_reducible rfl))
           try simp only [Act.put, List.setIfInBounds_toArray, List.set_cons_zero, List.set_cons_succ]
           refine take_at HOPS.out 85 (v := ?_) rfl HNS.out (by kernel_rfl) (by kernel_rfl) (fun _ _ _ h => h) (by rfl) (by assumption) ?_ ?_
           rotate_left 1
           ·
            (intro w hSw; (try dsimp only at hSw); go_simp; (try with_reducible rfl))
           try simp only [Act.put, List.setIfInBounds_toArray, List.set_cons_zero, List.set_cons_succ]
           refine take_at HOPS.out 86 (v := ?_) rfl HNS.out (by kernel_rfl) (by kernel_rfl) (fun _ _ _ h => h) (by rfl) (by assumption) ?_ ?_
           rotate_left 1
           ·
            (intro w hSw; (try dsimp only at hSw); go_simp; (try with_reducible rfl))
           try simp only [Act.put, List.setIfInBounds_toArray, List.set_cons_zero, List.set_cons_succ]
           refine take_at HOPS.out 87 (v := ?_) rfl HNS.out (by kernel_rfl) (by kernel_rfl) (fun _ _ _ h => h) (by rfl) (by assumption) ?_ ?_
           rotate_left 1
           ·
            (intro w hSw; (try dsimp only at hSw); go_simp; (try with_reducible rfl))
           try simp only [Act.put, List.setIfInBounds_toArray, List.set_cons_zero, List.set_cons_succ]
           refine next_at HOPS.out 88 rfl (by kernel_rfl) (by rfl) (fun K hK => ?_)
           go_simp
           go_at_call 14; refine (s6_same p6 (some adD) C (some adG) 2 dc 0 cc 2 gc p6 (some adD) C (some adG) 2 dc 0 cc 2 gc (HQ.out _ HBk.out).2.1 rfl (HQ.out _ HBk.out).2.2.1 rfl (HQ.out _ HBk.out).2.2.2.1 rfl HFW.out (HQ.out _ HBk.out).2.1 rfl (HQ.out _ HBk.out).2.2.1 rfl (HQ.out _ HBk.out).2.2.2.1 rfl HFW.out rfl rfl rfl rfl rfl rfl k6h.2).mono ?_; rintro _ zl ⟨rfl, hz⟩; have HBl : Hid (Below W4.heap.size W4 zl) := HBk.out.trans (hz.mono HBk.out.size); clear hz
           refine hK.out _ _ ?_ (fun hH12 => ?_)
           ·exact HS.out _ HBl.out
           clear hK K hH11
           try simp only [Act.put, List.setIfInBounds_toArray, List.set_cons_zero, List.set_cons_succ]
           as_aux_lemma =>
            refine take_at HOPS.out 89 (v := ?_) rfl HNS.out (by kernel_rfl) (by kernel_rfl) (fun _ _ _ h => h) (by rfl) (by assumption) ?_ ?_
            rotate_left 1
            ·
             (intro w hSw; (try dsimp only at hSw); go_simp; (try with_reducible rfl))
            try simp only [Act.put, List.setIfInBounds_toArray, List.set_cons_zero, List.set_cons_succ]
            refine take_at HOPS.out 90 (v := ?_) rfl HNS.out (by kernel_rfl) (by kernel_rfl) (fun _ _ _ h => h) (by rfl) (by assumption) ?_ ?_
            rotate_left 1
            ·
             (intro w hSw; (try dsimp only at hSw); go_simp; (try with_reducible rfl))
            try simp only [Act.put, List.setIfInBounds_toArray, List.set_cons_zero, List.set_cons_succ]
            refine done_at HOPS.out (by kernel_rfl) ?_
            go_wp2_with fail
            go_ret
            exact ⟨rfl, HB1.out.trans ((HB4.out.trans (HBl.out.mono HB4.out.size)).mono HB1.out.size)⟩
end Go.Proofs.YtkplahkkmmoppaaGreatDoor
namespace Go.Proofs.YtkplahkkmmoppaaGreatDoor
open Go.RowKit Rs At Pg
namespace Pg
theorem own_set {α : Type} {enc : α → List Value} {K B b j : Nat} {T : TypeId} {w : World} {v x : Value} {l : List α} (h : Rg.Own enc K w B T v l) (hb : b < B) : Rg.Own enc K (w.setCell ⟨b, j, none⟩ x) B T v l :=
 World.ownsRow.kept h (Sz.set_grown w ⟨b, j, none⟩ x) (by
  cases hv : v.ownBlock with
  | none => exact .inl rfl
  | some g =>
   refine .inr fun e => ?_
   have h1 := (Rg.own_lt h g hv).1
   have h2 := Option.some.inj e
   simp only at h2
   omega)
theorem down_set {B b j : Nat} {T : TypeId} {w : World} {v x : Value} {ds : List Desc} {t : List (List Atm)} (h : DOwnF w B T v ds t) (hb : b < B) (hg : ∀ j x, w.cell? ⟨b, j, none⟩ = some x → NoB x) : DOwnF (w.setCell ⟨b, j, none⟩ x) B T v ds t := by
 refine ⟨own_set h.1 hb, ⟨h.2.1.1, fun i d l e1 e2 => ⟨(h.2.1.2 i d l e1 e2).1, arow_but (h.2.1.2 i d l e1 e2).2 (but_set w ⟨b, j, none⟩ x) (far_of (fun a ha => h.2.2.1 i d e1 a ha) hb) (fun g e => by cases e; exact hg)⟩⟩, h.2.2.1, fun g hgv k u hu => ?_⟩
 have h1 := (Rg.own_lt h.1 g hgv).1
 rw [World.cell?_setCell_far _ _ _ _ (by show b ≠ g; omega)] at hu
 exact h.2.2.2 g hgv k u hu
theorem heap_grown {w u : World} {b : Nat} {o : Obj} {r : Option Nat} (h : w.heap[b]? = some o) (hg : w.grownBy u r) (hne : r ≠ some b) : u.heap[b]? = some o := (hg.block b (block_lt h) (fun e => hne e.symm)).trans h
theorem own_far {α : Type} {enc : α → List Value} {K B b : Nat} {T : TypeId} {w : World} {v : Value} {l : List α} (h : Rg.Own enc K w B T v l) (hb : b < B) : v.ownBlock ≠ some b := fun e => by
 have := (Rg.own_lt h b e).1
 omega
theorem but_low {b2 : Nat} {wc wr u : World} (h : But (some b2) wc wr) (hb : Below wc.heap.size wr u) : But (some b2) wc u := ⟨Nat.le_trans h.1 hb.size, fun k hk hr => (hb.block k hk).trans (h.2 k hk hr)⟩
theorem but_set2 {b2 j : Nat} {wc wr : World} {x : Value} (h : But (some b2) wc wr) : But (some b2) wc (wr.setCell ⟨b2, j, none⟩ x) := but_trans h (but_set wr ⟨b2, j, none⟩ x)
theorem own_is {α : Type} {enc : α → List Value} {K B : Nat} {T : TypeId} {w : World} {v : Value} {l : List α} (h : Rg.Own enc K w B T v l) : IsSl v := by
 rcases h.2 with ⟨rfl, _⟩ | ⟨g, cap, cur, rfl, _⟩
 ·exact ⟨_, _, _, rfl⟩
 ·exact ⟨_, _, _, rfl⟩
theorem six_nobV {u : World} {b : Nat} {T : TypeId} {s0 s1 : ByteArray} {v2 v3 v4 : Value} {f : Nat} (h : u.heap[b]? = some (.cells #[.string s0, .string s1, v2, v3, v4, .float .f64 f] T (0, 0))) (h2 : IsSl v2) (h3 : IsSl v3) (h4 : IsSl v4) : ∀ j x, u.cell? ⟨b, j, none⟩ = some x → NoB x := fun j x hx y e => by
 rw [cell_of_row u b j _ T (0, 0) h] at hx
 subst e
 have hm := Array.mem_of_getElem? hx
 obtain ⟨_, _, _, q2⟩ := h2
 obtain ⟨_, _, _, q3⟩ := h3
 obtain ⟨_, _, _, q4⟩ := h4
 subst q2 q3 q4
 simp at hm
theorem isl (A : Option Addr) (n c : Nat) : IsSl (.slice A n c) := ⟨_, _, _, rfl⟩
end Pg
end Go.Proofs.YtkplahkkmmoppaaGreatDoor
