/- Rows of clauses with the room of each: a clause's slice has no less room than literals. -/
import Derived.Test.YtjkmdghlhodhiaaEd
namespace Go.Proofs.Ytjkmdghlhodhiaa.Cl
open Go.RowKit Go.ChangeShapes Go.WideShapes Rs
def Caps (ds : List Desc) : Prop := ∀ d ∈ ds, d.2.1 ≤ d.2.2
def CRow (w : World) (A : Option Addr) (t : List (List Int)) : Prop := ∃ ds, Rg.Row encO 1 w A ds ∧ Gr.In encI 1 w ds t ∧ Caps ds
def COwn (w : World) (B : Nat) (TI : TypeId) (v : Value) (t : List (List Int)) : Prop := ∃ ds, Rg.Own encO 1 w B TI v ds ∧ Gr.In encI 1 w ds t ∧ Gr.Free v ds t ∧ Caps ds
theorem caps_nil : Caps [] := fun _ h => absurd h (by simp)
theorem caps_cons {d : Desc} {ds : List Desc} (h1 : d.2.1 ≤ d.2.2) (h2 : Caps ds) : Caps (d :: ds) := fun x hx => by
  rcases List.mem_cons.1 hx with rfl | hx
  · exact h1
  · exact h2 x hx
theorem caps_less {ds : List Desc} (h : Caps ds) (k : Nat) : Caps (ds.take k ++ ds.drop (k + 1)) := fun x hx => by
  rcases List.mem_append.1 hx with hx | hx
  · exact h x (List.mem_of_mem_take hx)
  · exact h x (List.mem_of_mem_drop hx)
/-- A clause of such a row, with its room. -/
theorem crow_at {w : World} {A : Option Addr} {t : List (List Int)} (h : CRow w A t) (k : Nat) (hk : k < t.length) : ∃ ad C n c x, A = some ad ∧ ad.block < w.heap.size ∧ w.cell? (ad.add k) = some (.slice C n c) ∧ t[k] = x ∧ x.length = n ∧ IRow w C x ∧ n ≤ c := by
  obtain ⟨ds, h1, ⟨h2, h3⟩, h4⟩ := h
  have hkd : k < ds.length := by omega
  obtain ⟨ad, x, e, hx, hlt, hc⟩ := Rg.row_at h1 k hkd
  obtain ⟨q1, q2⟩ := h3 k x t[k] (by rw [List.getElem?_eq_getElem hkd, hx]) (List.getElem?_eq_getElem hk)
  refine ⟨ad, x.1, x.2.1, x.2.2, t[k], e, hlt, ?_, rfl, q1.symm, q2, h4 x (by rw [← hx]; exact List.getElem_mem hkd)⟩
  have := hc 0 _ rfl
  rw [if_pos rfl, Nat.mul_one] at this
  exact this
theorem crow_grow {w : World} {A : Option Addr} {t : List (List Int)} (h : CRow w A t) : GRow w A t := by
  obtain ⟨ds, h1, h2, _⟩ := h; exact ⟨ds, h1, h2⟩
theorem crow_below {w w' : World} {A : Option Addr} {t : List (List Int)} (h : CRow w A t) (hb : Below w.heap.size w w') : CRow w' A t := by
  obtain ⟨ds, h1, h2, h3⟩ := h; exact ⟨ds, Rg.row_below h1 hb, Gr.in_below h2 hb, h3⟩
theorem crow_nil (w : World) (A : Option Addr) : CRow w A [] := ⟨[], fun h => absurd h (by decide), ⟨rfl, fun i d l h => by simp at h⟩, caps_nil⟩
theorem crow_of {w : World} {A : Option Addr} {ds : List Desc} {t : List (List Int)} (h : Rg.Row encO 1 w A ds) (hl : ds.length = t.length) (hr : ∀ (i : Nat) (d : Desc) (l : List Int), ds[i]? = some d → t[i]? = some l → d.2.1 = l.length ∧ IRow w d.1 l) (hc : Caps ds) : CRow w A t := ⟨ds, h, ⟨hl, hr⟩, hc⟩
theorem cown_gown {w : World} {B : Nat} {TI : TypeId} {v : Value} {t : List (List Int)} (h : COwn w B TI v t) : Gr.Own encI 1 w B TI v t := by
  obtain ⟨ds, h1, h2, h3, _⟩ := h; exact ⟨ds, h1, h2, h3⟩
theorem cown_below {w w' : World} {B : Nat} {TI : TypeId} {v : Value} {t : List (List Int)} (h : COwn w B TI v t) (hb : Below w.heap.size w w') : COwn w' B TI v t := by
  obtain ⟨ds, h1, h2, h3, h4⟩ := h; exact ⟨ds, Rg.own_below h1 hb, Gr.in_below h2 hb, h3, h4⟩
theorem cown_nil (w : World) (B : Nat) (TI : TypeId) : COwn w B TI (.slice none 0 0) [] := ⟨[], Rg.own_nil _ _ _, ⟨rfl, fun i d l h => by simp at h⟩, fun i d l h => by simp at h, caps_nil⟩
theorem cown_row {w : World} {B : Nat} {TI : TypeId} {v : Value} {t : List (List Int)} (h : COwn w B TI v t) : ∃ C d, v = .slice C t.length d ∧ CRow w C t := by
  obtain ⟨ds, h1, h2, _, h4⟩ := h
  obtain ⟨C, d, hv, hr, _, _⟩ := Rg.row_own fitsO h1
  rw [h2.1] at hv
  exact ⟨C, d, hv, ds, hr, h2, h4⟩
theorem cown_cap {w : World} {B : Nat} {TI : TypeId} {C : Option Addr} {n d : Nat} {t : List (List Int)} (h : COwn w B TI (.slice C n d) t) : n ≤ d := by
  obtain ⟨ds, h1, _⟩ := h
  obtain ⟨C2, d2, e, _, h2, _⟩ := Rg.row_own fitsO h1
  cases e
  exact h2
/-- A row of rows copied onto an empty one of one's own. -/
theorem cgrid_copy {w u' : World} {B : Nat} {T : TypeId} {v' : Value} {t : List (List Int)} {ds : List Desc} (hI : Gr.In encI 1 w ds t) (hC : Caps ds) (hwu : Below w.heap.size w u') (hO : Rg.Own encO 1 u' B T v' ds) (hB : w.heap.size ≤ B) : COwn u' B T v' t := by
  refine ⟨ds, hO, Gr.in_below hI hwu, fun i d l h1 h2 h0 a ha e => ?_, hC⟩
  obtain ⟨a', ha', hb, _⟩ := (hI.2 i d l h1 h2).2 h0
  obtain rfl := Option.some.inj (ha.symm.trans ha')
  have := (Rg.own_lt hO _ e).1
  omega
/-- One more row behind a row of one's own. -/
theorem wpList_capp {TS TI : TypeId} (hO : Rg.SliceT Try.prog encO 1 TS TI) {ops : Array Oper} {rest : List Oper} {o : Oper} {a : Act} {Q : Exit → Act → World → Prop} {u : World} {Tc : TypeId} (hgd : o.guard = none) (sl x : Operand)
    (ho : o.op = .call { callee := .builtin .append, args := #[sl, x], argTypes := #[TS, TS] })
    (B : Nat) (v : Value) (t : List (List Int)) (l : List Int) (C : Option Addr) (n c : Nat) (hs : a.eval sl = v) (hx : a.eval x = .slice (some ⟨u.heap.size, 0, none⟩) 1 1) (hT : COwn u B TI v t) (hn : l.length = n) (hnc : n ≤ c) (hrow : IRow u C l)
    (hfresh : 0 < l.length → ∀ a, C = some a → v.ownBlock ≠ some a.block) (hsz : t.length + 1 ≤ 1000000) (hB : B ≤ u.heap.size)
    (h : ∀ v' w', COwn w' B TI v' (t ++ [l]) → Below B u w' → u.heap.size ≤ w'.heap.size → wpList Try.prog ops Q rest (a.put o.dst v') w') : wpList Try.prog ops Q (o :: rest) a (u.alloc (.cells #[.slice C n c] Tc)) := by
  obtain ⟨ds, h1, h2, h3, hcaps⟩ := hT
  obtain ⟨i, z, hi, hz0, hz1, hz2, hb⟩ := hO.info
  have hal : Below u.heap.size u (u.alloc (.cells #[.slice C n c] Tc)) := (Below.refl _ _).alloc (Nat.le_refl _) _
  have hown := Rg.own_below h1 hal
  have hdl : ds.length + 1 ≤ 1000000 := by rw [h2.1]; exact hsz
  refine wpList_append_lies _ hgd sl x TS ho B TI i z 1 i.bytes hO.under hi hz0 hz2 rfl hz1 hO.pos v ds.length (Rg.flat encO ds) hs hown ⟨u.heap.size, 0, none⟩ 1 1 (Rg.flat encO [(C, n, c)]) hx rfl (Rg.news_new u Tc [(C, n, c)] _ (by rfl)) (Rg.flat_ones fitsO _) (by decide) (by unfold maxLen; omega) (by
    have : (ds.length + 1) * i.bytes ≤ 1000000 * 1000 := Nat.mul_le_mul hdl hb
    omega) (Nat.le_trans hB hal.size) _ rfl ?_
  intro g cap w' g1 g2 g3 g4
  have hsz2 : (u.alloc (.cells #[.slice C n c] Tc)).heap.size = u.heap.size + 1 := by simp
  have hnw : Rg.Own encO 1 w' B TI (.slice (some ⟨g, 0, none⟩) (ds.length + 1) cap) (ds ++ [(C, n, c)]) := by
    unfold Rg.Own
    rw [Rg.flat_app, List.length_append]
    exact g1
  have hin := Gr.in_below h2 hal
  have keep : ∀ (j : Nat) (d : Desc) (m : List Int), ds[j]? = some d → t[j]? = some m → IRow w' d.1 m := fun j d m e1 e2 => row_grown (hin.2 j d m e1 e2).2 g2 (h3 j d m e1 e2)
  have hblk : ∀ (b : Nat), b < u.heap.size → v.ownBlock ≠ some b → (some g : Option Nat) ≠ some b := fun b hb hv e => by
    rcases g3 with g3 | g3
    · exact hv (by rw [g3, e])
    · have := Option.some.inj e; omega
  refine h _ w' ⟨ds ++ [(C, n, c)], hnw, ⟨by rw [List.length_append, List.length_append, h2.1]; rfl, fun j d m e1 e2 => ?_⟩, fun j d m e1 e2 hm ad had => ?_, fun d hd => ?_⟩ ?_ (by have := g2.size; omega)
  · rcases get_snoc e1 with ⟨q1, q2⟩ | ⟨q1, q2⟩
    · rcases get_snoc e2 with ⟨_, p2⟩ | ⟨p1, _⟩
      · exact ⟨(h2.2 j d m q2 p2).1, keep j d m q2 p2⟩
      · have := h2.1; omega
    · rcases get_snoc e2 with ⟨p1, _⟩ | ⟨_, p2⟩
      · have := h2.1; omega
      · subst q2 p2
        exact ⟨hn.symm, row_grown (Rg.row_below hrow hal) g2 hfresh⟩
  · rcases get_snoc e1 with ⟨q1, q2⟩ | ⟨q1, q2⟩
    · rcases get_snoc e2 with ⟨_, p2⟩ | ⟨p1, _⟩
      · obtain ⟨a2, ea, hlt, _⟩ := (h2.2 j d m q2 p2).2 hm
        rw [had] at ea
        cases ea
        exact hblk _ hlt (h3 j d m q2 p2 hm ad had)
      · have := h2.1; omega
    · rcases get_snoc e2 with ⟨p1, _⟩ | ⟨_, p2⟩
      · have := h2.1; omega
      · subst q2 p2
        obtain ⟨a2, ea, hlt, _⟩ := hrow hm
        rw [show C = some ad from had] at ea
        cases ea
        exact hblk _ hlt (hfresh hm ad had)
  · rcases List.mem_append.1 hd with hd | hd
    · exact hcaps d hd
    · rw [List.mem_singleton.1 hd]; exact hnc
  · exact (hal.mono hB).trans (Rg.grown_below hown (Nat.le_trans hB hal.size) g2)
end Go.Proofs.Ytjkmdghlhodhiaa.Cl
