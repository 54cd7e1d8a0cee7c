/- Ranges of versions as rows of pieces of a line of cuts: what chapter 3 asks, with no program. Ranges that Check takes: rows of pieces in normal form, with bounds that may be, no more than 64; what both, either, none keep of it. No program is named here. P302's laws with no more than 64 Spans, the rows of the six signs. No program is named here. Many points with gaps between them are one range, in any order. No program is named here. -/
import Derived.Test.YtkdildgdodnbbaaGreatDoorQg
import Derived.Test.YtkdildgdodnbbaaGreatDoorQa
namespace Go.Proofs.YtkdildgdodnbbaaGreatDoor.Rs
open Rm

/-! One order on all texts that is the versions' on canonical ones. -/
def kc (a b : List UInt8) : Int := Vm.both (Vm.cmpV a b) (Lib.compareBytes a b)
theorem kc_cmp : Vm.Cmp3 kc := Vm.cmpV_cmp.both Vm.cb_cmp
theorem kc_eq {a b : List UInt8} : kc a b = 0 ↔ a = b := by
  unfold kc
  rw [Vm.both_eq, Vm.cb_eq]
  refine ⟨fun h => h.2, fun h => ⟨?_, h⟩⟩
  subst h
  have := Vm.cmpV_cmp.1 a a
  omega
theorem kc_self (a : List UInt8) : kc a a = 0 := kc_eq.2 rfl
/-- A text that is its own canonical form. -/
def Own (l : List UInt8) : Prop := Vm.check l = 0 ∧ Vm.canon l = l
theorem kc_own {a b : List UInt8} (ha : Own a) (hb : Own b) : kc a b = Vm.cmpV a b := by
  unfold kc Vm.both
  by_cases h : Vm.cmpV a b = 0
  · have h1 := (Vm.cmpV_canon ha.1 hb.1).1 h
    rw [ha.2, hb.2] at h1
    have h2 := (Vm.cb_eq a b).2 h1
    simp [h, h2]
  · simp [h]
theorem own_canon {v : List UInt8} (h : Vm.check v = 0) : Own (Vm.canon v) := ⟨Vm.canon_check h, Vm.canon_canon h⟩
theorem cmp_sign {α : Type} {f : α → α → Int} (hf : Vm.Cmp3 f) {a b : α} (h : f a b = 0) (c : α) : (f a c ≤ 0 ↔ f b c ≤ 0) ∧ (0 ≤ f a c ↔ 0 ≤ f b c) := by
  have hb : f b a = 0 := by rw [hf.1]; omega
  have e1 := hf.1 a c
  have e2 := hf.1 b c
  constructor
  · exact ⟨fun h1 => hf.2 _ _ _ (by omega) h1, fun h1 => hf.2 _ _ _ (by omega) h1⟩
  · constructor
    · intro h1
      have : f c b ≤ 0 := hf.2 c a b (by omega) (by omega)
      omega
    · intro h1
      have : f c a ≤ 0 := hf.2 c b a (by omega) (by omega)
      omega
/-- A version stands to others as its canonical form. -/
theorem cmpV_canon_left {v : List UInt8} (h : Vm.check v = 0) (b : List UInt8) : Vm.cmpV (Vm.canon v) b = Vm.cmpV v b := by
  have h1 := Vm.cmpV_own h
  have h2 := cmp_sign Vm.cmpV_cmp h1 b
  have r1 := Vm.cmpV_range v b
  have r2 := Vm.cmpV_range (Vm.canon v) b
  omega

/-! Cuts: ahead of all, just ahead of or just behind a text, behind all. -/
inductive Cut where
  | bot
  | pos (v : List UInt8) (after : Bool)
  | top
  deriving DecidableEq
def cle : Cut → Cut → Bool
  | .bot, _ => true
  | _, .top => true
  | .pos v a, .pos w b => decide (kc v w < 0) || (decide (kc v w = 0) && (!a || b))
  | .pos _ _, .bot => false
  | .top, .bot => false
  | .top, .pos _ _ => false
theorem cle_at {v w : List UInt8} {a b : Bool} : cle (.pos v a) (.pos w b) = true ↔ kc v w < 0 ∨ (kc v w = 0 ∧ (a = false ∨ b = true)) := by
  unfold cle; simp [Bool.or_eq_true]
def Ln : Line Cut where
  le := cle
  bot := .bot
  top := .top
  total := by
    intro x y
    cases x <;> cases y <;> try (first | exact Or.inl rfl | exact Or.inr rfl)
    rename_i v a w b
    have h := kc_cmp.1 v w
    rw [cle_at, cle_at]
    cases a <;> cases b <;> simp <;> omega
  trans := by
    intro x y z h1 h2
    cases x
    · rfl
    · cases y
      · cases h1
      · cases z
        · cases h2
        · rename_i u a v b w c
          rw [cle_at] at *
          have e1 := kc_cmp.1 u v
          have e2 := kc_cmp.1 v w
          have e3 := kc_cmp.1 u w
          have h3 : kc u w ≤ 0 := kc_cmp.2 u v w (by omega) (by omega)
          by_cases h4 : kc u w = 0
          · right
            refine ⟨h4, ?_⟩
            have h5 : kc v u ≤ 0 := kc_cmp.2 v w u (by omega) (by omega)
            have h6 : kc w v ≤ 0 := kc_cmp.2 w u v (by omega) (by omega)
            rcases h1 with h1 | ⟨_, h1 | h1⟩
            · omega
            · exact Or.inl h1
            · rcases h2 with h2 | ⟨_, h2 | h2⟩
              · omega
              · rw [h1] at h2; cases h2
              · exact Or.inr h2
          · left; omega
        · rfl
      · cases z
        · cases h2
        · cases h2
        · rfl
    · cases y
      · cases h1
      · cases h1
      · exact h2
  anti := by
    intro x y h1 h2
    cases x <;> cases y <;> first | rfl | (cases h1; done) | (cases h2; done) | skip
    rename_i v a w b
    rw [cle_at] at *
    have e := kc_cmp.1 v w
    have h0 : kc v w = 0 := by omega
    have hv := kc_eq.1 h0
    subst hv
    cases a <;> cases b <;> first | rfl | (exfalso; simp at h1 h2; omega)
  least := fun x => by cases x <;> rfl
  most := fun x => by cases x <;> rfl
theorem bot_top : lt Ln Ln.bot Ln.top = true := rfl

/-! A piece as a Span: its four words. -/
def txt : Cut → List UInt8
  | .pos v _ => v
  | _ => []
def aft : Cut → Bool
  | .pos _ a => a
  | _ => false
def loI : Cut → Bool
  | .pos _ a => !a
  | _ => false
/-- A cut that a Span can begin, end with. -/
def LoOk : Cut → Prop
  | .bot => True
  | .pos v _ => Own v
  | .top => False
def HiOk : Cut → Prop
  | .top => True
  | .pos v _ => Own v
  | .bot => False
def loC (v : List UInt8) (i : Bool) : Cut := if v.isEmpty then .bot else .pos v (!i)
def hiC (v : List UInt8) (i : Bool) : Cut := if v.isEmpty then .top else .pos v i
theorem own_ne {v : List UInt8} (h : Own v) : v.isEmpty = false := by
  cases v with
  | nil => have := h.1; revert this; decide
  | cons a l => rfl
theorem loC_back {c : Cut} (h : LoOk c) : loC (txt c) (loI c) = c := by
  cases c with
  | bot => rfl
  | top => exact h.elim
  | pos v a =>
    show loC v (!a) = _
    unfold loC
    rw [own_ne h]; simp
theorem hiC_back {c : Cut} (h : HiOk c) : hiC (txt c) (aft c) = c := by
  cases c with
  | top => rfl
  | bot => exact h.elim
  | pos v a =>
    show hiC v a = _
    unfold hiC
    rw [own_ne h]; simp
theorem txt_loC {v : List UInt8} {i : Bool} (h : v.isEmpty = true → i = false) : txt (loC v i) = v ∧ loI (loC v i) = i := by
  unfold loC
  cases hv : v.isEmpty
  · simp [txt, loI]
  · rw [List.isEmpty_iff] at hv; subst hv; simp [txt, loI, h rfl]
theorem txt_hiC {v : List UInt8} {i : Bool} (h : v.isEmpty = true → i = false) : txt (hiC v i) = v ∧ aft (hiC v i) = i := by
  unfold hiC
  cases hv : v.isEmpty
  · simp [txt, aft]
  · rw [List.isEmpty_iff] at hv; subst hv; simp [txt, aft, h rfl]
/-- A bound as chapter 3's Check judges it. -/
def bound (v : List UInt8) : Int := if v.isEmpty then 0 else if Vm.check v = 0 then (if Vm.canon v == v then 0 else 5) else Vm.check v
def span (lo hi : List UInt8) (li hn : Bool) : Int :=
  if bound lo ≠ 0 then bound lo else if bound hi ≠ 0 then bound hi
  else if (lo.isEmpty && li) || (hi.isEmpty && hn) then 1
  else if lo.isEmpty || hi.isEmpty then 0
  else if decide (0 < Vm.cmpV lo hi) || (decide (Vm.cmpV lo hi = 0) && !(li && hn)) then 7 else 0
theorem bound_own {v : List UInt8} (h : bound v = 0) (h0 : v.isEmpty = false) : Own v := by
  unfold bound at h
  rw [h0, if_neg Bool.false_ne_true] at h
  by_cases hc : Vm.check v = 0
  · rw [if_pos hc] at h
    cases he : Vm.canon v == v
    · rw [he] at h; cases h
    · exact ⟨hc, by simpa using he⟩
  · rw [if_neg hc] at h; exact absurd h hc
theorem own_bound {v : List UInt8} (h : Own v) : bound v = 0 := by
  unfold bound
  rw [own_ne h, if_neg Bool.false_ne_true, if_pos h.1, h.2]; simp
/-- The piece of a Span that Check takes. -/
def toP (lo hi : List UInt8) (li hn : Bool) : P Cut := { lo := loC lo li, hi := hiC hi hn }
theorem span_bounds {lo hi : List UInt8} {li hn : Bool} (h : span lo hi li hn = 0) : bound lo = 0 ∧ bound hi = 0 ∧ (lo.isEmpty = true → li = false) ∧ (hi.isEmpty = true → hn = false) := by
  unfold span at h
  split at h
  · rename_i h1; exact absurd h h1
  · rename_i h1
    split at h
    · rename_i h2; exact absurd h h2
    · rename_i h2
      split at h
      · cases h
      · rename_i h3
        refine ⟨by simpa using h1, by simpa using h2, fun e => ?_, fun e => ?_⟩
        · cases li
          · rfl
          · exact absurd (by rw [e]; rfl) h3
        · cases hn
          · rfl
          · exact absurd (by rw [e]; simp) h3
theorem loC_ok {v : List UInt8} {i : Bool} (h : bound v = 0) : LoOk (loC v i) := by
  unfold loC
  cases hv : v.isEmpty
  · exact bound_own h hv
  · trivial
theorem hiC_ok {v : List UInt8} {i : Bool} (h : bound v = 0) : HiOk (hiC v i) := by
  unfold hiC
  cases hv : v.isEmpty
  · exact bound_own h hv
  · trivial
/-- Of Spans whose bounds may be, Check's last question is whether the piece holds something. -/
theorem span_ok {lo hi : List UInt8} {li hn : Bool} (h1 : bound lo = 0) (h2 : bound hi = 0) (h3 : lo.isEmpty = true → li = false) (h4 : hi.isEmpty = true → hn = false) :
    span lo hi li hn = if ok Ln (toP lo hi li hn) then 0 else 7 := by
  unfold span
  rw [if_neg (by simp [h1]), if_neg (by simp [h2])]
  have h5 : ((lo.isEmpty && li) || (hi.isEmpty && hn)) = false := by
    cases e1 : lo.isEmpty <;> cases e2 : hi.isEmpty <;> simp <;> first | exact h3 e1 | exact h4 e2 | exact ⟨h3 e1, h4 e2⟩
  rw [h5, if_neg Bool.false_ne_true]
  unfold toP ok loC hiC
  cases e1 : lo.isEmpty <;> cases e2 : hi.isEmpty
  · have o1 := bound_own h1 e1
    have o2 := bound_own h2 e2
    simp only [Bool.or_self, Bool.false_eq_true, if_false]
    have e : lt Ln (Cut.pos lo !li) (Cut.pos hi hn) = !(decide (0 < Vm.cmpV lo hi) || (decide (Vm.cmpV lo hi = 0) && !(li && hn))) := by
      rw [← kc_own o1 o2]
      unfold lt
      congr 1
      show cle (Cut.pos hi hn) (Cut.pos lo !li) = _
      rw [Bool.eq_iff_iff, cle_at, kc_cmp.1 lo hi]
      cases li <;> cases hn <;> simp <;> omega
    rw [e]
    cases (decide (0 < Vm.cmpV lo hi) || (decide (Vm.cmpV lo hi = 0) && !(li && hn))) <;> rfl
  · rfl
  · rfl
  · rfl
/-! The reference's tests on two pieces, as the line's. -/
theorem at_lt {v w : List UInt8} {a b : Bool} (hv : Own v) (hw : Own w) : lt Ln (.pos v a) (.pos w b) = (decide (Vm.cmpV v w < 0) || (decide (Vm.cmpV v w = 0) && (!a && b))) := by
  rw [← kc_own hv hw]
  unfold lt
  show (!cle (Cut.pos w b) (Cut.pos v a)) = _
  rw [Bool.eq_iff_iff, Bool.not_eq_true', Bool.eq_false_iff, ne_eq, cle_at, kc_cmp.1 v w]
  cases a <;> cases b <;> simp <;> omega
theorem at_le {v w : List UInt8} {a b : Bool} (hv : Own v) (hw : Own w) : Ln.le (.pos v a) (.pos w b) = (decide (Vm.cmpV v w < 0) || (decide (Vm.cmpV v w = 0) && (!a || b))) := by
  rw [← kc_own hv hw]; rfl
/-- Where a version stands: just ahead of its canonical form. -/
def spot (v : List UInt8) : Cut := .pos (Vm.canon v) false
theorem spot_top (v : List UInt8) : lt Ln (spot v) Ln.top = true := rfl
theorem lo_spot {v w : List UInt8} {a : Bool} (hv : Vm.check v = 0) (hw : Own w) : Ln.le (.pos w a) (spot v) = (decide (0 < Vm.cmpV v w) || (decide (Vm.cmpV v w = 0) && !a)) := by
  unfold spot
  rw [at_le hw (own_canon hv), Vm.cmpV_cmp.1 (Vm.canon v) w, cmpV_canon_left hv, Bool.eq_iff_iff]
  cases a <;> simp <;> omega
theorem hi_spot {v w : List UInt8} {a : Bool} (hv : Vm.check v = 0) (hw : Own w) : lt Ln (spot v) (.pos w a) = (decide (Vm.cmpV v w < 0) || (decide (Vm.cmpV v w = 0) && a)) := by
  unfold spot
  rw [at_lt (own_canon hv) hw, cmpV_canon_left hv, Bool.eq_iff_iff]
  cases a <;> simp
/-- Does a Span hold a version? -/
def inS (p : P Cut) (v : List UInt8) : Bool :=
  (match p.lo with | .pos w a => decide (0 < Vm.cmpV v w) || (decide (Vm.cmpV v w = 0) && !a) | _ => true) &&
  (match p.hi with | .pos w a => decide (Vm.cmpV v w < 0) || (decide (Vm.cmpV v w = 0) && a) | _ => true)
theorem inS_mem {p : P Cut} {v : List UInt8} (h1 : LoOk p.lo) (h2 : HiOk p.hi) (hv : Vm.check v = 0) : inS p v = mem Ln (spot v) p := by
  obtain ⟨lo, hi⟩ := p
  unfold inS mem
  cases lo with
  | top => exact h1.elim
  | bot =>
    cases hi with
    | bot => exact h2.elim
    | top => rfl
    | pos w a => rw [hi_spot hv h2]; rfl
  | pos u b =>
    cases hi with
    | bot => exact h2.elim
    | top => rw [lo_spot hv h1]; rfl
    | pos w a => rw [hi_spot hv h2, lo_spot hv h1]
def Ok2 (p : P Cut) : Prop := LoOk p.lo ∧ HiOk p.hi
theorem has_mem {r : List (P Cut)} {v : List UInt8} (h : ∀ p ∈ r, Ok2 p) (hv : Vm.check v = 0) : r.any (fun p => inS p v) = Mem Ln (spot v) r := by
  unfold Mem
  induction r with
  | nil => rfl
  | cons p r ih =>
    rw [List.any_cons, List.any_cons, inS_mem (h p (List.mem_cons_self ..)).1 (h p (List.mem_cons_self ..)).2 hv, ih fun q hq => h q (List.mem_cons_of_mem _ hq)]
end Go.Proofs.YtkdildgdodnbbaaGreatDoor.Rs
namespace Go.Proofs.YtkdildgdodnbbaaGreatDoor.Rs
open Rm

structure Sp where
  lo : List UInt8
  hi : List UInt8
  li : Bool
  hn : Bool
  deriving DecidableEq
def Sp.err (s : Sp) : Int := span s.lo s.hi s.li s.hn
def Sp.piece (s : Sp) : P Cut := toP s.lo s.hi s.li s.hn
def spOf (p : P Cut) : Sp := { lo := txt p.lo, hi := txt p.hi, li := loI p.lo, hn := aft p.hi }
theorem spOf_piece {p : P Cut} (h : Ok2 p) : (spOf p).piece = p := by
  obtain ⟨lo, hi⟩ := p
  show toP (txt lo) (txt hi) (loI lo) (aft hi) = _
  unfold toP
  rw [loC_back h.1, hiC_back h.2]
theorem piece_spOf {s : Sp} (h : s.err = 0) : spOf s.piece = s ∧ Ok2 s.piece ∧ ok Ln s.piece = true := by
  obtain ⟨lo, hi, li, hn⟩ := s
  obtain ⟨h1, h2, h3, h4⟩ := span_bounds h
  refine ⟨?_, ⟨loC_ok h1, hiC_ok h2⟩, ?_⟩
  · show spOf (toP lo hi li hn) = _
    unfold spOf toP
    obtain ⟨a1, a2⟩ := txt_loC h3
    obtain ⟨b1, b2⟩ := txt_hiC h4
    show Sp.mk (txt (loC lo li)) (txt (hiC hi hn)) (loI (loC lo li)) (aft (hiC hi hn)) = _
    rw [a1, a2, b1, b2]
  · have h5 : span lo hi li hn = 0 := h
    rw [span_ok h1 h2 h3 h4] at h5
    show ok Ln (toP lo hi li hn) = true
    cases e : ok Ln (toP lo hi li hn)
    · rw [e] at h5; cases h5
    · rfl
theorem txt_bound {c : Cut} (h : LoOk c ∨ HiOk c) : bound (txt c) = 0 := by
  cases c with
  | bot => rfl
  | top => rfl
  | pos v a => exact own_bound (by rcases h with h | h <;> exact h)
theorem spOf_err {p : P Cut} (h : Ok2 p) : (spOf p).err = if ok Ln p then 0 else 7 := by
  have e : (spOf p).err = span (txt p.lo) (txt p.hi) (loI p.lo) (aft p.hi) := rfl
  have e2 := spOf_piece h
  have e3 : (spOf p).piece = toP (txt p.lo) (txt p.hi) (loI p.lo) (aft p.hi) := rfl
  rw [e, span_ok (txt_bound (Or.inl h.1)) (txt_bound (Or.inr h.2)) ?_ ?_, ← e3, e2]
  · intro h1
    cases hl : p.lo with
    | bot => rfl
    | top => rfl
    | pos v a =>
      rw [hl] at h1
      have := h.1; rw [hl] at this
      have h2 : v.isEmpty = true := h1
      rw [own_ne this] at h2; cases h2
  · intro h1
    cases hl : p.hi with
    | bot => rfl
    | top => rfl
    | pos v a =>
      rw [hl] at h1
      have := h.2; rw [hl] at this
      have h2 : v.isEmpty = true := h1
      rw [own_ne this] at h2; cases h2
/-- Does a Span lie behind another one, as Check asks? -/
def behind (p s : Sp) : Bool := !(p.hi.isEmpty || s.lo.isEmpty) && !(decide (Vm.cmpV s.lo p.hi < 0) || (decide (Vm.cmpV s.lo p.hi = 0) && (s.li || p.hn)))
theorem behind_lt {p s : P Cut} (hp : Ok2 p) (hs : Ok2 s) : behind (spOf p) (spOf s) = lt Ln p.hi s.lo := by
  obtain ⟨pl, ph⟩ := p
  obtain ⟨sl, sh⟩ := s
  have h1 : HiOk ph := hp.2
  have h2 : LoOk sl := hs.1
  show (!((txt ph).isEmpty || (txt sl).isEmpty) && !(decide (Vm.cmpV (txt sl) (txt ph) < 0) || (decide (Vm.cmpV (txt sl) (txt ph) = 0) && (loI sl || aft ph)))) = lt Ln ph sl
  cases ph with
  | bot => exact h1.elim
  | top => cases sl <;> first | rfl | exact h2.elim
  | pos v a =>
    cases sl with
    | top => exact h2.elim
    | bot => show (!((v).isEmpty || true) && _) = _; rw [Bool.or_true]; rfl
    | pos w b =>
      show (!(v.isEmpty || w.isEmpty) && !(decide (Vm.cmpV w v < 0) || (decide (Vm.cmpV w v = 0) && (!b || a)))) = _
      rw [own_ne h1, own_ne h2, at_lt h1 h2, Vm.cmpV_cmp.1 v w, Bool.eq_iff_iff]
      cases a <;> cases b <;> simp <;> omega
def checkF : Nat → Option Sp → List Sp → Int
  | _, _, [] => 0
  | i, o, s :: t =>
    if 64 ≤ i then 4 else if s.err ≠ 0 then s.err
    else match o with
      | none => checkF (i + 1) (some s) t
      | some p => if behind p s then checkF (i + 1) (some s) t else 7
/-- P301's Check, as a number. -/
def checkR (l : List Sp) : Int := checkF 0 none l
def Good (r : List (P Cut)) : Prop := Nrm Ln r ∧ (∀ p ∈ r, Ok2 p) ∧ r.length ≤ 64
theorem good_from : ∀ (r : List (P Cut)) (i : Nat) (p : P Cut), Nrm Ln (p :: r) → (∀ q ∈ p :: r, Ok2 q) → i + r.length ≤ 64 → checkF i (some (spOf p)) (r.map spOf) = 0
  | [], _, _, _, _, _ => rfl
  | q :: r, i, p, hn, ho, hl => by
    rw [List.length_cons] at hl
    have op := ho p (List.mem_cons_self ..)
    have oq := ho q (List.mem_cons_of_mem _ (List.mem_cons_self ..))
    have hq : ok Ln q = true := nrm_ok Ln (nrm_tail Ln hn)
    rw [List.map_cons]
    unfold checkF
    rw [if_neg (by omega), if_neg (by rw [spOf_err oq, hq]; simp)]
    show (if behind (spOf p) (spOf q) = true then checkF (i + 1) (some (spOf q)) (r.map spOf) else 7) = 0
    rw [behind_lt op oq, hn.2.1, if_pos rfl]
    exact good_from r (i + 1) q (nrm_tail Ln hn) (fun z hz => ho z (List.mem_cons_of_mem _ hz)) (by omega)
theorem good_check {r : List (P Cut)} (h : Good r) : checkR (r.map spOf) = 0 := by
  obtain ⟨hn, ho, hl⟩ := h
  unfold checkR
  cases r with
  | nil => rfl
  | cons p r =>
    have op := ho p (List.mem_cons_self ..)
    have hp : ok Ln p = true := nrm_ok Ln hn
    rw [List.map_cons]
    unfold checkF
    rw [if_neg (by omega), if_neg (by rw [spOf_err op, hp]; simp)]
    rw [List.length_cons] at hl
    exact good_from r 1 p hn ho (by omega)
/-- What Check takes is a range. -/
theorem check_from : ∀ (l : List Sp) (i : Nat) (p : Sp), i ≤ 64 → p.err = 0 → checkF i (some p) l = 0 → (∀ s ∈ l, s.err = 0) ∧ Nrm Ln (p.piece :: l.map Sp.piece) ∧ i + l.length ≤ 64
  | [], i, p, hi, hp, _ => ⟨fun s hs => (by cases hs), (piece_spOf hp).2.2, hi⟩
  | s :: l, i, p, hi, hp, h => by
    unfold checkF at h
    by_cases hl : 64 ≤ i
    · rw [if_pos hl] at h; cases h
    · rw [if_neg hl] at h
      by_cases hs : s.err ≠ 0
      · rw [if_pos hs] at h; exact absurd h hs
      · rw [if_neg hs] at h
        have hs' : s.err = 0 := by simpa using hs
        replace h : (if behind p s = true then checkF (i + 1) (some s) l else 7) = 0 := h
        cases hb : behind p s
        · rw [hb] at h; cases h
        · rw [hb] at h
          obtain ⟨h1, h2, h3⟩ := check_from l (i + 1) s (by omega) hs' h
          obtain ⟨e1, o1, k1⟩ := piece_spOf hp
          obtain ⟨e2, o2, _⟩ := piece_spOf hs'
          refine ⟨fun z hz => ?_, ⟨k1, ?_, h2⟩, by rw [List.length_cons]; omega⟩
          · rcases List.mem_cons.1 hz with rfl | hz
            · exact hs'
            · exact h1 z hz
          · rw [← behind_lt o1 o2, e1, e2]; exact hb
theorem check_good {l : List Sp} (h : checkR l = 0) : Good (l.map Sp.piece) ∧ (l.map Sp.piece).map spOf = l := by
  have key : (∀ s ∈ l, s.err = 0) ∧ Nrm Ln (l.map Sp.piece) ∧ l.length ≤ 64 := by
    unfold checkR at h
    cases l with
    | nil => exact ⟨fun s hs => (by cases hs), trivial, by simp⟩
    | cons s l =>
      unfold checkF at h
      rw [if_neg (by omega)] at h
      by_cases hs : s.err ≠ 0
      · rw [if_pos hs] at h; exact absurd h hs
      · rw [if_neg hs] at h
        have hs' : s.err = 0 := by simpa using hs
        obtain ⟨h1, h2, h3⟩ := check_from l 1 s (by omega) hs' h
        refine ⟨fun z hz => ?_, h2, by rw [List.length_cons]; omega⟩
        rcases List.mem_cons.1 hz with rfl | hz
        · exact hs'
        · exact h1 z hz
  obtain ⟨h1, h2, h3⟩ := key
  refine ⟨⟨h2, fun p hp => ?_, by rw [List.length_map]; exact h3⟩, ?_⟩
  · obtain ⟨s, hs, rfl⟩ := List.mem_map.1 hp
    exact (piece_spOf (h1 s hs)).2.1
  · rw [List.map_map]
    conv => rhs; rw [← List.map_id l]
    exact List.map_congr_left fun s hs => (piece_spOf (h1 s hs)).1
/-! Bounds that may be stay so. -/
def LoIn (r : List (P Cut)) : Prop := ∀ p ∈ r, Ok2 p
theorem ok2_mrg : ∀ (t : List (P Cut)) (c : P Cut), Ok2 c → LoIn t → LoIn (mrg Ln c t)
  | [], c, h, _ => fun y hy => by unfold mrg at hy; rw [List.mem_singleton] at hy; rw [hy]; exact h
  | r :: t, c, h, ht => by
    have hr := ht r (List.mem_cons_self ..)
    have ht' : LoIn t := fun y hy => ht y (List.mem_cons_of_mem _ hy)
    unfold mrg
    split
    · refine ok2_mrg t _ ⟨h.1, ?_⟩ ht'
      show HiOk (up Ln c.hi r.hi)
      unfold up; split
      · exact hr.2
      · exact h.2
    · intro y hy
      rcases List.mem_cons.1 hy with rfl | hy
      · exact h
      · exact ok2_mrg t r hr ht' y hy
theorem ok2_join {l : List (P Cut)} (h : LoIn l) : LoIn (joinK Ln l) := by
  unfold joinK
  cases e : srt Ln l with
  | nil => intro y hy; cases hy
  | cons a t =>
    have h4 : ∀ y ∈ a :: t, Ok2 y := fun y hy => h y ((mem_srt Ln l y).1 (by rw [e]; exact hy))
    exact ok2_mrg t a (h4 a (List.mem_cons_self ..)) (fun y hy => h4 y (List.mem_cons_of_mem _ hy))
theorem ok2_meet {a b : P Cut} (ha : Ok2 a) (hb : Ok2 b) : Ok2 (meet Ln a b) := by
  constructor
  · show LoOk (if lt Ln a.lo b.lo then b.lo else a.lo)
    split
    · exact hb.1
    · exact ha.1
  · show HiOk (if lt Ln b.hi a.hi then b.hi else a.hi)
    split
    · exact hb.2
    · exact ha.2
theorem ok2_pairs {a b : List (P Cut)} (ha : LoIn a) (hb : LoIn b) : LoIn (pairs Ln a b) := by
  intro y hy
  unfold pairs at hy
  rw [List.mem_flatMap] at hy
  obtain ⟨x, hx, hy⟩ := hy
  obtain ⟨w, hw, rfl⟩ := List.mem_map.1 (List.mem_filter.1 hy).1
  exact ok2_meet (ha x hx) (hb w hw)
theorem ok2_and {a b : List (P Cut)} (ha : LoIn a) (hb : LoIn b) : LoIn (andK Ln a b) := ok2_join (ok2_pairs ha hb)
theorem ok2_or {a b : List (P Cut)} (ha : LoIn a) (hb : LoIn b) : LoIn (orK Ln a b) := ok2_join fun y hy => by
  rcases List.mem_append.1 hy with h | h
  · exact ha y h
  · exact hb y h
theorem lo_of_hi {c : Cut} (h : HiOk c) (h2 : lt Ln c Ln.top = true) : LoOk c := by
  cases c with
  | bot => trivial
  | top => cases h2
  | pos v a => exact h
theorem hi_of_lo {c : Cut} (h : LoOk c) (h2 : lt Ln Ln.bot c = true) : HiOk c := by
  cases c with
  | bot => cases h2
  | top => trivial
  | pos v a => exact h
theorem ok2_notF : ∀ (r : List (P Cut)) (c : Cut), LoIn r → Nrm Ln r → (LoOk c ∨ (r = [] ∧ lt Ln c Ln.top = false)) → LoIn (notF Ln c r)
  | [], c, _, _, h => by
    unfold notF
    cases e : lt Ln c Ln.top
    · intro y hy; simp at hy
    · intro y hy
      simp at hy
      rw [hy]
      rcases h with h | h
      · exact ⟨h, trivial⟩
      · rw [e] at h; cases h.2
  | p :: t, c, hr, hn, h => by
    have hp := hr p (List.mem_cons_self ..)
    have hc : LoOk c := by
      rcases h with h | h
      · exact h
      · cases h.1
    have hnext : LoOk p.hi ∨ (t = [] ∧ lt Ln p.hi Ln.top = false) := by
      cases e : lt Ln p.hi Ln.top
      · cases t with
        | nil => exact Or.inr ⟨rfl, rfl⟩
        | cons a u =>
          have := lt_of_lt_of_le Ln hn.2.1 (Ln.most a.lo)
          rw [e] at this; cases this
      · exact Or.inl (lo_of_hi hp.2 e)
    have ih := ok2_notF t p.hi (fun y hy => hr y (List.mem_cons_of_mem _ hy)) (nrm_tail Ln hn) hnext
    unfold notF
    cases e : lt Ln Ln.bot p.lo
    · rw [if_neg Bool.false_ne_true]; exact ih
    · rw [if_pos rfl]
      intro y hy
      rcases List.mem_cons.1 hy with rfl | hy
      · exact ⟨hc, hi_of_lo hp.1 e⟩
      · exact ih y hy
theorem ok2_not {r : List (P Cut)} (h : LoIn r) (hn : Nrm Ln r) : LoIn (notK Ln r) := ok2_notF r _ h hn (Or.inl trivial)
/-! No more than 64. -/
theorem nrm_take : ∀ (n : Nat) (r : List (P Cut)), Nrm Ln r → Nrm Ln (r.take n)
  | 0, _, _ => trivial
  | _ + 1, [], _ => trivial
  | 0 + 1, _ :: _, h => nrm_ok Ln h
  | _ + 1 + 1, [_], h => h
  | n + 1 + 1, _ :: b :: t, h => ⟨h.1, h.2.1, nrm_take (n + 1) (b :: t) h.2.2⟩
theorem good_take {r : List (P Cut)} (h : Nrm Ln r) (ho : LoIn r) : Good (r.take 64) :=
  ⟨nrm_take 64 r h, fun p hp => ho p (List.mem_of_mem_take hp), by rw [List.length_take]; omega⟩
theorem take_few {r : List (P Cut)} (h : r.length ≤ 64) : r.take 64 = r := List.take_of_length_le h
theorem good_and {a b : List (P Cut)} (ha : LoIn a) (hb : LoIn b) : Good ((andK Ln a b).take 64) := good_take (andK_spec Ln a b).1 (ok2_and ha hb)
theorem good_or {a b : List (P Cut)} (ha : Good a) (hb : Good b) : Good ((orK Ln a b).take 64) := good_take (orK_spec Ln a b ha.1 hb.1).1 (ok2_or ha.2.1 hb.2.1)
theorem good_not {a : List (P Cut)} (ha : Good a) : Good ((notK Ln a).take 64) := good_take (notK_spec Ln a ha.1 bot_top).1 (ok2_not ha.2.1 ha.1)
/-- A row of Spans, each by itself as it must be, joined. -/
theorem good_join {l : List Sp} (h : ∀ s ∈ l, s.err = 0) (hl : l.length ≤ 64) : Good (joinK Ln (l.map Sp.piece)) := by
  have h1 : ∀ y ∈ l.map Sp.piece, ok Ln y = true := fun y hy => by
    obtain ⟨s, hs, rfl⟩ := List.mem_map.1 hy
    exact (piece_spOf (h s hs)).2.2
  have h2 : LoIn (l.map Sp.piece) := fun y hy => by
    obtain ⟨s, hs, rfl⟩ := List.mem_map.1 hy
    exact (piece_spOf (h s hs)).2.1
  obtain ⟨a, _, b⟩ := joinK_spec Ln _ h1
  rw [List.length_map] at b
  exact ⟨a, ok2_join h2, by omega⟩
/-- Norm's error. -/
def normE : Nat → List Sp → Int
  | _, [] => 0
  | i, s :: t => if 64 ≤ i then 4 else if s.err ≠ 0 then s.err else normE (i + 1) t
theorem normE_ok : ∀ (l : List Sp) (i : Nat), i ≤ 64 → normE i l = 0 → (∀ s ∈ l, s.err = 0) ∧ i + l.length ≤ 64
  | [], i, hi, _ => ⟨fun s hs => (by cases hs), hi⟩
  | s :: t, i, hi, h => by
    unfold normE at h
    by_cases hl : 64 ≤ i
    · rw [if_pos hl] at h; cases h
    · rw [if_neg hl] at h
      by_cases hs : s.err ≠ 0
      · rw [if_pos hs] at h; exact absurd h hs
      · rw [if_neg hs] at h
        obtain ⟨h1, h2⟩ := normE_ok t (i + 1) (by omega) h
        refine ⟨fun z hz => ?_, by rw [List.length_cons]; omega⟩
        rcases List.mem_cons.1 hz with rfl | hz
        · simpa using hs
        · exact h1 z hz
end Go.Proofs.YtkdildgdodnbbaaGreatDoor.Rs
namespace Go.Proofs.YtkdildgdodnbbaaGreatDoor.Rs
open Rm

def andR (a b : List (P Cut)) : List (P Cut) := (andK Ln a b).take 64
def orR (a b : List (P Cut)) : List (P Cut) := (orK Ln a b).take 64
def notR (a : List (P Cut)) : List (P Cut) := (notK Ln a).take 64
def allR : List (P Cut) := all1 Ln
theorem andR_few {a b : List (P Cut)} (h : a.length + b.length ≤ 64) : andR a b = andK Ln a b := take_few (Nat.le_trans (andK_len Ln a b) h)
theorem orR_few {a b : List (P Cut)} (ha : Nrm Ln a) (hb : Nrm Ln b) (h : a.length + b.length ≤ 64) : orR a b = orK Ln a b := take_few (Nat.le_trans (orK_spec Ln a b ha hb).2.2 h)
theorem notR_few {a : List (P Cut)} (ha : Nrm Ln a) (h : a.length + 1 ≤ 64) : notR a = notK Ln a := take_few (Nat.le_trans (notK_spec Ln a ha bot_top).2.2 h)
theorem goodA {a b : List (P Cut)} (ha : Good a) (hb : Good b) : Good (andR a b) := good_and ha.2.1 hb.2.1
theorem goodO {a b : List (P Cut)} (ha : Good a) (hb : Good b) : Good (orR a b) := good_or ha hb
theorem goodN {a : List (P Cut)} (ha : Good a) : Good (notR a) := good_not ha
theorem goodAll : Good allR := ⟨nrm_all Ln bot_top, fun p hp => by
  have : p = { lo := Cut.bot, hi := Cut.top } := List.mem_singleton.1 hp
  subst this; exact ⟨trivial, trivial⟩, by decide⟩
theorem lenN {a : List (P Cut)} (ha : Nrm Ln a) : (notK Ln a).length ≤ a.length + 1 := (notK_spec Ln a ha bot_top).2.2
theorem lenO {a b : List (P Cut)} (ha : Nrm Ln a) (hb : Nrm Ln b) : (orK Ln a b).length ≤ a.length + b.length := (orK_spec Ln a b ha hb).2.2
/-- What RngTurns asks. -/
theorem turns {p q : List (P Cut)} (hp : Good p) (hq : Good q) (lp : p.length ≤ 20) (lq : q.length ≤ 20) :
    notR (notR p) = p ∧ andR (notR p) (notR q) = notR (orR p q) ∧ orR p (notR p) = allR ∧ andR p (notR p) = [] ∧ andR p q = andR q p ∧ orR p p = p := by
  have n1 := lenN hp.1
  have n2 := lenN hq.1
  have o1 := lenO hp.1 hq.1
  have no := (orK_spec Ln p q hp.1 hq.1).1
  have np := (notK_spec Ln p hp.1 bot_top).1
  rw [notR_few hp.1 (by omega), notR_few hq.1 (by omega), notR_few np (by omega), andR_few (by omega), orR_few hp.1 hq.1 (by omega), notR_few no (by omega),
    orR_few hp.1 np (by omega), andR_few (by omega), andR_few (by omega), andR_few (by omega), orR_few hp.1 hp.1 (by omega)]
  exact ⟨not_not Ln bot_top hp.1, not_or Ln bot_top hp.1 hq.1, or_not Ln bot_top hp.1, and_not Ln bot_top hp.1, and_comm Ln p q, or_self Ln hp.1⟩
/-- What RngThree asks. -/
theorem three {p q s : List (P Cut)} (hp : Good p) (hq : Good q) (hs : Good s) (lp : p.length ≤ 9) (lq : q.length ≤ 9) (ls : s.length ≤ 9) :
    andR (andR p q) s = andR p (andR q s) ∧ orR (orR p q) s = orR p (orR q s) ∧ andR p (orR q s) = orR (andR p q) (andR p s) := by
  have a1 := andK_len Ln p q
  have a2 := andK_len Ln q s
  have a3 := andK_len Ln p s
  have o1 := lenO hp.1 hq.1
  have o2 := lenO hq.1 hs.1
  have no1 := (orK_spec Ln p q hp.1 hq.1).1
  have no2 := (orK_spec Ln q s hq.1 hs.1).1
  have na1 := (andK_spec Ln p q).1
  have na3 := (andK_spec Ln p s).1
  rw [andR_few (a := p) (b := q) (by omega), andR_few (a := q) (b := s) (by omega), andR_few (a := p) (b := s) (by omega), orR_few hp.1 hq.1 (by omega), orR_few hq.1 hs.1 (by omega),
    andR_few (by omega), andR_few (by omega), orR_few no1 hs.1 (by omega), orR_few hp.1 no2 (by omega), andR_few (by omega), orR_few na1 na3 (by omega)]
  exact ⟨and_assoc Ln p q s, or_assoc Ln hp.1 hq.1 hs.1, and_or Ln hq.1 hs.1⟩
/-! Is a version there? -/
def hasR (r : List (P Cut)) (v : List UInt8) : Bool := r.any (fun p => inS p v)
theorem hasA {a b : List (P Cut)} {v : List UInt8} (ha : Good a) (hb : Good b) (hv : Vm.check v = 0) (h : a.length + b.length ≤ 64) : hasR (andR a b) v = (hasR a v && hasR b v) := by
  unfold hasR
  rw [has_mem (goodA ha hb).2.1 hv, has_mem ha.2.1 hv, has_mem hb.2.1 hv, andR_few h, (andK_spec Ln a b).2]
theorem hasO {a b : List (P Cut)} {v : List UInt8} (ha : Good a) (hb : Good b) (hv : Vm.check v = 0) (h : a.length + b.length ≤ 64) : hasR (orR a b) v = (hasR a v || hasR b v) := by
  unfold hasR
  rw [has_mem (goodO ha hb).2.1 hv, has_mem ha.2.1 hv, has_mem hb.2.1 hv, orR_few ha.1 hb.1 h, (orK_spec Ln a b ha.1 hb.1).2.1]
theorem hasN {a : List (P Cut)} {v : List UInt8} (ha : Good a) (hv : Vm.check v = 0) (h : a.length + 1 ≤ 64) : hasR (notR a) v = !hasR a v := by
  unfold hasR
  rw [has_mem (goodN ha).2.1 hv, has_mem ha.2.1 hv, notR_few ha.1 h, (notK_spec Ln a ha.1 bot_top).2.1 _ (spot_top v)]
/-! The six signs. -/
def signR (c : List UInt8) : Nat → List (P Cut)
  | 0 => [{ lo := .pos c false, hi := .pos c true }]
  | 1 => [{ lo := .bot, hi := .pos c false }, { lo := .pos c true, hi := .top }]
  | 2 => [{ lo := .bot, hi := .pos c false }]
  | 3 => [{ lo := .bot, hi := .pos c true }]
  | 4 => [{ lo := .pos c true, hi := .top }]
  | _ => [{ lo := .pos c false, hi := .top }]
def wantR (x : Int) : Nat → Bool
  | 0 => decide (x = 0)
  | 1 => !decide (x = 0)
  | 2 => decide (x < 0)
  | 3 => decide (x ≤ 0)
  | 4 => decide (0 < x)
  | _ => decide (0 ≤ x)
theorem pos_lt (c : List UInt8) : lt Ln (.pos c false) (.pos c true) = true := by
  unfold lt
  show (!cle (Cut.pos c true) (Cut.pos c false)) = true
  rw [Bool.not_eq_true', Bool.eq_false_iff, ne_eq, cle_at, kc_self]
  simp
theorem good_sign {c : List UInt8} (h : Own c) (i : Nat) (hi : i < 6) : Good (signR c i) := by
  have h0 := pos_lt c
  rcases (show i = 0 ∨ i = 1 ∨ i = 2 ∨ i = 3 ∨ i = 4 ∨ i = 5 by omega) with rfl | rfl | rfl | rfl | rfl | rfl
  · exact ⟨h0, fun p hp => by have := List.mem_singleton.1 hp; subst this; exact ⟨h, h⟩, by show 1 ≤ 64; omega⟩
  · refine ⟨⟨rfl, h0, rfl⟩, fun p hp => ?_, by show 2 ≤ 64; omega⟩
    rcases List.mem_cons.1 hp with rfl | hp
    · exact ⟨trivial, h⟩
    · have := List.mem_singleton.1 hp; subst this; exact ⟨h, trivial⟩
  · exact ⟨rfl, fun p hp => by have := List.mem_singleton.1 hp; subst this; exact ⟨trivial, h⟩, by show 1 ≤ 64; omega⟩
  · exact ⟨rfl, fun p hp => by have := List.mem_singleton.1 hp; subst this; exact ⟨trivial, h⟩, by show 1 ≤ 64; omega⟩
  · exact ⟨rfl, fun p hp => by have := List.mem_singleton.1 hp; subst this; exact ⟨h, trivial⟩, by show 1 ≤ 64; omega⟩
  · exact ⟨rfl, fun p hp => by have := List.mem_singleton.1 hp; subst this; exact ⟨h, trivial⟩, by show 1 ≤ 64; omega⟩
def otherR : Nat → Nat
  | 0 => 1
  | 1 => 0
  | 2 => 5
  | 3 => 4
  | 4 => 3
  | _ => 2
theorem not_sign (c : List UInt8) (i : Nat) (hi : i < 6) : notR (signR c i) = signR c (otherR i) := by
  rcases (show i = 0 ∨ i = 1 ∨ i = 2 ∨ i = 3 ∨ i = 4 ∨ i = 5 by omega) with rfl | rfl | rfl | rfl | rfl | rfl <;> rfl
theorem len_sign (c : List UInt8) (i : Nat) : (signR c i).length ≤ 2 := by
  unfold signR; split <;> simp
theorem or_sign {c : List UInt8} (h : Own c) (i : Nat) (hi : i < 6) : orR (signR c i) (signR c (otherR i)) = allR := by
  have g := good_sign h i hi
  have l := len_sign c i
  have n := (notK_spec Ln _ g.1 bot_top).1
  have n1 := lenN g.1
  have e : signR c (otherR i) = notK Ln (signR c i) := by rw [← not_sign c i hi, notR_few g.1 (by omega)]
  rw [e, orR_few g.1 n (by omega)]
  exact or_not Ln bot_top g.1
theorem has_sign {v w : List UInt8} (hw : Vm.check w = 0) (i : Nat) (hi : i < 6) : hasR (signR (Vm.canon w) i) v = wantR (Vm.cmpV v w) i := by
  have e : Vm.cmpV v (Vm.canon w) = Vm.cmpV v w := by
    have h1 := Vm.cmpV_cmp.1 v (Vm.canon w)
    have h2 := Vm.cmpV_cmp.1 v w
    have h3 := cmpV_canon_left hw v
    omega
  have r := Vm.cmpV_range v w
  rcases (show i = 0 ∨ i = 1 ∨ i = 2 ∨ i = 3 ∨ i = 4 ∨ i = 5 by omega) with rfl | rfl | rfl | rfl | rfl | rfl <;>
    simp only [hasR, signR, inS, wantR, List.any_cons, List.any_nil, e, Bool.or_false, Bool.true_and, Bool.and_true, Bool.not_false, Bool.not_true, Bool.and_false] <;>
    rcases (show Vm.cmpV v w = -1 ∨ Vm.cmpV v w = 0 ∨ Vm.cmpV v w = 1 by omega) with h | h | h <;> rw [h] <;> rfl
end Go.Proofs.YtkdildgdodnbbaaGreatDoor.Rs
namespace Go.Proofs.YtkdildgdodnbbaaGreatDoor.Rs
open Rm

def two (n : Nat) : List UInt8 := [UInt8.ofNat (48 + n / 10), UInt8.ofNat (48 + n % 10)]
theorem two_own : ∀ n, n < 90 → Own (two (n + 10)) := by
  have h : ∀ n, n < 90 → Vm.check (two (n + 10)) = 0 ∧ Vm.canon (two (n + 10)) = two (n + 10) := by decide +kernel
  exact fun n hn => h n hn
theorem two_next : ∀ n, n < 89 → Vm.cmpV (two (n + 10)) (two (n + 11)) = -1 := by decide +kernel
def ptP (i : Nat) : P Cut := { lo := .pos (two (i + 10)) false, hi := .pos (two (i + 10)) true }
def rowF (s k : Nat) : List (P Cut) := (List.range' s k).map ptP
theorem pt_ok {i : Nat} (h : i < 90) : Ok2 (ptP i) ∧ ok Ln (ptP i) = true := ⟨⟨two_own i h, two_own i h⟩, pos_lt _⟩
theorem row_nrm : ∀ (k s : Nat), s + k ≤ 90 → Nrm Ln (rowF s k)
  | 0, _, _ => trivial
  | 1, s, h => (pt_ok (by omega)).2
  | k + 1 + 1, s, h => by
    have ih := row_nrm (k + 1) (s + 1) (by omega)
    have e : rowF s (k + 1 + 1) = ptP s :: ptP (s + 1) :: rowF (s + 1 + 1) k := by
      unfold rowF; rw [List.range'_succ, List.range'_succ]; rfl
    have e2 : rowF (s + 1) (k + 1) = ptP (s + 1) :: rowF (s + 1 + 1) k := by
      unfold rowF; rw [List.range'_succ]; rfl
    rw [e2] at ih
    rw [e]
    refine ⟨(pt_ok (by omega)).2, ?_, ih⟩
    show lt Ln (.pos (two (s + 10)) true) (.pos (two (s + 1 + 10)) false) = true
    rw [at_lt (two_own s (by omega)) (two_own (s + 1) (by omega)), show s + 1 + 10 = s + 11 from rfl, two_next s (by omega)]
    rfl
theorem row_ok {k s : Nat} (h : s + k ≤ 90) : LoIn (rowF s k) := fun p hp => by
  obtain ⟨i, hi, rfl⟩ := List.mem_map.1 hp
  rw [List.mem_range'] at hi
  obtain ⟨j, hj, rfl⟩ := hi
  exact (pt_ok (by omega)).1
theorem row_good {k : Nat} (h : k ≤ 64) : Good (rowF 0 k) := ⟨row_nrm k 0 (by omega), row_ok (by omega), by unfold rowF; rw [List.length_map, List.length_range']; exact h⟩
/-- Turned: the one at place i is the one that stood t places on. -/
def turned (k t : Nat) : List (P Cut) := (List.range' 0 k).map fun i => ptP ((i + t) % k)
theorem turned_mem {k t : Nat} (y : P Cut) : y ∈ turned k t ↔ y ∈ rowF 0 k := by
  unfold turned rowF
  rw [List.mem_map, List.mem_map]
  constructor
  · rintro ⟨i, hi, rfl⟩
    rw [List.mem_range'] at hi
    obtain ⟨j, hj, rfl⟩ := hi
    refine ⟨(0 + 1 * j + t) % k, ?_, rfl⟩
    rw [List.mem_range']
    exact ⟨(0 + 1 * j + t) % k, Nat.mod_lt _ (by omega), by omega⟩
  · rintro ⟨i, hi, rfl⟩
    rw [List.mem_range'] at hi
    obtain ⟨j, hj, rfl⟩ := hi
    have h0 : 0 < k := by omega
    have ht := Nat.mod_lt t h0
    refine ⟨(j + (k - t % k)) % k, ?_, ?_⟩
    · rw [List.mem_range']
      exact ⟨(j + (k - t % k)) % k, Nat.mod_lt _ h0, by omega⟩
    · congr 1
      have e : t = k * (t / k) + t % k := (Nat.div_add_mod t k).symm
      rw [Nat.mod_add_mod, show j + (k - t % k) + t = j + k + (t - t % k) from by omega, show t - t % k = k * (t / k) from by omega, Nat.add_mul_mod_self_left, Nat.add_mod_right, Nat.mod_eq_of_lt hj]
      omega
theorem turned_join {k t : Nat} (h : k ≤ 64) : joinK Ln (turned k t) = rowF 0 k := by
  have h1 : ∀ y ∈ rowF 0 k, ok Ln y = true := fun y hy => nrm_all_ok Ln (row_nrm k 0 (by omega)) y hy
  rw [join_same Ln (fun y hy => h1 y ((turned_mem y).1 hy)) h1 turned_mem, join_self Ln (row_nrm k 0 (by omega))]
theorem has_row {k : Nat} (h : k ≤ 64) : hasR (rowF 0 k) [57] = false ∧ hasR (rowF 0 k) [49, 48, 46, 49] = false ∧ hasR (rowF 0 k) [49, 48] = decide (0 < k) := by
  have h1 : ∀ i, i < 64 → inS (ptP i) [57] = false ∧ inS (ptP i) [49, 48, 46, 49] = false := by decide +kernel
  have key : ∀ v, (∀ i, i < 64 → inS (ptP i) v = false) → hasR (rowF 0 k) v = false := fun v hv => by
    unfold hasR
    rw [List.any_eq_false]
    intro p hp
    obtain ⟨i, hi, rfl⟩ := List.mem_map.1 hp
    rw [List.mem_range'] at hi
    obtain ⟨j, hj, rfl⟩ := hi
    rw [hv _ (by omega)]; exact Bool.false_ne_true
  refine ⟨key _ fun i hi => (h1 i hi).1, key _ fun i hi => (h1 i hi).2, ?_⟩
  cases k with
  | zero => rfl
  | succ k =>
    unfold rowF hasR
    rw [List.range'_succ, List.map_cons, List.any_cons, show inS (ptP 0) [49, 48] = true from by decide +kernel]
    simp
/-- One more than 64 is refused. -/
theorem normE_long : ∀ (l : List Sp) (i : Nat), i ≤ 64 → (∀ s ∈ l, s.err = 0) → 64 < i + l.length → normE i l = 4
  | [], i, hi, _, h => by simp at h; omega
  | s :: t, i, hi, he, h => by
    unfold normE
    by_cases hl : 64 ≤ i
    · rw [if_pos hl]
    · rw [if_neg hl, if_neg (by rw [he s (List.mem_cons_self ..)]; simp)]
      exact normE_long t (i + 1) (by omega) (fun z hz => he z (List.mem_cons_of_mem _ hz)) (by rw [List.length_cons] at h; omega)
theorem normE_few : ∀ (l : List Sp) (i : Nat), (∀ s ∈ l, s.err = 0) → i + l.length ≤ 64 → normE i l = 0
  | [], _, _, _ => rfl
  | s :: t, i, he, h => by
    rw [List.length_cons] at h
    unfold normE
    rw [if_neg (by omega), if_neg (by rw [he s (List.mem_cons_self ..)]; simp)]
    exact normE_few t (i + 1) (fun z hz => he z (List.mem_cons_of_mem _ hz)) (by omega)
theorem check_long : ∀ (r : List (P Cut)) (i : Nat) (p : P Cut), i ≤ 64 → Nrm Ln (p :: r) → (∀ q ∈ p :: r, Ok2 q) → 64 < i + r.length → checkF i (some (spOf p)) (r.map spOf) = 4
  | [], i, p, hi, _, _, h => by simp at h; omega
  | q :: r, i, p, hi, hn, ho, hl => by
    rw [List.length_cons] at hl
    have op := ho p (List.mem_cons_self ..)
    have oq := ho q (List.mem_cons_of_mem _ (List.mem_cons_self ..))
    have hq : ok Ln q = true := nrm_ok Ln (nrm_tail Ln hn)
    rw [List.map_cons]
    unfold checkF
    by_cases h6 : 64 ≤ i
    · rw [if_pos h6]
    · rw [if_neg h6, if_neg (by rw [spOf_err oq, hq]; simp)]
      show (if behind (spOf p) (spOf q) = true then checkF (i + 1) (some (spOf q)) (r.map spOf) else 7) = 4
      rw [behind_lt op oq, hn.2.1, if_pos rfl]
      exact check_long r (i + 1) q (by omega) (nrm_tail Ln hn) (fun z hz => ho z (List.mem_cons_of_mem _ hz)) (by omega)
theorem row_long {k : Nat} (h : 64 < k) (h2 : k ≤ 90) : checkR ((rowF 0 k).map spOf) = 4 := by
  have hn := row_nrm k 0 (by omega)
  have ho := row_ok (k := k) (s := 0) (by omega)
  have hl : (rowF 0 k).length = k := by unfold rowF; rw [List.length_map, List.length_range']
  unfold checkR
  cases e : rowF 0 k with
  | nil => rw [e] at hl; simp at hl; omega
  | cons p r =>
    rw [e] at hn ho hl
    rw [List.length_cons] at hl
    rw [List.map_cons]
    unfold checkF
    rw [if_neg (by omega), if_neg (by rw [spOf_err (ho p (List.mem_cons_self ..)), nrm_ok Ln hn]; simp)]
    exact check_long r 1 p (by omega) hn ho (by omega)
theorem turned_err {k t : Nat} (h : k ≤ 90) : ∀ s ∈ (turned k t).map spOf, s.err = 0 := fun s hs => by
  obtain ⟨p, hp, rfl⟩ := List.mem_map.1 hs
  have hp' := (turned_mem p).1 hp
  have ho := row_ok (k := k) (s := 0) (by omega) p hp'
  rw [spOf_err ho, nrm_all_ok Ln (row_nrm k 0 (by omega)) p hp']; rfl
theorem turned_len (k t : Nat) : (turned k t).length = k := by unfold turned; rw [List.length_map, List.length_range']
end Go.Proofs.YtkdildgdodnbbaaGreatDoor.Rs
