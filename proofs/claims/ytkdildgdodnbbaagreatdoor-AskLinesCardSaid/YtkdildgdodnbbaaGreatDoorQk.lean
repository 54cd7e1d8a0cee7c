/- The law's own looks at rows of Spans: Few. Two Spans, are they equal? Two rows of Spans: are they equal? The program's Same, the reference's. -/
import Derived.Test.YtkdildgdodnbbaaGreatDoorQj
import Derived.Laws.StructEq
import Derived.Deep.QuietTactic
import Derived.BigQuiet
namespace Go.Proofs.YtkdildgdodnbbaaGreatDoor
open Go.RowKit
attribute [local go_sem ↓] Go.wp_at_zero Go.wp_at_succ

/-- Of a Span in a row the four cells, as the walk calls them. -/
def At4 (w : World) (p : Addr) (lo hi : List UInt8) (li hn : Bool) : Prop := w.cell? p = some (.string ⟨lo.toArray⟩) ∧ w.cell? ⟨p.block, p.off + 1, none⟩ = some (.string ⟨hi.toArray⟩) ∧ w.cell? ⟨p.block, p.off + 2, none⟩ = some (.bool li) ∧ w.cell? ⟨p.block, p.off + 3, none⟩ = some (.bool hn)
theorem at4_of {w : World} {p : Addr} {m : Nat} {s : Rs.Sp} (h : Rs.SpAt w (p.add m) s) : At4 w (p.add m) s.lo s.hi s.li s.hn := by
  obtain ⟨h0, h1, h2, h3⟩ := h
  rw [Go.Deep.add_add, Nat.add_zero] at h0
  exact ⟨h0, h1, h2, h3⟩
theorem srow_at {w : World} {A : Option Addr} {l : List Rs.Sp} (h : Rs.SRow w A l) (k : Nat) (hk : k < l.length) : ∃ ad lo hi li hn, A = some ad ∧ l[k] = ⟨lo, hi, li, hn⟩ ∧ ad.block < w.heap.size ∧ At4 w (ad.add (k * 4)) lo hi li hn := by
  obtain ⟨ad, e, hl, hc⟩ := h (by omega)
  exact ⟨ad, _, _, _, _, e, rfl, hl, at4_of (hc k hk)⟩
def fewS (s : Rs.Sp) : Bool := !(decide (100 < s.lo.length) || decide (100 < s.hi.length))
def fewL (l : List Rs.Sp) : Bool := if 80 < l.length then false else l.all fewS
set_option maxRecDepth 100000 in
set_option maxHeartbeats 800000 in
theorem few_any (A : Option Addr) (c : Nat) (l : List Rs.Sp) (w : World) (hr : Rs.SRow w A l) (hm : l.length ≤ maxLen) (hs : ∀ s ∈ l, s.lo.length ≤ maxLen ∧ s.hi.length ≤ maxLen) :
    Calls Tryz.prog 42 #[.slice A l.length c] w fun e w' => e = .returned (.bool (fewL l)) ∧ w = w' := by
  unfold maxLen at hm hs
  have HR := Lib.hid hr
  have HS := Lib.hid hs
  clear hr hs
  by_cases h80 : 80 < l.length
  · have HX : Hid (fewL l = false) := by show _ = _; unfold fewL; rw [if_pos h80]
    go_enter Tryz.func42, Tryz.ntmps42
    go_wp2_with fail
    go_ret
    exact ⟨by rw [HX.out]; rfl, rfl⟩
  · have HX : Hid (fewL l = l.all fewS) := by show _ = _; unfold fewL; rw [if_neg h80]
    go_enter Tryz.func42, Tryz.ntmps42
    go_wp2_with fail
    go_loop [3] (fun i => ∃ k : Nat, k ≤ l.length ∧ i = .int .i64 k ∧ Hid (l.all fewS = (l.drop k).all fewS)) (fun i => l.length - (intOf i).toNat)
    case atStart => exact ⟨0, Nat.zero_le _, rfl, rfl⟩
    case round =>
      obtain ⟨k, hk, rfl, HA⟩ := hrel
      by_cases hlt : k < l.length
      · obtain ⟨ad, lo, hi, li, hn, rfl, hs, hl, c0, c1, c2, c3⟩ := srow_at HR.out k hlt
        have hm2 := HS.out _ (hs ▸ List.getElem_mem hlt)
        have HE : Hid ((l.drop k).all fewS = (fewS ⟨lo, hi, li, hn⟩ && (l.drop (k + 1)).all fewS)) := by show _ = _; rw [List.drop_eq_getElem_cons hlt, List.all_cons, hs]
        have HS2 := Lib.hid hs
        obtain ⟨m1, m2⟩ := hm2
        clear hs
        by_cases g1 : 100 < lo.length
        · have g1' : decide (100 < (lo.length : Int)) = true := decide_eq_true (by omega)
          have HF : Hid (fewS ⟨lo, hi, li, hn⟩ = false) := by show _ = _; unfold fewS; rw [decide_eq_true g1]; rfl
          go_wp2_with fail
          go_ret
          exact ⟨by rw [HX.out, HA.out, HE.out, HF.out]; rfl, rfl⟩
        · have g1' : decide (100 < (lo.length : Int)) = false := decide_eq_false (by omega)
          by_cases g2 : 100 < hi.length
          · have g2' : decide (100 < (hi.length : Int)) = true := decide_eq_true (by omega)
            have HF : Hid (fewS ⟨lo, hi, li, hn⟩ = false) := by show _ = _; unfold fewS; rw [decide_eq_true g2, Bool.or_true]; rfl
            go_wp2_with fail
            go_ret
            exact ⟨by rw [HX.out, HA.out, HE.out, HF.out]; rfl, rfl⟩
          · have g2' : decide (100 < (hi.length : Int)) = false := decide_eq_false (by omega)
            have HF : Hid (fewS ⟨lo, hi, li, hn⟩ = true) := by show _ = _; unfold fewS; rw [decide_eq_false g1, decide_eq_false g2]; rfl
            go_wp2_with fail
            go_round
            case rel => exact ⟨k + 1, by omega, by go_num, by show _ = _; rw [HA.out, HE.out, HF.out, Bool.true_and]⟩
            case measure => simp [intOf]; omega
      · obtain rfl : k = l.length := by omega
        have HF : Hid (l.all fewS = true) := by show _ = _; rw [HA.out, List.drop_length]; rfl
        go_wp2_with fail
        go_ret
        exact ⟨by rw [HX.out, HF.out]; rfl, rfl⟩
end Go.Proofs.YtkdildgdodnbbaaGreatDoor
namespace Go.Proofs.YtkdildgdodnbbaaGreatDoor
open Go.RowKit

/-- A struct type of two strings and two bools. -/
def SpanT (T : TypeId) : Prop := (Tryz.prog.fieldsOf T).toList.map (fun f => (f.name == "_", f.type, f.offset)) = [(false, 9, 0), (false, 9, 1), (false, 4, 2), (false, 4, 3)] ∧ Tryz.prog.underlying T = some (.struct (Tryz.prog.fieldsOf T)) ∧ Tryz.prog.stoodInHeld T = false ∧ Tryz.prog.eqGuardType Tryz.prog.depth T = false
theorem spanP : SpanT 83 := ⟨by kernel_rfl, by kernel_rfl, by kernel_rfl, by kernel_rfl⟩
theorem spanR : SpanT 90 := ⟨by kernel_rfl, by kernel_rfl, by kernel_rfl, by kernel_rfl⟩
theorem equal_span {T : TypeId} (h : SpanT T) (lo hi : List UInt8) (li hn : Bool) (lo' hi' : List UInt8) (li' hn' : Bool) (w : World) :
    (Op.equalIn 10000 T (.agg #[.string ⟨lo.toArray⟩, .string ⟨hi.toArray⟩, .bool li, .bool hn]) (.agg #[.string ⟨lo'.toArray⟩, .string ⟨hi'.toArray⟩, .bool li', .bool hn'])).run Tryz.prog w = .ok (decide (Rs.Sp.mk lo hi li hn = ⟨lo', hi', li', hn'⟩)) w := by
  obtain ⟨h1, h2, h3, h4⟩ := h
  rw [run_equalIn_struct w 9999 T _ _ h2 h3]
  generalize (Tryz.prog.fieldsOf T).toList = fs at *
  have hl : fs.length = 4 := by have := congrArg List.length h1; simpa using this
  match fs, hl with
  | [f0, f1, f2, f3], _ =>
    simp at h1
    obtain ⟨⟨n0, t0, o0⟩, ⟨n1, t1, o1⟩, ⟨n2, t2, o2⟩, ⟨n3, t3, o3⟩⟩ := h1
    simp only [Op.eqFields, n0, n1, n2, n3, t0, t1, t2, t3, o0, o1, o2, o3, ne_eq, not_false_eq_true, if_true]
    simp [go_sem]
    by_cases e0 : lo = lo' <;> by_cases e1 : hi = hi' <;> by_cases e2 : li = li' <;> by_cases e3 : hn = hn' <;> simp [e0, e1, e2, e3]
theorem neq_span {T : TypeId} (h : SpanT T) (lo hi : List UInt8) (li hn : Bool) (lo' hi' : List UInt8) (li' hn' : Bool) (w : World) :
    (binOp .neq T (.agg #[.string ⟨lo.toArray⟩, .string ⟨hi.toArray⟩, .bool li, .bool hn]) (.agg #[.string ⟨lo'.toArray⟩, .string ⟨hi'.toArray⟩, .bool li', .bool hn'])).run Tryz.prog w = .ok (.bool (!decide (Rs.Sp.mk lo hi li hn = ⟨lo', hi', li', hn'⟩))) w := by
  rw [run_neq_struct, equal_span h]; rfl
theorem grd_span {T : TypeId} (h : SpanT T) (op : BinOp) (x y : Operand) (xs ys : Array Value) (w : World) : (eqGuard op T x y (.agg xs) (.agg ys)).run Tryz.prog w = .ok () w := run_eqGuard_agg w op T x y xs ys h.2.2.2
end Go.Proofs.YtkdildgdodnbbaaGreatDoor
namespace Go.Proofs.YtkdildgdodnbbaaGreatDoor
open Go.RowKit
attribute [local go_sem ↓] Go.wp_at_zero Go.wp_at_succ

theorem take_eq_succ {l m : List Rs.Sp} {k : Nat} (hl : k < l.length) (hm : k < m.length) (h : l.take k = m.take k) (he : l[k] = m[k]) : l.take (k + 1) = m.take (k + 1) := by
  rw [List.take_succ_eq_append_getElem hl, List.take_succ_eq_append_getElem hm, h, he]
theorem ne_at {l m : List Rs.Sp} {k : Nat} (hl : k < l.length) (hm : k < m.length) (he : l[k] ≠ m[k]) : decide (l = m) = false :=
  decide_eq_false fun h => he (by subst h; rfl)
set_option maxRecDepth 100000 in
set_option maxHeartbeats 1600000 in
theorem equal_any (A : Option Addr) (c : Nat) (l : List Rs.Sp) (B : Option Addr) (d : Nat) (m : List Rs.Sp) (w : World) (hr : Rs.SRow w A l) (hq : Rs.SRow w B m) (hl : l.length ≤ 100000) (_hm : m.length ≤ 100000) :
    Calls Tryz.prog 74 #[.slice A l.length c, .slice B m.length d] w fun e w' => e = .returned (.bool (decide (l = m))) ∧ Below w.heap.size w w' := by
  have HR := Lib.hid hr
  have HQ := Lib.hid hq
  clear hr hq
  obtain ⟨X, hX⟩ : ∃ X, decide (l = m) = X := ⟨_, rfl⟩
  rw [hX]
  have HX := Lib.hid hX
  clear hX
  by_cases hlen : l.length = m.length
  · have HL := Lib.hid hlen
    have hd : ((l.length : Int) != m.length) = false := by rw [hlen]; simp
    clear hlen
    go_enter Tryz.func74, Tryz.ntmps74
    go_wp2_with fail
    clear hd
    go_loopw [13] (fun i wr => ∃ k : Nat, k ≤ l.length ∧ i = .int .i64 k ∧ Hid (l.take k = m.take k) ∧ ∃ n, wr = w.drewN n) (fun i _ => l.length - (intOf i).toNat)
    case atStart => exact ⟨0, Nat.zero_le _, rfl, rfl, 0, rfl⟩
    case round =>
      obtain ⟨k, hk, rfl, HT, n, rfl⟩ := hrel
      by_cases hlt : k < l.length
      · have hlt2 : k < m.length := by have := HL.out; omega
        obtain ⟨ad, lo, hi, li, hn, rfl, hs, _, c0, c1, c2, c3⟩ := srow_at HR.out k hlt
        obtain ⟨ae, lo', hi', li', hn', rfl, hs', _, e0, e1, e2, e3⟩ := srow_at HQ.out k hlt2
        have hr1 := neq_span spanP lo hi li hn lo' hi' li' hn'
        have hr2 : ∀ (x y : Operand) (W : World), (eqGuard .neq 83 x y (.agg #[.string ⟨lo.toArray⟩, .string ⟨hi.toArray⟩, .bool li, .bool hn]) (.agg #[.string ⟨lo'.toArray⟩, .string ⟨hi'.toArray⟩, .bool li', .bool hn'])).run Tryz.prog W = .ok () W := fun x y W => grd_span spanP .neq x y _ _ W
        by_cases he : (Rs.Sp.mk lo hi li hn) = ⟨lo', hi', li', hn'⟩
        · rw [decide_eq_true he] at hr1
          have HT2 : Hid (l.take (k + 1) = m.take (k + 1)) := take_eq_succ hlt hlt2 HT.out (by rw [hs, hs', he])
          clear hs hs' he HT
          go_wp2_with fail
          go_quiet (fail)
          clear hr1 hr2 c0 c1 c2 c3 e0 e1 e2 e3
          go_wp2_with fail
          go_roundw
          case rel => exact ⟨k + 1, by omega, by go_num, HT2, _, rfl⟩
          case measure => simp [intOf]; omega
        · rw [decide_eq_false he] at hr1
          have HF : Hid (X = false) := by show _ = _; rw [← HX.out]; exact ne_at hlt hlt2 (by rw [hs, hs']; exact he)
          clear hs hs' he HT
          go_wp2_with fail
          go_quiet (fail)
          clear hr1 hr2 c0 c1 c2 c3 e0 e1 e2 e3
          go_wp2_with fail
          go_ret
          exact ⟨by rw [HF.out]; rfl, below_drewN (below_drewN (Below.refl _ _) _) _⟩
      · obtain rfl : k = l.length := by omega
        have HF : Hid (X = true) := by
          show _ = _
          have := HT.out
          rw [List.take_length, HL.out, List.take_length] at this
          rw [← HX.out]; exact decide_eq_true this
        clear HT
        go_wp2_with fail
        go_ret
        exact ⟨by rw [HF.out]; rfl, below_drewN (Below.refl _ _) _⟩
  · have hd : ((l.length : Int) != m.length) = true := by simp; omega
    have HF : Hid (X = false) := by show _ = _; rw [← HX.out]; exact decide_eq_false fun h => hlen (by rw [h])
    go_enter Tryz.func74, Tryz.ntmps74
    go_wp2_with fail
    go_ret
    exact ⟨by rw [HF.out]; rfl, Below.refl _ _⟩
set_option maxRecDepth 100000 in
set_option maxHeartbeats 1600000 in
theorem sameRange_any (A : Option Addr) (c : Nat) (l : List Rs.Sp) (B : Option Addr) (d : Nat) (m : List Rs.Sp) (w : World) (hr : Rs.SRow w A l) (hq : Rs.SRow w B m) (hl : l.length ≤ 100000) (_hm : m.length ≤ 100000) :
    Calls Tryz.prog 24 #[.slice A l.length c, .slice B m.length d] w fun e w' => e = .returned (.bool (decide (l = m))) ∧ Below w.heap.size w w' := by
  have HR := Lib.hid hr
  have HQ := Lib.hid hq
  clear hr hq
  obtain ⟨X, hX⟩ : ∃ X, decide (l = m) = X := ⟨_, rfl⟩
  rw [hX]
  have HX := Lib.hid hX
  clear hX
  by_cases hlen : l.length = m.length
  · have HL := Lib.hid hlen
    have hd : ((l.length : Int) != m.length) = false := by rw [hlen]; simp
    clear hlen
    go_enter Tryz.func24, Tryz.ntmps24
    go_wp2_with fail
    clear hd
    go_loopw [5] (fun i wr => ∃ k : Nat, k ≤ l.length ∧ i = .int .i64 k ∧ Hid (l.take k = m.take k) ∧ ∃ n, wr = w.drewN n) (fun i _ => l.length - (intOf i).toNat)
    case atStart => exact ⟨0, Nat.zero_le _, rfl, rfl, 0, rfl⟩
    case round =>
      obtain ⟨k, hk, rfl, HT, n, rfl⟩ := hrel
      by_cases hlt : k < l.length
      · have hlt2 : k < m.length := by have := HL.out; omega
        obtain ⟨ad, lo, hi, li, hn, rfl, hs, _, c0, c1, c2, c3⟩ := srow_at HR.out k hlt
        obtain ⟨ae, lo', hi', li', hn', rfl, hs', _, e0, e1, e2, e3⟩ := srow_at HQ.out k hlt2
        have hr1 := neq_span spanR lo hi li hn lo' hi' li' hn'
        have hr2 : ∀ (x y : Operand) (W : World), (eqGuard .neq 90 x y (.agg #[.string ⟨lo.toArray⟩, .string ⟨hi.toArray⟩, .bool li, .bool hn]) (.agg #[.string ⟨lo'.toArray⟩, .string ⟨hi'.toArray⟩, .bool li', .bool hn'])).run Tryz.prog W = .ok () W := fun x y W => grd_span spanR .neq x y _ _ W
        by_cases he : (Rs.Sp.mk lo hi li hn) = ⟨lo', hi', li', hn'⟩
        · rw [decide_eq_true he] at hr1
          have HT2 : Hid (l.take (k + 1) = m.take (k + 1)) := take_eq_succ hlt hlt2 HT.out (by rw [hs, hs', he])
          clear hs hs' he HT
          go_wp2_with fail
          go_quiet (fail)
          clear hr1 hr2 c0 c1 c2 c3 e0 e1 e2 e3
          go_wp2_with fail
          go_roundw
          case rel => exact ⟨k + 1, by omega, by go_num, HT2, _, rfl⟩
          case measure => simp [intOf]; omega
        · rw [decide_eq_false he] at hr1
          have HF : Hid (X = false) := by show _ = _; rw [← HX.out]; exact ne_at hlt hlt2 (by rw [hs, hs']; exact he)
          clear hs hs' he HT
          go_wp2_with fail
          go_quiet (fail)
          clear hr1 hr2 c0 c1 c2 c3 e0 e1 e2 e3
          go_wp2_with fail
          go_ret
          exact ⟨by rw [HF.out]; rfl, below_drewN (below_drewN (Below.refl _ _) _) _⟩
      · obtain rfl : k = l.length := by omega
        have HF : Hid (X = true) := by
          show _ = _
          have := HT.out
          rw [List.take_length, HL.out, List.take_length] at this
          rw [← HX.out]; exact decide_eq_true this
        clear HT
        go_wp2_with fail
        go_ret
        exact ⟨by rw [HF.out]; rfl, below_drewN (Below.refl _ _) _⟩
  · have hd : ((l.length : Int) != m.length) = true := by simp; omega
    have HF : Hid (X = false) := by show _ = _; rw [← HX.out]; exact decide_eq_false fun h => hlen (by rw [h])
    go_enter Tryz.func24, Tryz.ntmps24
    go_wp2_with fail
    go_ret
    exact ⟨by rw [HF.out]; rfl, Below.refl _ _⟩
theorem same_any (A : Option Addr) (c : Nat) (l : List Rs.Sp) (B : Option Addr) (d : Nat) (m : List Rs.Sp) (w : World) (hr : Rs.SRow w A l) (hq : Rs.SRow w B m) (hl : l.length ≤ 100000) (hm : m.length ≤ 100000) :
    Calls Tryz.prog 47 #[.slice A l.length c, .slice B m.length d] w fun e w' => e = .returned (.bool (decide (l = m))) ∧ Below w.heap.size w w' := by
  have HR := Lib.hid hr
  have HQ := Lib.hid hq
  clear hr hq
  go_enter Tryz.func47, Tryz.ntmps47
  go_wp2_with fail
  refine (equal_any A c l B d m _ HR.out HQ.out hl hm).mono ?_
  rintro _ w1 ⟨rfl, hb⟩
  have HB := Lib.hid hb
  clear hb
  go_wp2_with fail
  go_ret
  exact ⟨rfl, HB.out⟩
end Go.Proofs.YtkdildgdodnbbaaGreatDoor
