/- The law's own functions on asks: To, Of, Few, walked. What came in, and the table of words: how their cells read. -/
import Derived.Test.YtkdildgdodnbbaaGreatDoorFa
import Derived.Test.YtkdildgdodnbbaaGreatDoorFc
import Derived.Test.YtkdildgdodnbbaaGreatDoorNb
import Derived.LaidMore
namespace Go.Proofs.YtkdildgdodnbbaaGreatDoor
open Go.RowKit Rs At Pg Ak
attribute [local go_sem ↓] Go.wp_at_zero Go.wp_at_succ
/-- Small enough for the walks. -/
def Ak.QSm (l : List Rq) : Prop := ∀ a ∈ l, a.atm.rng.length ≤ 1000
set_option maxRecDepth 100000 in
set_option maxHeartbeats 3200000 in
theorem to9_any (A : Option Addr) (n c : Nat) (l : List Rq) (w : World) (hn : l.length = n) (hr : QRow w A l) (hl : n ≤ 1000) (hf : QSm l) :
    Calls Tryz.prog 9 #[.slice A n c] w fun e w' => ∃ C d, e = .returned (.slice C n d) ∧ QRow w' C l ∧ Below w.heap.size w w' := by
  have HR := Lib.hid hr
  have HN := Lib.hid hn
  have HF := Lib.hid hf
  clear hr hn hf
  go_enter Tryz.func9, Tryz.ntmps9
  go_wp2_with fail
  go_loopw [3, 4] (fun v i wr => ∃ (k : Nat) (ds : List QD), k ≤ n ∧ i = .int .i64 k ∧ Hid (QOwn wr w.heap.size 34 v ds (l.take k)) ∧ Hid (Below w.heap.size w wr)) (fun _ i _ => n - (intOf i).toNat)
  case atStart => exact ⟨0, [], Nat.zero_le _, rfl, qown_nil _ _ _, Below.refl _ _⟩
  case round =>
    obtain ⟨k, ds, hk, rfl, HO, HB⟩ := hrel
    by_cases hlt : k < n
    · have hlr : k < l.length := by rw [HN.out]; exact hlt
      obtain ⟨ad, C, m, d, rfl, hm, hs, hc⟩ := qrow_at HR.out k hlr
      have hff := HF.out _ (List.getElem_mem hlr)
      have hsn : l.take (k + 1) = l.take k ++ [l[k]] := by rw [List.take_succ_eq_append_getElem hlr]
      have HSZ : Hid (ds.length + 1 ≤ 1000000) := by
        have h1 := HO.out.2.1.1
        rw [List.length_take] at h1
        show _ ≤ _
        omega
      obtain ⟨a, ha⟩ : ∃ a, l[k] = a := ⟨_, rfl⟩
      rw [ha] at hm hs hc hff hsn
      obtain ⟨kd, nm, r⟩ := a
      dsimp only at hm hs hc hff
      have HC := Lib.hid hc
      have HSN := Lib.hid hsn
      have HD : Hid (Below wr.heap.size wr wr.drew) := (Below.refl _ _).drew
      have HWD : Hid (Below w.heap.size w wr.drew) := HB.out.drew
      have HT := Lib.hid (to4_any nm C m d r wr.drew hm (srow_below hs HWD.out) (by rw [← hm]; exact hff))
      have HM := Lib.hid hm
      obtain ⟨c0, c1, c2⟩ := HC.out _ HB.out
      obtain ⟨d0, d1, d2⟩ := HC.out _ HWD.out
      have k0 : (0 : Int) ≤ (k : Int) := by omega
      have k1 : (k : Int) < (n : Int) := by omega
      clear hc ha hm hs hff hsn
      go_wp2_with fail
      go_region_held3 (fun w' => w'.cell? (ad.add (k * 3)) = some (.int .i64 kd) ∧ w'.cell? ⟨(ad.add (k * 3)).block, (ad.add (k * 3)).off + 1, none⟩ = some (.string ⟨nm.toArray⟩) ∧ w'.cell? ⟨(ad.add (k * 3)).block, (ad.add (k * 3)).off + 2, none⟩ = some (.slice C m d))
        (first
          | exact ⟨d0, d1, d2⟩
          | exact HC.out _ HZ2.out
          | exact HC.out _ HZA.out
          | exact HC.out _ HB5.out)
        (first
          | (refine Pg.step_app_pure sliceQ zeroQ_nob encQ_nob (by rfl) (.tmp 11) (.tmp 24) (by rfl) w.heap.size u3 ds [(kd, nm, C2, m, e2)] (by rfl) (qown_below HO.out HAL.out).1 (qown_below HO.out HAL.out).2.2 _ _ (by rfl) (Rg.news_new z2 _ _ _ (by rfl)) (Nat.zero_lt_succ _) HSZ.out (Nat.le_trans HB.out.size HAL.out.size) ?_; intro v5 W5 ho5 hp5 hg5 hz5; have HB5 : Hid (Below w.heap.size w W5) := (HB.out.trans (HAL.out.mono HB.out.size)).trans (Rg.grown_below (qown_below HO.out HAL.out).1 (Nat.le_trans HB.out.size HAL.out.size) hg5))
          | (go_at_call 21; refine HT.out.mono ?_; rintro _ z2 ⟨C2, e2, rfl, hr2, hb⟩; have HR2 := Lib.hid hr2; have HBZ : Hid (Below wr.heap.size wr z2) := HD.out.trans hb; have HZ2 : Hid (Below w.heap.size w z2) := HB.out.trans (HBZ.out.mono HB.out.size); have HAL : Hid (Below wr.heap.size wr (z2.alloc (.cells #[.int .i64 kd, .string ⟨nm.toArray⟩, .slice C2 m e2] 34))) := HBZ.out.alloc HBZ.out.size _; have HZA : Hid (Below w.heap.size w (z2.alloc (.cells #[.int .i64 kd, .string ⟨nm.toArray⟩, .slice C2 m e2] 34))) := HB.out.trans (HAL.out.mono HB.out.size); clear hb hr2))
      have HO5 : Hid (QOwn W5 w.heap.size 34 v5 (ds ++ [(kd, nm, C2, m, e2)]) (l.take (k + 1))) := by
        show QOwn _ _ _ _ _ _
        rw [HSN.out]
        exact qown_add (a := ⟨kd, nm, r⟩) (qown_below HO.out HAL.out) (srow_below HR2.out ((Below.refl _ _).alloc (Nat.le_refl _) _)) HM.out ho5 hp5 hg5
      clear ho5 hp5 hg5 hz5 HO HB
      go_wp2_with fail
      go_roundw
      case rel => exact ⟨k + 1, _, by omega, by go_num, HO5, HB5⟩
      case measure => simp [intOf]; omega
    · obtain rfl : k = n := by omega
      obtain ⟨C, d, hv, hrw, _⟩ := qown_row HO.out
      rw [List.take_of_length_le (by rw [HN.out]; exact Nat.le_refl _)] at hv hrw
      rw [HN.out] at hv
      subst hv
      have HRW := Lib.hid hrw
      clear hrw HO
      go_wp2_with fail
      go_ret
      exact ⟨C, d, rfl, HRW.out, HB.out⟩
set_option maxRecDepth 100000 in
set_option maxHeartbeats 3200000 in
theorem of9_any (A : Option Addr) (n c : Nat) (l : List Rq) (w : World) (hn : l.length = n) (hr : QRow w A l) (hl : n ≤ 1000) (hf : QSm l) :
    Calls Tryz.prog 17 #[.slice A n c] w fun e w' => ∃ C d, e = .returned (.slice C n d) ∧ QRow w' C l ∧ Below w.heap.size w w' := by
  have HR := Lib.hid hr
  have HN := Lib.hid hn
  have HF := Lib.hid hf
  clear hr hn hf
  go_enter Tryz.func17, Tryz.ntmps17
  go_wp2_with fail
  go_loopw [3, 4] (fun v i wr => ∃ (k : Nat) (ds : List QD), k ≤ n ∧ i = .int .i64 k ∧ Hid (QOwn wr w.heap.size 40 v ds (l.take k)) ∧ Hid (Below w.heap.size w wr)) (fun _ i _ => n - (intOf i).toNat)
  case atStart => exact ⟨0, [], Nat.zero_le _, rfl, qown_nil _ _ _, Below.refl _ _⟩
  case round =>
    obtain ⟨k, ds, hk, rfl, HO, HB⟩ := hrel
    by_cases hlt : k < n
    · have hlr : k < l.length := by rw [HN.out]; exact hlt
      obtain ⟨ad, C, m, d, rfl, hm, hs, hc⟩ := qrow_at HR.out k hlr
      have hff := HF.out _ (List.getElem_mem hlr)
      have hsn : l.take (k + 1) = l.take k ++ [l[k]] := by rw [List.take_succ_eq_append_getElem hlr]
      have HSZ : Hid (ds.length + 1 ≤ 1000000) := by
        have h1 := HO.out.2.1.1
        rw [List.length_take] at h1
        show _ ≤ _
        omega
      obtain ⟨a, ha⟩ : ∃ a, l[k] = a := ⟨_, rfl⟩
      rw [ha] at hm hs hc hff hsn
      obtain ⟨kd, nm, r⟩ := a
      dsimp only at hm hs hc hff
      have HC := Lib.hid hc
      have HSN := Lib.hid hsn
      have HD : Hid (Below wr.heap.size wr wr.drew) := (Below.refl _ _).drew
      have HWD : Hid (Below w.heap.size w wr.drew) := HB.out.drew
      have HT := Lib.hid (of4_any nm C m d r wr.drew hm (srow_below hs HWD.out) (by rw [← hm]; exact hff))
      have HM := Lib.hid hm
      obtain ⟨c0, c1, c2⟩ := HC.out _ HB.out
      obtain ⟨d0, d1, d2⟩ := HC.out _ HWD.out
      have k0 : (0 : Int) ≤ (k : Int) := by omega
      have k1 : (k : Int) < (n : Int) := by omega
      clear hc ha hm hs hff hsn
      go_wp2_with fail
      go_region_held3 (fun w' => w'.cell? (ad.add (k * 3)) = some (.int .i64 kd) ∧ w'.cell? ⟨(ad.add (k * 3)).block, (ad.add (k * 3)).off + 1, none⟩ = some (.string ⟨nm.toArray⟩) ∧ w'.cell? ⟨(ad.add (k * 3)).block, (ad.add (k * 3)).off + 2, none⟩ = some (.slice C m d))
        (first
          | exact ⟨d0, d1, d2⟩
          | exact HC.out _ HZ2.out
          | exact HC.out _ HZA.out
          | exact HC.out _ HB5.out)
        (first
          | (refine Pg.step_app_pure sliceRQ zeroRQ_nob encQ_nob (by rfl) (.tmp 11) (.tmp 24) (by rfl) w.heap.size u3 ds [(kd, nm, C2, m, e2)] (by rfl) (qown_below HO.out HAL.out).1 (qown_below HO.out HAL.out).2.2 _ _ (by rfl) (Rg.news_new z2 _ _ _ (by rfl)) (Nat.zero_lt_succ _) HSZ.out (Nat.le_trans HB.out.size HAL.out.size) ?_; intro v5 W5 ho5 hp5 hg5 hz5; have HB5 : Hid (Below w.heap.size w W5) := (HB.out.trans (HAL.out.mono HB.out.size)).trans (Rg.grown_below (qown_below HO.out HAL.out).1 (Nat.le_trans HB.out.size HAL.out.size) hg5))
          | (go_at_call 38; refine HT.out.mono ?_; rintro _ z2 ⟨C2, e2, rfl, hr2, hb⟩; have HR2 := Lib.hid hr2; have HBZ : Hid (Below wr.heap.size wr z2) := HD.out.trans hb; have HZ2 : Hid (Below w.heap.size w z2) := HB.out.trans (HBZ.out.mono HB.out.size); have HAL : Hid (Below wr.heap.size wr (z2.alloc (.cells #[.int .i64 kd, .string ⟨nm.toArray⟩, .slice C2 m e2] 40))) := HBZ.out.alloc HBZ.out.size _; have HZA : Hid (Below w.heap.size w (z2.alloc (.cells #[.int .i64 kd, .string ⟨nm.toArray⟩, .slice C2 m e2] 40))) := HB.out.trans (HAL.out.mono HB.out.size); clear hb hr2))
      have HO5 : Hid (QOwn W5 w.heap.size 40 v5 (ds ++ [(kd, nm, C2, m, e2)]) (l.take (k + 1))) := by
        show QOwn _ _ _ _ _ _
        rw [HSN.out]
        exact qown_add (a := ⟨kd, nm, r⟩) (qown_below HO.out HAL.out) (srow_below HR2.out ((Below.refl _ _).alloc (Nat.le_refl _) _)) HM.out ho5 hp5 hg5
      clear ho5 hp5 hg5 hz5 HO HB
      go_wp2_with fail
      go_roundw
      case rel => exact ⟨k + 1, _, by omega, by go_num, HO5, HB5⟩
      case measure => simp [intOf]; omega
    · obtain rfl : k = n := by omega
      obtain ⟨C, d, hv, hrw, _⟩ := qown_row HO.out
      rw [List.take_of_length_le (by rw [HN.out]; exact Nat.le_refl _)] at hv hrw
      rw [HN.out] at hv
      subst hv
      have HRW := Lib.hid hrw
      clear hrw HO
      go_wp2_with fail
      go_ret
      exact ⟨C, d, rfl, HRW.out, HB.out⟩
/-- Are asks few, and small? -/
def Ak.fewQ (l : List Rq) : Bool := decide (l.length ≤ 40) && l.all (fun a => fewA a.atm)
theorem Ak.few_at {l : List Rq} {k : Nat} {R : Bool} (hk : k < l.length) (h : (l.drop k).all (fun a => fewA a.atm) = R) : (fewA l[k].atm = false → R = false) ∧ (fewA l[k].atm = true → (l.drop (k + 1)).all (fun a => fewA a.atm) = R) := by
  rw [List.drop_eq_getElem_cons hk, List.all_cons] at h
  exact ⟨fun e => by rw [e] at h; exact h.symm, fun e => by rw [e, Bool.true_and] at h; exact h⟩
theorem Ak.few_parts {name : List UInt8} {l : List Sp} (h : fewA ⟨name, l⟩ = true) : name.length ≤ 100 ∧ l.length ≤ 80 := by
  unfold fewA at h
  rw [Bool.and_eq_true, decide_eq_true_eq] at h
  exact ⟨h.1, few_len h.2⟩
/-- What Few leans on. -/
def Ak.QWd (l : List Rq) : Prop := ∀ a ∈ l, a.atm.name.length ≤ maxLen ∧ a.atm.rng.length ≤ maxLen ∧ Wide a.atm.rng
set_option maxRecDepth 100000 in
set_option maxHeartbeats 1600000 in
theorem few9_any (A : Option Addr) (n c : Nat) (l : List Rq) (w : World) (hw : MaxOk w) (hn : l.length = n) (hr : QRow w A l) (hf : QWd l) :
    Calls Tryz.prog 8 #[.slice A n c] w fun e w' => e = .returned (.bool (fewQ l)) ∧ Below w.heap.size w w' := by
  obtain ⟨R, hR⟩ : ∃ R, fewQ l = R := ⟨_, rfl⟩
  rw [hR]
  unfold fewQ at hR
  by_cases h40 : 40 < n
  · have d0 : decide ((40 : Int) < (n : Int)) = true := decide_eq_true (by omega)
    have HR : Hid (R = false) := by show _ = _; rw [← hR, decide_eq_false (by omega)]; rfl
    clear hR hr hf hn h40
    go_enter Tryz.func8, Tryz.ntmps8
    go_wp2_with fail
    go_ret
    exact ⟨by rw [HR.out]; rfl, Below.refl _ _⟩
  have d0 : decide ((40 : Int) < (n : Int)) = false := decide_eq_false (by omega)
  have HI0 : Hid ((l.drop 0).all (fun a => fewA a.atm) = R) := by show _ = _; rw [← hR, decide_eq_true (by omega), List.drop_zero]; rfl
  have HR := Lib.hid hr
  have HN := Lib.hid hn
  have HF := Lib.hid hf
  have HW := Lib.hid hw
  clear hR hr hf hn hw
  go_enter Tryz.func8, Tryz.ntmps8
  go_wp2_with fail
  clear d0
  go_loopw [3] (fun i wr => ∃ k : Nat, k ≤ n ∧ i = .int .i64 k ∧ Hid ((l.drop k).all (fun a => fewA a.atm) = R) ∧ Hid (Below w.heap.size w wr)) (fun i _ => n - (intOf i).toNat)
  case atStart => exact ⟨0, Nat.zero_le _, rfl, HI0.out, Below.refl _ _⟩
  case round =>
    obtain ⟨k, hk, rfl, HI, HB⟩ := hrel
    by_cases hlt : k < n
    · have hlr : k < l.length := by rw [HN.out]; exact hlt
      obtain ⟨ad, C, m, d, rfl, hm, hs, hc⟩ := qrow_at HR.out k hlr
      obtain ⟨c0, c1, c2⟩ := hc _ HB.out
      obtain ⟨f1, f2, f3⟩ := HF.out _ (List.getElem_mem hlr)
      obtain ⟨s1, s2⟩ := few_at hlr HI.out
      obtain ⟨a, ha⟩ : ∃ a, l[k] = a := ⟨_, rfl⟩
      rw [ha] at c0 c1 hm hs f1 f2 f3 s1 s2
      obtain ⟨kd, nm, r⟩ := a
      dsimp only at c0 c1 hm hs f1 f2 f3 s1 s2
      have HS : Hid (St w wr [⟨C, m, r⟩]) := ⟨HW.out, HB.out, fun x hx => by
        rw [List.mem_singleton.1 hx]; exact ⟨srow_below hs HB.out, hm⟩⟩
      have HC := Lib.hid (few4_any HS.out nm C m d r 0 rfl f1 (by rw [← hm]; exact f2) f3)
      obtain ⟨b, hb⟩ : ∃ b, fewA ⟨nm, r⟩ = b := ⟨_, rfl⟩
      rw [hb] at HC s1 s2
      have S1 := Lib.hid s1
      have S2 := Lib.hid s2
      clear hc ha hm hs f1 f2 f3 s1 s2 hb HI
      go_wp2_with fail
      refine HC.out.mono ?_
      rintro _ z ⟨rfl, hs⟩
      have HZ := Lib.hid hs.2.1
      clear hs HC c0 c1 c2
      cases b
      · have HRR := Lib.hid (S1.out rfl)
        go_wp2_with fail
        go_ret
        exact ⟨by rw [HRR.out]; rfl, HZ.out⟩
      · have HRR := Lib.hid (S2.out rfl)
        go_wp2_with fail
        go_roundw
        case rel => exact ⟨k + 1, by omega, by go_num, HRR, HZ⟩
        case measure => simp [intOf]; omega
    · obtain rfl : k = n := by omega
      have HRR : Hid (R = true) := by
        have := HI.out
        rw [List.drop_of_length_le (by rw [HN.out]; exact Nat.le_refl _)] at this
        exact this.symm
      go_wp2_with fail
      go_ret
      exact ⟨by rw [HRR.out]; rfl, HB.out⟩
end Go.Proofs.YtkdildgdodnbbaaGreatDoor
namespace Go.Proofs.YtkdildgdodnbbaaGreatDoor
open Go.ChangeShapes Go.WideShapes Go.RowKit Go.Joins Rs At Pg Ak
theorem Ak.str_of_trod {H : Type} {enc : TypeId × Value → H} {w : World} {base : Nat} {sp : Nat → Bool} {held : Bool} {fuel : Nat} {c : Value} {y : DataW H × List MemPlace}
    (h : DataW.trod enc Tryz.prog w base sp held fuel 9 [c] = some y) : ∃ s : ByteArray, c = .string s ∧ y = (.lit (.string s.data.toList), []) := by
  obtain ⟨s, hc, hy, _⟩ := DataW.trod_string Tryz.underlying9 h
  simp only [List.cons.injEq, and_true] at hc
  exact ⟨s, hc, hy⟩
theorem Ak.ba_of_list {s : ByteArray} {l : List UInt8} (h : s.data.toList = l) : s = ⟨l.toArray⟩ := by rw [← h, Lib.mk_data]
theorem Ak.wrd_of {W : World} {a b : DataW Unit} (h : laidMet Tryz.prog [("unicode/utf8.acceptRanges", a), ("manciple/ask.words", Rows.laid_manciple_ask_words), ("unicode/utf8.first", b)] W) : Wrd W := by
  have hgn : Tryz.prog.globalNamed "manciple/ask.words" = some 0 := by kernel_rfl
  have hgt : (Tryz.prog.globals[0]?).map (·.type) = some 104 := by kernel_rfl
  have hut : Tryz.prog.underlying 104 = some (.array 5 9) := by kernel_rfl
  have hct : Tryz.prog.cellsOf 104 = 5 := by kernel_rfl
  have hcs : Tryz.prog.cellsOf 9 = 1 := by kernel_rfl
  obtain ⟨ps, ⟨_, _, _, _, _, _, _, _, _, _, ⟨g, t, cs, fuel, p, q, hg, ht, hvar, hd, _, _⟩, _⟩, _⟩ := h
  obtain rfl := Option.some.inj (hgn.symm.trans hg)
  obtain rfl := Option.some.inj (hgt.symm.trans ht)
  have key : cs = #[.string ⟨#[]⟩, .string ⟨#[105, 110, 115, 116, 97, 108, 108]⟩, .string ⟨#[114, 101, 109, 111, 118, 101]⟩, .string ⟨#[117, 112, 103, 114, 97, 100, 101]⟩, .string ⟨#[112, 105, 110]⟩] := by
    obtain ⟨l⟩ := cs
    cases fuel with
    | zero => simp [DataW.trod] at hd
    | succ fuel =>
      simp only [DataW.trod, hut, hct, hcs] at hd
      split at hd
      · rename_i hl
        obtain ⟨c0, c1, c2, c3, c4, rfl⟩ : ∃ c0 c1 c2 c3 c4, l = [c0, c1, c2, c3, c4] := by
          match l, hl with
          | [a, b, c, d, e], _ => exact ⟨a, b, c, d, e, rfl⟩
        have e : List.range 5 = [0, 1, 2, 3, 4] := rfl
        rw [e] at hd
        simp only [Option.map_eq_some_iff, List.mapM_cons, List.mapM_nil, Option.bind_eq_bind, Option.bind_eq_some_iff, Option.pure_def, Option.some.injEq] at hd
        obtain ⟨xs, ⟨y0, h0, _, ⟨y1, h1, _, ⟨y2, h2, _, ⟨y3, h3, _, ⟨y4, h4, _, rfl, rfl⟩, rfl⟩, rfl⟩, rfl⟩, rfl⟩, hx⟩ := hd
        obtain ⟨n0, rfl, rfl⟩ := str_of_trod h0
        obtain ⟨n1, rfl, rfl⟩ := str_of_trod h1
        obtain ⟨n2, rfl, rfl⟩ := str_of_trod h2
        obtain ⟨n3, rfl, rfl⟩ := str_of_trod h3
        obtain ⟨n4, rfl, rfl⟩ := str_of_trod h4
        simp [Rows.laid_manciple_ask_words] at hx
        obtain ⟨⟨e0, e1, e2, e3, e4⟩, _⟩ := hx
        rw [ba_of_list (s := n0) (l := []) (by simp [e0]), ba_of_list e1, ba_of_list e2, ba_of_list e3, ba_of_list e4]
      · cases hd
  subst key
  have hc := fun i => World.var?_cell hgn hvar i
  exact ⟨hc 0, hc 1, hc 2, hc 3, hc 4⟩
theorem Ak.cell_inZ {w : World} {a : Addr} {v : Value} (h : w.cell? a = some v) : a.block < w.heap.size := by
  unfold World.cell? at h
  rcases Nat.lt_or_ge a.block w.heap.size with hl | hl
  · exact hl
  · rw [Array.getElem?_eq_none hl] at h; cases h
set_option maxHeartbeats 800000 in
theorem Ak.open_asks {H : Type} {enc : TypeId × Value → H} {P : Program} {W : World} {b0 : Nat} {tq eq ti ta t e ts tb : TypeId} {g0 g1 f0 f1 n0 n1 n2 n3 : Field} {v : Value} {d : DataW H} {ps : List MemPlace}
    (htq : P.underlying tq = some (.slice eq)) (heq : P.underlying eq = some (.struct #[g0, g1])) (hg0 : g0.type = ti ∧ g0.offset = 0) (hg1 : g1.type = ta ∧ g1.offset = 1) (hti : P.underlying ti = some (.int .i64)) (cti : P.cellsOf ti = 1) (ceq : P.cellsOf eq = 3)
    (hat : P.underlying ta = some (.struct #[f0, f1])) (hf0 : f0.type = ts ∧ f0.offset = 0) (hf1 : f1.type = t ∧ f1.offset = 1) (cta : P.cellsOf ta = 2) (ct : P.cellsOf t = 1)
    (ht : P.underlying t = some (.slice e)) (he : P.underlying e = some (.struct #[n0, n1, n2, n3])) (h0 : n0.type = ts ∧ n0.offset = 0) (h1 : n1.type = ts ∧ n1.offset = 1) (h2 : n2.type = tb ∧ n2.offset = 2) (h3 : n3.type = tb ∧ n3.offset = 3)
    (hs : P.underlying ts = some .string) (hb : P.underlying tb = some .bool) (cts : P.cellsOf ts = 1) (cb : P.cellsOf tb = 1) (ce : P.cellsOf e = 4)
    (hval : Value.okWide P W .any b0 tq v) (h : DataW.Trod enc P W 0 (fun _ => true) true tq v d ps) :
    ∃ (A : Option Addr) (c : Nat) (l : List Rq), v = .slice A l.length c ∧ QRow W A l ∧ QWd l := by
  obtain ⟨a0, l0, k0, rfl⟩ := okWide_slice htq hval
  obtain ⟨fuel, hf⟩ := h
  rcases Go.Deep.open_slice htq hf with ⟨hcs, _⟩ | ⟨a, len, cap, m, n, D, Pl, hcs, _, hl, _, hmm, _, hi⟩
  · simp [Value.cells] at hcs
    obtain ⟨rfl, rfl, rfl⟩ := hcs
    exact ⟨none, 0, [], rfl, qrow_nil _, fun a ha => absurd ha (by simp)⟩
  · simp [Value.cells] at hcs
    obtain ⟨rfl, rfl, rfl⟩ := hcs
    simp only [if_true] at hmm
    have each : ∀ i, i < l0 → ∃ x : QD × Rq, Rg.At encQ W (a.add (i * 3)) x.1 ∧ (a.add (i * 3)).block < W.heap.size ∧ (x.1.1 = x.2.kind ∧ x.1.2.1 = x.2.atm.name ∧ x.1.2.2.2.1 = x.2.atm.rng.length ∧ SRow W x.1.2.2.1 x.2.atm.rng) ∧ (x.2.atm.name.length ≤ maxLen ∧ x.2.atm.rng.length ≤ maxLen ∧ Wide x.2.atm.rng) := fun i hil => by
      obtain ⟨cs', hc, ht'⟩ := hi i (by omega)
      rw [ceq] at hc
      obtain ⟨y0, y1, m', _, hcl, q0, q1⟩ := trod_struct2 heq ht'
      rw [ceq] at hcl
      obtain ⟨v0, v1, v2, rfl⟩ : ∃ v0 v1 v2, cs' = [v0, v1, v2] := by
        match cs', hcl with
        | [a, b, c], _ => exact ⟨a, b, c, rfl⟩
      rw [hg0.1, hg0.2, cti] at q0
      rw [hg1.1, hg1.2, cta] at q1
      obtain ⟨z, e0, _, _⟩ := DataW.trod_int hti q0
      obtain ⟨z0, z1, m2, _, _, r0, r1⟩ := trod_struct2 hat q1
      rw [hf0.1, hf0.2, cts] at r0
      rw [hf1.1, hf1.2, ct] at r1
      obtain ⟨s, e1, _, m0⟩ := DataW.trod_string hs r0
      obtain ⟨A, c, l, e2, hr, hm, hw⟩ := open_spansC ht he h0 h1 h2 h3 hs hb cts cb ce r1
      have w0 : v0 = .int .i64 z := by simpa using e0
      have w1 : v1 = .string s := by simpa using e1
      have w2 : v2 = .slice A l.length c := by simpa using e2
      subst w0 w1 w2
      obtain ⟨_, _, hat'⟩ := World.cells?_some hc
      have c0 := hat' 0 (by omega)
      have ci := Ak.cell_inZ c0
      rw [Rs.add_block] at ci
      refine ⟨((z, s.data.toList, A, l.length, c), ⟨z, s.data.toList, l⟩), fun j u hu => ?_, ci, ⟨rfl, rfl, rfl, hr⟩, by rw [Array.length_toList]; exact m0, hm, hw⟩
      match j with
      | 0 => cases hu; rw [if_pos rfl]; exact c0
      | 1 => cases hu; exact hat' 1 (by omega)
      | 2 => cases hu; exact hat' 2 (by omega)
      | j + 3 => simp [encQ] at hu
    haveI : Inhabited (QD × Rq) := ⟨((0, [], none, 0, 0), ⟨0, ⟨[], []⟩⟩)⟩
    obtain ⟨f, hf2⟩ := Go.Deep.choose_lt each
    have hlen : ((List.range l0).map fun i => (f i).2).length = l0 := by simp
    have hlen1 : ((List.range l0).map fun i => (f i).1).length = l0 := by simp
    refine ⟨some a, k0, (List.range l0).map fun i => (f i).2, by rw [hlen], ⟨(List.range l0).map fun i => (f i).1, fun hp => ?_, by rw [hlen, hlen1], fun i x y hx hy => ?_⟩, fun x hx => ?_⟩
    · rw [hlen1] at hp
      refine ⟨a, rfl, ?_, fun i hi2 => ?_⟩
      · have := (hf2 0 hp).2.1
        rwa [Rs.add_block] at this
      · rw [hlen1] at hi2
        have := (hf2 i hi2).1
        simpa using this
    · obtain ⟨hi2, hx2⟩ := List.getElem?_eq_some_iff.1 hx
      obtain ⟨_, hy2⟩ := List.getElem?_eq_some_iff.1 hy
      rw [hlen1] at hi2
      have := (hf2 i hi2).2.2.1
      simp only [List.getElem_map, List.getElem_range] at hx2 hy2
      rw [← hx2, ← hy2]; exact this
    · obtain ⟨i, hi2, rfl⟩ := List.mem_map.1 hx
      exact (hf2 i (List.mem_range.1 hi2)).2.2.2
end Go.Proofs.YtkdildgdodnbbaaGreatDoor
