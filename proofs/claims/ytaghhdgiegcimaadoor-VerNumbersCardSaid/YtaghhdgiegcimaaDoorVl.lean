/- The reference's parts, CheckVer, Epoch, canon, Canon. -/
import Derived.Test.YtaghhdgiegcimaaDoorVk
namespace Go.Proofs.YtaghhdgiegcimaaDoor
open Go.RowKit

theorem place_yes (l : List UInt8) (c : UInt8) (w : World) (hm : l.length ≤ 1000) (h : Vm.has c l = true) :
    Calls Tryd.prog 67 #[.string ⟨l.toArray⟩, .int .u8 c.toNat] w fun e w' => e = .returned (.int .i64 (Vm.fst c l).length) ∧ w = w' := by
  have := place_any l c w hm; rw [place, if_pos h] at this; exact this
theorem place_no (l : List UInt8) (c : UInt8) (w : World) (hm : l.length ≤ 1000) (h : Vm.has c l = false) :
    Calls Tryd.prog 67 #[.string ⟨l.toArray⟩, .int .u8 c.toNat] w fun e w' => e = .returned (.int .i64 (-1)) ∧ w = w' := by
  have := place_any l c w hm; rw [place, if_neg (by rw [h]; simp)] at this; exact this
theorem cut_texts (l : List UInt8) (c : UInt8) (h : Vm.has c l = true) : (Vm.fst c l).length < l.length ∧ (⟨l.toArray⟩ : ByteArray).extract 0 (Vm.fst c l).length = ⟨(Vm.fst c l).toArray⟩ ∧ (⟨l.toArray⟩ : ByteArray).extract ((Vm.fst c l).length + 1) l.length = ⟨(Vm.snd c l).toArray⟩ := by
  refine ⟨(has_iff l c).1 h, ?_, ?_⟩
  · rw [extract_to, show l.take (Vm.fst c l).length = Vm.fst c l from tw_take _ l]
  · rw [extract_from, ← List.drop_drop]
    unfold Vm.snd Vm.fst
    rw [tw_drop]
/-- The reference's pieces: "" for a missing one. -/
def epR (l : List UInt8) : List UInt8 := if Vm.has 58 l then Vm.fst 58 l else []
def rvR (l : List UInt8) : List UInt8 := if Vm.has 45 (Vm.rest l) then Vm.snd 45 (Vm.rest l) else []
/-- How parts ends: the pieces of a version; else whatever pieces, and false. -/
def PartsRet (l : List UInt8) (e : Ending) (w w' : World) : Prop :=
  if Vm.verOk l then e = .returned (.tuple #[.string ⟨(epR l).toArray⟩, .string ⟨(Vm.pt l).toArray⟩, .string ⟨(rvR l).toArray⟩, .bool true]) ∧ w = w'
  else ∃ a b c, e = .returned (.tuple #[.string a, .string b, .string c, .bool false]) ∧ w = w'
theorem partsRet_no {l : List UInt8} {e : Ending} {w : World} (h : Vm.verOk l = false) (a b c : ByteArray) (he : e = .returned (.tuple #[.string a, .string b, .string c, .bool false])) : PartsRet l e w w := by
  rw [PartsRet, h]; exact ⟨a, b, c, he, rfl⟩
theorem partsRet_yes {l : List UInt8} {e : Ending} {w : World} (h : Vm.verOk l = true) (he : e = .returned (.tuple #[.string ⟨(epR l).toArray⟩, .string ⟨(Vm.pt l).toArray⟩, .string ⟨(rvR l).toArray⟩, .bool true])) : PartsRet l e w w := by
  rw [PartsRet, h]; exact ⟨he, rfl⟩
theorem part48 : Vm.partOk [48] = true := by decide
theorem ep48 : Vm.epOk [48] = true := by decide
theorem verOksplit (l r : List UInt8) (hr : Vm.rest l = r) : Vm.verOk l = (Vm.epOk (Vm.ep l) && (Vm.partOk (Vm.fst 45 r) && Vm.partOk (if Vm.has 45 r then Vm.snd 45 r else [48]))) := by
  unfold Vm.verOk Vm.pt Vm.rv; rw [hr]
theorem rvRsplit (l r : List UInt8) (hr : Vm.rest l = r) : rvR l = if Vm.has 45 r then Vm.snd 45 r else [] := by unfold rvR; rw [hr]
theorem ptsplit (l r : List UInt8) (hr : Vm.rest l = r) : Vm.pt l = Vm.fst 45 r := by unfold Vm.pt; rw [hr]

set_option maxHeartbeats 2000000 in
theorem parts_any (l : List UInt8) (w : World) (hm : l.length ≤ 40) :
    Calls Tryd.prog 48 #[.string ⟨l.toArray⟩] w fun e w' => PartsRet l e w w' := by
  have hnot : ∀ (x : Bool) (w : World), (Op.unary .not (.bool x)).run Tryd.prog w = .ok (.bool (!x)) w := fun _ _ => rfl
  cases h1 : Vm.has 58 l
  · have HR : Hid (Vm.rest l = l) := by show _ = _; rw [Vm.rest, h1]; rfl
    have HE : Hid (Vm.epOk (Vm.ep l) = true) := by show _ = _; rw [Vm.ep, h1]; rfl
    have HER : Hid (epR l = []) := by show _ = _; rw [epR, h1]; rfl
    have H1 := Lib.hid h1
    clear h1
    go_enter Tryd.func48, Tryd.ntmps48
    go_wp2_with fail
    refine (place_no l 58 _ (by omega) H1.out).mono ?_
    rintro _ w2 ⟨rfl, rfl⟩
    cases h2 : Vm.has 45 l
    · have HV : Hid (Vm.verOk l = (true && Vm.partOk l)) := by show _ = _; rw [verOksplit l l HR.out, h2, fst_no _ _ h2, HE.out, if_neg (by simp), part48, Bool.and_true]
      have HQ : Hid (rvR l = []) := by show _ = _; rw [rvRsplit l l HR.out, h2]; rfl
      have HPt : Hid (Vm.pt l = l) := by show _ = _; rw [ptsplit l l HR.out, fst_no _ _ h2]
      have H2 := Lib.hid h2
      clear h2
      go_wp2_with fail
      refine (place_no l 45 _ (by omega) H2.out).mono ?_
      rintro _ w2 ⟨rfl, rfl⟩
      go_wp2_with fail
      refine (refPart_any l _ (by omega)).mono ?_
      rintro _ w2 ⟨rfl, rfl⟩
      cases hp : Vm.partOk l
      · have HP := Lib.hid hp
        clear hp
        go_wp2_with fail
        refine bodyPost_ret (v := .tuple #[.string ⟨#[]⟩, .string ⟨l.toArray⟩, .string ⟨#[]⟩, .bool false]) (by simp [results, Tryd.results48, go_sem]) rfl ?_
        exact partsRet_no (by rw [HV.out, HP.out, Bool.and_false]) _ _ _ rfl
      · have HP := Lib.hid hp
        clear hp
        go_wp2_with fail
        refine bodyPost_ret (v := .tuple #[.string ⟨#[]⟩, .string ⟨l.toArray⟩, .string ⟨#[]⟩, .bool true]) (by simp [results, Tryd.results48, go_sem]) rfl ?_
        exact partsRet_yes (by rw [HV.out, HP.out]; rfl) (by rw [HQ.out, HPt.out, HER.out])
    · have HV : Hid (Vm.verOk l = (true && (Vm.partOk (Vm.fst 45 l) && Vm.partOk (Vm.snd 45 l)))) := by show _ = _; rw [verOksplit l l HR.out, h2, HE.out, if_pos rfl]
      have HQ : Hid (rvR l = Vm.snd 45 l) := by show _ = _; rw [rvRsplit l l HR.out, h2]; rfl
      have HPt : Hid (Vm.pt l = Vm.fst 45 l) := by show _ = _; rw [ptsplit l l HR.out]
      have H2 := Lib.hid h2
      have lf := fst_le l 45
      have ls := snd_le 45 l
      obtain ⟨c1, c2, c3⟩ := cut_texts l 45 h2
      clear h2
      go_wp2_with fail
      refine (place_yes l 45 _ (by omega) H2.out).mono ?_
      rintro _ w2 ⟨rfl, rfl⟩
      obtain ⟨n2, hn2⟩ : ∃ n, (Vm.fst 45 l).length = n := ⟨_, rfl⟩
      rw [hn2] at c1 c2 c3 lf
      rw [hn2]
      obtain ⟨p, hp⟩ : ∃ p, Vm.fst 45 l = p := ⟨_, rfl⟩
      obtain ⟨q, hq⟩ : ∃ q, Vm.snd 45 l = q := ⟨_, rfl⟩
      rw [hp] at c2 HV HPt hn2
      rw [hq] at c3 HV HQ ls
      have lp : p.length ≤ l.length := by omega
      clear hp hq hn2
      go_wp2_with fail
      refine (refPart_any q _ (by omega)).mono ?_
      rintro _ w2 ⟨rfl, rfl⟩
      cases hq : Vm.partOk q
      · have HPq := Lib.hid hq
        clear hq
        go_wp2_with fail
        refine bodyPost_ret (v := .tuple #[.string ⟨#[]⟩, .string ⟨#[]⟩, .string ⟨#[]⟩, .bool false]) (by simp [results, Tryd.results48, go_sem]) rfl ?_
        exact partsRet_no (by rw [HV.out, HPq.out, Bool.and_false, Bool.and_false]) _ _ _ rfl
      · have HPq := Lib.hid hq
        clear hq
        go_wp2_with fail
        refine (refPart_any p _ (by omega)).mono ?_
        rintro _ w2 ⟨rfl, rfl⟩
        cases hp : Vm.partOk p
        · have HP := Lib.hid hp
          clear hp
          go_wp2_with fail
          refine bodyPost_ret (v := .tuple #[.string ⟨#[]⟩, .string ⟨p.toArray⟩, .string ⟨q.toArray⟩, .bool false]) (by simp [results, Tryd.results48, go_sem]) rfl ?_
          exact partsRet_no (by rw [HV.out, HP.out, Bool.false_and, Bool.and_false]) _ _ _ rfl
        · have HP := Lib.hid hp
          clear hp
          go_wp2_with fail
          refine bodyPost_ret (v := .tuple #[.string ⟨#[]⟩, .string ⟨p.toArray⟩, .string ⟨q.toArray⟩, .bool true]) (by simp [results, Tryd.results48, go_sem]) rfl ?_
          exact partsRet_yes (by rw [HV.out, HP.out, HPq.out]; rfl) (by rw [HQ.out, HPt.out, HER.out])
  · have HR0 : Vm.rest l = Vm.snd 58 l := by rw [Vm.rest, h1]; rfl
    have HE0 : Vm.ep l = Vm.fst 58 l := by rw [Vm.ep, h1]; rfl
    have HER0 : epR l = Vm.fst 58 l := by rw [epR, h1]; rfl
    have lf := fst_le l 58
    have ls := snd_le 58 l
    obtain ⟨c1, c2, c3⟩ := cut_texts l 58 h1
    have H1 := Lib.hid h1
    clear h1
    go_enter Tryd.func48, Tryd.ntmps48
    go_wp2_with fail
    refine (place_yes l 58 _ (by omega) H1.out).mono ?_
    rintro _ w2 ⟨rfl, rfl⟩
    obtain ⟨n1, hn1⟩ : ∃ n, (Vm.fst 58 l).length = n := ⟨_, rfl⟩
    rw [hn1] at c1 c2 c3 lf
    rw [hn1]
    obtain ⟨e, he⟩ : ∃ e, Vm.fst 58 l = e := ⟨_, rfl⟩
    obtain ⟨r, hr⟩ : ∃ r, Vm.snd 58 l = r := ⟨_, rfl⟩
    rw [he] at c2 hn1 HE0 HER0
    rw [hr] at c3 HR0 ls
    have le : e.length ≤ 40 := by omega
    have HR := Lib.hid HR0
    have HER := Lib.hid HER0
    have HE1 : Hid (Vm.epOk (Vm.ep l) = Vm.epOk e) := by show _ = _; rw [HE0]
    have HNO : Hid (Vm.epOk e = false → Vm.verOk l = false) := fun h => by rw [Vm.verOk, HE0, h]; rfl
    clear he hr hn1 HR0 HE0 HER0
    by_cases g1 : e.length < 1
    · have e0 : Hid (Vm.epOk e = false) := by
        have : e = [] := List.eq_nil_of_length_eq_zero (by omega)
        subst this; rfl
      go_wp2_with fail
      refine bodyPost_ret (v := .tuple #[.string ⟨#[]⟩, .string ⟨#[]⟩, .string ⟨#[]⟩, .bool false]) (by simp [results, Tryd.results48, go_sem]) rfl ?_
      exact partsRet_no (HNO.out e0.out) _ _ _ rfl
    · by_cases g2 : 6 < e.length
      · have e0 : Hid (Vm.epOk e = false) := by show _ = _; rw [epOk_cons e (by omega)]; simp; omega
        go_wp2_with fail
        refine bodyPost_ret (v := .tuple #[.string ⟨#[]⟩, .string ⟨#[]⟩, .string ⟨#[]⟩, .bool false]) (by simp [results, Tryd.results48, go_sem]) rfl ?_
        exact partsRet_no (HNO.out e0.out) _ _ _ rfl
      · have HEA : Hid (Vm.epOk e = e.all Vm.dig) := by show _ = _; rw [epOk_cons e (by omega)]; simp; omega
        go_wp2_with fail
        go_loop [8] (fun i => ∃ k : Nat, k ≤ e.length ∧ i = .int .i64 k ∧ Hid ((e.take k).all Vm.dig = true)) (fun i => e.length - (intOf i).toNat)
        case atStart => exact ⟨0, Nat.zero_le _, rfl, rfl⟩
        case round =>
          obtain ⟨k, hk, rfl, hall⟩ := hrel
          by_cases hlt : k < e.length
          · obtain ⟨c, hc, hc'⟩ := byte_at e k hlt
            have HS := Lib.hid (all_snoc e Vm.dig k hlt)
            rw [hc'] at HS
            have HF : Vm.dig c = false → e.all Vm.dig = false := fun h => all_false_of e _ k hlt (by rw [hc']; exact h)
            have HF' := Lib.hid HF
            clear hc' HF
            go_wp2_with fail
            refine (refDigit_any c _).mono ?_
            rintro _ w2 ⟨rfl, rfl⟩
            cases hd3 : Vm.dig c
            · have HD3 := Lib.hid hd3
              clear hd3
              go_wp2_with fail
              refine bodyPost_ret (v := .tuple #[.string ⟨#[]⟩, .string ⟨#[]⟩, .string ⟨#[]⟩, .bool false]) (by simp [results, Tryd.results48, go_sem]) rfl ?_
              exact partsRet_no (HNO.out (by rw [HEA.out, HF'.out HD3.out])) _ _ _ rfl
            · have HD3 := Lib.hid hd3
              clear hd3
              go_wp2_with fail
              go_round
              case rel => exact ⟨k + 1, by omega, by go_num, by show _ = _; rw [HS.out, hall.out, HD3.out]; rfl⟩
              case measure => simp [intOf]; omega
          · obtain rfl : k = e.length := by omega
            have hall2 : e.all Vm.dig = true := by have := hall.out; rwa [List.take_length] at this
            have HE : Hid (Vm.epOk (Vm.ep l) = true) := by show _ = _; rw [HE1.out, HEA.out, hall2]
            clear hall hall2
            cases h2 : Vm.has 45 r
            · have HV : Hid (Vm.verOk l = (true && Vm.partOk r)) := by show _ = _; rw [verOksplit l r HR.out, h2, fst_no _ _ h2, HE.out, if_neg (by simp), part48, Bool.and_true]
              have HQ : Hid (rvR l = []) := by show _ = _; rw [rvRsplit l r HR.out, h2]; rfl
              have HPt : Hid (Vm.pt l = r) := by show _ = _; rw [ptsplit l r HR.out, fst_no _ _ h2]
              have H2 := Lib.hid h2
              clear h2
              go_wp2_with fail
              refine (place_no r 45 _ (by omega) H2.out).mono ?_
              rintro _ w2 ⟨rfl, rfl⟩
              go_wp2_with fail
              refine (refPart_any r _ (by omega)).mono ?_
              rintro _ w2 ⟨rfl, rfl⟩
              cases hp : Vm.partOk r
              · have HP := Lib.hid hp
                clear hp
                go_wp2_with fail
                refine bodyPost_ret (v := .tuple #[.string ⟨e.toArray⟩, .string ⟨r.toArray⟩, .string ⟨#[]⟩, .bool false]) (by simp [results, Tryd.results48, go_sem]) rfl ?_
                exact partsRet_no (by rw [HV.out, HP.out, Bool.and_false]) _ _ _ rfl
              · have HP := Lib.hid hp
                clear hp
                go_wp2_with fail
                refine bodyPost_ret (v := .tuple #[.string ⟨e.toArray⟩, .string ⟨r.toArray⟩, .string ⟨#[]⟩, .bool true]) (by simp [results, Tryd.results48, go_sem]) rfl ?_
                exact partsRet_yes (by rw [HV.out, HP.out]; rfl) (by rw [HQ.out, HPt.out, HER.out])
            · have HV : Hid (Vm.verOk l = (true && (Vm.partOk (Vm.fst 45 r) && Vm.partOk (Vm.snd 45 r)))) := by show _ = _; rw [verOksplit l r HR.out, h2, HE.out, if_pos rfl]
              have HQ : Hid (rvR l = Vm.snd 45 r) := by show _ = _; rw [rvRsplit l r HR.out, h2]; rfl
              have HPt : Hid (Vm.pt l = Vm.fst 45 r) := by show _ = _; rw [ptsplit l r HR.out]
              have H2 := Lib.hid h2
              have lf := fst_le r 45
              have ls := snd_le 45 r
              obtain ⟨c1, c2, c3⟩ := cut_texts r 45 h2
              clear h2
              go_wp2_with fail
              refine (place_yes r 45 _ (by omega) H2.out).mono ?_
              rintro _ w2 ⟨rfl, rfl⟩
              obtain ⟨n2, hn2⟩ : ∃ n, (Vm.fst 45 r).length = n := ⟨_, rfl⟩
              rw [hn2] at c1 c2 c3 lf
              rw [hn2]
              obtain ⟨p, hp⟩ : ∃ p, Vm.fst 45 r = p := ⟨_, rfl⟩
              obtain ⟨q, hq⟩ : ∃ q, Vm.snd 45 r = q := ⟨_, rfl⟩
              rw [hp] at c2 HV HPt hn2
              rw [hq] at c3 HV HQ ls
              have lp : p.length ≤ r.length := by omega
              clear hp hq hn2
              go_wp2_with fail
              refine (refPart_any q _ (by omega)).mono ?_
              rintro _ w2 ⟨rfl, rfl⟩
              cases hq : Vm.partOk q
              · have HPq := Lib.hid hq
                clear hq
                go_wp2_with fail
                refine bodyPost_ret (v := .tuple #[.string ⟨#[]⟩, .string ⟨#[]⟩, .string ⟨#[]⟩, .bool false]) (by simp [results, Tryd.results48, go_sem]) rfl ?_
                exact partsRet_no (by rw [HV.out, HPq.out, Bool.and_false, Bool.and_false]) _ _ _ rfl
              · have HPq := Lib.hid hq
                clear hq
                go_wp2_with fail
                refine (refPart_any p _ (by omega)).mono ?_
                rintro _ w2 ⟨rfl, rfl⟩
                cases hp : Vm.partOk p
                · have HP := Lib.hid hp
                  clear hp
                  go_wp2_with fail
                  refine bodyPost_ret (v := .tuple #[.string ⟨e.toArray⟩, .string ⟨p.toArray⟩, .string ⟨q.toArray⟩, .bool false]) (by simp [results, Tryd.results48, go_sem]) rfl ?_
                  exact partsRet_no (by rw [HV.out, HP.out, Bool.false_and, Bool.and_false]) _ _ _ rfl
                · have HP := Lib.hid hp
                  clear hp
                  go_wp2_with fail
                  refine bodyPost_ret (v := .tuple #[.string ⟨e.toArray⟩, .string ⟨p.toArray⟩, .string ⟨q.toArray⟩, .bool true]) (by simp [results, Tryd.results48, go_sem]) rfl ?_
                  exact partsRet_yes (by rw [HV.out, HP.out, HPq.out]; rfl) (by rw [HQ.out, HPt.out, HER.out])
end Go.Proofs.YtaghhdgiegcimaaDoor
