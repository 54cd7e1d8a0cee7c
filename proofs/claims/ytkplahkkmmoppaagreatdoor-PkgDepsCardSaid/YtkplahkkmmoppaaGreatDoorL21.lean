/- Part 21 of what the laws lean on. -/
import Derived.Test.YtkplahkkmmoppaaGreatDoorL20
set_option maxRecDepth 100000
set_option maxHeartbeats 3200000
namespace Go.Proofs.YtkplahkkmmoppaaGreatDoor
open Go.RowKit Go.Maps Sz
attribute [local go_sem ↓] Go.wp_at_zero Go.wp_at_succ
def Sz.ReadRet (w : World) (R : Int × Int × List (List Fld)) (e : Ending) (w' : World) : Prop :=
 Below w.heap.size w w'∧if R.1=0 then ∃ A c ds,e = .returned (.slice A R.2.2.length c)∧Rg.Row encO 1 w' A ds∧Gr.In encF 3 w' ds R.2.2∧∀ x ∈ ds,x.2.1≤x.2.2 else e=panAt R.2.1 R.1
def Sz.KeysOk (w : World) (B : Nat) (v2 : Value) (last : List Fld) : Prop:=last = [] ∨ ∃ m,v2 = .map (some m)∧B≤m∧KSet w m (last.map Fld.key)
theorem Sz.readRet_bad {w w' : World} {k n : Int} {l : List (List Fld)} (hk : k ≠ 0) (hb : Below w.heap.size w w') : ReadRet w (k,n,l) (panAt n k) w':=⟨hb,by show if k=0 then _ else _;rw [if_neg hk]⟩
theorem Sz.hasK_eq (l : List Fld) (k : List UInt8) : hasK l k=(l.map Fld.key).contains k:=by
 induction l with
 | nil=>rfl
 | cons f l ih =>
  rw [List.map_cons,List.contains_cons,← ih]
  show (f.key == k || _)=_
  rw [show (f.key == k)=(k == f.key) by rw [Bool.eq_iff_iff,beq_iff_eq,beq_iff_eq];exact eq_comm];rfl
theorem Sz.key_len {k : List UInt8} (h : keyB k=true) : k.length≤1000000:=by
 unfold keyB at h
 rw [Bool.and_eq_true,Bool.and_eq_true,decide_eq_true_eq] at h
 omega
theorem parseIn_some (s : List UInt8) (w : World) (hw : MaxOk w) (hs : s.length≤65536) (h0 : s ≠ []) (h1 : Lib.hasSuffix s [10]=true) :
  Calls Tryz.prog 86 #[.string ⟨s.toArray⟩] w (Sz.ReadRet w (readL 0 (linesL s) [] [])):=by
 obtain ⟨R,hR⟩ : ∃ R,readL 0 (linesL s) [] []=R:=⟨_,rfl⟩
 rw [hR]
 obtain ⟨W1,hW1⟩ : ∃ W,w.alloc (.cells #[.slice none 0 0,.slice none 0 0,.map none] 197)=W:=⟨_,rfl⟩
 have HB1 : Hid (Below w.heap.size w W1):=alloc_low hW1
 have HD1 : Hid (∀ B,DrO W1 B w.heap.size (.slice none 0 0) (.slice none 0 0) (.map none) [] [] []):=fun B=>by rw [← hW1];exact dro_new
 have HLN:=Lib.hid (linesOf_any s W1 (maxOk_below hw HB1.out) (by omega))
 have HM1 : Hid (MaxOk W1):=maxOk_below hw HB1.out
 have HR:=Lib.hid hR
 have HMW:=Lib.hid hw
 have dl : decide ((s.length : Int)≤65536)=true:=decide_eq_true (by omega)
 have HSL:=Lib.hid hs
 have hne : (s == [])=false:=beq_eq_false_iff_ne.2 h0
 have hse : decide (s.length=0)=false:=decide_eq_false (fun e=>h0 (List.length_eq_zero_iff.1 e))
 have HSF:=Lib.hid h1
 clear h1 h0
 clear hw hR hs
 go_enter Tryz.func86,Tryz.ntmps86
 go_wp2_with fail
 refine (require_yes _).mono ?_
 rintro _ z ⟨rfl,rfl⟩
 go_wp2_with fail
 refine (Tryz.strings_HasSuffix ⟨s.toArray⟩ ⟨#[10]⟩ _ (by show s.length≤_;have:=HSL.out;omega)).mono ?_
 rintro _ z ⟨rfl,hz⟩
 obtain rfl:=hz.symm
 clear hz
 rw [show Lib.hasSuffix (⟨s.toArray⟩ : ByteArray).data.toList (⟨#[10]⟩ : ByteArray).data.toList=true from HSF.out]
 go_wp2_with fail
 refine (require_yes _).mono ?_
 rintro _ z ⟨rfl,rfl⟩
 go_wp2_with fail
 clear hW1
 refine HLN.out.mono ?_
 rintro _ u ⟨A,n,c,rfl,hn,hnl,hrow,hb⟩
 obtain ⟨D,hD⟩ : ∃ D,w.heap.size=D:=⟨_,rfl⟩
 have HD:=Lib.hid hD
 have HDu : Hid (DrO u u.heap.size D (.slice none 0 0) (.slice none 0 0) (.map none) [] [] []):=by show DrO _ _ _ _ _ _ _ _ _;rw [← hD];exact dro_below (HD1.out _) hb
 have HN:=Lib.hid hn
 have HNL:=Lib.hid hnl
 have HROW:=Lib.hid hrow
 have HBu : Hid (Below D w u∧w.heap.size≤u.heap.size):=⟨by rw [← hD];exact HB1.out.trans (hb.mono HB1.out.size),Nat.le_trans HB1.out.size hb.size⟩
 have HMu : Hid (MaxOk u):=maxOk_below HM1.out hb
 rw [hD]
 clear hn hrow hb dl hnl hD HLN HD1 HB1
 go_wp2_with fail
 go_loopw [22] (fun i wr=>∃ (k : Nat) (acc : List (List Fld)) (last : List Fld) (ds : List Desc) (v0 v1 v2 : Value),i = .int .i64 k∧k≤n∧Hid (DrO wr u.heap.size D v0 v1 v2 ds acc last)∧Hid (KeysOk wr u.heap.size v2 last)∧Hid (readL k ((linesL s).drop k) acc last=R)∧Hid (Keeps u.heap.size D u wr∧u.heap.size≤wr.heap.size)∧Hid (ds.length + last.length≤k)) (fun i _=>n - (intOf i).toNat)
 case atStart=>exact ⟨0,[],[],[],_,_,_,rfl,Nat.zero_le _,HDu,Or.inl rfl,HR,⟨keeps_of (Below.refl _ _),Nat.le_refl _⟩,Nat.zero_le _⟩
 case round =>
  obtain ⟨k,acc,last,ds,v0,v1,v2,rfl,hk,HDR,HKO,HRD,HKP,HLE⟩:=hrel
  by_cases hlt : k < n
  ·have hlr : k < (linesL s).length:=by rw [HN.out];exact hlt
   obtain ⟨ad,hA,hblk,hcell⟩:=Sz.txt_at HROW.out k hlr
   subst hA
   have hnd : ad.block ≠ D:=by
    have:=draft_no_text HDu.out (fun x h=>by cases h) (fun x h=>by cases h) (fun x h=>by cases h) hcell
    rwa [Rs.add_block] at this
   have cw:=(keeps_cell HKP.out.1 (a:=ad.add k) (by rw [Rs.add_block];exact hblk) (by rw [Rs.add_block];exact hnd)).trans hcell
   have HLL : Hid ((linesL s)[k].length≤65536):=Nat.le_trans (line_le (List.getElem_mem hlr)) HSL.out
   have hrd:=HRD.out
   rw [List.drop_eq_getElem_cons hlr] at hrd
   have hrl : ((linesL s).drop (k + 1)).length=n - (k + 1):=by rw [List.length_drop,HN.out]
   obtain ⟨rest,hrest⟩ : ∃ x,(linesL s).drop (k + 1)=x:=⟨_,rfl⟩
   obtain ⟨ln,hln⟩ : ∃ x,(linesL s)[k]=x:=⟨_,rfl⟩
   rw [hln] at cw hrd HLL
   rw [hrest] at hrd hrl
   have HRS:=Lib.hid hrest
   have HRLN:=Lib.hid hrl
   have ik : (k : Int) < (n : Int):=by omega
   have hkw : IntKind.i64.wrap ((k : Int) + 1)=(k : Int) + 1:=IntWalk.i64_in _ (by have:=HNL.out;have:=HSL.out;omega)
   have hnw : IntKind.i64.wrap ((n : Int) - 1)=(n : Int) - 1:=IntWalk.i64_in _ (by have:=HNL.out;have:=HSL.out;omega)
   obtain ⟨A1,c1,hv1,_,_,_⟩:=Rg.row_own fitsF HDR.out.2.2.2.2.2.1
   obtain ⟨q,hq⟩ : ∃ q,last.length=q:=⟨_,rfl⟩
   rw [hq] at hv1
   subst hv1
   obtain ⟨e0,e1,e2,_,_,_⟩:=dro_cells HDR.out
   have HQ:=Lib.hid hq
   have HBR : Hid (Below D w wr):=HBu.out.1.trans (keeps_low HKP.out.1 (Nat.le_trans (by rw [HD.out];exact Nat.le_refl _) HBu.out.2))
   clear hcell hblk hnd hrest hln hrl hq
   by_cases hle : ln = []
   ·subst hle
    have hrd2 : (if (last.isEmpty || rest.isEmpty) then (2,(k : Int),[]) else readL (k + 1) rest (acc ++ [last]) [])=R:=hrd
    by_cases hgo : 0 < q∧k + 1 < n
    ·have i1 : (0 : Int) < (q : Int):=by omega
     have i2 : (k : Int) < (n : Int) - 1:=by omega
     have HR2 : Hid (readL (k + 1) rest (acc ++ [last]) []=R):=by
      show _=_
      rw [if_neg] at hrd2
      ·exact hrd2
      ·cases last with
       | nil=>have:=HQ.out;simp at this;omega
       | cons x l=>cases rest with
        | nil=>have:=HRLN.out;simp at this;omega
        | cons y r=>simp
     have HQ1:=Lib.hid hgo
     clear hgo hrd hrd2
     go_wp2_with fail
     refine (requireAt_yes _).mono ?_
     rintro _ z ⟨rfl,rfl⟩
     go_wp2_with fail
     refine (draftEnd_any HDR.out (by have:=HLE.out;have:=HNL.out;have:=HSL.out;omega) HKP.out.2).mono ?_
     rintro _ z ⟨rfl,hkp,hsz,u0,u1,ds2,hd2⟩
     have hln0 : last ≠ []:=fun e=>by have:=HQ.out;rw [e] at this;simp at this;have:=HQ1.out;omega
     rw [if_neg hln0] at hd2
     have HD2:=Lib.hid hd2
     have HK2 : Hid (Keeps u.heap.size D u z∧u.heap.size≤z.heap.size):=⟨keeps_trans HKP.out.1 hkp,Nat.le_trans HKP.out.2 hsz⟩
     have HL2 : Hid (ds2.length + ([] : List Fld).length≤k + 1):=by
      have h1:=hd2.2.2.2.1.1
      have h2:=HDR.out.2.2.2.1.1
      rw [List.length_append] at h1
      have h3:=HLE.out
      have h4:=HQ.out
      have h5:=HQ1.out
      show ds2.length + 0≤k + 1
      simp at h1
      omega
     clear hkp hsz hd2 hln0
     go_wp2_with fail
     go_roundw
     case rel=>exact ⟨k + 1,acc ++ [last],[],ds2,_,_,_,by go_num,by omega,HD2,Or.inl rfl,by show readL _ _ _ _=R;rw [HRS.out];exact HR2.out,HK2,HL2⟩
     case measure=>simp [intOf];omega
    ·have HRE : Hid (R=(2,(k : Int),[])):=by
      show _=_
      rw [← hrd2,if_pos]
      cases last with
      | nil=>rfl
      | cons x l=>cases rest with
       | nil=>simp
       | cons y r =>
        have h1:=HQ.out
        have h2:=HRLN.out
        simp at h1 h2
        omega
     clear hrd hrd2
     by_cases hq0 : 0 < q
     ·have i1 : (0 : Int) < (q : Int):=by omega
      have i2 : ¬ (k : Int) < (n : Int) - 1:=by omega
      clear hgo hq0
      go_wp2_with fail
      refine (requireAt_no _).mono ?_
      rintro _ z ⟨rfl,rfl⟩
      go_wp2_with fail
      exact ⟨rfl,by show ReadRet w R _ _;rw [HRE.out];exact readRet_bad (by decide) (by rw [HD.out];exact HBR.out)⟩
     ·have i1 : ¬ (0 : Int) < (q : Int):=by omega
      clear hgo hq0
      go_wp2_with fail
      refine (requireAt_no _).mono ?_
      rintro _ z ⟨rfl,rfl⟩
      go_wp2_with fail
      exact ⟨rfl,by show ReadRet w R _ _;rw [HRE.out];exact readRet_bad (by decide) (by rw [HD.out];exact HBR.out)⟩
   ·have hrd2 : (match Sz.fieldP ln (k : Int) with | none=>((2 : Int),(k : Int),([] : List (List Fld))) | some f=>if hasK last f.key then (6,(k : Int),[]) else readL (k + 1) rest acc (last ++ [f]))=R:=by
     cases ln with
     | nil=>exact absurd rfl hle
     | cons x t=>exact hrd
    have lne : (ln == [])=false:=beq_eq_false_iff_ne.2 hle
    have hfo:=fieldOf_any ln (k : Int) wr (maxOk_below HMW.out (by rw [HD.out];exact HBR.out)) (Nat.le_trans HLL.out (by decide))
    have hfb:=@Sz.field_back ln (k : Int)
    obtain ⟨F,hF⟩ : ∃ F,Sz.fieldP ln (k : Int)=F:=⟨_,rfl⟩
    rw [hF] at hrd2 hfo hfb
    have HFO:=Lib.hid hfo
    cases F with
    | none =>
     have HRE : Hid (R=(2,(k : Int),[])):=hrd2.symm
     clear hrd hrd2 hfo hfb hF hle
     go_wp2_with fail
     refine HFO.out.mono ?_
     rintro e z ⟨hb,he⟩
     have HBZ : Hid (Below D w z):=HBR.out.trans (hb.mono (Nat.le_trans (by rw [← HD.out];exact HBu.out.2) HKP.out.2))
     have he2 : e=panAt k 2:=he
     subst he2
     clear hb he
     go_wp2_with fail
     exact ⟨rfl,by show ReadRet w R _ _;rw [HRE.out];exact readRet_bad (by decide) (by rw [HD.out];exact HBZ.out)⟩
    | some f =>
     obtain ⟨_,hline,hkb,_⟩:=hfb rfl
     have HLINE:=Lib.hid hline
     have HKL:=Lib.hid (key_len hkb)
     have HRX : Hid ((if hasK last f.key then ((6 : Int),(k : Int),([] : List (List Fld))) else readL (k + 1) rest acc (last ++ [f]))=R):=hrd2
     clear hrd hrd2 hfo hfb hF hle hline hkb
     go_wp2_with fail
     refine HFO.out.mono ?_
     rintro e z ⟨hb,he⟩
     have he2 : e = .returned (.agg #[.string ⟨f.key.toArray⟩,.string ⟨f.val.toArray⟩,.int .i64 (k : Int)]):=he
     subst he2
     have HKZ : Hid (Keeps u.heap.size D u z∧u.heap.size≤z.heap.size):=⟨keeps_trans HKP.out.1 (keeps_of (hb.mono HKP.out.2)),Nat.le_trans HKP.out.2 hb.size⟩
     have hdz:=dro_below HDR.out hb
     have hadd : Calls Tryz.prog 133 #[.pointer (some ⟨D,0,none⟩),.agg #[.string ⟨f.key.toArray⟩,.string ⟨f.val.toArray⟩,.int .i64 f.line]] z (Sz.AddRet z u.heap.size D v0 ds acc last f):=by
      have hsz1 : last.length + 1≤1000000:=by have:=HLE.out;have:=HNL.out;have:=HSL.out;omega
      by_cases hl : last = []
      ·exact draftAdd_first f hdz hsz1 HKL.out HKZ.out.2 hl
      ·rcases HKO.out with h | ⟨m,h1,h2,h3⟩
       ·exact absurd h hl
       ·refine draftAdd_more f hdz hsz1 HKL.out HKZ.out.2 hl ⟨m,h1,h2,?_⟩
        obtain ⟨_,_,⟨_,_,hh,_⟩,_⟩:=id h3
        exact kset_below h3 hb (Array.getElem?_eq_some_iff.1 hh).1
     rw [HLINE.out] at hadd
     have HADD:=Lib.hid hadd
     clear hb he hdz hadd HFO
     go_wp2_with fail
     refine HADD.out.mono ?_
     rintro e z2 ⟨hkp,hsz,hif⟩
     have HK2 : Hid (Keeps u.heap.size D u z2∧u.heap.size≤z2.heap.size):=⟨keeps_trans HKZ.out.1 hkp,Nat.le_trans HKZ.out.2 hsz⟩
     by_cases htw : (last.map Fld.key).contains f.key=true
     ·rw [if_pos htw,HLINE.out] at hif
      have HRE : Hid (R=(6,(k : Int),[])):=by show _=_;rw [← HRX.out,hasK_eq,if_pos htw]
      have HBZ : Hid (Below D w z2):=HBu.out.1.trans (keeps_low HK2.out.1 (Nat.le_trans (by rw [HD.out];exact Nat.le_refl _) HBu.out.2))
      subst hif
      clear htw hkp hsz
      go_wp2_with fail
      exact ⟨rfl,by show ReadRet w R _ _;rw [HRE.out];exact readRet_bad (by decide) (by rw [HD.out];exact HBZ.out)⟩
     ·rw [if_neg htw] at hif
      obtain ⟨rfl,u1,m,hbm,hd2,hks⟩:=hif
      have HR2 : Hid (readL (k + 1) rest acc (last ++ [f])=R):=by show _=_;rw [← HRX.out,hasK_eq,if_neg htw]
      have HD2:=Lib.hid hd2
      have HKO2 : Hid (KeysOk z2 u.heap.size (.map (some m)) (last ++ [f])):=Or.inr ⟨m,rfl,hbm,hks⟩
      have HL2 : Hid (ds.length + (last ++ [f]).length≤k + 1):=by have:=HLE.out;show _≤_;rw [List.length_append];show _ + (_ + 1)≤_;omega
      clear htw hkp hsz hbm hd2 hks
      go_wp2_with fail
      go_roundw
      case rel=>exact ⟨k + 1,acc,last ++ [f],ds,_,_,_,by go_num,by omega,HD2,HKO2,by show readL _ _ _ _=R;rw [HRS.out];exact HR2.out,HK2,HL2⟩
      case measure=>simp [intOf];omega
  ·obtain rfl : k=n:=by omega
   have HRE : Hid (R=(0,0,if last = [] then acc else acc ++ [last])):=by
    show _=_
    rw [← HRD.out,List.drop_eq_nil_of_le (by rw [HN.out];exact Nat.le_refl _)]
    cases last <;> rfl
   have ik : ¬ (k : Int) < (k : Int):=by omega
   go_wp2_with fail
   refine (draftEnd_any HDR.out (by have:=HLE.out;have:=HNL.out;have:=HSL.out;omega) HKP.out.2).mono ?_
   rintro _ z ⟨rfl,hkp,hsz,u0,u1,ds2,hd2⟩
   have HBZ : Hid (Below D w z):=HBu.out.1.trans (keeps_low (keeps_trans HKP.out.1 hkp) (Nat.le_trans (by rw [HD.out];exact Nat.le_refl _) HBu.out.2))
   obtain ⟨A2,c2,hv2,hrow2,_,_⟩:=Rg.row_own fitsO hd2.2.2.1
   have hin2:=hd2.2.2.2.1
   have HCP : Hid (∀ x ∈ ds2,x.2.1≤x.2.2):=hd2.1
   subst hv2
   obtain ⟨e0,_,_,_,_,_⟩:=dro_cells hd2
   have HROW2:=Lib.hid hrow2
   have HIN2:=Lib.hid hin2
   clear hkp hsz hd2 hrow2 hin2
   go_wp2_with fail
   go_ret
   show ReadRet w R _ _
   rw [HRE.out]
   refine ⟨by rw [HD.out];exact HBZ.out,?_⟩
   show if (0 : Int)=0 then _ else _
   rw [if_pos rfl]
   exact ⟨A2,c2,ds2,congrArg (fun x=>Ending.returned (Value.slice A2 x c2)) HIN2.out.1,HROW2.out,HIN2.out,HCP.out⟩
theorem parseIn_none (s : List UInt8) (w : World) (hw : MaxOk w) (hs : s.length≤65536) (h0 : s = []) :
  Calls Tryz.prog 86 #[.string ⟨s.toArray⟩] w (Sz.ReadRet w (readL 0 (linesL s) [] [])):=by
 obtain ⟨R,hR⟩ : ∃ R,readL 0 (linesL s) [] []=R:=⟨_,rfl⟩
 rw [hR]
 obtain ⟨W1,hW1⟩ : ∃ W,w.alloc (.cells #[.slice none 0 0,.slice none 0 0,.map none] 197)=W:=⟨_,rfl⟩
 have HB1 : Hid (Below w.heap.size w W1):=alloc_low hW1
 have HD1 : Hid (∀ B,DrO W1 B w.heap.size (.slice none 0 0) (.slice none 0 0) (.map none) [] [] []):=fun B=>by rw [← hW1];exact dro_new
 have HLN:=Lib.hid (linesOf_any s W1 (maxOk_below hw HB1.out) (by omega))
 have HM1 : Hid (MaxOk W1):=maxOk_below hw HB1.out
 have HR:=Lib.hid hR
 have HMW:=Lib.hid hw
 have dl : decide ((s.length : Int)≤65536)=true:=decide_eq_true (by omega)
 have HSL:=Lib.hid hs
 have hne : (s == [])=true:=by rw [h0];rfl
 clear h0
 clear hw hR hs
 go_enter Tryz.func86,Tryz.ntmps86
 go_wp2_with fail
 refine (require_yes _).mono ?_
 rintro _ z ⟨rfl,rfl⟩
 go_wp2_with fail
 refine (require_yes _).mono ?_
 rintro _ z ⟨rfl,rfl⟩
 go_wp2_with fail
 clear hW1
 refine HLN.out.mono ?_
 rintro _ u ⟨A,n,c,rfl,hn,hnl,hrow,hb⟩
 obtain ⟨D,hD⟩ : ∃ D,w.heap.size=D:=⟨_,rfl⟩
 have HD:=Lib.hid hD
 have HDu : Hid (DrO u u.heap.size D (.slice none 0 0) (.slice none 0 0) (.map none) [] [] []):=by show DrO _ _ _ _ _ _ _ _ _;rw [← hD];exact dro_below (HD1.out _) hb
 have HN:=Lib.hid hn
 have HNL:=Lib.hid hnl
 have HROW:=Lib.hid hrow
 have HBu : Hid (Below D w u∧w.heap.size≤u.heap.size):=⟨by rw [← hD];exact HB1.out.trans (hb.mono HB1.out.size),Nat.le_trans HB1.out.size hb.size⟩
 have HMu : Hid (MaxOk u):=maxOk_below HM1.out hb
 rw [hD]
 clear hn hrow hb dl hnl hD HLN HD1 HB1
 go_wp2_with fail
 go_loopw [22] (fun i wr=>∃ (k : Nat) (acc : List (List Fld)) (last : List Fld) (ds : List Desc) (v0 v1 v2 : Value),i = .int .i64 k∧k≤n∧Hid (DrO wr u.heap.size D v0 v1 v2 ds acc last)∧Hid (KeysOk wr u.heap.size v2 last)∧Hid (readL k ((linesL s).drop k) acc last=R)∧Hid (Keeps u.heap.size D u wr∧u.heap.size≤wr.heap.size)∧Hid (ds.length + last.length≤k)) (fun i _=>n - (intOf i).toNat)
 case atStart=>exact ⟨0,[],[],[],_,_,_,rfl,Nat.zero_le _,HDu,Or.inl rfl,HR,⟨keeps_of (Below.refl _ _),Nat.le_refl _⟩,Nat.zero_le _⟩
 case round =>
  obtain ⟨k,acc,last,ds,v0,v1,v2,rfl,hk,HDR,HKO,HRD,HKP,HLE⟩:=hrel
  by_cases hlt : k < n
  ·have hlr : k < (linesL s).length:=by rw [HN.out];exact hlt
   obtain ⟨ad,hA,hblk,hcell⟩:=Sz.txt_at HROW.out k hlr
   subst hA
   have hnd : ad.block ≠ D:=by
    have:=draft_no_text HDu.out (fun x h=>by cases h) (fun x h=>by cases h) (fun x h=>by cases h) hcell
    rwa [Rs.add_block] at this
   have cw:=(keeps_cell HKP.out.1 (a:=ad.add k) (by rw [Rs.add_block];exact hblk) (by rw [Rs.add_block];exact hnd)).trans hcell
   have HLL : Hid ((linesL s)[k].length≤65536):=Nat.le_trans (line_le (List.getElem_mem hlr)) HSL.out
   have hrd:=HRD.out
   rw [List.drop_eq_getElem_cons hlr] at hrd
   have hrl : ((linesL s).drop (k + 1)).length=n - (k + 1):=by rw [List.length_drop,HN.out]
   obtain ⟨rest,hrest⟩ : ∃ x,(linesL s).drop (k + 1)=x:=⟨_,rfl⟩
   obtain ⟨ln,hln⟩ : ∃ x,(linesL s)[k]=x:=⟨_,rfl⟩
   rw [hln] at cw hrd HLL
   rw [hrest] at hrd hrl
   have HRS:=Lib.hid hrest
   have HRLN:=Lib.hid hrl
   have ik : (k : Int) < (n : Int):=by omega
   have hkw : IntKind.i64.wrap ((k : Int) + 1)=(k : Int) + 1:=IntWalk.i64_in _ (by have:=HNL.out;have:=HSL.out;omega)
   have hnw : IntKind.i64.wrap ((n : Int) - 1)=(n : Int) - 1:=IntWalk.i64_in _ (by have:=HNL.out;have:=HSL.out;omega)
   obtain ⟨A1,c1,hv1,_,_,_⟩:=Rg.row_own fitsF HDR.out.2.2.2.2.2.1
   obtain ⟨q,hq⟩ : ∃ q,last.length=q:=⟨_,rfl⟩
   rw [hq] at hv1
   subst hv1
   obtain ⟨e0,e1,e2,_,_,_⟩:=dro_cells HDR.out
   have HQ:=Lib.hid hq
   have HBR : Hid (Below D w wr):=HBu.out.1.trans (keeps_low HKP.out.1 (Nat.le_trans (by rw [HD.out];exact Nat.le_refl _) HBu.out.2))
   clear hcell hblk hnd hrest hln hrl hq
   by_cases hle : ln = []
   ·subst hle
    have hrd2 : (if (last.isEmpty || rest.isEmpty) then (2,(k : Int),[]) else readL (k + 1) rest (acc ++ [last]) [])=R:=hrd
    by_cases hgo : 0 < q∧k + 1 < n
    ·have i1 : (0 : Int) < (q : Int):=by omega
     have i2 : (k : Int) < (n : Int) - 1:=by omega
     have HR2 : Hid (readL (k + 1) rest (acc ++ [last]) []=R):=by
      show _=_
      rw [if_neg] at hrd2
      ·exact hrd2
      ·cases last with
       | nil=>have:=HQ.out;simp at this;omega
       | cons x l=>cases rest with
        | nil=>have:=HRLN.out;simp at this;omega
        | cons y r=>simp
     have HQ1:=Lib.hid hgo
     clear hgo hrd hrd2
     go_wp2_with fail
     refine (requireAt_yes _).mono ?_
     rintro _ z ⟨rfl,rfl⟩
     go_wp2_with fail
     refine (draftEnd_any HDR.out (by have:=HLE.out;have:=HNL.out;have:=HSL.out;omega) HKP.out.2).mono ?_
     rintro _ z ⟨rfl,hkp,hsz,u0,u1,ds2,hd2⟩
     have hln0 : last ≠ []:=fun e=>by have:=HQ.out;rw [e] at this;simp at this;have:=HQ1.out;omega
     rw [if_neg hln0] at hd2
     have HD2:=Lib.hid hd2
     have HK2 : Hid (Keeps u.heap.size D u z∧u.heap.size≤z.heap.size):=⟨keeps_trans HKP.out.1 hkp,Nat.le_trans HKP.out.2 hsz⟩
     have HL2 : Hid (ds2.length + ([] : List Fld).length≤k + 1):=by
      have h1:=hd2.2.2.2.1.1
      have h2:=HDR.out.2.2.2.1.1
      rw [List.length_append] at h1
      have h3:=HLE.out
      have h4:=HQ.out
      have h5:=HQ1.out
      show ds2.length + 0≤k + 1
      simp at h1
      omega
     clear hkp hsz hd2 hln0
     go_wp2_with fail
     go_roundw
     case rel=>exact ⟨k + 1,acc ++ [last],[],ds2,_,_,_,by go_num,by omega,HD2,Or.inl rfl,by show readL _ _ _ _=R;rw [HRS.out];exact HR2.out,HK2,HL2⟩
     case measure=>simp [intOf];omega
    ·have HRE : Hid (R=(2,(k : Int),[])):=by
      show _=_
      rw [← hrd2,if_pos]
      cases last with
      | nil=>rfl
      | cons x l=>cases rest with
       | nil=>simp
       | cons y r =>
        have h1:=HQ.out
        have h2:=HRLN.out
        simp at h1 h2
        omega
     clear hrd hrd2
     by_cases hq0 : 0 < q
     ·have i1 : (0 : Int) < (q : Int):=by omega
      have i2 : ¬ (k : Int) < (n : Int) - 1:=by omega
      clear hgo hq0
      go_wp2_with fail
      refine (requireAt_no _).mono ?_
      rintro _ z ⟨rfl,rfl⟩
      go_wp2_with fail
      exact ⟨rfl,by show ReadRet w R _ _;rw [HRE.out];exact readRet_bad (by decide) (by rw [HD.out];exact HBR.out)⟩
     ·have i1 : ¬ (0 : Int) < (q : Int):=by omega
      clear hgo hq0
      go_wp2_with fail
      refine (requireAt_no _).mono ?_
      rintro _ z ⟨rfl,rfl⟩
      go_wp2_with fail
      exact ⟨rfl,by show ReadRet w R _ _;rw [HRE.out];exact readRet_bad (by decide) (by rw [HD.out];exact HBR.out)⟩
   ·have hrd2 : (match Sz.fieldP ln (k : Int) with | none=>((2 : Int),(k : Int),([] : List (List Fld))) | some f=>if hasK last f.key then (6,(k : Int),[]) else readL (k + 1) rest acc (last ++ [f]))=R:=by
     cases ln with
     | nil=>exact absurd rfl hle
     | cons x t=>exact hrd
    have lne : (ln == [])=false:=beq_eq_false_iff_ne.2 hle
    have hfo:=fieldOf_any ln (k : Int) wr (maxOk_below HMW.out (by rw [HD.out];exact HBR.out)) (Nat.le_trans HLL.out (by decide))
    have hfb:=@Sz.field_back ln (k : Int)
    obtain ⟨F,hF⟩ : ∃ F,Sz.fieldP ln (k : Int)=F:=⟨_,rfl⟩
    rw [hF] at hrd2 hfo hfb
    have HFO:=Lib.hid hfo
    cases F with
    | none =>
     have HRE : Hid (R=(2,(k : Int),[])):=hrd2.symm
     clear hrd hrd2 hfo hfb hF hle
     go_wp2_with fail
     refine HFO.out.mono ?_
     rintro e z ⟨hb,he⟩
     have HBZ : Hid (Below D w z):=HBR.out.trans (hb.mono (Nat.le_trans (by rw [← HD.out];exact HBu.out.2) HKP.out.2))
     have he2 : e=panAt k 2:=he
     subst he2
     clear hb he
     go_wp2_with fail
     exact ⟨rfl,by show ReadRet w R _ _;rw [HRE.out];exact readRet_bad (by decide) (by rw [HD.out];exact HBZ.out)⟩
    | some f =>
     obtain ⟨_,hline,hkb,_⟩:=hfb rfl
     have HLINE:=Lib.hid hline
     have HKL:=Lib.hid (key_len hkb)
     have HRX : Hid ((if hasK last f.key then ((6 : Int),(k : Int),([] : List (List Fld))) else readL (k + 1) rest acc (last ++ [f]))=R):=hrd2
     clear hrd hrd2 hfo hfb hF hle hline hkb
     go_wp2_with fail
     refine HFO.out.mono ?_
     rintro e z ⟨hb,he⟩
     have he2 : e = .returned (.agg #[.string ⟨f.key.toArray⟩,.string ⟨f.val.toArray⟩,.int .i64 (k : Int)]):=he
     subst he2
     have HKZ : Hid (Keeps u.heap.size D u z∧u.heap.size≤z.heap.size):=⟨keeps_trans HKP.out.1 (keeps_of (hb.mono HKP.out.2)),Nat.le_trans HKP.out.2 hb.size⟩
     have hdz:=dro_below HDR.out hb
     have hadd : Calls Tryz.prog 133 #[.pointer (some ⟨D,0,none⟩),.agg #[.string ⟨f.key.toArray⟩,.string ⟨f.val.toArray⟩,.int .i64 f.line]] z (Sz.AddRet z u.heap.size D v0 ds acc last f):=by
      have hsz1 : last.length + 1≤1000000:=by have:=HLE.out;have:=HNL.out;have:=HSL.out;omega
      by_cases hl : last = []
      ·exact draftAdd_first f hdz hsz1 HKL.out HKZ.out.2 hl
      ·rcases HKO.out with h | ⟨m,h1,h2,h3⟩
       ·exact absurd h hl
       ·refine draftAdd_more f hdz hsz1 HKL.out HKZ.out.2 hl ⟨m,h1,h2,?_⟩
        obtain ⟨_,_,⟨_,_,hh,_⟩,_⟩:=id h3
        exact kset_below h3 hb (Array.getElem?_eq_some_iff.1 hh).1
     rw [HLINE.out] at hadd
     have HADD:=Lib.hid hadd
     clear hb he hdz hadd HFO
     go_wp2_with fail
     refine HADD.out.mono ?_
     rintro e z2 ⟨hkp,hsz,hif⟩
     have HK2 : Hid (Keeps u.heap.size D u z2∧u.heap.size≤z2.heap.size):=⟨keeps_trans HKZ.out.1 hkp,Nat.le_trans HKZ.out.2 hsz⟩
     by_cases htw : (last.map Fld.key).contains f.key=true
     ·rw [if_pos htw,HLINE.out] at hif
      have HRE : Hid (R=(6,(k : Int),[])):=by show _=_;rw [← HRX.out,hasK_eq,if_pos htw]
      have HBZ : Hid (Below D w z2):=HBu.out.1.trans (keeps_low HK2.out.1 (Nat.le_trans (by rw [HD.out];exact Nat.le_refl _) HBu.out.2))
      subst hif
      clear htw hkp hsz
      go_wp2_with fail
      exact ⟨rfl,by show ReadRet w R _ _;rw [HRE.out];exact readRet_bad (by decide) (by rw [HD.out];exact HBZ.out)⟩
     ·rw [if_neg htw] at hif
      obtain ⟨rfl,u1,m,hbm,hd2,hks⟩:=hif
      have HR2 : Hid (readL (k + 1) rest acc (last ++ [f])=R):=by show _=_;rw [← HRX.out,hasK_eq,if_neg htw]
      have HD2:=Lib.hid hd2
      have HKO2 : Hid (KeysOk z2 u.heap.size (.map (some m)) (last ++ [f])):=Or.inr ⟨m,rfl,hbm,hks⟩
      have HL2 : Hid (ds.length + (last ++ [f]).length≤k + 1):=by have:=HLE.out;show _≤_;rw [List.length_append];show _ + (_ + 1)≤_;omega
      clear htw hkp hsz hbm hd2 hks
      go_wp2_with fail
      go_roundw
      case rel=>exact ⟨k + 1,acc,last ++ [f],ds,_,_,_,by go_num,by omega,HD2,HKO2,by show readL _ _ _ _=R;rw [HRS.out];exact HR2.out,HK2,HL2⟩
      case measure=>simp [intOf];omega
  ·obtain rfl : k=n:=by omega
   have HRE : Hid (R=(0,0,if last = [] then acc else acc ++ [last])):=by
    show _=_
    rw [← HRD.out,List.drop_eq_nil_of_le (by rw [HN.out];exact Nat.le_refl _)]
    cases last <;> rfl
   have ik : ¬ (k : Int) < (k : Int):=by omega
   go_wp2_with fail
   refine (draftEnd_any HDR.out (by have:=HLE.out;have:=HNL.out;have:=HSL.out;omega) HKP.out.2).mono ?_
   rintro _ z ⟨rfl,hkp,hsz,u0,u1,ds2,hd2⟩
   have HBZ : Hid (Below D w z):=HBu.out.1.trans (keeps_low (keeps_trans HKP.out.1 hkp) (Nat.le_trans (by rw [HD.out];exact Nat.le_refl _) HBu.out.2))
   obtain ⟨A2,c2,hv2,hrow2,_,_⟩:=Rg.row_own fitsO hd2.2.2.1
   have hin2:=hd2.2.2.2.1
   have HCP : Hid (∀ x ∈ ds2,x.2.1≤x.2.2):=hd2.1
   subst hv2
   obtain ⟨e0,_,_,_,_,_⟩:=dro_cells hd2
   have HROW2:=Lib.hid hrow2
   have HIN2:=Lib.hid hin2
   clear hkp hsz hd2 hrow2 hin2
   go_wp2_with fail
   go_ret
   show ReadRet w R _ _
   rw [HRE.out]
   refine ⟨by rw [HD.out];exact HBZ.out,?_⟩
   show if (0 : Int)=0 then _ else _
   rw [if_pos rfl]
   exact ⟨A2,c2,ds2,congrArg (fun x=>Ending.returned (Value.slice A2 x c2)) HIN2.out.1,HROW2.out,HIN2.out,HCP.out⟩
theorem parseIn_long (s : List UInt8) (w : World) (hs : 65536 < s.length) :
  Calls Tryz.prog 86 #[.string ⟨s.toArray⟩] w fun e w'=>e=pan 4∧w=w':=by
 have dl : decide ((s.length : Int)≤65536)=false:=decide_eq_false (by omega)
 clear hs
 go_enter Tryz.func86,Tryz.ntmps86
 go_wp2_with fail
 refine (require_no _).mono ?_
 rintro _ z ⟨rfl,rfl⟩
 go_wp2_with fail
 exact ⟨rfl,rfl,rfl⟩
theorem parseIn_open (s : List UInt8) (w : World) (hs : s.length≤65536) (h0 : s ≠ []) (h1 : Lib.hasSuffix s [10]=false) :
  Calls Tryz.prog 86 #[.string ⟨s.toArray⟩] w fun e w'=>e=pan 2∧w=w':=by
 have dl : decide ((s.length : Int)≤65536)=true:=decide_eq_true (by omega)
 have hne : (s == [])=false:=beq_eq_false_iff_ne.2 h0
 have HSF:=Lib.hid h1
 have HSL:=Lib.hid hs
 clear h1 h0 hs
 go_enter Tryz.func86,Tryz.ntmps86
 go_wp2_with fail
 refine (require_yes _).mono ?_
 rintro _ z ⟨rfl,rfl⟩
 go_wp2_with fail
 refine (Tryz.strings_HasSuffix ⟨s.toArray⟩ ⟨#[10]⟩ _ (by show s.length≤_;have:=HSL.out;omega)).mono ?_
 rintro _ z ⟨rfl,hz⟩
 obtain rfl:=hz.symm
 clear hz
 rw [show Lib.hasSuffix (⟨s.toArray⟩ : ByteArray).data.toList (⟨#[10]⟩ : ByteArray).data.toList=false from HSF.out]
 go_wp2_with fail
 refine (require_no _).mono ?_
 rintro _ z ⟨rfl,rfl⟩
 go_wp2_with fail
 exact ⟨rfl,rfl,rfl⟩
theorem parseIn_any (s : List UInt8) (w : World) (hw : MaxOk w) :
  Calls Tryz.prog 86 #[.string ⟨s.toArray⟩] w fun e w'=>if 65536 < s.length then e=pan 4∧w=w' else if endB s=true then ReadRet w (readL 0 (linesL s) [] []) e w' else e=pan 2∧w=w':=by
 by_cases hl : 65536 < s.length
 ·exact (parseIn_long s w hl).mono fun _ _ h=>by rw [if_pos hl];exact h
 ·have hs : s.length≤65536:=by omega
  by_cases h0 : s = []
  ·exact (parseIn_none s w hw hs h0).mono fun _ _ h=>by rw [if_neg hl,if_pos (by rw [h0];rfl)];exact h
  ·have hen : endB s=Lib.hasSuffix s [10]:=by
    unfold endB
    rw [suffix_end,List.isEmpty_eq_false_iff.2 h0,Bool.false_or]
   cases h1 : Lib.hasSuffix s [10]
   ·exact (parseIn_open s w hs h0 h1).mono fun _ _ h=>by rw [if_neg hl,if_neg (by rw [hen,h1];decide)];exact h
   ·exact (parseIn_some s w hw hs h0 h1).mono fun _ _ h=>by rw [if_neg hl,if_pos (by rw [hen,h1])];exact h
end Go.Proofs.YtkplahkkmmoppaaGreatDoor
namespace Go.Proofs.YtkplahkkmmoppaaGreatDoor
open Go.RowKit
theorem sParse_panic (p q : Addr) (x y n : Int) (w : World) (hc : w.cell? p=some (.int .i64 x)) (hz : w.frozen? p=false) (hc2 : (w.setCell p (.int .i64 0)).cell? q=some (.int .i64 y)) (hz2 : (w.setCell p (.int .i64 0)).frozen? q=false) :
  CallsD Tryz.prog 85 #[.pointer (some p),.pointer (some q)] (.panicking [{ v:=.iface 36 (.int .i64 n),recovered:=false }]) w fun e u' w' =>
   e = .returned (.tuple #[])∧u' = .panicking [{ v:=.iface 36 (.int .i64 n),recovered:=true }]∧w'=(w.setCell p (.int .i64 0)).setCell q (.int .i64 n):=by
 refine callsD_of_wpS Tryz.func85 rfl fun c₀ cs hu=>?_
 apply wpS_region
 simp [wpOpsS,go_sem,recoverD,hu,Tryz.ntmps85]
 refine (raisedAt_err n _).mono ?_
 rintro e w' ⟨rfl,rfl⟩
 simp [go_sem,hc,hz,hc2,hz2,bodyPostS,results,Tryz.results85]
theorem sParse_placed (p q : Addr) (x y k n : Int) (w : World) (hc : ∀ u,Below w.heap.size w u → u.cell? p=some (.int .i64 x)) (hz : ∀ u,Below w.heap.size w u → u.frozen? p=false) (hc2 : ∀ u,Below w.heap.size w u → (u.setCell p (.int .i64 k)).cell? q=some (.int .i64 y)) (hz2 : ∀ u,Below w.heap.size w u → (u.setCell p (.int .i64 k)).frozen? q=false) :
  CallsD Tryz.prog 85 #[.pointer (some p),.pointer (some q)] (.panicking [{ v:=.iface 164 (.agg #[.int .i64 k,.int .i64 n]),recovered:=false }]) w fun e u' w' =>
   e = .returned (.tuple #[])∧u' = .panicking [{ v:=.iface 164 (.agg #[.int .i64 k,.int .i64 n]),recovered:=true }]∧∃ u,Below w.heap.size w u∧w'=(u.setCell p (.int .i64 k)).setCell q (.int .i64 n):=by
 refine callsD_of_wpS Tryz.func85 rfl fun c₀ cs hu=>?_
 apply wpS_region
 simp [wpOpsS,go_sem,recoverD,hu,Tryz.ntmps85]
 refine (raisedAt_placed k n _).mono ?_
 rintro e w' ⟨rfl,hb⟩
 simp [go_sem,hc _ hb,hz _ hb,hc2 _ hb,hz2 _ hb,bodyPostS,results,Tryz.results85]
 exact ⟨w',hb,rfl⟩
theorem sParse_idle (p q : Addr) (x y : Int) (w : World) (hc : w.cell? p=some (.int .i64 x)) (hz : w.frozen? p=false) (hc2 : (w.setCell p (.int .i64 0)).cell? q=some (.int .i64 y)) (hz2 : (w.setCell p (.int .i64 0)).frozen? q=false) :
  CallsD Tryz.prog 85 #[.pointer (some p),.pointer (some q)] .returning w fun e u' w'=>e = .returned (.tuple #[])∧u' = .returning∧w'=(w.setCell p (.int .i64 0)).setCell q (.int .i64 0):=by
 refine callsD_of_wpS Tryz.func85 rfl fun c₀ cs hu=>?_
 apply wpS_region
 simp [wpOpsS,go_sem,recoverD,hu,Tryz.ntmps85]
 refine (raisedAt_nil _).mono ?_
 rintro e w' ⟨rfl,rfl⟩
 cases c₀
 simp_all [go_sem,bodyPostS,results,Tryz.results85]
end Go.Proofs.YtkplahkkmmoppaaGreatDoor
namespace Go.Proofs.YtkplahkkmmoppaaGreatDoor.Sz
def getF (l : List Fld) (k : List UInt8) : Option Fld:=l.find? (fun f=>f.key == k)
def placeOf (keys : List (List UInt8)) (k : List UInt8) : Option Nat:=keys.findIdx? (· == k)
def ordP (keys : List (List UInt8)) : Nat → Int → List Fld → Int × Int
 | _,_,[]=>(0,0)
 | i,last,f :: l=>match placeOf keys f.key with
  | none=>(i,10)
  | some p=>if last < p then ordP keys (i + 1) p l else (i,7)
theorem readL_nil (n : Nat) (acc : List (List Fld)) (last : List Fld) : readL n [] acc last=(0,0,if last.isEmpty then acc else acc ++ [last]):=by unfold readL;rfl
theorem readL_cons (n : Nat) (s : List UInt8) (ls : List (List UInt8)) (acc : List (List Fld)) (last : List Fld) : readL n (s :: ls) acc last=if s.isEmpty then (if last.isEmpty || ls.isEmpty then (2,(n : Int),[]) else readL (n + 1) ls (acc ++ [last]) [])
  else match fieldP s n with
   | none=>(2,(n : Int),[])
   | some f=>if hasK last f.key then (6,(n : Int),[]) else readL (n + 1) ls acc (last ++ [f]):=by
 rw [readL];rfl
end Go.Proofs.YtkplahkkmmoppaaGreatDoor.Sz
namespace Go.Proofs.YtkplahkkmmoppaaGreatDoor
open Go.RowKit Go.Maps Sz
attribute [local go_sem ↓] Go.wp_at_zero Go.wp_at_succ
def Sz.NotAt (b : Nat) (A : Option Addr) (ds : List Desc) (t : List (List Fld)) : Prop:=(0 < ds.length → ∀ a,A=some a → a.block ≠ b)∧Gr.Free (.slice (some ⟨b,0,none⟩) 0 0) ds t
theorem Sz.cell_of_ints {w : World} {b : Nat} {x : Int} {T : TypeId} {q : Addr} {v : Value} (hb : w.heap[b]? = some (.cells #[.int .i64 x] T (0,0))) (hq : q.block=b) (hc : w.cell? q=some v) : v = .int .i64 x:=by
 unfold World.cell? at hc
 rw [hq,hb] at hc
 dsimp only at hc
 split at hc
 ·cases hc
 ·match h3 : q.off with
  | 0=>rw [h3] at hc;exact (Option.some.inj hc).symm
  | k + 1=>rw [h3] at hc;simp at hc
theorem Sz.notAt_int {w : World} {A : Option Addr} {ds : List Desc} {t : List (List Fld)} {b : Nat} {x : Int} {T : TypeId} (h1 : Rg.Row encO 1 w A ds) (h2 : Gr.In encF 3 w ds t) (hb : w.heap[b]? = some (.cells #[.int .i64 x] T (0,0))) : NotAt b A ds t:=by
 refine ⟨fun h0 a ha e=>?_,fun i d l e1 e2 h0 a ha e=>?_⟩
 ·obtain ⟨a2,e2,_,hc⟩:=h1 h0
  rw [ha] at e2;cases e2
  have:=hc 0 h0 0 _ rfl
  rw [if_pos rfl] at this
  have:=cell_of_ints hb (by rw [Rs.add_block];exact e) this
  cases this
 ·obtain ⟨a2,e3,_,hc⟩:=(h2.2 i d l e1 e2).2 h0
  rw [ha] at e3;cases e3
  have:=hc 0 h0 0 _ rfl
  rw [if_pos rfl] at this
  have:=cell_of_ints hb (by rw [Rs.add_block];exact (Option.some.inj e).symm) this
  cases this
theorem Sz.notAt_set {w : World} {A : Option Addr} {ds : List Desc} {t : List (List Fld)} {b : Nat} (h : Rg.Row encO 1 w A ds∧Gr.In encF 3 w ds t) (hn : NotAt b A ds t) (x : Value) : Rg.Row encO 1 (w.setCell ⟨b,0,none⟩ x) A ds∧Gr.In encF 3 (w.setCell ⟨b,0,none⟩ x) ds t :=
 ⟨row_grown h.1 (set_grown w ⟨b,0,none⟩ x) (fun h0 a ha e=>hn.1 h0 a ha (Option.some.inj e).symm),in_grown h.2 (set_grown w ⟨b,0,none⟩ x) hn.2⟩
def Sz.PRetC (w : World) (X : Int × Int × List (List Fld)) (e : Ending) (w' : World) : Prop :=
 ∃ A c,e = .returned (.tuple #[.slice A X.2.2.length c,.int .i64 X.2.1,.int .i64 X.1])∧(∃ ds,Rg.Row encO 1 w' A ds∧Gr.In encF 3 w' ds X.2.2∧∀ x ∈ ds,x.2.1≤x.2.2)∧Below w.heap.size w w'
theorem Sz.pret_bad {w u : World} {X : Int × Int × List (List Fld)} {k n : Int} (hX : X=(k,n,[])) (hb : Below w.heap.size w u) (x y : Value) : PRetC w X (.returned (.tuple #[.slice none 0 0,.int .i64 n,.int .i64 k])) ((u.setCell ⟨w.heap.size,0,none⟩ x).setCell ⟨w.heap.size + 1,0,none⟩ y):=by
 subst hX
 exact ⟨none,0,rfl,⟨[],fun h=>absurd h (by decide),⟨rfl,fun i d l h=>by simp at h⟩,fun x hx=>by cases hx⟩,(hb.setCell (Nat.le_refl _) _).setCell (Nat.le_succ _) _⟩
theorem Sz.readL_bad : ∀ (ls : List (List UInt8)) (n : Nat) (acc : List (List Fld)) (last : List Fld) (k m : Int) (r : List (List Fld)),readL n ls acc last=(k,m,r) → k ≠ 0 → r = []
 | [],n,acc,last,k,m,r,h,hk=>by rw [readL_nil] at h;cases h;exact absurd rfl hk
 | s :: ls,n,acc,last,k,m,r,h,hk=>by
  rw [readL_cons] at h
  split at h
  ·split at h
   ·cases h;rfl
   ·exact readL_bad ls _ _ _ k m r h hk
  ·cases hf : fieldP s n with
   | none=>rw [hf] at h;cases h;rfl
   | some f =>
    rw [hf] at h;dsimp only at h
    split at h
    ·cases h;rfl
    ·exact readL_bad ls _ _ _ k m r h hk
def Sz.P2 (b : Nat) (u : World) : Prop:=u.heap[b]? = some (.cells #[.int .i64 0] 3 (0,0))∧u.heap[b + 1]? = some (.cells #[.int .i64 0] 36 (0,0))
theorem Sz.p2_of {w W1 W2 u : World} (h1 : w.alloc (.cells #[.int .i64 0] 3)=W1) (h2 : W1.alloc (.cells #[.int .i64 0] 36)=W2) (hb : Below W2.heap.size W2 u) : P2 w.heap.size u:=by
 have hs1 : W1.heap.size=w.heap.size + 1:=by rw [← h1];simp
 have hs2 : W2.heap.size=w.heap.size + 2:=by rw [← h2];simp [hs1]
 refine ⟨(hb.block _ (by omega)).trans ?_,(hb.block _ (by omega)).trans ?_⟩
 ·rw [((alloc_low h2).block _ (by omega)),← h1];exact heap_alloc_new w _
 ·rw [← h2,← hs1];exact heap_alloc_new W1 _
theorem Sz.p2_cells {b : Nat} {u : World} (h : P2 b u) : u.cell? ⟨b,0,none⟩=some (.int .i64 0)∧u.frozen? ⟨b,0,none⟩=false∧u.cell? ⟨b + 1,0,none⟩=some (.int .i64 0)∧u.frozen? ⟨b + 1,0,none⟩=false:=by
 obtain ⟨h1,h2⟩:=h
 refine ⟨?_,?_,?_,?_⟩ <;> simp [World.cell?,World.frozen?,h1,h2]
theorem Sz.p2_after {b : Nat} {u : World} (h : P2 b u) (x : Value) : (u.setCell ⟨b,0,none⟩ x).cell? ⟨b,0,none⟩=some x∧(u.setCell ⟨b,0,none⟩ x).frozen? ⟨b,0,none⟩=false∧(u.setCell ⟨b,0,none⟩ x).cell? ⟨b + 1,0,none⟩=some (.int .i64 0)∧(u.setCell ⟨b,0,none⟩ x).frozen? ⟨b + 1,0,none⟩=false:=by
 obtain ⟨h1,h2,h3,h4⟩:=p2_cells h
 refine ⟨by simp [go_sem,h1],by simp [go_sem,h2],?_,by simp [go_sem,h4]⟩
 rw [World.cell?_setCell_far _ _ _ _ (by show b ≠ b + 1;omega)];exact h3
theorem Sz.p2_both {b : Nat} {u : World} (h : P2 b u) (x y : Value) : ((u.setCell ⟨b,0,none⟩ x).setCell ⟨b + 1,0,none⟩ y).cell? ⟨b,0,none⟩=some x∧((u.setCell ⟨b,0,none⟩ x).setCell ⟨b + 1,0,none⟩ y).cell? ⟨b + 1,0,none⟩=some y:=by
 obtain ⟨h1,h2,h3,h4⟩:=p2_after h x
 refine ⟨?_,by simp [go_sem,h3]⟩
 rw [World.cell?_setCell_far _ _ _ _ (by show b + 1 ≠ b;omega)];exact h1
theorem Sz.p2_again {b : Nat} {u : World} (h : P2 b u) : P2 b ((u.setCell ⟨b,0,none⟩ (.int .i64 0)).setCell ⟨b + 1,0,none⟩ (.int .i64 0)):=by
 obtain ⟨h1,h2⟩:=h
 have g1 : (u.setCell ⟨b,0,none⟩ (.int .i64 0)).heap[b]? = some (.cells #[.int .i64 0] 3 (0,0)):=by simp [World.setCell,Array.getElem?_modify,h1]
 have g2 : (u.setCell ⟨b,0,none⟩ (.int .i64 0)).heap[b + 1]? = some (.cells #[.int .i64 0] 36 (0,0)):=by simp [World.setCell,Array.getElem?_modify,h2]
 refine ⟨?_,?_⟩
 ·rw [Below.heap_setCell _ _ _ _ (by show b ≠ b + 1;omega)];exact g1
 ·obtain ⟨v,hv⟩ : ∃ v,u.setCell ⟨b,0,none⟩ (.int .i64 0)=v:=⟨_,rfl⟩
  rw [hv] at g2 ⊢
  simp [World.setCell,Array.getElem?_modify,g2]
theorem stanzaParse_cap (s : List UInt8) (w : World) (hw : MaxOk w) :
  Calls Tryz.prog 34 #[.string ⟨s.toArray⟩] w (Sz.PRetC w (parseS s)):=by
 have hmf : ∀ (fn : Fn) (first cap : Array Value) (w : World),(Instr.makeFunc fn first cap).run Tryz.prog w = .ok (.func fn first cap) w:=fun _ _ _ _=>rfl
 obtain ⟨X,hX⟩ : ∃ X,parseS s=X:=⟨_,rfl⟩
 rw [hX]
 unfold parseS at hX
 obtain ⟨W1,hW1⟩ : ∃ W,w.alloc (.cells #[.int .i64 0] 3)=W:=⟨_,rfl⟩
 obtain ⟨W2,hW2⟩ : ∃ W,W1.alloc (.cells #[.int .i64 0] 36)=W:=⟨_,rfl⟩
 have HPC : Hid (∀ u,Below W2.heap.size W2 u → P2 w.heap.size u):=fun u hb=>p2_of hW1 hW2 hb
 have hs1 : W1.heap.size=w.heap.size + 1:=by rw [← hW1];simp
 have hs2 : W2.heap.size=w.heap.size + 2:=by rw [← hW2];simp [hs1]
 have HBW : Hid (Below w.heap.size w W2):=(alloc_low hW1).trans ((alloc_low hW2).mono (alloc_low hW1).size)
 have HSZ2:=Lib.hid hs2
 have HPA:=Lib.hid (parseIn_any s W2 (maxOk_below hw HBW.out))
 clear hw hs2
 by_cases hl : 65536 < s.length
 ·rw [if_pos hl] at hX
  have HX : Hid (X=(4,0,[])):=hX.symm
  have HPA2 : Hid (Calls Tryz.prog 86 #[.string ⟨s.toArray⟩] W2 fun e w'=>e=pan 4∧W2=w'):=HPA.out.mono fun _ _ h=>by rw [if_pos hl] at h;exact h
  clear hX HPA hl
  go_enter_defers Tryz.func34,Tryz.ntmps34
  go_wp2_with fail
  clear hW1 hW2
  refine HPA2.out.mono ?_
  rintro _ z1 ⟨rfl,rfl⟩
  obtain ⟨c0,f0,c1,f1⟩:=p2_cells (HPC.out _ (Below.refl _ _))
  obtain ⟨d0,g0,d1,g1⟩:=p2_after (HPC.out _ (Below.refl _ _)) (.int .i64 0)
  obtain ⟨q0,q1⟩:=p2_both (HPC.out _ (Below.refl _ _)) (.int .i64 0) (.int .i64 4)
  go_wp2_with fail
  refine leaves_cons (f:=85) (args:=#[.pointer (some ⟨w.heap.size,0,none⟩),.pointer (some ⟨w.heap.size + 1,0,none⟩)]) (by simp) (by simp [go_sem]) ?_
  refine (sParse_panic ⟨w.heap.size,0,none⟩ ⟨w.heap.size + 1,0,none⟩ 0 0 4 _ c0 f0 d1 g1).mono ?_
  rintro e u' w3 ⟨rfl,rfl,rfl⟩
  simp [Leaves,settle,results,Tryz.results34,go_sem,q0,q1]
  exact Sz.pret_bad HX.out (HBW.out.trans ((Below.refl _ _).mono HBW.out.size)) _ _
 rw [if_neg hl] at hX
 cases he : endB s
 ·rw [if_neg (by rw [he];decide)] at hX
  have HX : Hid (X=(2,0,[])):=hX.symm
  have HPA2 : Hid (Calls Tryz.prog 86 #[.string ⟨s.toArray⟩] W2 fun e w'=>e=pan 2∧W2=w'):=HPA.out.mono fun _ _ h=>by rw [if_neg hl,if_neg (by rw [he];decide)] at h;exact h
  clear hX HPA hl he
  go_enter_defers Tryz.func34,Tryz.ntmps34
  go_wp2_with fail
  clear hW1 hW2
  refine HPA2.out.mono ?_
  rintro _ z1 ⟨rfl,rfl⟩
  obtain ⟨c0,f0,c1,f1⟩:=p2_cells (HPC.out _ (Below.refl _ _))
  obtain ⟨d0,g0,d1,g1⟩:=p2_after (HPC.out _ (Below.refl _ _)) (.int .i64 0)
  obtain ⟨q0,q1⟩:=p2_both (HPC.out _ (Below.refl _ _)) (.int .i64 0) (.int .i64 2)
  go_wp2_with fail
  refine leaves_cons (f:=85) (args:=#[.pointer (some ⟨w.heap.size,0,none⟩),.pointer (some ⟨w.heap.size + 1,0,none⟩)]) (by simp) (by simp [go_sem]) ?_
  refine (sParse_panic ⟨w.heap.size,0,none⟩ ⟨w.heap.size + 1,0,none⟩ 0 0 2 _ c0 f0 d1 g1).mono ?_
  rintro e u' w3 ⟨rfl,rfl,rfl⟩
  simp [Leaves,settle,results,Tryz.results34,go_sem,q0,q1]
  exact Sz.pret_bad HX.out (HBW.out.trans ((Below.refl _ _).mono HBW.out.size)) _ _
 rw [if_pos he] at hX
 have HPA2 : Hid (Calls Tryz.prog 86 #[.string ⟨s.toArray⟩] W2 (ReadRet W2 X)):=HPA.out.mono fun _ _ h=>by rw [if_neg hl,if_pos he,hX] at h;exact h
 obtain ⟨k,n,r⟩:=X
 have HBAD : Hid (k ≠ 0 → r = []):=readL_bad _ _ _ _ k n r hX
 have HN0 : Hid (k=0 → n=0):=fun h=>by
  have h2 : parseS s=(0,n,r):=by unfold parseS;rw [if_neg hl,if_pos he,hX,h]
  exact (Sz.parse_text h2).1
 clear hX HPA hl he
 go_enter_defers Tryz.func34,Tryz.ntmps34
 go_wp2_with fail
 clear hW1 hW2
 refine HPA2.out.mono ?_
 rintro e z1 ⟨hb,hr⟩
 have HB:=Lib.hid hb
 clear hb
 by_cases hk : k=0
 ·subst hk
  obtain ⟨A,c,ds,rfl,h1,h2,hcp⟩ : ∃ A c ds,e = .returned (.slice A r.length c)∧Rg.Row encO 1 z1 A ds∧Gr.In encF 3 z1 ds r∧∀ x ∈ ds,x.2.1≤x.2.2:=by rw [if_pos rfl] at hr;exact hr
  have HCP:=Lib.hid hcp
  obtain rfl:=HN0.out rfl
  have HNA : Hid (NotAt w.heap.size A ds r∧NotAt (w.heap.size + 1) A ds r):=⟨notAt_int h1 h2 (HPC.out _ HB.out).1,notAt_int h1 h2 (HPC.out _ HB.out).2⟩
  have HR:=Lib.hid (notAt_set (notAt_set ⟨h1,h2⟩ HNA.out.1 (.int .i64 0)) HNA.out.2 (.int .i64 0))
  obtain ⟨c0,f0,c1,f1⟩:=p2_cells (HPC.out _ HB.out)
  obtain ⟨d0,g0,d1,g1⟩:=p2_after (HPC.out _ HB.out) (.int .i64 0)
  have HP2:=Lib.hid (p2_again (HPC.out _ HB.out))
  have HBV : Hid (Below w.heap.size w ((z1.setCell ⟨w.heap.size,0,none⟩ (.int .i64 0)).setCell ⟨w.heap.size + 1,0,none⟩ (.int .i64 0))):=((HBW.out.trans (HB.out.mono HBW.out.size)).setCell (Nat.le_refl _) _).setCell (Nat.le_succ _) _
  clear hr h1 h2 hcp
  go_wp2_with fail
  generalize (z1.setCell ⟨w.heap.size,0,none⟩ (.int .i64 0)).setCell ⟨w.heap.size + 1,0,none⟩ (.int .i64 0)=V at *
  obtain ⟨k0,m0,k1,m1⟩:=p2_cells HP2.out
  obtain ⟨l0,o0,l1,o1⟩:=p2_after HP2.out (.int .i64 0)
  obtain ⟨q0,q1⟩:=p2_both HP2.out (.int .i64 0) (.int .i64 0)
  have HRF:=Lib.hid (notAt_set (notAt_set HR.out HNA.out.1 (.int .i64 0)) HNA.out.2 (.int .i64 0))
  refine leaves_cons (f:=85) (args:=#[.pointer (some ⟨w.heap.size,0,none⟩),.pointer (some ⟨w.heap.size + 1,0,none⟩)]) (by simp) (by simp [go_sem]) ?_
  refine (sParse_idle ⟨w.heap.size,0,none⟩ ⟨w.heap.size + 1,0,none⟩ 0 0 _ k0 m0 l1 o1).mono ?_
  rintro e u' w3 ⟨rfl,rfl,rfl⟩
  simp [Leaves,settle,results,Tryz.results34,go_sem,q0,q1]
  exact ⟨A,c,rfl,⟨ds,HRF.out.1,HRF.out.2,HCP.out⟩,(HBV.out.setCell (Nat.le_refl _) _).setCell (Nat.le_succ _) _⟩
 ·obtain rfl : e=panAt n k:=by rw [if_neg hk] at hr;exact hr
  obtain rfl:=HBAD.out hk
  clear hr hk
  go_wp2_with fail
  refine leaves_cons (f:=85) (args:=#[.pointer (some ⟨w.heap.size,0,none⟩),.pointer (some ⟨w.heap.size + 1,0,none⟩)]) (by simp) (by simp [go_sem]) ?_
  refine (sParse_placed ⟨w.heap.size,0,none⟩ ⟨w.heap.size + 1,0,none⟩ 0 0 n k _ (fun u hb=>(p2_cells (HPC.out _ (HB.out.trans (hb.mono HB.out.size)))).1) (fun u hb=>(p2_cells (HPC.out _ (HB.out.trans (hb.mono HB.out.size)))).2.1) (fun u hb=>(p2_after (HPC.out _ (HB.out.trans (hb.mono HB.out.size))) _).2.2.1) (fun u hb=>(p2_after (HPC.out _ (HB.out.trans (hb.mono HB.out.size))) _).2.2.2)).mono ?_
  rintro e u' w3 ⟨rfl,rfl,u,hb,rfl⟩
  have HBU:=Lib.hid (HB.out.trans (hb.mono HB.out.size))
  obtain ⟨q0,q1⟩:=p2_both (HPC.out _ HBU.out) (.int .i64 n) (.int .i64 k)
  simp [Leaves,settle,results,Tryz.results34,go_sem,q0,q1]
  exact Sz.pret_bad rfl (HBW.out.trans (HBU.out.mono HBW.out.size)) _ _
theorem Sz.field_at {w : World} {A : Option Addr} {l : List Fld} (h : Rg.Row encF 3 w A l) (k : Nat) (hk : k < l.length) :
  ∃ ad,A=some ad∧ad.block < w.heap.size∧w.cell? (ad.add (k * 3))=some (.string ⟨l[k].key.toArray⟩)∧w.cell? ⟨(ad.add (k * 3)).block,(ad.add (k * 3)).off + 1,none⟩=some (.string ⟨l[k].val.toArray⟩)∧w.cell? ⟨(ad.add (k * 3)).block,(ad.add (k * 3)).off + 2,none⟩=some (.int .i64 l[k].line):=by
 obtain ⟨ad,x,e,hx,hlt,hc⟩:=Rg.row_at h k hk
 subst hx
 exact ⟨ad,e,hlt,hc 0 _ rfl,hc 1 _ rfl,hc 2 _ rfl⟩
def Sz.Short (l : List Fld) : Prop:=∀ f ∈ l,f.key.length≤140737488355328∧f.val.length≤140737488355328
theorem Sz.short_at {l : List Fld} (h : Short l) (k : Nat) (hk : k < l.length) : l[k].key.length≤140737488355328∧l[k].val.length≤140737488355328:=h _ (List.getElem_mem hk)
theorem Sz.getF_cons (f : Fld) (l : List Fld) (k : List UInt8) : getF (f :: l) k=if (f.key == k)=true then some f else getF l k:=by
 unfold getF;rw [List.find?_cons];cases f.key == k <;> rfl
def Sz.GotRet (w : World) (R : Option Fld) (e : Ending) (w' : World) : Prop:=e = .returned (.tuple #[.agg #[.string ⟨(R.getD ⟨[],[],0⟩).key.toArray⟩,.string ⟨(R.getD ⟨[],[],0⟩).val.toArray⟩,.int .i64 (R.getD ⟨[],[],0⟩).line],.bool R.isSome])∧Below w.heap.size w w'
theorem stanzaGet_any (A : Option Addr) (n c : Nat) (l : List Fld) (key : List UInt8) (w : World) (hn : l.length=n) (hr : Rg.Row encF 3 w A l) (hl : n≤100000) (hs : Sz.Short l) :
  Calls Tryz.prog 154 #[.slice A n c,.string ⟨key.toArray⟩] w (Sz.GotRet w (getF l key)):=by
 obtain ⟨R,hR⟩ : ∃ R,getF l key=R:=⟨_,rfl⟩
 rw [hR]
 obtain ⟨W1,hW1⟩ : ∃ W,w.alloc (.cells #[.string ⟨#[]⟩,.string ⟨#[]⟩,.int .i64 0] 82)=W:=⟨_,rfl⟩
 have HBW : Hid (Below w.heap.size w W1):=alloc_low hW1
 have HC3 : Hid (∀ u,Below W1.heap.size W1 u → u.cell? ⟨w.heap.size,0,none⟩=some (.string ⟨#[]⟩)∧u.cell? ⟨w.heap.size,1,none⟩=some (.string ⟨#[]⟩)∧u.cell? ⟨w.heap.size,2,none⟩=some (.int .i64 0)∧u.frozen? ⟨w.heap.size,0,none⟩=false∧u.frozen? ⟨w.heap.size,1,none⟩=false∧u.frozen? ⟨w.heap.size,2,none⟩=false):=fun u hb=>cell_three hW1 hb
 have HR:=Lib.hid (Rg.row_below hr HBW.out)
 have HG:=Lib.hid hR
 have HN:=Lib.hid hn
 have HS:=Lib.hid hs
 clear hr hR hn hs
 go_enter Tryz.func154,Tryz.ntmps154
 go_wp2_with fail
 clear hW1
 go_loopw [10] (fun i wr=>∃ k : Nat,k≤n∧i = .int .i64 k∧Hid (Below W1.heap.size W1 wr)∧Hid (getF (l.drop k) key=R)) (fun i _=>n - (intOf i).toNat)
 case atStart=>exact ⟨0,Nat.zero_le _,rfl,Below.refl _ _,HG.out⟩
 case round =>
  obtain ⟨k,hk,rfl,HW,HH⟩:=hrel
  by_cases hlt : k < n
  ·have hlr : k < l.length:=by rw [HN.out];exact hlt
   obtain ⟨ad,rfl,_,c0,c1,c2⟩:=field_at (Rg.row_below HR.out HW.out) k hlr
   have hd : l.drop k=l[k] :: l.drop (k + 1):=List.drop_eq_getElem_cons hlr
   obtain ⟨s1,s2⟩:=short_at HS.out k hlr
   have hh:=HH.out
   rw [hd,getF_cons] at hh
   obtain ⟨f,hf⟩ : ∃ f,l[k]=f:=⟨_,rfl⟩
   rw [hf] at c0 c1 c2 hh s1 s2
   obtain ⟨fk,fv,fl⟩:=f
   dsimp only at c0 c1 c2 hh s1 s2
   obtain ⟨V,hV⟩ : ∃ V,wr.alloc (.cells #[.string ⟨fk.toArray⟩,.string ⟨fv.toArray⟩,.int .i64 fl] 82)=V:=⟨_,rfl⟩
   have HV1 : Hid (Below W1.heap.size W1 V):=HW.out.trans ((alloc_low hV).mono HW.out.size)
   obtain ⟨v0,v1,v2,_⟩:=cell_three hV (Below.refl _ _)
   have S1:=Lib.hid s1
   have S2:=Lib.hid s2
   clear hd hf s1 s2
   cases hq : fk == key
   ·have HE : Hid (getF (l.drop (k + 1)) key=R):=by show _=_;rw [← hh,if_neg (by rw [hq];decide)]
    clear hh
    go_wp2_with fail
    clear hV
    go_roundw
    case rel=>exact ⟨k + 1,by omega,by go_num,HV1,HE⟩
    case measure=>simp [intOf];omega
   ·have HE : Hid (R=some ⟨fk,fv,fl⟩):=by show _=_;rw [← hh,if_pos hq]
    clear hh
    go_wp2_with fail
    clear hV
    refine (fClone_any fk fv fl _ S1.out S2.out).mono ?_
    rintro _ u3 ⟨rfl,hb3⟩
    have HBU : Hid (Below W1.heap.size W1 u3):=HV1.out.trans (hb3.mono HV1.out.size)
    clear hb3
    obtain ⟨b0,b1,b2,f0,f1,f2⟩:=HC3.out _ HBU.out
    have HBV : Hid (Below w.heap.size w (((u3.setCell ⟨w.heap.size,0,none⟩ (.string ⟨fk.toArray⟩)).setCell ⟨w.heap.size,1,none⟩ (.string ⟨fv.toArray⟩)).setCell ⟨w.heap.size,2,none⟩ (.int .i64 fl))):=(((HBW.out.trans (HBU.out.mono HBW.out.size)).setCell (Nat.le_refl _) _).setCell (Nat.le_refl _) _).setCell (Nat.le_refl _) _
    have g0 : (((u3.setCell ⟨w.heap.size,0,none⟩ (.string ⟨fk.toArray⟩)).setCell ⟨w.heap.size,1,none⟩ (.string ⟨fv.toArray⟩)).setCell ⟨w.heap.size,2,none⟩ (.int .i64 fl)).cell? ⟨w.heap.size,0,none⟩=some (.string ⟨fk.toArray⟩):=by simp [go_sem,b0]
    have g1 : (((u3.setCell ⟨w.heap.size,0,none⟩ (.string ⟨fk.toArray⟩)).setCell ⟨w.heap.size,1,none⟩ (.string ⟨fv.toArray⟩)).setCell ⟨w.heap.size,2,none⟩ (.int .i64 fl)).cell? ⟨w.heap.size,1,none⟩=some (.string ⟨fv.toArray⟩):=by simp [go_sem,b1]
    have g2 : (((u3.setCell ⟨w.heap.size,0,none⟩ (.string ⟨fk.toArray⟩)).setCell ⟨w.heap.size,1,none⟩ (.string ⟨fv.toArray⟩)).setCell ⟨w.heap.size,2,none⟩ (.int .i64 fl)).cell? ⟨w.heap.size,2,none⟩=some (.int .i64 fl):=by simp [go_sem,b2]
    go_wp2_with fail
    generalize (((u3.setCell ⟨w.heap.size,0,none⟩ (.string ⟨fk.toArray⟩)).setCell ⟨w.heap.size,1,none⟩ (.string ⟨fv.toArray⟩)).setCell ⟨w.heap.size,2,none⟩ (.int .i64 fl))=V at *
    refine bodyPost_ret (v:=.tuple #[.agg #[.string ⟨fk.toArray⟩,.string ⟨fv.toArray⟩,.int .i64 fl],.bool true]) ?_ rfl ?_
    ·simp [results,Tryz.results154,go_sem,g0,g1,g2]
    ·show GotRet w R _ _
     rw [HE.out];exact ⟨rfl,HBV.out⟩
  ·obtain rfl : k=n:=by omega
   have HE : Hid (R=none):=by show _=_;rw [← HH.out,List.drop_eq_nil_of_le (by rw [HN.out];exact Nat.le_refl _)];rfl
   have HBU:=HW
   obtain ⟨b0,b1,b2,f0,f1,f2⟩:=HC3.out _ HBU.out
   have HBV : Hid (Below w.heap.size w (((wr.setCell ⟨w.heap.size,0,none⟩ (.string ⟨#[]⟩)).setCell ⟨w.heap.size,1,none⟩ (.string ⟨#[]⟩)).setCell ⟨w.heap.size,2,none⟩ (.int .i64 0))):=(((HBW.out.trans (HBU.out.mono HBW.out.size)).setCell (Nat.le_refl _) _).setCell (Nat.le_refl _) _).setCell (Nat.le_refl _) _
   have g0 : (((wr.setCell ⟨w.heap.size,0,none⟩ (.string ⟨#[]⟩)).setCell ⟨w.heap.size,1,none⟩ (.string ⟨#[]⟩)).setCell ⟨w.heap.size,2,none⟩ (.int .i64 0)).cell? ⟨w.heap.size,0,none⟩=some (.string ⟨#[]⟩):=by simp [go_sem,b0]
   have g1 : (((wr.setCell ⟨w.heap.size,0,none⟩ (.string ⟨#[]⟩)).setCell ⟨w.heap.size,1,none⟩ (.string ⟨#[]⟩)).setCell ⟨w.heap.size,2,none⟩ (.int .i64 0)).cell? ⟨w.heap.size,1,none⟩=some (.string ⟨#[]⟩):=by simp [go_sem,b1]
   have g2 : (((wr.setCell ⟨w.heap.size,0,none⟩ (.string ⟨#[]⟩)).setCell ⟨w.heap.size,1,none⟩ (.string ⟨#[]⟩)).setCell ⟨w.heap.size,2,none⟩ (.int .i64 0)).cell? ⟨w.heap.size,2,none⟩=some (.int .i64 0):=by simp [go_sem,b2]
   go_wp2_with fail
   generalize (((wr.setCell ⟨w.heap.size,0,none⟩ (.string ⟨#[]⟩)).setCell ⟨w.heap.size,1,none⟩ (.string ⟨#[]⟩)).setCell ⟨w.heap.size,2,none⟩ (.int .i64 0))=V at *
   refine bodyPost_ret (v:=.tuple #[.agg #[.string ⟨#[]⟩,.string ⟨#[]⟩,.int .i64 0],.bool false]) ?_ rfl ?_
   ·simp [results,Tryz.results154,go_sem,g0,g1,g2]
   ·show GotRet w R _ _
    rw [HE.out];exact ⟨rfl,HBV.out⟩
end Go.Proofs.YtkplahkkmmoppaaGreatDoor
namespace Go.Proofs.YtkplahkkmmoppaaGreatDoor
open Go.RowKit Rs At Pg
attribute [local go_sem ↓] Go.wp_at_zero Go.wp_at_succ
theorem valueWeight_any (t : List UInt8) (i : Int) (w : World) (ht : t.length≤1000) (hw : KOk w) (hlt : outW t < Wm.W) :
  Calls Tryz.prog 163 #[.agg #[.string ⟨t.toArray⟩,.int .i64 i]] w fun r w'=>r=(if errW t=0 then (if chkW (outW t)=0 then .returned (.float .f64 (outW t)) else panAt i (chkW (outW t))) else panAt i (errW t))∧Below w.heap.size w w':=by
 obtain ⟨b,hb⟩ : ∃ b,w.heap.size=b:=⟨_,rfl⟩
 obtain ⟨V,hV⟩ : ∃ V,w.alloc (.cells #[.string ⟨t.toArray⟩,.int .i64 i] 170)=V:=⟨_,rfl⟩
 have HB : Hid (Below w.heap.size w V):=alloc_low hV
 have HP:=Lib.hid (fun W (h : Below V.heap.size V W)=>cell_pair hV h)
 rw [hb] at HP
 obtain ⟨c0,c1⟩:=HP.out _ (Below.refl _ _)
 have HC:=Lib.hid (parse_w t ht V (kOk_below hw HB.out))
 have HK:=Lib.hid (fun W=>check_w (outW t) hlt W)
 obtain ⟨x,hx⟩ : ∃ x,outW t=x:=⟨_,rfl⟩
 obtain ⟨k,hk⟩ : ∃ k,errW t=k:=⟨_,rfl⟩
 rw [hx,hk] at HC
 rw [hx] at HK
 rw [hx,hk]
 obtain ⟨m,hm⟩ : ∃ m,chkW x=m:=⟨_,rfl⟩
 rw [hm] at HK
 rw [hm]
 clear hx hk hm hw ht hlt
 go_enter Tryz.func163,Tryz.ntmps163
 go_wp2_with fail
 clear hV hb
 refine HC.out.mono ?_
 rintro _ u ⟨rfl,hb⟩
 have HU:=Lib.hid hb
 clear c0 c1 hb HC
 obtain ⟨c0,c1⟩:=HP.out _ HU.out
 go_wp2_with fail
 refine (valueOK_any t i k _).mono ?_
 rintro _ u2 ⟨rfl,hb⟩
 have HU2 : Hid (Below V.heap.size V u2):=HU.out.trans (hb.mono HU.out.size)
 clear hb c0 c1 HU
 by_cases h0 : k=0
 case neg =>
  rw [okAt_ne h0]
  have H0:=Lib.hid h0
  clear h0
  go_wp2_with fail
  exact ⟨rfl,by first | exact (if_neg H0.out).symm | rfl | rw [if_neg H0.out],HB.out.trans (HU2.out.mono HB.out.size)⟩
 subst h0
 rw [okAt_zero]
 go_wp2_with fail
 have HS1 : Hid (Below V.heap.size V u2.drew):=HU2.out.drew
 obtain ⟨c0,c1⟩:=HP.out _ HS1.out
 by_cases h1 : m=0
 ·subst h1
  go_region_held3 (fun w'=>w'.cell? ⟨b,0,none⟩=some (.string ⟨t.toArray⟩)∧w'.cell? ⟨b,1,none⟩=some (.int .i64 i))
   (first
    | exact HP.out _ HS1.out
    | exact HP.out _ (HS1.out.trans (HS3.out.mono HS1.out.size)))
   (first
    | (go_at_call 95;refine (HK.out _).mono ?_;rintro _ u4 ⟨rfl,rfl⟩)
    | (go_at_call 203;refine (valueOK_any t i 0 _).mono ?_;rintro _ u3 ⟨rfl,hs⟩;have HS3:=Lib.hid hs;clear hs;rw [okAt_zero]))
  have HS4 : Hid (Below V.heap.size V u3):=HS1.out.trans (HS3.out.mono HS1.out.size)
  clear c0 c1 HS3
  go_wp2_with fail
  go_ret
  exact ⟨rfl,HB.out.trans (HS4.out.mono HB.out.size)⟩
 ·have HK1 : Hid (okAt i m=panAt i m):=okAt_ne h1
  have H1:=Lib.hid h1
  clear h1
  go_region_with (first
    | (go_at_call 95;refine (HK.out _).mono ?_;rintro _ u4 ⟨rfl,rfl⟩)
    | (go_at_call 203;refine (valueOK_any t i m _).mono ?_;rintro _ u3 ⟨rfl,hs⟩;have HS3:=Lib.hid hs;clear hs;rw [HK1.out];refine ends_at (P:=Tryz.prog) (a:={ tmps:=#[],defers:=[] }) (w:=w) ?_))
  all_goals exact ⟨rfl,by first | rfl | (rw [if_pos rfl,if_neg H1.out]),HB.out.trans ((HS1.out.trans (HS3.out.mono HS1.out.size)).mono HB.out.size)⟩
theorem pkgHas_any (A : Option Addr) (n c : Nat) (l : List Sz.Fld) (key : List UInt8) (w : World) (hn : l.length=n) (hr : Rg.Row Sz.encF 3 w A l) (hl : n≤100000) (hs : Sz.Short l) :
  Calls Tryz.prog 110 #[.slice A n c,.string ⟨key.toArray⟩] w fun e w'=>e = .returned (.bool (Sz.getF l key).isSome)∧Below w.heap.size w w':=by
 have HG:=Lib.hid (stanzaGet_any A n c l key w hn hr hl hs)
 obtain ⟨R,hR⟩ : ∃ R,Sz.getF l key=R:=⟨_,rfl⟩
 rw [hR] at HG
 rw [hR]
 unfold Sz.GotRet at HG
 obtain ⟨x,hx⟩ : ∃ x,R.isSome=x:=⟨_,rfl⟩
 obtain ⟨fl,hfl⟩ : ∃ f,R.getD ⟨[],[],0⟩=f:=⟨_,rfl⟩
 rw [hx,hfl] at HG
 rw [hx]
 clear hn hr hl hs hR hx hfl
 go_enter Tryz.func110,Tryz.ntmps110
 go_wp2_with fail
 refine HG.out.mono ?_
 rintro _ u ⟨rfl,hb⟩
 have HU:=Lib.hid hb
 clear hb HG
 go_wp2_with fail
 go_ret
 exact ⟨rfl,HU.out.alloc HU.out.size _⟩
end Go.Proofs.YtkplahkkmmoppaaGreatDoor
