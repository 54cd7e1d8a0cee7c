/- Part 17 of what the laws lean on. -/
import Derived.Test.YtkplahkkmmoppaaGreatDoorL16
set_option maxRecDepth 100000
set_option maxHeartbeats 1600000
namespace Go.Proofs.YtkplahkkmmoppaaGreatDoor
open Go.RowKit
theorem fb_run (n : Int) (w : World) : (callFunc 167 #[.int .u64 n]).run Tryz.prog w = .ok (.value (.float .f64 n.toNat)) w:=by kernel_rfl
theorem tb_run (b : Nat) (w : World) : (callFunc 107 #[.float .f64 b]).run Tryz.prog w = .ok (.value (.int .u64 b)) w:=by kernel_rfl
def chkW (b : Nat) : Int:=if Wm.nan b then 8 else 0
theorem isNaN_any (b : Nat) (hb : b < Wm.W) (w : World) :
  Calls Tryz.prog 105 #[.float .f64 b] w fun e w'=>e = .returned (.bool (Wm.nan b))∧w=w':=by
 have H:=Lib.hid (Wm.ord_self b hb)
 go_enter Tryz.func105,Tryz.ntmps105
 go_wp2_with fail
 go_ret
 exact ⟨by first | rfl | (rw [H.out];rfl),rfl⟩
theorem check_w (b : Nat) (hb : b < Wm.W) (w : World) :
  Calls Tryz.prog 95 #[.float .f64 b] w fun e w'=>e = .returned (.int .i64 (chkW b))∧w=w':=by
 go_enter Tryz.func95,Tryz.ntmps95
 go_wp2_with fail
 refine (isNaN_any b hb _).mono ?_
 rintro e w' ⟨rfl,rfl⟩
 cases hn : Wm.nan b
 all_goals
  go_wp2_with fail
  go_ret
  exact ⟨by rw [chkW,hn];rfl,rfl⟩
theorem refCheckW_any (b : Nat) (hb : b < Wm.W) (w : World) :
  Calls Tryz.prog 44 #[.float .f64 b] w fun e w'=>e = .returned (.int .i64 (chkW b))∧w=w':=by
 have H:=Wm.ord_self b hb
 go_enter Tryz.func44,Tryz.ntmps44
 cases hn : Wm.nan b
 all_goals
  rw [hn] at H
  go_wp2_with fail
  go_ret
  exact ⟨by rw [chkW,hn];rfl,rfl⟩
theorem inf_any (s : Int) (w : World) :
  Calls Tryz.prog 232 #[.int .i64 s] w fun e w'=>e = .returned (.float .f64 (Wm.word (decide (s < 0)) 9218868437227405312))∧w=w':=by
 have hfb:=fb_run
 go_enter Tryz.func232,Tryz.ntmps232
 by_cases h : 0≤s
 ·go_wp2_with fail
  go_ret
  exact ⟨by first | rfl | (rw [decide_eq_false (by omega)];rfl),rfl⟩
 ·go_wp2_with fail
  go_ret
  exact ⟨by first | rfl | (rw [decide_eq_true (by omega)];rfl),rfl⟩
theorem nan_any (w : World) :
  Calls Tryz.prog 271 #[] w fun e w'=>e = .returned (.float .f64 9221120237041090561)∧w=w':=by
 have hfb:=fb_run
 go_enter Tryz.func271,Tryz.ntmps271
 go_wp2_with fail
 go_ret
 exact ⟨rfl,rfl⟩
end Go.Proofs.YtkplahkkmmoppaaGreatDoor
namespace Go.Proofs.YtkplahkkmmoppaaGreatDoor.Pg
open Go.RowKit Rs At
structure Gv where
 name : List UInt8
 ver : List UInt8
 deriving DecidableEq
structure Pk where
 name : List UInt8
 ver : List UInt8
 deps : List (List Atm)
 confl : List Atm
 prov : List Gv
 wt : Nat
 deriving DecidableEq
def verE (v : List UInt8) : Int:=if Vm.check v=0 then (if Vm.canon v=v then 0 else 5) else Vm.check v
def atomsE : List Atm → Int
 | []=>0
 | a :: l=>if checkA a=0 then atomsE l else checkA a
def giveE (g : Gv) : Int:=if nameB g.name then (if g.ver = [] then 0 else verE g.ver) else 3
def givesE : List Gv → Int
 | []=>0
 | g :: l=>if giveE g=0 then givesE l else giveE g
def depsE : List (List Atm) → Int
 | []=>0
 | d :: l=>if 1≤d.length∧d.length≤8 then (if atomsE d=0 then depsE l else atomsE d) else 4
def checkP (p : Pk) : Int :=
 if nameB p.name=false then 3
 else if verE p.ver ≠ 0 then verE p.ver
 else if 16 < p.deps.length then 4
 else if depsE p.deps ≠ 0 then depsE p.deps
 else if 16 < p.confl.length then 4
 else if atomsE p.confl ≠ 0 then atomsE p.confl
 else if 16 < p.prov.length then 4
 else if givesE p.prov ≠ 0 then givesE p.prov
 else chkW p.wt
abbrev AtD:=List UInt8 × Desc
def encA (d : AtD) : List Value:=[.string ⟨d.1.toArray⟩,.slice d.2.1 d.2.2.1 d.2.2.2]
def encG (g : Gv) : List Value:=[.string ⟨g.name.toArray⟩,.string ⟨g.ver.toArray⟩]
theorem fitsA : Rg.Fits encA 2:=⟨fun _=>rfl,fun x u hu=>by
 simp only [encA,List.mem_cons,List.not_mem_nil,or_false] at hu
 rcases hu with rfl | rfl <;> rfl⟩
theorem fitsG : Rg.Fits encG 2:=⟨fun _=>rfl,fun x u hu=>by
 simp only [encG,List.mem_cons,List.not_mem_nil,or_false] at hu
 rcases hu with rfl | rfl <;> rfl⟩
def AIn (w : World) (ds : List AtD) (l : List Atm) : Prop:=ds.length=l.length∧∀ (i : Nat) (d : AtD) (a : Atm),ds[i]? = some d → l[i]? = some a → d.1=a.name∧d.2.2.1=a.rng.length∧SRow w d.2.1 a.rng
def ARow (w : World) (A : Option Addr) (l : List Atm) : Prop:=∃ ds,Rg.Row encA 2 w A ds∧AIn w ds l
def DIn (w : World) (ds : List Desc) (t : List (List Atm)) : Prop:=ds.length=t.length∧∀ (i : Nat) (d : Desc) (l : List Atm),ds[i]? = some d → t[i]? = some l → d.2.1=l.length∧ARow w d.1 l
def DRow (w : World) (A : Option Addr) (t : List (List Atm)) : Prop:=∃ ds,Rg.Row encO 1 w A ds∧DIn w ds t
abbrev GRow (w : World) (A : Option Addr) (l : List Gv) : Prop:=Rg.Row encG 2 w A l
theorem ain_below {w w' : World} {ds : List AtD} {l : List Atm} (h : AIn w ds l) (hb : Below w.heap.size w w') : AIn w' ds l :=
 ⟨h.1,fun i d a h1 h2=>⟨(h.2 i d a h1 h2).1,(h.2 i d a h1 h2).2.1,srow_below (h.2 i d a h1 h2).2.2 hb⟩⟩
theorem arow_below {w w' : World} {A : Option Addr} {l : List Atm} (h : ARow w A l) (hb : Below w.heap.size w w') : ARow w' A l:=by
 obtain ⟨ds,h1,h2⟩:=h;exact ⟨ds,Rg.row_below h1 hb,ain_below h2 hb⟩
theorem din_below {w w' : World} {ds : List Desc} {t : List (List Atm)} (h : DIn w ds t) (hb : Below w.heap.size w w') : DIn w' ds t :=
 ⟨h.1,fun i d l h1 h2=>⟨(h.2 i d l h1 h2).1,arow_below (h.2 i d l h1 h2).2 hb⟩⟩
theorem drowD_below {w w' : World} {A : Option Addr} {t : List (List Atm)} (h : DRow w A t) (hb : Below w.heap.size w w') : DRow w' A t:=by
 obtain ⟨ds,h1,h2⟩:=h;exact ⟨ds,Rg.row_below h1 hb,din_below h2 hb⟩
theorem arow_at {w : World} {A : Option Addr} {l : List Atm} (h : ARow w A l) (k : Nat) (hk : k < l.length) : ∃ ad C n c,A=some ad∧l[k].rng.length=n∧SRow w C l[k].rng∧∀ u,Below w.heap.size w u → u.cell? (ad.add (k * 2))=some (.string ⟨l[k].name.toArray⟩)∧u.cell? ⟨(ad.add (k * 2)).block,(ad.add (k * 2)).off + 1,none⟩=some (.slice C n c):=by
 obtain ⟨ds,h1,h2,h3⟩:=h
 have hkd : k < ds.length:=by omega
 obtain ⟨ad,e,_,_⟩:=h1 (by omega)
 obtain ⟨q0,q1,q2⟩:=h3 k ds[k] l[k] (List.getElem?_eq_getElem hkd) (List.getElem?_eq_getElem hk)
 refine ⟨ad,ds[k].2.1,ds[k].2.2.1,ds[k].2.2.2,e,q1.symm,q2,fun u hb=>?_⟩
 obtain ⟨ad',x,e',hx,_,hc⟩:=Rg.row_at (Rg.row_below h1 hb) k hkd
 rw [e] at e';cases e'
 subst hx
 exact ⟨by rw [← q0];exact hc 0 _ rfl,hc 1 _ rfl⟩
theorem drowD_at {w : World} {A : Option Addr} {t : List (List Atm)} (h : DRow w A t) (k : Nat) (hk : k < t.length) : ∃ ad C n c,A=some ad∧t[k].length=n∧ARow w C t[k]∧∀ u,Below w.heap.size w u → u.cell? (ad.add k)=some (.slice C n c):=by
 obtain ⟨ds,h1,h2,h3⟩:=h
 have hkd : k < ds.length:=by omega
 obtain ⟨ad,e,_,_⟩:=h1 (by omega)
 obtain ⟨q1,q2⟩:=h3 k ds[k] t[k] (List.getElem?_eq_getElem hkd) (List.getElem?_eq_getElem hk)
 refine ⟨ad,ds[k].1,ds[k].2.1,ds[k].2.2,e,q1.symm,q2,fun u hb=>?_⟩
 obtain ⟨ad',x,e',hx,_,hc⟩:=Rg.row_at (Rg.row_below h1 hb) k hkd
 rw [e] at e';cases e'
 have:=hc 0 _ rfl
 rw [if_pos rfl,Nat.mul_one] at this
 rw [hx];exact this
theorem grow_at {w : World} {A : Option Addr} {l : List Gv} (h : GRow w A l) (k : Nat) (hk : k < l.length) : ∃ ad,A=some ad∧∀ u,Below w.heap.size w u → u.cell? (ad.add (k * 2))=some (.string ⟨l[k].name.toArray⟩)∧u.cell? ⟨(ad.add (k * 2)).block,(ad.add (k * 2)).off + 1,none⟩=some (.string ⟨l[k].ver.toArray⟩):=by
 obtain ⟨ad,e,_,_⟩:=h (by omega)
 refine ⟨ad,e,fun u hb=>?_⟩
 obtain ⟨ad',x,e',hx,_,hc⟩:=Rg.row_at (Rg.row_below h hb) k hk
 rw [e] at e';cases e'
 subst hx
 exact ⟨hc 0 _ rfl,hc 1 _ rfl⟩
def AFew (l : List Atm) : Prop:=∀ a ∈ l,a.name.length≤maxLen∧a.rng.length≤1000
def GFew (l : List Gv) : Prop:=∀ g ∈ l,g.name.length≤maxLen∧g.ver.length≤maxLen
theorem afew_at {l : List Atm} (h : AFew l) (k : Nat) (hk : k < l.length) : l[k].name.length≤maxLen∧l[k].rng.length≤1000:=h _ (List.getElem_mem hk)
theorem gfew_at {l : List Gv} (h : GFew l) (k : Nat) (hk : k < l.length) : l[k].name.length≤maxLen∧l[k].ver.length≤maxLen:=h _ (List.getElem_mem hk)
end Go.Proofs.YtkplahkkmmoppaaGreatDoor.Pg
namespace Go.Proofs.YtkplahkkmmoppaaGreatDoor
open Go.RowKit Rs At Pg
attribute [local go_sem ↓] Go.wp_at_zero Go.wp_at_succ
theorem requireOK_any (k : Int) (w : World) : Calls Tryz.prog 94 #[.int .i64 k] w fun e w'=>e=okOr' k∧w=w':=by
 by_cases hk : k=0
 ·subst hk
  go_enter Tryz.func94,Tryz.ntmps94
  go_wp2_with fail
  refine (require_yes _).mono ?_
  rintro _ z ⟨rfl,rfl⟩
  go_wp2_with fail
  go_end0
  exact ⟨rfl,rfl⟩
 ·have d : (k == 0)=false:=beq_eq_false_iff_ne.2 hk
  have HK : Hid (okOr' k=pan k):=okOr_ne hk
  clear hk
  go_enter Tryz.func94,Tryz.ntmps94
  go_wp2_with fail
  refine (require_no _).mono ?_
  rintro _ z ⟨rfl,rfl⟩
  go_wp2_with fail
  exact ⟨rfl,by rw [HK.out],rfl⟩
theorem requireCanonical_any (v : List UInt8) (w : World) (hw : MaxOk w) : Calls Tryz.prog 91 #[.string ⟨v.toArray⟩] w fun e w'=>e=okOr' (verE v)∧Below w.heap.size w w':=by
 obtain ⟨R,hR⟩ : ∃ R,verE v=R:=⟨_,rfl⟩
 rw [hR]
 unfold verE at hR
 have HC:=Lib.hid (canon_any v w hw)
 obtain ⟨x,hx⟩ : ∃ x,canonOf v=x:=⟨_,rfl⟩
 obtain ⟨k,hk⟩ : ∃ k,Vm.check v=k:=⟨_,rfl⟩
 rw [hx,hk] at HC
 rw [hk] at hR
 have HX : Hid (k=0 → Vm.canon v=x):=fun h=>by rw [← hx];unfold canonOf;rw [if_pos (hk.trans h)]
 clear hx hk hw
 by_cases h0 : k=0
 ·subst h0
  rw [if_pos rfl,HX.out rfl] at hR
  by_cases hv : x=v
  ·rw [if_pos hv] at hR
   subst hR
   have e : (x == v)=true:=by simpa using hv
   clear hv
   go_enter Tryz.func91,Tryz.ntmps91
   go_wp2_with fail
   refine HC.out.mono ?_
   rintro _ u ⟨rfl,hb⟩
   have HB:=Lib.hid hb
   clear hb
   go_wp2_with fail
   refine (requireOK_any 0 _).mono ?_
   rintro _ z ⟨rfl,rfl⟩
   rw [okOr_zero]
   go_wp2_with fail
   refine (require_yes _).mono ?_
   rintro _ z ⟨rfl,rfl⟩
   go_wp2_with fail
   go_end0
   exact ⟨rfl,HB.out⟩
  ·rw [if_neg hv] at hR
   subst hR
   have e : (x == v)=false:=beq_eq_false_iff_ne.2 hv
   clear hv
   go_enter Tryz.func91,Tryz.ntmps91
   go_wp2_with fail
   refine HC.out.mono ?_
   rintro _ u ⟨rfl,hb⟩
   have HB:=Lib.hid hb
   clear hb
   go_wp2_with fail
   refine (requireOK_any 0 _).mono ?_
   rintro _ z ⟨rfl,rfl⟩
   rw [okOr_zero]
   go_wp2_with fail
   refine (require_no _).mono ?_
   rintro _ z ⟨rfl,rfl⟩
   go_wp2_with fail
   exact ⟨rfl,rfl,HB.out⟩
 ·rw [if_neg h0] at hR
  subst hR
  have HK : Hid (okOr' k=pan k):=okOr_ne h0
  clear h0
  go_enter Tryz.func91,Tryz.ntmps91
  go_wp2_with fail
  refine HC.out.mono ?_
  rintro _ u ⟨rfl,hb⟩
  have HB:=Lib.hid hb
  clear hb
  go_wp2_with fail
  refine (requireOK_any k _).mono ?_
  rintro _ z ⟨rfl,rfl⟩
  rw [HK.out]
  go_wp2_with fail
  exact ⟨rfl,by rw [HK.out],HB.out⟩
theorem Pg.cell_pair {w W1 u : World} {a b : Value} {T : TypeId} (h1 : w.alloc (.cells #[a,b] T)=W1) (hb : Below W1.heap.size W1 u) : u.cell? ⟨w.heap.size,0,none⟩=some a∧u.cell? ⟨w.heap.size,1,none⟩=some b :=
 ⟨(cell_two h1 hb).1,(cell_two h1 hb).2.1⟩
theorem requireGive_any (g : Gv) (w : World) (hw : MaxOk w) (hm : g.name.length≤maxLen) : Calls Tryz.prog 93 #[.agg #[.string ⟨g.name.toArray⟩,.string ⟨g.ver.toArray⟩]] w fun e w'=>e=okOr' (giveE g)∧Below w.heap.size w w':=by
 obtain ⟨nm,v⟩:=g
 dsimp only at hm ⊢
 obtain ⟨R,hR⟩ : ∃ R,giveE ⟨nm,v⟩=R:=⟨_,rfl⟩
 rw [hR]
 unfold giveE at hR
 dsimp only at hR
 obtain ⟨W1,hW1⟩ : ∃ W,w.alloc (.cells #[.string ⟨nm.toArray⟩,.string ⟨v.toArray⟩] 72)=W:=⟨_,rfl⟩
 have HB1 : Hid (Below w.heap.size w W1):=alloc_low hW1
 obtain ⟨c0,c1⟩:=cell_pair hW1 (Below.refl _ _)
 have HN:=Lib.hid (nameA_any nm W1 hm)
 have HV:=Lib.hid (requireCanonical_any v W1 (maxOk_below hw HB1.out))
 clear hw hm
 cases hnb : nameB nm
 ·rw [hnb] at hR HN
  rw [if_neg (by decide)] at hR
  subst hR
  clear HV hnb
  go_enter Tryz.func93,Tryz.ntmps93
  go_wp2_with fail
  refine HN.out.mono ?_
  rintro _ z ⟨rfl,rfl⟩
  go_wp2_with fail
  refine (require_no _).mono ?_
  rintro _ z ⟨rfl,rfl⟩
  go_wp2_with fail
  exact ⟨rfl,rfl,HB1.out⟩
 ·rw [hnb] at hR HN
  rw [if_pos rfl] at hR
  clear hnb
  by_cases hv : v = []
  ·rw [if_pos hv] at hR
   subst hR
   have e : (v == [])=true:=by rw [hv];rfl
   clear hv HV
   go_enter Tryz.func93,Tryz.ntmps93
   go_wp2_with fail
   refine HN.out.mono ?_
   rintro _ z ⟨rfl,rfl⟩
   go_wp2_with fail
   refine (require_yes _).mono ?_
   rintro _ z ⟨rfl,rfl⟩
   go_wp2_with fail
   go_end0
   exact ⟨rfl,HB1.out⟩
  ·rw [if_neg hv] at hR
   rw [hR] at HV
   have e : (v == [])=false:=beq_eq_false_iff_ne.2 hv
   clear hv hR
   by_cases h0 : R=0
   ·subst h0
    go_enter Tryz.func93,Tryz.ntmps93
    go_wp2_with fail
    refine HN.out.mono ?_
    rintro _ z ⟨rfl,rfl⟩
    go_wp2_with fail
    refine (require_yes _).mono ?_
    rintro _ z ⟨rfl,rfl⟩
    go_wp2_with fail
    refine HV.out.mono ?_
    rintro _ u ⟨rfl,hb⟩
    have HB:=Lib.hid (HB1.out.trans (hb.mono HB1.out.size))
    clear hb
    rw [okOr_zero]
    go_wp2_with fail
    go_end0
    exact ⟨rfl,HB.out⟩
   ·have HK : Hid (okOr' R=pan R):=okOr_ne h0
    clear h0
    go_enter Tryz.func93,Tryz.ntmps93
    go_wp2_with fail
    refine HN.out.mono ?_
    rintro _ z ⟨rfl,rfl⟩
    go_wp2_with fail
    refine (require_yes _).mono ?_
    rintro _ z ⟨rfl,rfl⟩
    go_wp2_with fail
    refine HV.out.mono ?_
    rintro _ u ⟨rfl,hb⟩
    have HB:=Lib.hid (HB1.out.trans (hb.mono HB1.out.size))
    clear hb
    rw [HK.out]
    go_wp2_with fail
    exact ⟨rfl,by rw [HK.out],HB.out⟩
theorem Pg.atomsE_cons (a : Atm) (l : List Atm) : atomsE (a :: l)=if checkA a=0 then atomsE l else checkA a:=rfl
theorem requireAtoms_any (A : Option Addr) (n c : Nat) (l : List Atm) (w : World) (hw : MaxOk w) (hn : l.length=n) (hr : ARow w A l) (hl : n≤1000000) (hf : AFew l) :
  Calls Tryz.prog 92 #[.slice A n c] w fun e w'=>e=okOr' (atomsE l)∧Below w.heap.size w w':=by
 obtain ⟨R,hR⟩ : ∃ R,atomsE l=R:=⟨_,rfl⟩
 rw [hR]
 have HM:=Lib.hid hw
 have HN:=Lib.hid hn
 have HR:=Lib.hid hr
 have HF:=Lib.hid hf
 have HG:=Lib.hid hR
 clear hw hn hr hf hR
 go_enter Tryz.func92,Tryz.ntmps92
 go_wp2_with fail
 go_loopw [6] (fun i wr=>∃ k : Nat,k≤n∧i = .int .i64 k∧Hid (atomsE (l.drop k)=R)∧Hid (Below w.heap.size w wr)) (fun i _=>n - (intOf i).toNat)
 case atStart=>exact ⟨0,Nat.zero_le _,rfl,HG.out,Below.refl _ _⟩
 case round =>
  obtain ⟨k,hk,rfl,HH,HW⟩:=hrel
  by_cases hlt : k < n
  ·have hlr : k < l.length:=by rw [HN.out];exact hlt
   obtain ⟨ad,C,m,d,rfl,hm,hs,hc⟩:=arow_at HR.out k hlr
   obtain ⟨c0,c1⟩:=hc _ HW.out
   have hd : l.drop k=l[k] :: l.drop (k + 1):=List.drop_eq_getElem_cons hlr
   obtain ⟨f1,f2⟩:=afew_at HF.out k hlr
   have hh:=HH.out
   rw [hd,atomsE_cons] at hh
   obtain ⟨a,ha⟩ : ∃ a,l[k]=a:=⟨_,rfl⟩
   rw [ha] at c0 hm hs f1 f2 hh
   obtain ⟨nm,rg⟩:=a
   dsimp only at c0 hm hs f1 f2
   obtain ⟨V,hV⟩ : ∃ V,wr.alloc (.cells #[.string ⟨nm.toArray⟩,.slice C m d] 66)=V:=⟨_,rfl⟩
   have HBV : Hid (Below w.heap.size w V):=HW.out.trans ((alloc_low hV).mono HW.out.size)
   obtain ⟨v0,v1⟩:=cell_pair hV (Below.refl _ _)
   have HCK:=Lib.hid (atomCheck_any nm C m d rg V (maxOk_below HM.out HBV.out) f1 hm (srow_below hs HBV.out) (by rw [← hm];exact f2))
   obtain ⟨x,hx⟩ : ∃ x,checkA ⟨nm,rg⟩=x:=⟨_,rfl⟩
   rw [hx] at hh HCK
   clear hc hd ha hs f1 f2 hx hm
   by_cases h0 : x=0
   ·subst h0
    have HE : Hid (atomsE (l.drop (k + 1))=R):=by rw [if_pos rfl] at hh;exact hh
    clear hh
    go_wp2_with fail
    clear hV
    refine HCK.out.mono ?_
    rintro _ u ⟨rfl,hb⟩
    have HB:=Lib.hid (HBV.out.trans (hb.mono HBV.out.size))
    clear hb
    go_wp2_with fail
    refine (requireOK_any 0 _).mono ?_
    rintro _ z ⟨rfl,rfl⟩
    rw [okOr_zero]
    go_wp2_with fail
    go_roundw
    case rel=>exact ⟨k + 1,by omega,by go_num,HE,HB.out⟩
    case measure=>simp [intOf];omega
   ·have HE : Hid (x=R):=by rw [if_neg h0] at hh;exact hh
    have HK : Hid (okOr' x=pan x):=okOr_ne h0
    clear hh h0
    go_wp2_with fail
    clear hV
    refine HCK.out.mono ?_
    rintro _ u ⟨rfl,hb⟩
    have HB:=Lib.hid (HBV.out.trans (hb.mono HBV.out.size))
    clear hb
    go_wp2_with fail
    refine (requireOK_any x _).mono ?_
    rintro _ z ⟨rfl,rfl⟩
    rw [HK.out]
    go_wp2_with fail
    exact ⟨rfl,by rw [← HE.out,HK.out],HB.out⟩
  ·obtain rfl : k=n:=by omega
   have HE : Hid (R=0):=by show _=_;rw [← HH.out,List.drop_eq_nil_of_le (by rw [HN.out];exact Nat.le_refl _)];rfl
   go_wp2_with fail
   go_end0
   exact ⟨by rw [HE.out];rfl,HW.out⟩
end Go.Proofs.YtkplahkkmmoppaaGreatDoor
namespace Go.Proofs.YtkplahkkmmoppaaGreatDoor
open Go.RowKit Rs At Pg
namespace Pg
theorem cell_six {w W1 u : World} {a b c d e f : Value} {T : TypeId} (h1 : w.alloc (.cells #[a,b,c,d,e,f] T)=W1) (hb : Below W1.heap.size W1 u) :
  u.cell? ⟨w.heap.size,0,none⟩=some a∧u.cell? ⟨w.heap.size,1,none⟩=some b∧u.cell? ⟨w.heap.size,2,none⟩=some c∧u.cell? ⟨w.heap.size,3,none⟩=some d∧u.cell? ⟨w.heap.size,4,none⟩=some e∧u.cell? ⟨w.heap.size,5,none⟩=some f:=by
 subst h1
 have h : u.heap[w.heap.size]? = some (.cells #[a,b,c,d,e,f] T (0,0)):=(hb.block _ (by simp)).trans (heap_alloc_new w _)
 refine ⟨?_,?_,?_,?_,?_,?_⟩ <;> simp [World.cell?,h]
def DFew (t : List (List Atm)) : Prop:=∀ l ∈ t,l.length≤1000000∧AFew l
theorem dfew_at {t : List (List Atm)} (h : DFew t) (k : Nat) (hk : k < t.length) : t[k].length≤1000000∧AFew t[k]:=h _ (List.getElem_mem hk)
def PFew (p : Pk) : Prop:=p.name.length≤maxLen∧p.deps.length≤1000000∧DFew p.deps∧p.confl.length≤1000000∧AFew p.confl∧p.prov.length≤1000000∧GFew p.prov∧p.wt < Wm.W
theorem depsE_cons (d : List Atm) (l : List (List Atm)) : depsE (d :: l)=if 1≤d.length∧d.length≤8 then (if atomsE d=0 then depsE l else atomsE d) else 4:=rfl
theorem givesE_cons (g : Gv) (l : List Gv) : givesE (g :: l)=if giveE g=0 then givesE l else giveE g:=rfl
end Pg
attribute [local go_sem ↓] Go.wp_at_zero Go.wp_at_succ
theorem requirePkg_any (p : Pk) (D C G : Option Addr) (dn dc cn cc gn gc : Nat) (w : World) (hw : MaxOk w) (hd : Pg.DRow w D p.deps) (hdn : p.deps.length=dn) (hc : ARow w C p.confl) (hcn : p.confl.length=cn) (hg : GRow w G p.prov) (hgn : p.prov.length=gn) (hf : PFew p) :
  Calls Tryz.prog 40 #[.agg #[.string ⟨p.name.toArray⟩,.string ⟨p.ver.toArray⟩,.slice D dn dc,.slice C cn cc,.slice G gn gc,.float .f64 p.wt]] w fun e w'=>e=okOr' (checkP p)∧Below w.heap.size w w':=by
 obtain ⟨nm,v,deps,confl,prov,wt⟩:=p
 dsimp only at hd hdn hc hcn hg hgn ⊢
 obtain ⟨f1,f2,f3,f4,f5,f6,f7,f8⟩:=hf
 dsimp only at f1 f2 f3 f4 f5 f6 f7 f8
 obtain ⟨R,hR⟩ : ∃ R,checkP ⟨nm,v,deps,confl,prov,wt⟩=R:=⟨_,rfl⟩
 rw [hR]
 unfold checkP at hR
 dsimp only at hR
 obtain ⟨x1,hx1⟩ : ∃ x,verE v=x:=⟨_,rfl⟩
 obtain ⟨x2,hx2⟩ : ∃ x,depsE deps=x:=⟨_,rfl⟩
 obtain ⟨x3,hx3⟩ : ∃ x,atomsE confl=x:=⟨_,rfl⟩
 obtain ⟨x4,hx4⟩ : ∃ x,givesE prov=x:=⟨_,rfl⟩
 obtain ⟨x5,hx5⟩ : ∃ x,chkW wt=x:=⟨_,rfl⟩
 rw [hx1,hx2,hx3,hx4,hx5,hdn,hcn,hgn] at hR
 have hdl : dn≤1000000:=by omega
 have hcl : cn≤1000000:=by omega
 have hgl : gn≤1000000:=by omega
 obtain ⟨W1,hW1⟩ : ∃ W,w.alloc (.cells #[.string ⟨nm.toArray⟩,.string ⟨v.toArray⟩,.slice D dn dc,.slice C cn cc,.slice G gn gc,.float .f64 wt] 34)=W:=⟨_,rfl⟩
 have HB1 : Hid (Below w.heap.size w W1):=alloc_low hW1
 have HW1:=Lib.hid hW1
 have HM:=Lib.hid (maxOk_below hw HB1.out)
 have HD:=Lib.hid hd
 have HDN:=Lib.hid hdn
 have HC:=Lib.hid hc
 have HCN:=Lib.hid hcn
 have HG:=Lib.hid hg
 have HGN:=Lib.hid hgn
 have HF3:=Lib.hid f3
 have HF5:=Lib.hid f5
 have HF7:=Lib.hid f7
 have HF8:=Lib.hid f8
 have HX2:=Lib.hid hx2
 have HX3:=Lib.hid hx3
 have HX4:=Lib.hid hx4
 have HX5:=Lib.hid hx5
 have HN:=Lib.hid (nameA_any nm W1 f1)
 have HV:=Lib.hid (requireCanonical_any v W1 HM.out)
 rw [hx1] at HV
 have hR':=Lib.hid hR
 clear hw hd hdn hc hcn hg hgn f1 f2 f3 f4 f5 f6 f7 f8 hx1 hx2 hx3 hx4 hx5 hR
 obtain ⟨c0,c1,c2,c3,c4,c5⟩:=cell_six hW1 (Below.refl _ _)
 clear c2 c3 c4 c5
 go_enter Tryz.func40,Tryz.ntmps40
 go_wp2_with fail
 clear hW1
 refine HN.out.mono ?_
 rintro _ z ⟨rfl,rfl⟩
 have hR:=hR'.out
 cases hnb : nameB nm
 ·rw [hnb,if_pos rfl] at hR
  have HE:=Lib.hid hR
  clear hnb hR
  go_wp2_with fail
  refine (require_no _).mono ?_
  rintro _ z ⟨rfl,rfl⟩
  go_wp2_with fail
  exact ⟨rfl,by rw [← HE.out];rfl,HB1.out⟩
 rw [hnb,if_neg (by decide)] at hR
 clear hnb hR' HN
 have hR':=Lib.hid hR
 clear hR
 go_wp2_with fail
 refine (require_yes _).mono ?_
 rintro _ z ⟨rfl,rfl⟩
 go_wp2_with fail
 refine HV.out.mono ?_
 clear HV
 rintro _ u ⟨rfl,hb⟩
 have HU:=Lib.hid hb
 have HUW : Hid (Below w.heap.size w u):=HB1.out.trans (hb.mono HB1.out.size)
 clear hb c0 c1
 by_cases h1 : x1=0
 case neg =>
  have hR:=hR'.out
  rw [if_pos h1] at hR
  have HE:=Lib.hid hR
  have HK : Hid (okOr' x1=pan x1):=okOr_ne h1
  clear hR h1
  rw [HK.out]
  go_wp2_with fail
  exact ⟨rfl,by rw [← HE.out,HK.out],HUW.out⟩
 have hR:=hR'.out
 subst h1
 rw [if_neg (by simp)] at hR
 clear hR'
 have hR':=Lib.hid hR
 clear hR
 rw [okOr_zero]
 obtain ⟨c0,c1,c2,c3,c4,c5⟩:=cell_six HW1.out HU.out
 clear c0 c1 c3 c4 c5
 by_cases hl1 : dn≤16
 case neg =>
  have hR:=hR'.out
  rw [if_pos (by omega)] at hR
  have HE:=Lib.hid hR
  have d1 : decide ((dn : Int)≤16)=false:=decide_eq_false (by omega)
  clear hR
  go_wp2_with fail
  refine (require_no _).mono ?_
  rintro _ z ⟨rfl,rfl⟩
  go_wp2_with fail
  exact ⟨rfl,by rw [← HE.out];rfl,HUW.out⟩
 have hR:=hR'.out
 rw [if_neg (by omega)] at hR
 clear hR'
 have hR':=Lib.hid hR
 have d1 : decide ((dn : Int)≤16)=true:=decide_eq_true (by omega)
 clear hR
 go_wp2_with fail
 refine (require_yes _).mono ?_
 rintro _ z ⟨rfl,rfl⟩
 go_wp2_with fail
 go_loopw [21] (fun i wr=>∃ k : Nat,k≤dn∧i = .int .i64 k∧Hid (depsE (deps.drop k)=x2)∧Hid (Below W1.heap.size W1 wr)) (fun i _=>dn - (intOf i).toNat)
 case atStart=>exact ⟨0,Nat.zero_le _,rfl,HX2.out,HU.out⟩
 case round =>
  clear c2 HU HUW
  obtain ⟨k,hk,rfl,HH,HW⟩:=hrel
  have HWW : Hid (Below w.heap.size w wr):=HB1.out.trans (HW.out.mono HB1.out.size)
  by_cases hlt : k < dn
  ·have hkr : k < deps.length:=by rw [HDN.out];exact hlt
   obtain ⟨ad,B,m,d,rfl,hm,hs,hc⟩:=drowD_at HD.out k hkr
   have c0:=hc _ HWW.out
   have hdr : deps.drop k=deps[k] :: deps.drop (k + 1):=List.drop_eq_getElem_cons hkr
   obtain ⟨f1,f2⟩:=dfew_at HF3.out k hkr
   have hh:=HH.out
   rw [hdr,depsE_cons] at hh
   obtain ⟨l,hl⟩ : ∃ l,deps[k]=l:=⟨_,rfl⟩
   rw [hl] at hm hs f1 f2 hh
   rw [hm] at hh
   have HS:=Lib.hid hs
   have HM':=Lib.hid hm
   have HF1:=Lib.hid f1
   have HF2:=Lib.hid f2
   clear hc hdr hl f1 f2 hs hm
   by_cases hb1 : 1≤m
   case neg =>
    rw [if_neg (by omega)] at hh
    have hR:=hR'.out
    rw [← hh,if_pos (by decide)] at hR
    have HE:=Lib.hid hR
    have d2 : decide (1≤(m : Int))=false:=decide_eq_false (by omega)
    clear hR hh
    go_wp2_with fail
    refine (require_no _).mono ?_
    rintro _ z ⟨rfl,rfl⟩
    go_wp2_with fail
    exact ⟨rfl,by rw [← HE.out];rfl,HWW.out⟩
   have d2 : decide (1≤(m : Int))=true:=decide_eq_true (by omega)
   by_cases hb2 : m≤8
   case neg =>
    rw [if_neg (by omega)] at hh
    have hR:=hR'.out
    rw [← hh,if_pos (by decide)] at hR
    have HE:=Lib.hid hR
    have d3 : decide ((m : Int)≤8)=false:=decide_eq_false (by omega)
    clear hR hh
    go_wp2_with fail
    refine (require_no _).mono ?_
    rintro _ z ⟨rfl,rfl⟩
    go_wp2_with fail
    exact ⟨rfl,by rw [← HE.out];rfl,HWW.out⟩
   have d3 : decide ((m : Int)≤8)=true:=decide_eq_true (by omega)
   rw [if_pos (by omega)] at hh
   obtain ⟨y,hy⟩ : ∃ y,atomsE l=y:=⟨_,rfl⟩
   have HA:=Lib.hid (requireAtoms_any B m d l wr (maxOk_below HM.out HW.out) HM'.out (arow_below HS.out HWW.out) (by rw [← HM'.out];exact HF1.out) HF2.out)
   rw [hy] at HA hh
   have hh':=Lib.hid hh
   clear hh hy
   go_wp2_with fail
   refine (require_yes _).mono ?_
   rintro _ z ⟨rfl,rfl⟩
   go_wp2_with fail
   refine HA.out.mono ?_
   rintro _ u2 ⟨rfl,hb⟩
   have HU:=Lib.hid (HW.out.trans (hb.mono HW.out.size))
   have HUW : Hid (Below w.heap.size w u2):=HB1.out.trans (HU.out.mono HB1.out.size)
   clear hb c0 HA
   by_cases h0 : y=0
   ·subst h0
    have HE : Hid (depsE (deps.drop (k + 1))=x2):=by have:=hh'.out;rw [if_pos rfl] at this;exact this
    rw [okOr_zero]
    go_wp2_with fail
    go_roundw
    case rel=>exact ⟨k + 1,by omega,by go_num,HE,HU.out⟩
    case measure=>simp [intOf];omega
   ·have hh:=hh'.out
    rw [if_neg h0] at hh
    have hR:=hR'.out
    rw [← hh,if_pos h0] at hR
    have HE:=Lib.hid hR
    have HK : Hid (okOr' y=pan y):=okOr_ne h0
    clear hR h0 hh
    rw [HK.out]
    go_wp2_with fail
    exact ⟨rfl,by rw [← HE.out,HK.out],HUW.out⟩
  ·obtain rfl : k=dn:=by omega
   have h2 : 0=x2:=by rw [← HH.out,List.drop_eq_nil_of_le (by rw [HDN.out];exact Nat.le_refl _)];rfl
   have hR:=hR'.out
   rw [← h2,if_neg (by simp)] at hR
   clear hR' HH HX2 h2
   have hR':=Lib.hid hR
   clear hR
   obtain ⟨c0,c1,c2,c3,c4,c5⟩:=cell_six HW1.out HW.out
   clear c0 c1 c2 c4 c5
   by_cases hl2 : cn≤16
   case neg =>
    have hR:=hR'.out
    rw [if_pos (by omega)] at hR
    have HE:=Lib.hid hR
    have d2 : decide ((cn : Int)≤16)=false:=decide_eq_false (by omega)
    clear hR
    go_wp2_with fail
    refine (require_no _).mono ?_
    rintro _ z ⟨rfl,rfl⟩
    go_wp2_with fail
    exact ⟨rfl,by rw [← HE.out];rfl,HWW.out⟩
   have hR:=hR'.out
   rw [if_neg (by omega)] at hR
   clear hR'
   have hR':=Lib.hid hR
   have d2 : decide ((cn : Int)≤16)=true:=decide_eq_true (by omega)
   clear hR
   have HA:=Lib.hid (requireAtoms_any C cn cc confl wr (maxOk_below HM.out HW.out) HCN.out (arow_below HC.out HWW.out) hcl HF5.out)
   rw [HX3.out] at HA
   go_wp2_with fail
   refine (require_yes _).mono ?_
   rintro _ z ⟨rfl,rfl⟩
   go_wp2_with fail
   refine HA.out.mono ?_
   rintro _ u2 ⟨rfl,hb⟩
   have HU:=Lib.hid (HW.out.trans (hb.mono HW.out.size))
   have HUW : Hid (Below w.heap.size w u2):=HB1.out.trans (HU.out.mono HB1.out.size)
   clear hb c3 HA HW HWW
   by_cases h3 : x3=0
   case neg =>
    have hR:=hR'.out
    rw [if_pos h3] at hR
    have HE:=Lib.hid hR
    have HK : Hid (okOr' x3=pan x3):=okOr_ne h3
    clear hR h3
    rw [HK.out]
    go_wp2_with fail
    exact ⟨rfl,by rw [← HE.out,HK.out],HUW.out⟩
   have hR:=hR'.out
   rw [if_neg (by simp [h3])] at hR
   rw [h3,okOr_zero]
   clear hR' h3
   have hR':=Lib.hid hR
   clear hR
   obtain ⟨c0,c1,c2,c3,c4,c5⟩:=cell_six HW1.out HU.out
   clear c0 c1 c2 c3 c5
   by_cases hl3 : gn≤16
   case neg =>
    have hR:=hR'.out
    rw [if_pos (by omega)] at hR
    have HE:=Lib.hid hR
    have d3 : decide ((gn : Int)≤16)=false:=decide_eq_false (by omega)
    clear hR
    go_wp2_with fail
    refine (require_no _).mono ?_
    rintro _ z ⟨rfl,rfl⟩
    go_wp2_with fail
    exact ⟨rfl,by rw [← HE.out];rfl,HUW.out⟩
   have hR:=hR'.out
   rw [if_neg (by omega)] at hR
   clear hR'
   have hR':=Lib.hid hR
   have d3 : decide ((gn : Int)≤16)=true:=decide_eq_true (by omega)
   clear hR
   go_wp2_with fail
   refine (require_yes _).mono ?_
   rintro _ z ⟨rfl,rfl⟩
   go_wp2_with fail
   go_loopw [53] (fun i wr=>∃ k : Nat,k≤gn∧i = .int .i64 k∧Hid (givesE (prov.drop k)=x4)∧Hid (Below W1.heap.size W1 wr)) (fun i _=>gn - (intOf i).toNat)
   case atStart=>exact ⟨0,Nat.zero_le _,rfl,HX4.out,HU.out⟩
   case round =>
    clear c4 HU HUW
    obtain ⟨k,hk,rfl,HH,HW⟩:=hrel
    have HWW : Hid (Below w.heap.size w wr):=HB1.out.trans (HW.out.mono HB1.out.size)
    by_cases hlt : k < gn
    ·have hkr : k < prov.length:=by rw [HGN.out];exact hlt
     obtain ⟨ad,rfl,hc⟩:=grow_at HG.out k hkr
     obtain ⟨c0,c1⟩:=hc _ HWW.out
     have hdr : prov.drop k=prov[k] :: prov.drop (k + 1):=List.drop_eq_getElem_cons hkr
     obtain ⟨f1,f2⟩:=gfew_at HF7.out k hkr
     have hh:=HH.out
     rw [hdr,givesE_cons] at hh
     obtain ⟨a,ha⟩ : ∃ a,prov[k]=a:=⟨_,rfl⟩
     rw [ha] at c0 c1 f1 hh
     obtain ⟨gnm,gv⟩:=a
     dsimp only at c0 c1 f1
     obtain ⟨V,hV⟩ : ∃ V,wr.alloc (.cells #[.string ⟨gnm.toArray⟩,.string ⟨gv.toArray⟩] 72)=V:=⟨_,rfl⟩
     have HBV : Hid (Below W1.heap.size W1 V):=HW.out.trans ((alloc_low hV).mono HW.out.size)
     obtain ⟨v0,v1⟩:=cell_pair hV (Below.refl _ _)
     have HA:=Lib.hid (requireGive_any ⟨gnm,gv⟩ V (maxOk_below HM.out HBV.out) f1)
     obtain ⟨y,hy⟩ : ∃ y,giveE ⟨gnm,gv⟩=y:=⟨_,rfl⟩
     rw [hy] at HA hh
     have hh':=Lib.hid hh
     clear hc hdr ha f1 f2 hh hy
     go_wp2_with fail
     clear hV
     refine HA.out.mono ?_
     rintro _ u2 ⟨rfl,hb⟩
     have HU:=Lib.hid (HBV.out.trans (hb.mono HBV.out.size))
     have HUW : Hid (Below w.heap.size w u2):=HB1.out.trans (HU.out.mono HB1.out.size)
     clear hb c0 c1 v0 v1 HA
     by_cases h0 : y=0
     ·subst h0
      have HE : Hid (givesE (prov.drop (k + 1))=x4):=by have:=hh'.out;rw [if_pos rfl] at this;exact this
      rw [okOr_zero]
      go_wp2_with fail
      go_roundw
      case rel=>exact ⟨k + 1,by omega,by go_num,HE,HU.out⟩
      case measure=>simp [intOf];omega
     ·have hh:=hh'.out
      rw [if_neg h0] at hh
      have hR:=hR'.out
      rw [← hh,if_pos h0] at hR
      have HE:=Lib.hid hR
      have HK : Hid (okOr' y=pan y):=okOr_ne h0
      clear hR h0 hh
      rw [HK.out]
      go_wp2_with fail
      exact ⟨rfl,by rw [← HE.out,HK.out],HUW.out⟩
    ·obtain rfl : k=gn:=by omega
     have h2 : 0=x4:=by rw [← HH.out,List.drop_eq_nil_of_le (by rw [HGN.out];exact Nat.le_refl _)];rfl
     have hR:=hR'.out
     rw [← h2,if_neg (by simp)] at hR
     clear hR' HH HX4 h2
     have HR:=Lib.hid hR
     clear hR
     obtain ⟨c0,c1,c2,c3,c4,c5⟩:=cell_six HW1.out HW.out
     clear c0 c1 c2 c3 c4
     have HA:=Lib.hid (check_w wt HF8.out wr)
     rw [HX5.out,HR.out] at HA
     clear HX5 HR
     go_wp2_with fail
     refine HA.out.mono ?_
     rintro _ u2 ⟨rfl,rfl⟩
     go_wp2_with fail
     refine (requireOK_any R _).mono ?_
     rintro _ u2 ⟨rfl,rfl⟩
     by_cases h0 : R=0
     ·subst h0
      rw [okOr_zero]
      go_wp2_with fail
      go_end0
      exact ⟨rfl,HWW.out⟩
     ·have HK : Hid (okOr' R=pan R):=okOr_ne h0
      clear h0
      rw [HK.out]
      go_wp2_with fail
      exact ⟨rfl,by rw [HK.out],HWW.out⟩
end Go.Proofs.YtkplahkkmmoppaaGreatDoor
namespace Go.Proofs.YtkplahkkmmoppaaGreatDoor
open Go.RowKit Rs At Pg
theorem pCheck_panic (p : Addr) (x : Int) (n : Int) (w : World) (hc : w.cell? p=some (.int .i64 x)) (hz : w.frozen? p=false) :
  CallsD Tryz.prog 38 #[.pointer (some p)] (.panicking [{ v:=.iface 36 (.int .i64 n),recovered:=false }]) w fun e u' w' =>
   e = .returned (.tuple #[])∧u' = .panicking [{ v:=.iface 36 (.int .i64 n),recovered:=true }]∧w'=w.setCell p (.int .i64 n):=by
 refine callsD_of_wpS Tryz.func38 rfl fun c₀ cs hu=>?_
 apply wpS_region
 simp [wpOpsS,go_sem,recoverD,hu,Tryz.ntmps38]
 refine (raised_err n _).mono ?_
 rintro e w' ⟨rfl,rfl⟩
 simp [go_sem,hc,hz,bodyPostS,results,Tryz.results38]
theorem pCheck_idle (p : Addr) (x : Int) (w : World) (hc : w.cell? p=some (.int .i64 x)) (hz : w.frozen? p=false) :
  CallsD Tryz.prog 38 #[.pointer (some p)] .returning w fun e u' w'=>e = .returned (.tuple #[])∧u' = .returning∧w'=w.setCell p (.int .i64 0):=by
 refine callsD_of_wpS Tryz.func38 rfl fun c₀ cs hu=>?_
 apply wpS_region
 simp [wpOpsS,go_sem,recoverD,hu,Tryz.ntmps38]
 refine (raised_nil _).mono ?_
 rintro e w' ⟨rfl,rfl⟩
 cases c₀
 simp_all [go_sem,bodyPostS,results,Tryz.results38]
attribute [local go_sem ↓] Go.wp_at_zero Go.wp_at_succ
theorem pkgCheck_any (p : Pk) (D C G : Option Addr) (dn dc cn cc gn gc : Nat) (w : World) (hw : MaxOk w) (hd : Pg.DRow w D p.deps) (hdn : p.deps.length=dn) (hc : ARow w C p.confl) (hcn : p.confl.length=cn) (hg : GRow w G p.prov) (hgn : p.prov.length=gn) (hf : PFew p) :
  Calls Tryz.prog 12 #[.agg #[.string ⟨p.name.toArray⟩,.string ⟨p.ver.toArray⟩,.slice D dn dc,.slice C cn cc,.slice G gn gc,.float .f64 p.wt]] w fun e w'=>e = .returned (.int .i64 (checkP p))∧Below w.heap.size w w':=by
 have hmf : ∀ (fn : Fn) (first cap : Array Value) (w : World),(Instr.makeFunc fn first cap).run Tryz.prog w = .ok (.func fn first cap) w:=fun _ _ _ _=>rfl
 obtain ⟨K,hK⟩ : ∃ K,checkP p=K:=⟨_,rfl⟩
 rw [hK]
 obtain ⟨W1,hW1⟩ : ∃ W,w.alloc (.cells #[.string ⟨p.name.toArray⟩,.string ⟨p.ver.toArray⟩,.slice D dn dc,.slice C cn cc,.slice G gn gc,.float .f64 p.wt] 34)=W:=⟨_,rfl⟩
 have HW1:=Lib.hid (alloc_low hW1)
 have hs1 : W1.heap.size=w.heap.size + 1:=by rw [← hW1];simp
 obtain ⟨W2,hW2⟩ : ∃ W,W1.alloc (.cells #[.int .i64 0] 36)=W:=⟨_,rfl⟩
 have HW2:=Lib.hid (alloc_low hW2)
 have HB2 : Hid (Below w.heap.size w W2):=HW1.out.trans (HW2.out.mono HW1.out.size)
 have HR:=Lib.hid (requirePkg_any p D C G dn dc cn cc gn gc W2 (maxOk_below hw HB2.out) (drowD_below hd HB2.out) hdn (arow_below hc HB2.out) hcn (Rg.row_below hg HB2.out) hgn hf)
 rw [hK] at HR
 obtain ⟨k0,k1,k2,k3,k4,k5⟩:=cell_six hW1 HW2.out
 have HE2:=Lib.hid hW2
 clear hw hd hdn hc hcn hg hgn hf hK
 go_enter_defers Tryz.func12,Tryz.ntmps12
 go_wp2_with fail
 have HS1:=Lib.hid hs1
 clear hW1 hW2 hs1
 refine HR.out.mono ?_
 rintro _ w1 ⟨rfl,hb⟩
 have hb1 : Below (W1.heap.size + 1) (W1.alloc (.cells #[.int .i64 0] 36)) w1:=by have h:=hb;rw [← HE2.out] at h;simpa using h
 obtain ⟨hcell,hfro⟩:=cell_int W1 w1 _ _ hb1
 have HBW : Hid (Below w.heap.size w w1):=HB2.out.trans (hb.mono HB2.out.size)
 rw [HS1.out] at hcell hfro
 clear hb hb1 k0 k1 k2 k3 k4 k5 HR
 by_cases hk : K=0
 ·subst hk
  rw [okOr_zero]
  go_wp2_with fail
  refine leaves_cons (f:=38) (args:=#[.pointer (some ⟨w.heap.size + 1,0,none⟩)]) (by simp) (by simp [go_sem]) ?_
  refine (pCheck_idle ⟨w.heap.size + 1,0,none⟩ 0 _ ?_ ?_).mono ?_
  ·simp [go_sem,hcell]
  ·simp [go_sem,hfro]
  rintro e u' w3 ⟨rfl,rfl,rfl⟩
  simp [Leaves,settle,results,Tryz.results12,go_sem,hcell]
  exact (HBW.out.setCell (Nat.le_succ _) _).setCell (Nat.le_succ _) _
 ·rw [okOr_ne hk]
  go_wp2_with fail
  refine leaves_cons (f:=38) (args:=#[.pointer (some ⟨w.heap.size + 1,0,none⟩)]) (by simp) (by simp [go_sem]) ?_
  refine (pCheck_panic ⟨w.heap.size + 1,0,none⟩ 0 _ _ ?_ ?_).mono ?_
  ·simp [go_sem,hcell]
  ·simp [go_sem,hfro]
  rintro e u' w3 ⟨rfl,rfl,rfl⟩
  simp [Leaves,settle,results,Tryz.results12,go_sem,hcell]
  exact HBW.out.setCell (Nat.le_succ _) _
end Go.Proofs.YtkplahkkmmoppaaGreatDoor
namespace Go.Proofs.YtkplahkkmmoppaaGreatDoor.Sz
structure Fld where
 key : List UInt8
 val : List UInt8
 line : Int
 deriving DecidableEq
def valC (c : UInt8) : Bool:=decide (32≤c.toNat) && decide (c.toNat≤126)
def keyB (s : List UInt8) : Bool:=s.all Vm.ltr && (!s.isEmpty && decide (s.length≤16))
def valB (s : List UInt8) : Bool:=s.all valC
def mark : List UInt8:=[58,32]
def fieldP (s : List UInt8) (n : Int) : Option Fld :=
 if 0≤Lib.index s mark∧keyB (s.take (Lib.index s mark).toNat)=true∧valB (s.drop ((Lib.index s mark).toNat + 2))=true then
  some ⟨s.take (Lib.index s mark).toNat,s.drop ((Lib.index s mark).toNat + 2),n⟩ else none
def hasK (l : List Fld) (k : List UInt8) : Bool:=l.any (fun f=>f.key == k)
def readL : Nat → List (List UInt8) → List (List Fld) → List Fld → Int × Int × List (List Fld)
 | _,[],acc,last=>(0,0,if last.isEmpty then acc else acc ++ [last])
 | n,s :: ls,acc,last =>
  if s.isEmpty then (if last.isEmpty || ls.isEmpty then (2,n,[]) else readL (n + 1) ls (acc ++ [last]) [])
  else match fieldP s n with
   | none=>(2,n,[])
   | some f=>if hasK last f.key then (6,n,[]) else readL (n + 1) ls acc (last ++ [f])
def linesL (s : List UInt8) : List (List UInt8):=(Lib.split s [10]).dropLast
def endB (s : List UInt8) : Bool:=s.isEmpty || s.getLast? == some 10
def parseS (s : List UInt8) : Int × Int × List (List Fld) :=
 if 65536 < s.length then (4,0,[]) else if endB s then readL 0 (linesL s) [] [] else (2,0,[])
def fieldT (f : Fld) : List UInt8:=f.key ++ mark ++ f.val ++ [10]
def stanzaT (l : List Fld) : List UInt8:=l.flatMap fieldT
def textS : List (List Fld) → List UInt8
 | []=>[]
 | [l]=>stanzaT l
 | l :: m :: r=>stanzaT l ++ [10] ++ textS (m :: r)
def joinL (ls : List (List UInt8)) : List UInt8:=ls.flatMap (fun s=>s ++ [10])
theorem field_back {s : List UInt8} {n : Int} {f : Fld} (h : fieldP s n=some f) : f.key ++ mark ++ f.val=s∧f.line=n∧keyB f.key=true∧valB f.val=true:=by
 unfold fieldP at h
 split at h
 ·rename_i hc
  obtain ⟨h0,h1,h2⟩:=hc
  cases h
  refine ⟨?_,rfl,h1,h2⟩
  dsimp only
  obtain ⟨i,hi⟩ : ∃ i : Nat,Lib.index s mark=i:=⟨(Lib.index s mark).toNat,by omega⟩
  rw [hi]
  have ho : Lib.occAt s mark i=true:=by
   rcases Lib.index_spec s mark with ⟨h1,_⟩ | ⟨j,h1,_,h3,_⟩
   ·omega
   ·have : j=i:=by omega
    exact this ▸ h3
  unfold Lib.occAt at ho
  obtain ⟨t,ht⟩:=List.isPrefixOf_iff_prefix.1 ho
  show s.take i ++ mark ++ s.drop (i + 2)=s
  have e : s.drop (i + 2)=t:=by rw [← List.drop_drop,← ht];rfl
  rw [e,List.append_assoc,ht,List.take_append_drop]
 ·cases h
theorem stanzaT_snoc (l : List Fld) (f : Fld) : stanzaT (l ++ [f])=stanzaT l ++ fieldT f:=by
 unfold stanzaT;rw [List.flatMap_append];simp
theorem textS_snoc : ∀ (acc : List (List Fld)) (l : List Fld),textS (acc ++ [l])=(if acc.isEmpty then [] else textS acc ++ [10]) ++ stanzaT l
 | [],l=>rfl
 | [a],l=>by show stanzaT a ++ [10] ++ stanzaT l=_;rfl
 | a :: b :: r,l=>by
  have ih:=textS_snoc (b :: r) l
  show stanzaT a ++ [10] ++ textS (b :: r ++ [l])=_
  rw [ih]
  show _=(stanzaT a ++ [10] ++ textS (b :: r) ++ [10]) ++ stanzaT l
  simp
theorem joinL_cons (s : List UInt8) (ls : List (List UInt8)) : joinL (s :: ls)=s ++ [10] ++ joinL ls:=by unfold joinL;rw [List.flatMap_cons]
theorem read_back : ∀ (ls : List (List UInt8)) (n : Nat) (acc : List (List Fld)) (last : List Fld) (r : List (List Fld)) (k : Int),readL n ls acc last=(0,k,r) →
  k=0∧textS r=textS (acc ++ [last]) ++ joinL ls ∨ (k=0∧ls = []∧last = []∧r=acc)
 | [],n,acc,last,r,k,h=>by
  unfold readL at h
  cases last with
  | nil=>right;injection h with _ h;injection h with h1 h2;exact ⟨h1.symm,rfl,rfl,h2.symm⟩
  | cons f l=>left;injection h with _ h;injection h with h1 h2;subst h2;exact ⟨h1.symm,by simp [joinL]⟩
 | s :: ls,n,acc,last,r,k,h=>by
  unfold readL at h
  split at h
  ·rename_i hs
   have hs0 : s = []:=by simpa using hs
   subst hs0
   split at h
   ·injection h with h _;cases h
   ·rename_i hl
    have hl1 : last ≠ []:=fun e=>hl (by simp [e])
    have hl2 : ls ≠ []:=fun e=>hl (by simp [e])
    rcases read_back ls (n + 1) (acc ++ [last]) [] r k h with ⟨hk,ht⟩ | ⟨_,h2,_,_⟩
    ·left
     refine ⟨hk,?_⟩
     rw [ht,textS_snoc (acc ++ [last]) [],joinL_cons]
     simp [stanzaT]
    ·exact absurd h2 hl2
  ·rename_i hs
   cases hf : fieldP s n with
   | none=>rw [hf] at h;injection h with h _;cases h
   | some f =>
    rw [hf] at h
    dsimp only at h
    split at h
    ·injection h with h _;cases h
    ·obtain ⟨h1,_,_,_⟩:=field_back hf
     rcases read_back ls (n + 1) acc (last ++ [f]) r k h with ⟨hk,ht⟩ | ⟨_,_,h3,_⟩
     ·left
      refine ⟨hk,?_⟩
      rw [ht,textS_snoc,textS_snoc,stanzaT_snoc,joinL_cons]
      unfold fieldT
      rw [h1]
      simp
     ·exact absurd h3 (by simp)
theorem ten_hit (a r : List UInt8) (h : (10 : UInt8) ∉ a) : Lib.split (a ++ 10 :: r) [10]=a :: Lib.split r [10]:=by
 have hi : Lib.index (a ++ 10 :: r) [10]=a.length:=by
  refine Lib.index_first (by simp) ?_ fun j hj=>?_
  ·unfold Lib.occAt;rw [List.drop_left];rfl
  ·cases ho : Lib.occAt (a ++ 10 :: r) [10] j with
   | false=>rfl
   | true =>
    have h2:=Lib.occAt_head (c:=10) (t:=[]) rfl ho
    rw [List.getElem?_append_left hj] at h2
    exact absurd (List.mem_of_getElem? h2) h
 rw [At.split_hit (by simp) hi,List.take_left]
 have e : (a ++ 10 :: r).drop (a.length + ([10] : List UInt8).length)=r:=by
  rw [← List.drop_drop,List.drop_left];rfl
 rw [e]
theorem split_some (s : List UInt8) : Lib.split s [10] ≠ []:=by
 unfold Lib.split
 cases Lib.count s [10] with
 | zero=>unfold Lib.splitK;simp
 | succ k=>unfold Lib.splitK;split <;> simp
theorem lines_hit (a r : List UInt8) (h : (10 : UInt8) ∉ a) : linesL (a ++ 10 :: r)=a :: linesL r:=by
 unfold linesL
 rw [ten_hit a r h,List.dropLast_cons_of_ne_nil (split_some r)]
theorem ten_cut (s : List UInt8) : ((10 : UInt8) ∉ s) ∨ ∃ a r,s=a ++ 10 :: r∧(10 : UInt8) ∉ a:=by
 induction s with
 | nil=>left;simp
 | cons b l ih =>
  by_cases hb : b=10
  ·right;exact ⟨[],l,by rw [hb];rfl,by simp⟩
  ·rcases ih with h | ⟨a,r,e,h⟩
   ·left;intro hm;rcases List.mem_cons.1 hm with e | e
    ·exact hb e.symm
    ·exact h e
   ·right
    refine ⟨b :: a,r,by rw [e];rfl,fun hm=>?_⟩
    rcases List.mem_cons.1 hm with e | e
    ·exact hb e.symm
    ·exact h e
theorem lines_back : ∀ (k : Nat) (s : List UInt8),s.length≤k → endB s=true → joinL (linesL s)=s
 | 0,s,hk,_=>by
  have : s = []:=List.length_eq_zero_iff.1 (by omega)
  subst this;rfl
 | k + 1,s,hk,he=>by
  rcases ten_cut s with h | ⟨a,r,e,h⟩
  ·unfold endB at he
   rw [Bool.or_eq_true] at he
   rcases he with he | he
   ·have : s = []:=by simpa using he
    subst this;rfl
   ·exact absurd (List.mem_of_getLast? (by simpa using he)) h
  ·subst e
   rw [lines_hit a r h,joinL_cons]
   have hr : endB r=true:=by
    unfold endB at he ⊢
    cases r with
    | nil=>rfl
    | cons b l =>
     rw [Bool.or_eq_true] at he ⊢
     rcases he with he | he
     ·simp at he
     ·right
      rw [List.getLast?_append] at he
      have e2 : (10 :: b :: l).getLast? = (b :: l).getLast?:=by rw [List.getLast?_cons_cons]
      rw [e2] at he
      obtain ⟨x,hx⟩ : ∃ x,(b :: l).getLast? = some x:=⟨_,List.getLast?_eq_some_getLast (by simp)⟩
      rw [hx] at he ⊢
      exact he
   rw [lines_back k r (by simp at hk;omega) hr]
   simp
theorem parse_text {s : List UInt8} {k : Int} {r : List (List Fld)} (h : parseS s=(0,k,r)) : k=0∧textS r=s:=by
 unfold parseS at h
 split at h
 ·injection h with h _;cases h
 ·split at h
  ·rename_i he
   rcases read_back _ _ _ _ _ _ h with ⟨h1,h2⟩ | ⟨h1,h2,_,h4⟩
   ·refine ⟨h1,?_⟩
    rw [h2,lines_back s.length s (Nat.le_refl _) he];rfl
   ·refine ⟨h1,?_⟩
    rw [h4,← lines_back s.length s (Nat.le_refl _) he,h2];rfl
  ·injection h with h _;cases h
end Go.Proofs.YtkplahkkmmoppaaGreatDoor.Sz
namespace Go.Proofs.YtkplahkkmmoppaaGreatDoor
open Go.RowKit
abbrev panAt (k n : Int) : Ending:=.panicked [{ v:=.iface 164 (.agg #[.int .i64 k,.int .i64 n]),recovered:=false }]
theorem requireAt_yes {k n : Int} (w : World) : Calls Tryz.prog 109 #[.bool true,.int .i64 k,.int .i64 n] w fun e w'=>e = .returned (.tuple #[])∧w=w':=by
 go_enter Tryz.func109,Tryz.ntmps109
 go_wp2_with fail
 go_end0
 exact ⟨rfl,rfl⟩
theorem requireAt_no {k n : Int} (w : World) : Calls Tryz.prog 109 #[.bool false,.int .i64 k,.int .i64 n] w fun e w'=>e=panAt k n∧w=w':=by
 go_enter Tryz.func109,Tryz.ntmps109
 go_wp2_with fail
 exact ⟨rfl,rfl,rfl⟩
theorem raisedAt_placed (k n : Int) {o : Int} (w : World) :
  Calls Tryz.prog 60 #[.iface 164 (.agg #[.int .i64 k,.int .i64 n]),.int .i64 o] w fun e w'=>e = .returned (.tuple #[.int .i64 k,.int .i64 n])∧Below w.heap.size w w':=by
 have hta : ∀ W : World,(Instr.typeAssert (.iface 164 (.agg #[.int .i64 k,.int .i64 n])) 20 36 true).run Tryz.prog W = .ok (.tuple #[.int .i64 0,.bool false]) W:=fun _=>by kernel_rfl
 have htb : ∀ W : World,(Instr.typeAssert (.iface 164 (.agg #[.int .i64 k,.int .i64 n])) 20 164 true).run Tryz.prog W = .ok (.tuple #[.agg #[.int .i64 k,.int .i64 n],.bool true]) W:=fun _=>by kernel_rfl
 go_enter Tryz.func60,Tryz.ntmps60
 go_wp2_with fail
 go_quiet (fail)
 go_wp2_with fail
 go_ret2
 refine ⟨rfl,below_drewN ?_ _⟩
 first
  | exact (Below.refl _ _).alloc (Nat.le_refl _) _
  | exact ((Below.refl _ _).alloc (Nat.le_refl _) _).setCell (Nat.le_refl _) _
  | exact Below.setCell (Below.setCell ((Below.refl _ _).alloc (Nat.le_refl _) _) (by simp) _) (by simp) _
  | trace_state
theorem all_snocZ (l : List UInt8) (p : UInt8 → Bool) (k : Nat) (h : k < l.length) : (l.take (k + 1)).all p=((l.take k).all p && p l[k]):=by
 rw [List.take_succ_eq_append_getElem h,List.all_append];simp only [List.all_cons,List.all_nil,Bool.and_true]
theorem all_falseZ (l : List UInt8) (p : UInt8 → Bool) (k : Nat) (h : k < l.length) (hp : p l[k]=false) : l.all p=false:=by
 rw [Bool.eq_false_iff];intro ha;rw [List.all_eq_true] at ha;have:=ha _ (List.getElem_mem h);simp [hp] at this
theorem sLetter_any (c : UInt8) (w : World) :
  Calls Tryz.prog 219 #[.int .u8 c.toNat] w fun e w'=>e = .returned (.bool (Vm.ltr c))∧w=w':=by
 unfold Vm.ltr
 by_cases h1 : 97≤c.toNat <;> by_cases h2 : c.toNat≤122 <;> by_cases h3 : 65≤c.toNat <;> by_cases h4 : c.toNat≤90
 all_goals
  go_enter Tryz.func219,Tryz.ntmps219
  go_wp2
 all_goals
  go_ret
  exact ⟨by first | (simp [h1,h2,h3,h4];done) | (simp [h1,h2,h3,h4];omega),rfl⟩
theorem isKey_any (l : List UInt8) (w : World) (hm : l.length≤1000000) :
  Calls Tryz.prog 182 #[.string ⟨l.toArray⟩] w fun e w'=>e = .returned (.bool (Sz.keyB l))∧w=w':=by
 obtain ⟨R,hR⟩ : ∃ R,Sz.keyB l=R:=⟨_,rfl⟩
 rw [hR]
 have HF : Hid (l.all Vm.ltr=false → R=false):=fun h=>by rw [← hR];unfold Sz.keyB;rw [h];rfl
 have HT : Hid (l.all Vm.ltr=true → R=(!l.isEmpty && decide (l.length≤16))):=fun h=>by rw [← hR];unfold Sz.keyB;rw [h];rfl
 clear hR
 go_enter Tryz.func182,Tryz.ntmps182
 go_wp2_with fail
 go_loop [6] (fun i=>∃ k : Nat,k≤l.length∧i = .int .i64 k∧Hid ((l.take k).all Vm.ltr=true)) (fun i=>l.length - (intOf i).toNat)
 case atStart=>exact ⟨0,Nat.zero_le _,rfl,rfl⟩
 case round =>
  obtain ⟨k,hk,rfl,HK⟩:=hrel
  by_cases hlt : k < l.length
  ·obtain ⟨c,hc,hc'⟩:=byte_at l k hlt
   have HS:=Lib.hid (all_snocZ l Vm.ltr k hlt)
   rw [hc'] at HS
   cases h1 : Vm.ltr c
   ·have HR : Hid (R=false):=HF.out (all_falseZ l Vm.ltr k hlt (by rw [hc'];exact h1))
    have HL:=Lib.hid h1
    clear h1 hc' HS
    go_wp2_with fail
    refine (sLetter_any c _).mono ?_
    rintro _ z ⟨rfl,rfl⟩
    rw [HL.out]
    go_wp2_with fail
    go_ret
    exact ⟨by rw [HR.out];rfl,rfl⟩
   ·have HY : Hid ((l.take (k + 1)).all Vm.ltr=true):=by show _=_;rw [HS.out,HK.out,h1];rfl
    have HL:=Lib.hid h1
    clear h1 hc' HS
    go_wp2_with fail
    refine (sLetter_any c _).mono ?_
    rintro _ z ⟨rfl,rfl⟩
    rw [HL.out]
    go_wp2_with fail
    go_round
    case rel=>exact ⟨k + 1,by omega,by go_num,HY⟩
    case measure=>simp [intOf];omega
  ·obtain rfl : k=l.length:=by omega
   have HR : Hid (R=(!l.isEmpty && decide (l.length≤16))):=HT.out (by have:=HK.out;rwa [List.take_length] at this)
   cases he : l.isEmpty
   ·by_cases h16 : l.length≤16
    ·have d0 : decide ((l.length : Int)≤16)=true:=decide_eq_true (by omega)
     have HRR : Hid (R=true):=by show _=_;rw [HR.out,he,decide_eq_true h16];rfl
     clear h16 HF HT HR
     go_wp2_with fail
     go_ret
     exact ⟨by rw [HRR.out];rfl,rfl⟩
    ·have d0 : decide ((l.length : Int)≤16)=false:=decide_eq_false (by omega)
     have HRR : Hid (R=false):=by show _=_;rw [HR.out,decide_eq_false h16,Bool.and_false]
     clear h16 HF HT HR
     go_wp2_with fail
     go_ret
     exact ⟨by rw [HRR.out];rfl,rfl⟩
   ·have HRR : Hid (R=false):=by show _=_;rw [HR.out,he];rfl
    clear HF HT HR
    go_wp2_with fail
    go_ret
    exact ⟨by rw [HRR.out];rfl,rfl⟩
theorem val_cases (c : UInt8) : (Sz.valC c=true∧decide ((c.toNat : Int) < 32)=false∧decide ((126 : Int) < (c.toNat : Int))=false) ∨ (Sz.valC c=false∧decide ((c.toNat : Int) < 32)=true) ∨ (Sz.valC c=false∧decide ((c.toNat : Int) < 32)=false∧decide ((126 : Int) < (c.toNat : Int))=true):=by
 unfold Sz.valC
 by_cases h1 : 32≤c.toNat
 ·by_cases h2 : c.toNat≤126
  ·left;exact ⟨by rw [decide_eq_true h1,decide_eq_true h2];rfl,decide_eq_false (by omega),decide_eq_false (by omega)⟩
  ·right;right;exact ⟨by rw [decide_eq_false h2,Bool.and_false],decide_eq_false (by omega),decide_eq_true (by omega)⟩
 ·right;left;exact ⟨by rw [decide_eq_false h1];rfl,decide_eq_true (by omega)⟩
theorem isValue_any (l : List UInt8) (w : World) (hm : l.length≤1000000) :
  Calls Tryz.prog 183 #[.string ⟨l.toArray⟩] w fun e w'=>e = .returned (.bool (Sz.valB l))∧w=w':=by
 obtain ⟨R,hR⟩ : ∃ R,Sz.valB l=R:=⟨_,rfl⟩
 rw [hR]
 have HF : Hid (l.all Sz.valC=false → R=false):=fun h=>by rw [← hR];exact h
 have HT : Hid (l.all Sz.valC=true → R=true):=fun h=>by rw [← hR];exact h
 clear hR
 go_enter Tryz.func183,Tryz.ntmps183
 go_wp2_with fail
 go_loop [6] (fun i=>∃ k : Nat,k≤l.length∧i = .int .i64 k∧Hid ((l.take k).all Sz.valC=true)) (fun i=>l.length - (intOf i).toNat)
 case atStart=>exact ⟨0,Nat.zero_le _,rfl,rfl⟩
 case round =>
  obtain ⟨k,hk,rfl,HK⟩:=hrel
  by_cases hlt : k < l.length
  ·obtain ⟨c,hc,hc'⟩:=byte_at l k hlt
   have HS:=Lib.hid (all_snocZ l Sz.valC k hlt)
   rw [hc'] at HS
   rcases val_cases c with ⟨h1,d1,d2⟩ | ⟨h1,d1⟩ | ⟨h1,d1,d2⟩
   ·have HY : Hid ((l.take (k + 1)).all Sz.valC=true):=by show _=_;rw [HS.out,HK.out,h1];rfl
    clear h1 hc' HS
    go_wp2_with fail
    go_round
    case rel=>exact ⟨k + 1,by omega,by go_num,HY⟩
    case measure=>simp [intOf];omega
   all_goals
    have HR : Hid (R=false):=HF.out (all_falseZ l Sz.valC k hlt (by rw [hc'];exact h1))
    clear h1 hc' HS
    go_wp2_with fail
    go_ret
    exact ⟨by rw [HR.out];rfl,rfl⟩
  ·obtain rfl : k=l.length:=by omega
   have HR : Hid (R=true):=HT.out (by have:=HK.out;rwa [List.take_length] at this)
   clear HF HT
   go_wp2_with fail
   go_ret
   exact ⟨by rw [HR.out];rfl,rfl⟩
end Go.Proofs.YtkplahkkmmoppaaGreatDoor
