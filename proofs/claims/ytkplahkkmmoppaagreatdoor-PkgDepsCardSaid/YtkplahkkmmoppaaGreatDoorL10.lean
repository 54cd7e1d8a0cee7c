/- Part 10 of what the laws lean on. -/
import Derived.Test.YtkplahkkmmoppaaGreatDoorL09
set_option maxRecDepth 100000
set_option maxHeartbeats 1600000
namespace Go.Proofs.YtkplahkkmmoppaaGreatDoor
open Go.RowKit
attribute [local go_sem ↓] Go.wp_at_zero Go.wp_at_succ
theorem spanOf_spOf {p : Rm.P Rs.Cut} (h : Rs.Ok2 p) : (!(Rs.txt p.lo).isEmpty && sideI p.lo == -1)=Rs.loI p.lo∧(!(Rs.txt p.hi).isEmpty && sideI p.hi == 1)=Rs.aft p.hi:=by
 obtain ⟨lo,hi⟩:=p
 obtain ⟨h1,h2⟩:=h
 constructor
 ·cases lo with
  | bot=>rfl
  | top=>exact h1.elim
  | pos v a=>show (!v.isEmpty && (if a then (1 : Int) else -1) == -1) = !a;rw [Rs.own_ne h1];cases a <;> rfl
 ·cases hi with
  | bot=>exact h2.elim
  | top=>rfl
  | pos v a=>show (!v.isEmpty && (if a then (1 : Int) else -1) == 1)=a;rw [Rs.own_ne h2];cases a <;> rfl
theorem own_le {v : List UInt8} (h : Rs.Own v) : v.length≤40:=(Vm.ver_of h.1).1
theorem txt_le {c : Rs.Cut} (h : Rs.LoOk c ∨ Rs.HiOk c) : (Rs.txt c).length≤281474976710656:=by
 cases c with
 | bot=>simp [Rs.txt]
 | top=>simp [Rs.txt]
 | pos v a =>
  have : Rs.Own v:=by rcases h with h | h <;> exact h
  have:=own_le this
  show v.length≤_;omega
theorem cuts_at : ∀ (rs : List (Rm.P Rs.Cut)) (k : Nat) (h : k < rs.length),(Rm.cuts rs)[k * 2]? = some rs[k].lo∧(Rm.cuts rs)[k * 2 + 1]? = some rs[k].hi
 | [],k,h=>absurd h (by simp)
 | p :: rs,0,_=>⟨rfl,rfl⟩
 | p :: rs,k + 1,h=>by
  have:=cuts_at rs k (by simpa using h)
  rw [Rm.cuts_cons,show (k + 1) * 2=k * 2 + 1 + 1 from by omega]
  exact this
def RangeRet (w : World) (l : List Rs.Sp) (e : Ending) (w' : World) : Prop:=∃ v,e = .returned v∧POwn w' w.heap.size v l∧Below w.heap.size w w'
theorem spans_snoc (rs : List (Rm.P Rs.Cut)) (k : Nat) (h : k < rs.length) : (rs.take (k + 1)).map Rs.spOf=(rs.take k).map Rs.spOf ++ [Rs.spOf rs[k]]:=by
 rw [List.take_succ_eq_append_getElem h,List.map_append];rfl
theorem newsS (w : World) (s : Rs.Sp) (T : TypeId) : ∀ j u,(Rg.flat Rs.spC [s])[j]? = some u → (w.alloc (.cells #[.string ⟨s.lo.toArray⟩,.string ⟨s.hi.toArray⟩,.bool s.li,.bool s.hn] T)).cell? ((⟨w.heap.size,0,none⟩ : Addr).add j)=some u :=
 Rg.news_new w T _ _ (by rfl)
theorem spanOfP_any (p : Rm.P Rs.Cut) (w : World) (h : Rs.Ok2 p) :
  Calls Tryz.prog 316 #[.agg #[.string ⟨(Rs.txt p.lo).toArray⟩,.int .i64 (sideI p.lo)],.agg #[.string ⟨(Rs.txt p.hi).toArray⟩,.int .i64 (sideI p.hi)]] w fun e w'=>e = .returned (.agg #[.string ⟨(Rs.spOf p).lo.toArray⟩,.string ⟨(Rs.spOf p).hi.toArray⟩,.bool (Rs.spOf p).li,.bool (Rs.spOf p).hn])∧Below w.heap.size w w':=by
 have:=spanOf_any (Rs.txt p.lo) (sideI p.lo) (Rs.txt p.hi) (sideI p.hi) w (txt_le (Or.inl h.1)) (txt_le (Or.inr h.2))
 rw [(spanOf_spOf h).1,(spanOf_spOf h).2] at this
 exact this
theorem rangeOf_any (A : Option Addr) (n c : Nat) (rs : List (Rm.P Rs.Cut)) (w : World) (hn : (Rm.cuts rs).length=n) (hr : CRow w A (Rm.cuts rs)) (ho : ∀ p ∈ rs,Rs.Ok2 p) (hl : rs.length≤1000) :
  Calls Tryz.prog 295 #[.slice A n c] w (RangeRet w ((rs.take 64).map Rs.spOf)):=by
 have HR:=Lib.hid hr
 have HO:=Lib.hid ho
 have n1 : n≤rs.length * 2:=by rw [← hn,Rm.cuts_len];exact Nat.le_refl _
 have n2 : rs.length * 2≤n:=by rw [← hn,Rm.cuts_len];exact Nat.le_refl _
 obtain ⟨R,hR⟩ : ∃ R,(rs.take 64).map Rs.spOf=R:=⟨_,rfl⟩
 rw [hR]
 have HRR:=Lib.hid hR
 clear hr ho hn hR
 go_enter Tryz.func295,Tryz.ntmps295
 go_wp2_with fail
 go_loopw [3,4] (fun v i wr=>∃ k j : Nat,k≤rs.length∧k≤64∧j≤k * 2∧k * 2≤j∧i = .int .i64 j∧Hid (POwn wr w.heap.size v ((rs.take k).map Rs.spOf))∧Hid (Below w.heap.size w wr∧w.heap.size≤wr.heap.size)) (fun _ i _=>n - (intOf i).toNat)
 case atStart=>exact ⟨0,0,Nat.zero_le _,Nat.zero_le _,Nat.le_refl _,Nat.le_refl _,rfl,Rg.own_nil _ _ _,Below.refl _ _,Nat.le_refl _⟩
 case round =>
  obtain ⟨k,j,hk,h64,j1,j2,rfl,HP,HB⟩:=hrel
  obtain ⟨C,cc,hv,_,_,_⟩:=Rg.row_own fitsS HP.out
  rw [show ((rs.take k).map Rs.spOf).length=k from by rw [List.length_map,List.length_take];omega] at hv
  subst hv
  by_cases hlt : k < rs.length
  ·by_cases hl64 : k < 64
   ·have hat:=cuts_at rs k hlt
    have hjn : j < (Rm.cuts rs).length:=by rw [Rm.cuts_len];omega
    have hjn2 : j + 1 < (Rm.cuts rs).length:=by rw [Rm.cuts_len];omega
    have hej : j=k * 2:=by omega
    obtain ⟨ad,x,rfl,hx,hbl,hcx⟩:=Rg.row_at (Rg.row_below HR.out HB.out.1) j hjn
    obtain ⟨ad2,y,had,hy,_,hcy⟩:=Rg.row_at (Rg.row_below HR.out HB.out.1) (j + 1) hjn2
    obtain rfl:=Option.some.inj had
    have ex : x=rs[k].lo:=by
     have:=hat.1;rw [← hej,List.getElem?_eq_getElem hjn,hx] at this;exact Option.some.inj this
    have ey : y=rs[k].hi:=by
     have:=hat.2;rw [← hej,List.getElem?_eq_getElem hjn2,hy] at this;exact Option.some.inj this
    rw [ex] at hcx
    rw [ey] at hcy
    have hok:=HO.out _ (List.getElem_mem hlt)
    have HT:=Lib.hid (spans_snoc rs k hlt)
    generalize rs[k]=p at *
    obtain ⟨c0,c1⟩:=cutAt hcx
    obtain ⟨d0,d1⟩:=cutAt hcy
    clear hat hx hy ex ey hcx hcy had hej
    have HK:=Lib.hid hok
    clear hok
    have HST : Stable (fun u=>True∧POwn u w.heap.size (.slice C k cc) ((rs.take k).map Rs.spOf)):=and_stable (fun _ _ _ _=>trivial) (fun _ _ h hb=>Rg.own_below h hb)
    have HI : Hid (Kp (fun u=>True∧POwn u w.heap.size (.slice C k cc) ((rs.take k).map Rs.spOf)) wr wr.drew):=⟨⟨trivial,Rg.own_below HP.out (Below.refl _ _).drew⟩,Nat.le_refl _,(Below.refl _ _).drew⟩
    have hsz : ((rs.take k).map Rs.spOf).length + 1≤1000000:=by rw [List.length_map,List.length_take];omega
    have s1 : IntKind.i64.wrap ((j : Int) + 1)=(j : Int) + 1:=IntWalk.i64_in _ (by omega)
    have s2 : (0 : Int)≤(j : Int) + 1:=by omega
    have s3 : ((j : Int) + 1).toNat=j + 1:=by omega
    have s4 : (j : Int) + 1 < (n : Int):=by omega
    have s5 : (j : Int) < (n : Int):=by omega
    have s6 : (0 : Int)≤(j : Int):=by omega
    go_wp2_with fail
    go_region_law (first
     | (go_simp;go_at_call 316;refine (spanOfP_any p _ HK.out).mono ?_;rintro _ w4 ⟨rfl,hb⟩;have HIW:=kp_step HST hb (by assumption);clear hb)
     | (refine Rg.step_app sliceS (by rfl) (.tmp 16) (.tmp 27) (by rfl) w.heap.size (.slice C k cc) ((rs.take k).map Rs.spOf) [Rs.spOf p] (by rfl) (app_own (by assumption)) _ _ (by rfl) (newsS _ _ _) (Nat.zero_lt_succ _) hsz (app_size (by assumption) HB.out.2) ?_;intro v5 W5 ho5 hg5 hz5;have HB5:=app_done HB (by assumption) hg5))
    all_goals
     have HO5 : Hid (POwn W5 w.heap.size v5 ((rs.take (k + 1)).map Rs.spOf)):=by show POwn _ _ _ _;rw [HT.out];exact ho5
     clear ho5 hg5 hz5 s1 s3
     go_wp2_with fail
     go_roundw
     case rel=>exact ⟨k + 1,j + 2,by omega,by omega,by omega,by omega,by go_num,HO5,HB5⟩
     case measure=>simp [intOf];omega
   ·obtain rfl : k=64:=by omega
    have s4 : (j : Int) < (n : Int):=by omega
    have HF : Hid (POwn wr w.heap.size (.slice C 64 cc) R):=by show POwn _ _ _ _;rw [← HRR.out];exact HP.out
    go_wp2_with fail
    go_ret
    exact ⟨_,rfl,HF.out,HB.out.1⟩
  ·have s4 : ¬ (j : Int) < (n : Int):=by omega
   have HF : Hid (POwn wr w.heap.size (.slice C k cc) R):=by
    show POwn _ _ _ _
    have:=HP.out
    rw [← HRR.out]
    rw [List.take_of_length_le (by omega)] at this ⊢
    exact this
   clear HP
   go_wp2_with fail
   go_ret
   exact ⟨.slice C k cc,rfl,HF.out,HB.out.1⟩
end Go.Proofs.YtkplahkkmmoppaaGreatDoor
namespace Go.Proofs.YtkplahkkmmoppaaGreatDoor
open Go.RowKit Rs
attribute [local go_sem ↓] Go.wp_at_zero Go.wp_at_succ
theorem cuts_good {r : List (Rm.P Cut)} (h : Rs.Good r) : cutsS (r.map spOf)=Rm.cuts r∧(∀ c ∈ Rm.cuts r,CutG c):=by
 constructor
 ·rw [cutsS_cuts,List.map_map]
  congr 1
  conv=>rhs;rw [← List.map_id r]
  exact List.map_congr_left fun p hp=>spOf_piece (h.2.1 p hp)
 ·intro c hc
  obtain ⟨p,hp,hm⟩:=List.mem_flatMap.1 hc
  have:=h.2.1 p hp
  simp only [List.mem_cons,List.not_mem_nil,or_false] at hm
  rcases hm with rfl | rfl
  ·exact cutG_lo this.1
  ·exact cutG_hi this.2
theorem srow_set {w : World} {C : Option Addr} {l : List Sp} (h : SRow w C l) {b j : Nat} (v : Value) (hb : ∀ a,C=some a → a.block ≠ b) : SRow (w.setCell ⟨b,j,none⟩ v) C l:=fun h0=>by
 obtain ⟨a,e,hl,hc⟩:=h h0
 have hne:=hb a e
 have far : ∀ p : Addr,p.block=a.block → (w.setCell ⟨b,j,none⟩ v).cell? p=w.cell? p:=fun p hp=>World.cell?_setCell_far w ⟨b,j,none⟩ p v (fun e=>hne (by rw [← hp,← e]))
 refine ⟨a,e,by simpa using hl,fun i hi=>?_⟩
 obtain ⟨s0,s1,s2,s3⟩:=hc i hi
 refine ⟨?_,?_,?_,?_⟩
 ·rw [far _ (by rw [add_block,add_block])];exact s0
 ·rw [far _ (by rw [add_block,add_block])];exact s1
 ·rw [far _ (by rw [add_block,add_block])];exact s2
 ·rw [far _ (by rw [add_block,add_block])];exact s3
def CutsOf (w' : World) (r : List (Rm.P Cut)) (A : Option Addr) (c : Nat) : Prop:=CRow w' A (Rm.cuts r)∧(Rm.cuts r).length≤c∧c≤maxLen
theorem cutsG_any (A : Option Addr) (n c : Nat) (r : List (Rm.P Cut)) (w : World) (hn : (r.map spOf).length=n) (hr : SRow w A (r.map spOf)) (hg : Rs.Good r) :
  Calls Tryz.prog 297 #[.slice A n c] w fun e w'=>(∃ B d,e = .returned (.slice B (Rm.cuts r).length d)∧CutsOf w' r B d)∧Below w.heap.size w w':=by
 subst hn
 refine (cutsIn_any A c _ w hr (by rw [List.length_map];have:=hg.2.2;omega)).mono ?_
 rintro e w' ⟨v,rfl,ho,hb⟩
 rw [(cuts_good hg).1] at ho
 obtain ⟨B,d,rfl,h1,h2,h3⟩:=Rg.row_own fitsC ho
 exact ⟨⟨B,d,rfl,h1,h2,h3⟩,hb⟩
theorem cutsOf_below {w w' : World} {r : List (Rm.P Cut)} {A : Option Addr} {c : Nat} (h : CutsOf w r A c) (hb : Below w.heap.size w w') : CutsOf w' r A c:=⟨Rg.row_below h.1 hb,h.2⟩
theorem combineG_any (f : FuncId) (op : Bool → Bool → Bool) (hop : ∀ x y W,Calls Tryz.prog f #[.bool x,.bool y] W fun e w'=>e = .returned (.bool (op x y))∧W=w') (hcf : ∀ (args : Array Value) (W : World),(callFunc f args).run Tryz.prog W = .ok (.enter f args) W) (h0 : op false false=false)
  (A B : Option Addr) (ca cb : Nat) (a b r : List (Rm.P Cut)) (w : World) (hw : MaxOk w) (ha : CutsOf w a A ca) (hb : CutsOf w b B cb) (ga : Rs.Good a) (gb : Rs.Good b) (hr : Rm.comb Ln op (Rm.cuts a) (Rm.cuts b) false false=Rm.cuts r) :
  Calls Tryz.prog 296 #[.slice A (Rm.cuts a).length ca,.slice B (Rm.cuts b).length cb,.func (.func f) #[] #[]] w fun e w'=>(∃ C d,e = .returned (.slice C (Rm.cuts r).length d)∧CutsOf w' r C d)∧Below w.heap.size w w':=by
 have la : (Rm.cuts a).length≤10000:=by rw [Rm.cuts_len];have:=ga.2.2;omega
 have lb : (Rm.cuts b).length≤10000:=by rw [Rm.cuts_len];have:=gb.2.2;omega
 refine (combine_any f op hop hcf h0 A B ca cb _ _ w hw ha.1 hb.1 (cuts_good ga).2 (cuts_good gb).2 la lb ha.2.1 hb.2.1 ha.2.2 hb.2.2).mono ?_
 rintro e w' ⟨v,rfl,ho,hbl⟩
 rw [hr] at ho
 obtain ⟨C,d,rfl,h1,h2,h3⟩:=Rg.row_own fitsC ho
 exact ⟨⟨C,d,rfl,h1,h2,h3⟩,hbl⟩
def SpansRet (w : World) (l : List Sp) (e : Ending) (w' : World) : Prop:=(∃ C d,e = .returned (.slice C l.length d)∧SRow w' C l∧l.length≤d∧∀ a,C=some a → w.heap.size≤a.block)∧Below w.heap.size w w'
theorem srow_of {w : World} {B : Nat} {v : Value} {l : List Sp} (h : POwn w B v l) : ∃ C d,v = .slice C l.length d∧SRow w C l∧l.length≤d∧∀ a,C=some a → B≤a.block:=by
 obtain ⟨C,d,hv,hr⟩:=srow_own (T:=131) h
 obtain ⟨C2,d2,hv2,_,h3,_⟩:=Rg.row_own fitsS h
 rw [hv] at hv2
 cases hv2
 exact ⟨C,d,hv,hr,h3,fun a ha=>by subst ha;exact (Rg.own_lt h a.block (by rw [hv];rfl)).1⟩
theorem rangeG_any (A : Option Addr) (c : Nat) (r : List (Rm.P Cut)) (w : World) (hr : CutsOf w r A c) (ho : ∀ p ∈ r,Ok2 p) (hl : r.length≤1000) (R : List Sp) (hR : (r.take 64).map spOf=R) :
  Calls Tryz.prog 295 #[.slice A (Rm.cuts r).length c] w (SpansRet w R):=by
 subst hR
 refine (rangeOf_any A _ c r w rfl hr.1 ho hl).mono ?_
 rintro e w' ⟨v,rfl,hp,hb⟩
 obtain ⟨C,d,rfl,h1,h2⟩:=srow_of hp
 exact ⟨⟨C,d,rfl,h1,h2⟩,hb⟩
theorem and_any (A B : Option Addr) (n m ca cb : Nat) (a b : List (Rm.P Cut)) (w : World) (hw : MaxOk w) (hn : (a.map spOf).length=n) (hm : (b.map spOf).length=m) (ha : SRow w A (a.map spOf)) (hb : SRow w B (b.map spOf)) (ga : Rs.Good a) (gb : Rs.Good b) :
  Calls Tryz.prog 300 #[.slice A n ca,.slice B m cb] w (SpansRet w ((andR a b).map spOf)):=by
 have HM:=Lib.hid hw
 have HA:=Lib.hid ha
 have HB:=Lib.hid hb
 have HG:=Lib.hid ga
 have HH:=Lib.hid gb
 have HN:=Lib.hid hn
 have HMM:=Lib.hid hm
 have hl : (Rm.andK Ln a b).length≤1000:=by have:=Rm.andK_len Ln a b;have:=ga.2.2;have:=gb.2.2;omega
 have HL:=Lib.hid hl
 clear hw ha hb ga gb hn hm hl
 obtain ⟨R,hR⟩ : ∃ R,(andR a b).map spOf=R:=⟨_,rfl⟩
 rw [hR]
 have HR:=Lib.hid hR
 clear hR
 go_enter Tryz.func300,Tryz.ntmps300
 go_wp2_with fail
 refine (cutsG_any A n ca a _ HN.out HA.out HG.out).mono ?_
 rintro _ w1 ⟨⟨C,d,rfl,hc⟩,hb1⟩
 have HC:=Lib.hid hc
 have HB1:=Lib.hid hb1
 clear hc hb1
 go_wp2_with fail
 refine (cutsG_any B m cb b _ HMM.out (srow_below HB.out HB1.out) HH.out).mono ?_
 rintro _ w2 ⟨⟨D,f,rfl,hd⟩,hb2⟩
 have HD:=Lib.hid hd
 have HC2:=Lib.hid (cutsOf_below HC.out hb2)
 have HB2:=Lib.hid (HB1.out.trans (hb2.mono HB1.out.size))
 clear hd hb2
 go_wp2_with fail
 refine (combineG_any 321 (fun x y=>x && y) both_any (fun _ _=>by kernel_rfl) rfl C D d f a b (Rm.andK Ln a b) _ (maxOk_below HM.out HB2.out) HC2.out HD.out HG.out HH.out (Rm.comb_and Ln HG.out.1 HH.out.1)).mono ?_
 rintro _ w3 ⟨⟨E,g,rfl,he⟩,hb3⟩
 have HE:=Lib.hid he
 have HB3:=Lib.hid (HB2.out.trans (hb3.mono HB2.out.size))
 clear he hb3
 go_wp2_with fail
 refine (rangeG_any E g (Rm.andK Ln a b) _ HE.out (ok2_and HG.out.2.1 HH.out.2.1) HL.out R HR.out).mono ?_
 rintro _ w4 ⟨⟨F,i,rfl,hf⟩,hb4⟩
 have HF:=Lib.hid hf
 have HB4:=Lib.hid (HB3.out.trans (hb4.mono HB3.out.size))
 clear hf hb4
 go_wp2_with fail
 go_ret
 exact ⟨⟨F,i,rfl,HF.out.1,HF.out.2.1,fun a ha=>Nat.le_trans HB3.out.size (HF.out.2.2 a ha)⟩,HB4.out⟩
theorem or_any (A B : Option Addr) (n m ca cb : Nat) (a b : List (Rm.P Cut)) (w : World) (hw : MaxOk w) (hn : (a.map spOf).length=n) (hm : (b.map spOf).length=m) (ha : SRow w A (a.map spOf)) (hb : SRow w B (b.map spOf)) (ga : Rs.Good a) (gb : Rs.Good b) :
  Calls Tryz.prog 269 #[.slice A n ca,.slice B m cb] w (SpansRet w ((orR a b).map spOf)):=by
 have HM:=Lib.hid hw
 have HA:=Lib.hid ha
 have HB:=Lib.hid hb
 have HG:=Lib.hid ga
 have HH:=Lib.hid gb
 have HN:=Lib.hid hn
 have HMM:=Lib.hid hm
 have hl : (Rm.orK Ln a b).length≤1000:=by have:=lenO ga.1 gb.1;have:=ga.2.2;have:=gb.2.2;omega
 have HL:=Lib.hid hl
 clear hw ha hb ga gb hn hm hl
 obtain ⟨R,hR⟩ : ∃ R,(orR a b).map spOf=R:=⟨_,rfl⟩
 rw [hR]
 have HR:=Lib.hid hR
 clear hR
 go_enter Tryz.func269,Tryz.ntmps269
 go_wp2_with fail
 refine (cutsG_any A n ca a _ HN.out HA.out HG.out).mono ?_
 rintro _ w1 ⟨⟨C,d,rfl,hc⟩,hb1⟩
 have HC:=Lib.hid hc
 have HB1:=Lib.hid hb1
 clear hc hb1
 go_wp2_with fail
 refine (cutsG_any B m cb b _ HMM.out (srow_below HB.out HB1.out) HH.out).mono ?_
 rintro _ w2 ⟨⟨D,f,rfl,hd⟩,hb2⟩
 have HD:=Lib.hid hd
 have HC2:=Lib.hid (cutsOf_below HC.out hb2)
 have HB2:=Lib.hid (HB1.out.trans (hb2.mono HB1.out.size))
 clear hd hb2
 go_wp2_with fail
 refine (combineG_any 298 (fun x y=>x || y) either_any (fun _ _=>by kernel_rfl) rfl C D d f a b (Rm.orK Ln a b) _ (maxOk_below HM.out HB2.out) HC2.out HD.out HG.out HH.out (Rm.comb_or Ln HG.out.1 HH.out.1)).mono ?_
 rintro _ w3 ⟨⟨E,g,rfl,he⟩,hb3⟩
 have HE:=Lib.hid he
 have HB3:=Lib.hid (HB2.out.trans (hb3.mono HB2.out.size))
 clear he hb3
 go_wp2_with fail
 refine (rangeG_any E g (Rm.orK Ln a b) _ HE.out (ok2_or HG.out.2.1 HH.out.2.1) HL.out R HR.out).mono ?_
 rintro _ w4 ⟨⟨F,i,rfl,hf⟩,hb4⟩
 have HF:=Lib.hid hf
 have HB4:=Lib.hid (HB3.out.trans (hb4.mono HB3.out.size))
 clear hf hb4
 go_wp2_with fail
 go_ret
 exact ⟨⟨F,i,rfl,HF.out.1,HF.out.2.1,fun a ha=>Nat.le_trans HB3.out.size (HF.out.2.2 a ha)⟩,HB4.out⟩
theorem all_any (w : World) : Calls Tryz.prog 29 #[] w (SpansRet w (allR.map spOf)):=by
 go_enter Tryz.func29,Tryz.ntmps29
 go_wp2_with fail
 go_ret
 refine ⟨⟨some ⟨w.heap.size,0,none⟩,1,rfl,fun _=>⟨_,rfl,by simp,fun i hi=>?_⟩,Nat.le_refl _,fun a ha=>by cases ha;exact Nat.le_refl _⟩,(Below.refl _ _).alloc (Nat.le_refl _) _⟩
 have hi2 : i < 1:=hi
 obtain rfl : i=0:=by omega
 have e : ∀ j,((⟨w.heap.size,0,none⟩ : Addr).add (0 * 4)).add j=⟨w.heap.size,j,none⟩:=fun j=>by
  rw [Nat.zero_mul,Rg.add_zero];unfold Addr.add;split <;> simp_all
 refine ⟨?_,?_,?_,?_⟩ <;> (rw [e,World.cell?_alloc_mark];rfl)
end Go.Proofs.YtkplahkkmmoppaaGreatDoor
namespace Go.Proofs.YtkplahkkmmoppaaGreatDoor
open Go.RowKit Rs
attribute [local go_sem ↓] Go.wp_at_zero Go.wp_at_succ
def inLo (c : Cut) (v : List UInt8) : Bool:=match c with | .pos w a=>decide (0 < Vm.cmpV v w) || (decide (Vm.cmpV v w=0) && !a) | _=>true
def inHi (c : Cut) (v : List UInt8) : Bool:=match c with | .pos w a=>decide (Vm.cmpV v w < 0) || (decide (Vm.cmpV v w=0) && a) | _=>true
theorem ver_ne {v : List UInt8} (h : Vm.check v=0) : v.isEmpty=false:=by
 cases v with
 | nil=>revert h;decide
 | cons a l=>rfl
theorem inLo_cmp {lo : List UInt8} (li : Bool) {v : List UInt8} (hv : Vm.check v=0) : decide (cmpVS lo (sLo lo li) v (-1)≤0)=inLo (loC lo li) v:=by
 unfold cmpVS sLo loC endI
 rw [ver_ne hv]
 cases lo.isEmpty
 ·have r:=Vm.cmpV_range lo v
  have a:=Vm.cmpV_cmp.1 lo v
  show decide (Vm.both (Vm.cmpV lo v) (Vm.sgn (if (false || li)=true then -1 else 1) (-1))≤0)=(decide (0 < Vm.cmpV v lo) || (decide (Vm.cmpV v lo=0) && !(!li)))
  rcases (show Vm.cmpV lo v = -1 ∨ Vm.cmpV lo v=0 ∨ Vm.cmpV lo v=1 by omega) with h | h | h <;> rw [h] at a ⊢ <;> rw [a] <;> cases li <;> rfl
 ·rfl
theorem inHi_cmp {hi : List UInt8} (hn : Bool) {v : List UInt8} (hv : Vm.check v=0) : decide (cmpVS v 1 hi (sHi hi hn)≤0)=inHi (hiC hi hn) v:=by
 unfold cmpVS sHi hiC endI
 rw [ver_ne hv]
 cases hi.isEmpty
 ·have r:=Vm.cmpV_range v hi
  show decide (Vm.both (Vm.cmpV v hi) (Vm.sgn 1 (if (false || hn)=true then 1 else -1))≤0)=(decide (Vm.cmpV v hi < 0) || (decide (Vm.cmpV v hi=0) && hn))
  rcases (show Vm.cmpV v hi = -1 ∨ Vm.cmpV v hi=0 ∨ Vm.cmpV v hi=1 by omega) with h | h | h <;> rw [h] <;> cases hn <;> rfl
 ·rfl
theorem hasS_any (lo hi : List UInt8) (li hn : Bool) (v : List UInt8) (w : World) (hw : MaxOk w) (h1 : Rs.bound lo=0) (h2 : Rs.bound hi=0) (hv : Vm.check v=0) :
  Calls Tryz.prog 81 #[.agg #[.string ⟨lo.toArray⟩,.string ⟨hi.toArray⟩,.bool li,.bool hn],.string ⟨v.toArray⟩] w fun e w'=>e = .returned (.bool (inS (toP lo hi li hn) v))∧Below w.heap.size w w':=by
 have HM:=Lib.hid hw
 have HST : Stable (fun u=>Box u w.heap.size lo hi li hn):=box_stable _ _ _ _ _
 have HI : Hid (Kp (fun u=>Box u w.heap.size lo hi li hn) w (w.alloc (.cells #[.string ⟨lo.toArray⟩,.string ⟨hi.toArray⟩,.bool li,.bool hn] 131))):=⟨box_new ..,by simp,(Below.refl _ _).alloc (Nat.le_refl _) _⟩
 have K1 : Hid (lo.isEmpty=false → Vm.check lo=0):=fun h=>(Rs.bound_own h1 h).1
 have K2 : Hid (hi.isEmpty=false → Vm.check hi=0):=fun h=>(Rs.bound_own h2 h).1
 have KV : Hid (v.isEmpty=false → Vm.check v=0):=fun _=>hv
 have HL:=Lib.hid (inLo_cmp (lo:=lo) li hv)
 have HH:=Lib.hid (inHi_cmp (hi:=hi) hn hv)
 obtain ⟨R,hR⟩ : ∃ R,inS (toP lo hi li hn) v=R:=⟨_,rfl⟩
 rw [hR]
 have HR : Hid (R=(inLo (loC lo li) v && inHi (hiC hi hn) v)):=hR.symm
 clear hw h1 h2 hv hR
 obtain ⟨B1,hB1⟩ : ∃ B,inLo (loC lo li) v=B:=⟨_,rfl⟩
 rw [hB1] at HL HR
 clear hB1
 go_enter Tryz.func81,Tryz.ntmps81
 go_wp2_with fail
 refine (from_any _ _ _ _ _).mono ?_
 rintro _ w1 ⟨rfl,hb⟩
 have HI1:=kp_step HST hb HI
 clear hb HI
 go_wp2_with fail
 refine (cutCompare_any _ _ _ _ _ (kp_max HM HI1) K1.out KV.out).mono ?_
 rintro _ w2 ⟨rfl,hb⟩
 have HI2:=kp_step HST hb HI1
 clear hb HI1
 obtain ⟨⟨c0,c1,c2,c3,_⟩,_⟩:=HI2.out
 have hl:=HL.out
 cases B1
 ·go_wp2_with fail
  go_ret
  exact ⟨by rw [HR.out];rfl,kp_below HI2⟩
 ·go_wp2_with fail
  refine (to_any _ _ _ _ _).mono ?_
  rintro _ w3 ⟨rfl,hb⟩
  have HI3:=kp_step HST hb HI2
  clear hb HI2 c0 c1 c2 c3
  go_wp2_with fail
  refine (cutCompare_any _ _ _ _ _ (kp_max HM HI3) KV.out K2.out).mono ?_
  rintro _ w4 ⟨rfl,hb⟩
  have HI4:=kp_step HST hb HI3
  have hh:=HH.out
  clear hb HI3 hl
  go_wp2_with fail
  go_ret
  exact ⟨by rw [HR.out];rfl,kp_below HI4⟩
end Go.Proofs.YtkplahkkmmoppaaGreatDoor
namespace Go.Proofs.YtkplahkkmmoppaaGreatDoor
open Go.RowKit Rs
attribute [local go_sem ↓] Go.wp_at_zero Go.wp_at_succ
theorem has1_any (lo hi : List UInt8) (li hn : Bool) (b : Nat) (v : List UInt8) (w : World) (hw : MaxOk w) (h1 : Rs.bound lo=0) (h2 : Rs.bound hi=0) (hv : Vm.check v=0) (hc : w.cell? ⟨b,0,none⟩=some (.string ⟨v.toArray⟩)) (hb : b < w.heap.size) :
  Calls Tryz.prog 80 #[.agg #[.string ⟨lo.toArray⟩,.string ⟨hi.toArray⟩,.bool li,.bool hn],.pointer (some ⟨b,0,none⟩)] w fun e w'=>e = .returned (.bool (inS (toP lo hi li hn) v))∧Below w.heap.size w w':=by
 have HM : Hid (MaxOk (w.alloc (.cells #[.string ⟨lo.toArray⟩,.string ⟨hi.toArray⟩,.bool li,.bool hn] 131))):=maxOk_below hw ((Below.refl _ _).alloc (Nat.le_refl _) _)
 have H1:=Lib.hid h1
 have H2:=Lib.hid h2
 have HV:=Lib.hid hv
 have hne : b ≠ w.heap.size:=by omega
 clear hw h1 h2 hv
 go_enter Tryz.func80,Tryz.ntmps80
 go_wp2_with fail
 refine (hasS_any lo hi li hn v _ HM.out H1.out H2.out HV.out).mono ?_
 rintro _ w1 ⟨rfl,hb⟩
 have HB : Hid (Below w.heap.size w w1):=((Below.refl _ _).alloc (Nat.le_refl _) _).trans (hb.mono (by simp))
 clear hb
 go_wp2_with fail
 go_ret
 exact ⟨rfl,HB.out⟩
def IdxRet (w : World) (b : Bool) (e : Ending) (w' : World) : Prop:=(∃ n : Int,e = .returned (.int .i64 n)∧decide (0≤n)=b)∧Below w.heap.size w w'
theorem spOf_bounds {p : Rm.P Cut} (h : Ok2 p) : Rs.bound (spOf p).lo=0∧Rs.bound (spOf p).hi=0∧toP (spOf p).lo (spOf p).hi (spOf p).li (spOf p).hn=p :=
 ⟨txt_bound (Or.inl h.1),txt_bound (Or.inr h.2),spOf_piece h⟩
theorem row_piece {w : World} {A : Option Addr} {r : List (Rm.P Cut)} (h : SRow w A (r.map spOf)) (k : Nat) (hk : k < r.length) : ∃ ad,A=some ad∧ad.block < w.heap.size∧At4 w (ad.add (k * 4)) (spOf r[k]).lo (spOf r[k]).hi (spOf r[k]).li (spOf r[k]).hn:=by
 obtain ⟨ad,e,hl,hc⟩:=h (by rw [List.length_map];omega)
 have:=hc k (by rw [List.length_map];exact hk)
 rw [List.getElem_map] at this
 exact ⟨ad,e,hl,at4_of this⟩
theorem any_snoc (r : List (Rm.P Cut)) (k : Nat) (h : k < r.length) (f : Rm.P Cut → Bool) : (r.take (k + 1)).any f=((r.take k).any f || f r[k]):=by
 rw [List.take_succ_eq_append_getElem h,List.any_append];simp
theorem any_yes {r : List (Rm.P Cut)} {k : Nat} (h : k < r.length) {f : Rm.P Cut → Bool} (hf : f r[k]=true) : r.any f=true:=List.any_eq_true.2 ⟨_,List.getElem_mem h,hf⟩
theorem index_any (A : Option Addr) (n c : Nat) (r : List (Rm.P Cut)) (b : Nat) (v : List UInt8) (w : World) (hw : MaxOk w) (hn : r.length=n) (hr : SRow w A (r.map spOf)) (ho : ∀ p ∈ r,Ok2 p) (hl : n≤10000) (hv : Vm.check v=0) (hc : w.cell? ⟨b,0,none⟩=some (.string ⟨v.toArray⟩)) (hb : b < w.heap.size) :
  Calls Tryz.prog 123 #[.slice A n c,.func (.func 80) #[] #[.pointer (some ⟨b,0,none⟩)]] w (IdxRet w (hasR r v)):=by
 have HM:=Lib.hid hw
 have HR:=Lib.hid hr
 have HO:=Lib.hid ho
 have HV:=Lib.hid hv
 have HC:=Lib.hid hc
 have HN:=Lib.hid hn
 obtain ⟨X,hX⟩ : ∃ X,hasR r v=X:=⟨_,rfl⟩
 rw [hX]
 have HX : Hid (X=r.any (fun p=>inS p v)):=hX.symm
 clear hw hr ho hv hc hn hX
 go_enter Tryz.func123,Tryz.ntmps123
 go_wp2_with fail
 go_loopw [8] (fun i wr=>∃ k : Nat,k≤n∧i = .int .i64 k∧Hid ((r.take k).any (fun p=>inS p v)=false)∧Hid (Below w.heap.size w wr∧w.heap.size≤wr.heap.size)) (fun i _=>n - (intOf i).toNat)
 case atStart=>exact ⟨0,Nat.zero_le _,rfl,rfl,Below.refl _ _,Nat.le_refl _⟩
 case round =>
  obtain ⟨k,hk,rfl,HA,HB⟩:=hrel
  by_cases hlt : k < n
  ·have hlr : k < r.length:=by rw [HN.out];exact hlt
   obtain ⟨ad,rfl,_,c0,c1,c2,c3⟩:=row_piece (srow_below HR.out HB.out.1) k hlr
   have HS:=Lib.hid (any_snoc r k hlr (fun p=>inS p v))
   have HY : Hid (inS r[k] v=true → X=true):=fun h=>by rw [HX.out];exact any_yes hlr h
   obtain ⟨b1,b2,b3⟩:=spOf_bounds (HO.out _ (List.getElem_mem hlr))
   generalize r[k]=p at *
   have HCL : ∀ W : World,Below wr.heap.size wr W → Calls Tryz.prog 80 #[.agg #[.string ⟨(spOf p).lo.toArray⟩,.string ⟨(spOf p).hi.toArray⟩,.bool (spOf p).li,.bool (spOf p).hn],.pointer (some ⟨b,0,none⟩)] W fun e w'=>e = .returned (.bool (inS p v))∧Below W.heap.size W w':=fun W hW=>by
    have hWb : Below w.heap.size w W:=HB.out.1.trans (hW.mono HB.out.2)
    have:=has1_any (spOf p).lo (spOf p).hi (spOf p).li (spOf p).hn b v W (maxOk_below HM.out hWb) b1 b2 HV.out (by rw [hWb.cell (by exact hb)];exact HC.out) (Nat.lt_of_lt_of_le hb hWb.size)
    rw [b3] at this
    exact this
   have HC2:=Lib.hid HCL
   clear HCL b1 b2 b3
   go_wp2_with fail
   refine (HC2.out _ (Below.refl _ _)).mono ?_
   rintro _ w1 ⟨rfl,hbl⟩
   have HB1 : Hid (Below w.heap.size w w1∧w.heap.size≤w1.heap.size):=⟨HB.out.1.trans (hbl.mono HB.out.2),Nat.le_trans HB.out.2 hbl.size⟩
   clear hbl c0 c1 c2 c3
   cases hp : inS p v
   ·have HA2 : Hid ((r.take (k + 1)).any (fun p=>inS p v)=false):=by show _=_;rw [HS.out,HA.out];exact hp
    clear hp
    go_wp2_with fail
    go_roundw
    case rel=>exact ⟨k + 1,by omega,by go_num,HA2,HB1⟩
    case measure=>simp [intOf];omega
   ·have HXT : Hid (X=true):=HY.out hp
    clear hp
    go_wp2_with fail
    go_ret
    exact ⟨⟨k,rfl,by rw [HXT.out];exact decide_eq_true (by omega)⟩,HB1.out.1⟩
  ·have HXF : Hid (X=false):=by
    show _=_
    have:=HA.out
    rw [List.take_of_length_le (by rw [HN.out];omega)] at this
    rw [HX.out];exact this
   go_wp2_with fail
   go_ret
   exact ⟨⟨-1,rfl,by rw [HXF.out];rfl⟩,HB.out.1⟩
end Go.Proofs.YtkplahkkmmoppaaGreatDoor
namespace Go.Proofs.YtkplahkkmmoppaaGreatDoor
open Go.RowKit Rs
attribute [local go_sem ↓] Go.wp_at_zero Go.wp_at_succ
theorem containsF_any (A : Option Addr) (n c : Nat) (r : List (Rm.P Cut)) (b : Nat) (v : List UInt8) (w : World) (hw : MaxOk w) (hn : r.length=n) (hr : SRow w A (r.map spOf)) (ho : ∀ p ∈ r,Ok2 p) (hl : n≤10000) (hv : Vm.check v=0) (hc : w.cell? ⟨b,0,none⟩=some (.string ⟨v.toArray⟩)) (hb : b < w.heap.size) :
  Calls Tryz.prog 79 #[.slice A n c,.func (.func 80) #[] #[.pointer (some ⟨b,0,none⟩)]] w fun e w'=>e = .returned (.bool (hasR r v))∧Below w.heap.size w w':=by
 have HC:=Lib.hid (index_any A n c r b v w hw hn hr ho hl hv hc hb)
 obtain ⟨X,hX⟩ : ∃ X,hasR r v=X:=⟨_,rfl⟩
 rw [hX] at HC ⊢
 clear hw hn hr ho hl hv hc hb hX
 go_enter Tryz.func79,Tryz.ntmps79
 go_wp2_with fail
 refine HC.out.mono ?_
 rintro _ w1 ⟨⟨m,rfl,hm⟩,hb⟩
 have HB:=Lib.hid hb
 clear hb
 cases X
 all_goals
  go_wp2_with fail
  go_ret
  exact ⟨rfl,HB.out⟩
theorem has_any (A : Option Addr) (n c : Nat) (r : List (Rm.P Cut)) (v : List UInt8) (w : World) (hw : MaxOk w) (hn : (r.map spOf).length=n) (hr : SRow w A (r.map spOf)) (ho : ∀ p ∈ r,Ok2 p) (hl : n≤10000) (hv : Vm.check v=0) :
  Calls Tryz.prog 30 #[.slice A n c,.string ⟨v.toArray⟩] w fun e w'=>e = .returned (.bool (hasR r v))∧Below w.heap.size w w':=by
 have hmf : ∀ (fn : Fn) (first cap : Array Value) (w : World),(Instr.makeFunc fn first cap).run Tryz.prog w = .ok (.func fn first cap) w:=fun _ _ _ _=>rfl
 have hb0 : Below w.heap.size w (w.alloc (.cells #[.string ⟨v.toArray⟩] 9)):=(Below.refl _ _).alloc (Nat.le_refl _) _
 have HC:=Lib.hid (containsF_any A n c r w.heap.size v (w.alloc (.cells #[.string ⟨v.toArray⟩] 9)) (maxOk_below hw hb0) (by rw [← hn,List.length_map]) (srow_below hr hb0) ho hl hv (by simp [go_sem]) (by simp))
 have HB0:=Lib.hid hb0
 clear hw hn hr ho hl hv hb0
 go_enter Tryz.func30,Tryz.ntmps30
 go_wp2_with fail
 refine HC.out.mono ?_
 rintro _ w1 ⟨rfl,hb⟩
 have HB : Hid (Below w.heap.size w w1):=HB0.out.trans (hb.mono (by simp))
 clear hb
 go_wp2_with fail
 go_ret
 exact ⟨rfl,HB.out⟩
end Go.Proofs.YtkplahkkmmoppaaGreatDoor
namespace Go.Proofs.YtkplahkkmmoppaaGreatDoor
open Go.RowKit Rs
attribute [local go_sem ↓] Go.wp_at_zero Go.wp_at_succ
theorem alloc5 (w : World) (a b c d e : Obj) : (((((w.alloc a).alloc b).alloc c).alloc d).alloc e).heap[w.heap.size + 1 + 1 + 1 + 1]? = some e:=by
 have h:=heap_alloc_new ((((w.alloc a).alloc b).alloc c).alloc d) e
 rw [show ((((w.alloc a).alloc b).alloc c).alloc d).heap.size=w.heap.size + 1 + 1 + 1 + 1 from by simp] at h
 exact h
def encX (x : List UInt8 × Int) : List Value:=[.string ⟨x.1.toArray⟩,.int .i64 x.2]
def XRet (w : World) (l : List (List UInt8 × Int)) (e : Ending) (w' : World) : Prop:=∃ M,e = .returned (.slice (some ⟨M,0,none⟩) l.length l.length)∧w'.heap[M]? = some (.cells (l.flatMap encX).toArray 188 (0,0))∧Below w.heap.size w w'
def sgnT : Nat → List UInt8
 | 0=>[61]
 | 1=>[33,61]
 | 2=>[60]
 | 3=>[60,61]
 | 4=>[62]
 | _=>[62,61]
def sgnL (v : List UInt8) : Nat → List (List UInt8 × Int)
 | 0=>[(v,-1),(v,1)]
 | 1=>[([],-1),(v,-1),(v,1),([],1)]
 | 2=>[([],-1),(v,-1)]
 | 3=>[([],-1),(v,1)]
 | 4=>[(v,1),([],1)]
 | _=>[(v,-1),([],1)]
theorem cutsOf_0 (v : List UInt8) (w : World) : Calls Tryz.prog 320 #[.string ⟨#[61]⟩,.string ⟨v.toArray⟩] w (XRet w (sgnL v 0)):=by
 go_enter Tryz.func320,Tryz.ntmps320
 go_wp2_with fail
 go_ret
 refine ⟨_,rfl,?_,((((Below.refl _ _).alloc (Nat.le_refl _) _).alloc (by simp) _).alloc (by simp;omega) _).alloc (by simp;omega) _ |>.alloc (by simp;omega) _⟩
 exact alloc5 _ _ _ _ _ _
theorem cutsOf_1 (v : List UInt8) (w : World) : Calls Tryz.prog 320 #[.string ⟨#[33,61]⟩,.string ⟨v.toArray⟩] w (XRet w (sgnL v 1)):=by
 go_enter Tryz.func320,Tryz.ntmps320
 go_wp2_with fail
 go_ret
 refine ⟨_,rfl,?_,((((Below.refl _ _).alloc (Nat.le_refl _) _).alloc (by simp) _).alloc (by simp;omega) _).alloc (by simp;omega) _ |>.alloc (by simp;omega) _⟩
 exact alloc5 _ _ _ _ _ _
theorem cutsOf_2 (v : List UInt8) (w : World) : Calls Tryz.prog 320 #[.string ⟨#[60]⟩,.string ⟨v.toArray⟩] w (XRet w (sgnL v 2)):=by
 go_enter Tryz.func320,Tryz.ntmps320
 go_wp2_with fail
 go_ret
 refine ⟨_,rfl,?_,((((Below.refl _ _).alloc (Nat.le_refl _) _).alloc (by simp) _).alloc (by simp;omega) _).alloc (by simp;omega) _ |>.alloc (by simp;omega) _⟩
 exact alloc5 _ _ _ _ _ _
theorem cutsOf_3 (v : List UInt8) (w : World) : Calls Tryz.prog 320 #[.string ⟨#[60,61]⟩,.string ⟨v.toArray⟩] w (XRet w (sgnL v 3)):=by
 go_enter Tryz.func320,Tryz.ntmps320
 go_wp2_with fail
 go_ret
 refine ⟨_,rfl,?_,((((Below.refl _ _).alloc (Nat.le_refl _) _).alloc (by simp) _).alloc (by simp;omega) _).alloc (by simp;omega) _ |>.alloc (by simp;omega) _⟩
 exact alloc5 _ _ _ _ _ _
theorem cutsOf_4 (v : List UInt8) (w : World) : Calls Tryz.prog 320 #[.string ⟨#[62]⟩,.string ⟨v.toArray⟩] w (XRet w (sgnL v 4)):=by
 go_enter Tryz.func320,Tryz.ntmps320
 go_wp2_with fail
 go_ret
 refine ⟨_,rfl,?_,((((Below.refl _ _).alloc (Nat.le_refl _) _).alloc (by simp) _).alloc (by simp;omega) _).alloc (by simp;omega) _ |>.alloc (by simp;omega) _⟩
 exact alloc5 _ _ _ _ _ _
theorem cutsOf_5 (v : List UInt8) (w : World) : Calls Tryz.prog 320 #[.string ⟨#[62,61]⟩,.string ⟨v.toArray⟩] w (XRet w (sgnL v 5)):=by
 go_enter Tryz.func320,Tryz.ntmps320
 go_wp2_with fail
 go_ret
 refine ⟨_,rfl,?_,((((Below.refl _ _).alloc (Nat.le_refl _) _).alloc (by simp) _).alloc (by simp;omega) _).alloc (by simp;omega) _ |>.alloc (by simp;omega) _⟩
 exact alloc5 _ _ _ _ _ _
def NoSign (s : List UInt8) : Prop:=∀ i,i < 6 → s ≠ sgnT i
theorem cutsOf_no (s v : List UInt8) (w : World) (h : NoSign s) : Calls Tryz.prog 320 #[.string ⟨s.toArray⟩,.string ⟨v.toArray⟩] w fun e w'=>e=pan 2∧Below w.heap.size w w':=by
 have g0 : (s == [61])=false:=beq_eq_false_iff_ne.2 (h 0 (by decide))
 have g1 : (s == [33,61])=false:=beq_eq_false_iff_ne.2 (h 1 (by decide))
 have g2 : (s == [60])=false:=beq_eq_false_iff_ne.2 (h 2 (by decide))
 have g3 : (s == [60,61])=false:=beq_eq_false_iff_ne.2 (h 3 (by decide))
 have g4 : (s == [62])=false:=beq_eq_false_iff_ne.2 (h 4 (by decide))
 have g5 : (s == [62,61])=false:=beq_eq_false_iff_ne.2 (h 5 (by decide))
 clear h
 go_enter Tryz.func320,Tryz.ntmps320
 go_wp2_with fail
 exact ⟨rfl,rfl,(((Below.refl _ _).alloc (Nat.le_refl _) _).alloc (by simp) _).alloc (by simp;omega) _ |>.alloc (by simp;omega) _⟩
end Go.Proofs.YtkplahkkmmoppaaGreatDoor
namespace Go.Proofs.YtkplahkkmmoppaaGreatDoor
open Go.RowKit Rs
attribute [local go_sem ↓] Go.wp_at_zero Go.wp_at_succ
theorem rCheck_panic (p : Addr) (x : Int) (n : Int) (w : World) (hc : w.cell? p=some (.int .i64 x)) (hz : w.frozen? p=false) :
  CallsD Tryz.prog 257 #[.pointer (some p)] (.panicking [{ v:=.iface 36 (.int .i64 n),recovered:=false }]) w fun e u' w' =>
   e = .returned (.tuple #[])∧u' = .panicking [{ v:=.iface 36 (.int .i64 n),recovered:=true }]∧w'=w.setCell p (.int .i64 n):=by
 refine callsD_of_wpS Tryz.func257 rfl fun c₀ cs hu=>?_
 apply wpS_region
 simp [wpOpsS,go_sem,recoverD,hu,Tryz.ntmps257]
 refine (raised_err n _).mono ?_
 rintro e w' ⟨rfl,rfl⟩
 simp [go_sem,hc,hz,bodyPostS,results,Tryz.results257]
theorem rCheck_idle (p : Addr) (x : Int) (w : World) (hc : w.cell? p=some (.int .i64 x)) (hz : w.frozen? p=false) :
  CallsD Tryz.prog 257 #[.pointer (some p)] .returning w fun e u' w'=>e = .returned (.tuple #[])∧u' = .returning∧w'=w.setCell p (.int .i64 0):=by
 refine callsD_of_wpS Tryz.func257 rfl fun c₀ cs hu=>?_
 apply wpS_region
 simp [wpOpsS,go_sem,recoverD,hu,Tryz.ntmps257]
 refine (raised_nil _).mono ?_
 rintro e w' ⟨rfl,rfl⟩
 cases c₀
 simp_all [go_sem,bodyPostS,results,Tryz.results257]
theorem rOf_panic (p : Addr) (x : Int) (n : Int) (w : World) (hc : w.cell? p=some (.int .i64 x)) (hz : w.frozen? p=false) :
  CallsD Tryz.prog 319 #[.pointer (some p)] (.panicking [{ v:=.iface 36 (.int .i64 n),recovered:=false }]) w fun e u' w' =>
   e = .returned (.tuple #[])∧u' = .panicking [{ v:=.iface 36 (.int .i64 n),recovered:=true }]∧w'=w.setCell p (.int .i64 n):=by
 refine callsD_of_wpS Tryz.func319 rfl fun c₀ cs hu=>?_
 apply wpS_region
 simp [wpOpsS,go_sem,recoverD,hu,Tryz.ntmps319]
 refine (raised_err n _).mono ?_
 rintro e w' ⟨rfl,rfl⟩
 simp [go_sem,hc,hz,bodyPostS,results,Tryz.results319]
theorem rOf_idle (p : Addr) (x : Int) (w : World) (hc : w.cell? p=some (.int .i64 x)) (hz : w.frozen? p=false) :
  CallsD Tryz.prog 319 #[.pointer (some p)] .returning w fun e u' w'=>e = .returned (.tuple #[])∧u' = .returning∧w'=w.setCell p (.int .i64 0):=by
 refine callsD_of_wpS Tryz.func319 rfl fun c₀ cs hu=>?_
 apply wpS_region
 simp [wpOpsS,go_sem,recoverD,hu,Tryz.ntmps319]
 refine (raised_nil _).mono ?_
 rintro e w' ⟨rfl,rfl⟩
 cases c₀
 simp_all [go_sem,bodyPostS,results,Tryz.results319]
theorem row_block {α : Type} {enc : α → List Value} {K : Nat} (hf : Rg.Fits enc K) {w : World} {M : Nat} {T : TypeId} {l : List α} (h : w.heap[M]? = some (.cells (Rg.flat enc l).toArray T (0,0))) : Rg.Row enc K w (some ⟨M,0,none⟩) l:=by
 intro _
 refine ⟨_,rfl,(Array.getElem?_eq_some_iff.1 h).1,fun i hi j v hv=>?_⟩
 have hj : j < K:=by rw [← hf.len l[i]];exact (List.getElem?_eq_some_iff.1 hv).1
 rw [← Rg.add_j]
 exact World.news_of_block h _ _ (by simpa using (Rg.flat_get hf l i hi j hj).trans hv)
theorem sgn_cuts (c : List UInt8) (i : Nat) : (sgnL c i).flatMap encX=Rg.flat encC (Rm.cuts (signR c i))∧(sgnL c i).length=(Rm.cuts (signR c i)).length:=by
 match i with
 | 0=>exact ⟨rfl,rfl⟩
 | 1=>exact ⟨rfl,rfl⟩
 | 2=>exact ⟨rfl,rfl⟩
 | 3=>exact ⟨rfl,rfl⟩
 | 4=>exact ⟨rfl,rfl⟩
 | _ + 5=>exact ⟨rfl,rfl⟩
theorem sgn_len (c : List UInt8) (i : Nat) : (sgnL c i).length≤4:=by
 match i with
 | 0=>exact Nat.le_of_ble_eq_true rfl
 | 1=>exact Nat.le_of_ble_eq_true rfl
 | 2=>exact Nat.le_of_ble_eq_true rfl
 | 3=>exact Nat.le_of_ble_eq_true rfl
 | 4=>exact Nat.le_of_ble_eq_true rfl
 | _ + 5=>exact Nat.le_of_ble_eq_true rfl
theorem cutsOf_any (i : Nat) (hi : i < 6) (v : List UInt8) (w : World) : Calls Tryz.prog 320 #[.string ⟨(sgnT i).toArray⟩,.string ⟨v.toArray⟩] w (XRet w (sgnL v i)):=by
 match i,hi with
 | 0,_=>exact cutsOf_0 v w
 | 1,_=>exact cutsOf_1 v w
 | 2,_=>exact cutsOf_2 v w
 | 3,_=>exact cutsOf_3 v w
 | 4,_=>exact cutsOf_4 v w
 | 5,_=>exact cutsOf_5 v w
theorem cutsOfG_any (i : Nat) (hi : i < 6) (c : List UInt8) (w : World) : Calls Tryz.prog 320 #[.string ⟨(sgnT i).toArray⟩,.string ⟨c.toArray⟩] w fun e w'=>(∃ B d,e = .returned (.slice B (Rm.cuts (signR c i)).length d)∧CutsOf w' (signR c i) B d)∧Below w.heap.size w w':=by
 refine (cutsOf_any i hi c w).mono ?_
 rintro e w' ⟨M,rfl,h,hb⟩
 have:=sgn_len c i
 obtain ⟨e1,e2⟩:=sgn_cuts c i
 rw [e1] at h
 refine ⟨⟨_,_,by rw [← e2],row_block fitsC h,by rw [← e2];exact Nat.le_refl _,by unfold maxLen;omega⟩,hb⟩
def OfRet (w : World) (R : List Sp) (k : Int) (e : Ending) (w' : World) : Prop:=(∃ C d,e = .returned (.tuple #[.slice C R.length d,.int .i64 k])∧SRow w' C R∧R.length≤d)∧Below w.heap.size w w'
theorem of_nosign (s v : List UInt8) (w : World) (hw : MaxOk w) (h : NoSign s) : Calls Tryz.prog 299 #[.string ⟨s.toArray⟩,.string ⟨v.toArray⟩] w (OfRet w [] 2):=by
 have hmf : ∀ (fn : Fn) (first cap : Array Value) (w : World),(Instr.makeFunc fn first cap).run Tryz.prog w = .ok (.func fn first cap) w:=fun _ _ _ _=>rfl
 have hM : MaxOk (w.alloc (.cells #[.int .i64 0] 36)):=maxOk_below hw ((Below.refl _ _).alloc (Nat.le_refl _) _)
 have HM:=Lib.hid hM
 have H:=Lib.hid h
 clear hw hM h
 go_enter_defers Tryz.func299,Tryz.ntmps299
 go_wp2_with fail
 refine (canon_any v _ HM.out).mono ?_
 rintro _ w1 ⟨rfl,hb⟩
 have hb1 : Below (w.heap.size + 1) (w.alloc (.cells #[.int .i64 0] 36)) w1:=by simpa using hb
 have HB1:=Lib.hid hb1
 clear hb hb1
 go_wp2_with fail
 refine (cutsOf_no s (canonOf v) _ H.out).mono ?_
 rintro _ w2 ⟨rfl,hb⟩
 have hb2 : Below (w.heap.size + 1) (w.alloc (.cells #[.int .i64 0] 36)) w2:=HB1.out.trans (hb.mono (by have:=HB1.out.size;simpa using this))
 obtain ⟨hcell,hfro⟩:=cell_int w w2 _ _ hb2
 have HB2:=Lib.hid hb2
 clear hb hb2 HB1
 go_wp2_with fail
 refine leaves_cons (f:=319) (args:=#[.pointer (some ⟨w.heap.size,0,none⟩)]) (by simp) (by simp [go_sem]) ?_
 refine (rOf_panic ⟨w.heap.size,0,none⟩ 0 _ _ ?_ ?_).mono ?_
 ·simp [go_sem,hcell]
 ·simp [go_sem,hfro]
 rintro e u' w4 ⟨rfl,rfl,rfl⟩
 simp [Leaves,settle,results,Tryz.results299,go_sem,hcell]
 exact ⟨⟨none,0,rfl,fun h=>absurd h (by simp),Nat.le_refl _⟩,(below_new HB2.out).setCell (Nat.le_refl _) _⟩
theorem of_nover (i : Nat) (hi : i < 6) (v : List UInt8) (w : World) (hw : MaxOk w) (h : Vm.check v ≠ 0) : Calls Tryz.prog 299 #[.string ⟨(sgnT i).toArray⟩,.string ⟨v.toArray⟩] w (OfRet w [] (Vm.check v)):=by
 have hmf : ∀ (fn : Fn) (first cap : Array Value) (w : World),(Instr.makeFunc fn first cap).run Tryz.prog w = .ok (.func fn first cap) w:=fun _ _ _ _=>rfl
 have hM : MaxOk (w.alloc (.cells #[.int .i64 0] 36)):=maxOk_below hw ((Below.refl _ _).alloc (Nat.le_refl _) _)
 have HM:=Lib.hid hM
 have hk0 : (Vm.check v == 0)=false:=beq_eq_false_iff_ne.2 h
 obtain ⟨k,hk⟩ : ∃ k,Vm.check v=k:=⟨_,rfl⟩
 rw [hk] at hk0
 have hc : ∀ W : World,MaxOk W → Calls Tryz.prog 138 #[.string ⟨v.toArray⟩] W fun e w'=>e = .returned (.tuple #[.string ⟨(canonOf v).toArray⟩,.int .i64 k])∧Below W.heap.size W w':=fun W hW=>by rw [← hk];exact canon_any v W hW
 rw [hk]
 have HC:=Lib.hid hc
 have HI:=Lib.hid hi
 obtain ⟨S,hS⟩ : ∃ S,sgnT i=S:=⟨_,rfl⟩
 obtain ⟨c,hcc⟩ : ∃ c,canonOf v=c:=⟨_,rfl⟩
 have HCU : Hid (∀ W : World,Calls Tryz.prog 320 #[.string ⟨S.toArray⟩,.string ⟨c.toArray⟩] W fun e w'=>(∃ B d,e = .returned (.slice B (Rm.cuts (signR c i)).length d)∧CutsOf w' (signR c i) B d)∧Below W.heap.size W w'):=by
  show ∀ W : World,_
  intro W
  rw [← hS];exact cutsOfG_any i hi c W
 rw [hcc] at HC
 rw [hS]
 clear hw hM h hk hc hi hS hcc
 go_enter_defers Tryz.func299,Tryz.ntmps299
 go_wp2_with fail
 refine (HC.out _ HM.out).mono ?_
 rintro _ w1 ⟨rfl,hb⟩
 have hb1 : Below (w.heap.size + 1) (w.alloc (.cells #[.int .i64 0] 36)) w1:=by simpa using hb
 have HB1:=Lib.hid hb1
 clear hb hb1
 go_wp2_with fail
 refine (HCU.out _).mono ?_
 rintro _ w2 ⟨⟨B,d,rfl,_⟩,hb⟩
 have hb2 : Below (w.heap.size + 1) (w.alloc (.cells #[.int .i64 0] 36)) w2:=HB1.out.trans (hb.mono (by have:=HB1.out.size;simpa using this))
 obtain ⟨hcell,hfro⟩:=cell_int w w2 _ _ hb2
 have HB2:=Lib.hid hb2
 clear hb hb2 HB1
 go_wp2_with fail
 refine (require_no _).mono ?_
 rintro _ w3 ⟨rfl,rfl⟩
 go_wp2_with fail
 refine leaves_cons (f:=319) (args:=#[.pointer (some ⟨w.heap.size,0,none⟩)]) (by simp) (by simp [go_sem]) ?_
 refine (rOf_panic ⟨w.heap.size,0,none⟩ 0 _ _ ?_ ?_).mono ?_
 ·simp [go_sem,hcell]
 ·simp [go_sem,hfro]
 rintro e u' w4 ⟨rfl,rfl,rfl⟩
 simp [Leaves,settle,results,Tryz.results299,go_sem,hcell]
 exact ⟨⟨none,0,rfl,fun h=>absurd h (by simp),Nat.le_refl _⟩,(below_new HB2.out).setCell (Nat.le_refl _) _⟩
theorem of_sign (i : Nat) (hi : i < 6) (v : List UInt8) (w : World) (hw : MaxOk w) (h : Vm.check v=0) : Calls Tryz.prog 299 #[.string ⟨(sgnT i).toArray⟩,.string ⟨v.toArray⟩] w (OfRet w ((signR (Vm.canon v) i).map spOf) 0):=by
 have hmf : ∀ (fn : Fn) (first cap : Array Value) (w : World),(Instr.makeFunc fn first cap).run Tryz.prog w = .ok (.func fn first cap) w:=fun _ _ _ _=>rfl
 have hM : MaxOk (w.alloc (.cells #[.int .i64 0] 36)):=maxOk_below hw ((Below.refl _ _).alloc (Nat.le_refl _) _)
 have HM:=Lib.hid hM
 obtain ⟨R,hR⟩ : ∃ R,(signR (Vm.canon v) i).map spOf=R:=⟨_,rfl⟩
 rw [hR]
 have hg : Rs.Good (signR (Vm.canon v) i):=good_sign (own_canon h) i hi
 have hR2 : ((signR (Vm.canon v) i).take 64).map spOf=R:=by rw [take_few hg.2.2];exact hR
 obtain ⟨S,hS⟩ : ∃ S,sgnT i=S:=⟨_,rfl⟩
 obtain ⟨c,hcc⟩ : ∃ c,Vm.canon v=c:=⟨_,rfl⟩
 have hc : ∀ W : World,MaxOk W → Calls Tryz.prog 138 #[.string ⟨v.toArray⟩] W fun e w'=>e = .returned (.tuple #[.string ⟨c.toArray⟩,.int .i64 0])∧Below W.heap.size W w':=fun W hW=>by
  have:=canon_any v W hW
  rw [canonOf,if_pos h,h,hcc] at this
  exact this
 rw [hcc] at hg hR2
 have HC:=Lib.hid hc
 have HG:=Lib.hid hg
 have HR:=Lib.hid hR2
 have HCU : Hid (∀ W : World,Calls Tryz.prog 320 #[.string ⟨S.toArray⟩,.string ⟨c.toArray⟩] W fun e w'=>(∃ B d,e = .returned (.slice B (Rm.cuts (signR c i)).length d)∧CutsOf w' (signR c i) B d)∧Below W.heap.size W w'):=by
  show ∀ W : World,_
  intro W
  rw [← hS];exact cutsOfG_any i hi c W
 rw [hS]
 clear hw hM h hc hi hS hcc hg hR hR2
 go_enter_defers Tryz.func299,Tryz.ntmps299
 go_wp2_with fail
 refine (HC.out _ HM.out).mono ?_
 rintro _ w1 ⟨rfl,hb⟩
 have hb1 : Below (w.heap.size + 1) (w.alloc (.cells #[.int .i64 0] 36)) w1:=by simpa using hb
 have HB1:=Lib.hid hb1
 clear hb hb1
 go_wp2_with fail
 refine (HCU.out _).mono ?_
 rintro _ w2 ⟨⟨B,d,rfl,hco⟩,hb⟩
 have HCO:=Lib.hid hco
 have HB2 : Hid (Below (w.heap.size + 1) (w.alloc (.cells #[.int .i64 0] 36)) w2):=HB1.out.trans (hb.mono (by have:=HB1.out.size;simpa using this))
 clear hb hco HB1
 go_wp2_with fail
 refine (require_yes _).mono ?_
 rintro _ w3 ⟨rfl,rfl⟩
 go_wp2_with fail
 refine (rangeG_any B d (signR c i) _ HCO.out HG.out.2.1 (by have:=HG.out.2.2;omega) R HR.out).mono ?_
 rintro _ w3 ⟨⟨C,e,rfl,hf⟩,hb⟩
 have HF:=Lib.hid hf
 have hb2 : Below (w.heap.size + 1) (w.alloc (.cells #[.int .i64 0] 36)) w3:=HB2.out.trans (hb.mono (by have:=HB2.out.size;simpa using this))
 obtain ⟨hcell,hfro⟩:=cell_int w w3 _ _ hb2
 have HB3:=Lib.hid hb2
 have HB2S : w.heap.size < w2.heap.size:=by have:=HB2.out.size;simp at this;omega
 clear hb hf hb2 HB2
 go_wp2_with fail
 refine leaves_cons (f:=319) (args:=#[.pointer (some ⟨w.heap.size,0,none⟩)]) (by simp) (by simp [go_sem]) ?_
 refine (rOf_idle ⟨w.heap.size,0,none⟩ 0 _ ?_ ?_).mono ?_
 ·simp [go_sem,hcell]
 ·simp [go_sem,hfro]
 rintro e u' w4 ⟨rfl,rfl,rfl⟩
 simp [Leaves,settle,results,Tryz.results299,go_sem,hcell]
 have hne : ∀ a,C=some a → a.block ≠ w.heap.size:=fun a ha=>by have:=HF.out.2.2 a ha;have:=HB2S;omega
 exact ⟨⟨_,_,rfl,srow_set (srow_set HF.out.1 _ hne) _ hne,HF.out.2.1⟩,((below_new HB3.out).setCell (Nat.le_refl _) _).setCell (Nat.le_refl _) _⟩
end Go.Proofs.YtkplahkkmmoppaaGreatDoor
