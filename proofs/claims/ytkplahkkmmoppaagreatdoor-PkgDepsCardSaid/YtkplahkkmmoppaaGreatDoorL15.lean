/- Part 15 of what the laws lean on. -/
import Derived.Test.YtkplahkkmmoppaaGreatDoorL11
set_option maxRecDepth 100000
set_option maxHeartbeats 6400000
namespace Go.Proofs.YtkplahkkmmoppaaGreatDoor
open Go.RowKit
theorem refSign_any (x y : Int) (w : World) :
  Calls Tryz.prog 102 #[.int .i64 x,.int .i64 y] w fun e w'=>e = .returned (.int .i64 (Vm.sgn x y))∧w=w':=by
 rcases Int.lt_trichotomy x y with h | h | h
 ·have H:=Lib.hid (Vm.sgn_lt h)
  go_enter Tryz.func102,Tryz.ntmps102
  go_wp2_with fail
  go_ret
  exact ⟨by rw [H.out];rfl,rfl⟩
 ·have H:=Lib.hid ((Vm.sgn_eq x y).2 h)
  go_enter Tryz.func102,Tryz.ntmps102
  go_wp2_with fail
  go_ret
  exact ⟨by rw [H.out];rfl,rfl⟩
 ·have H:=Lib.hid (Vm.sgn_gt h)
  go_enter Tryz.func102,Tryz.ntmps102
  go_wp2_with fail
  go_ret
  exact ⟨by rw [H.out];rfl,rfl⟩
theorem refMark_any (l : List UInt8) (i : Nat) (w : World) :
  Calls Tryz.prog 245 #[.string ⟨l.toArray⟩,.int .i64 i] w fun e w'=>e = .returned (.int .i64 (Vm.mark l i))∧w=w':=by
 by_cases h : i < l.length
 ·obtain ⟨c,hc,hc'⟩:=byte_at l i h
  have H:=Lib.hid (mark_at l i h)
  rw [hc'] at H
  clear hc'
  by_cases h1 : c.toNat=126
  ·have h2 : ((c.toNat : Int) == 126)=true:=by simp [h1]
   have H1:=Lib.hid h1
   clear h1
   go_enter Tryz.func245,Tryz.ntmps245
   go_wp2_with fail
   go_ret
   exact ⟨by rw [H.out];simp [Vm.markB,H1.out],rfl⟩
  ·have h2 : ((c.toNat : Int) == 126)=false:=by simp;omega
   go_enter Tryz.func245,Tryz.ntmps245
   go_wp2_with fail
   refine (refLetter_any c _).mono ?_
   rintro e w' ⟨rfl,rfl⟩
   cases hl : Vm.ltr c
   all_goals
    have HL:=Lib.hid hl
    clear hl
    go_wp2
   all_goals
    go_ret
    exact ⟨by rw [H.out];simp [Vm.markB,HL.out,h1,wrap_byte,wrap_256],rfl⟩
 ·have H:=Lib.hid (mark_end l i (by omega))
  go_enter Tryz.func245,Tryz.ntmps245
  go_wp2_with fail
  go_ret
  exact ⟨by rw [H.out];rfl,rfl⟩
theorem refOthers_any (a b : List UInt8) (w : World) (ha : a.length≤1000) (hb : b.length≤1000) :
  Calls Tryz.prog 213 #[.string ⟨a.toArray⟩,.string ⟨b.toArray⟩] w fun e w'=>e = .returned (.int .i64 (Vm.cmpO a b))∧w=w':=by
 obtain ⟨M,hM,hM2⟩ : ∃ M : Nat,(∀ k : Nat,k < M ↔ k < a.length ∨ k < b.length)∧max a.length b.length=M:=⟨max a.length b.length,by omega,rfl⟩
 have HX : Hid (Vm.cmpO a b=Vm.cmpOF a b M 0):=by show _=_;rw [← hM2];rfl
 have HK:=Lib.hid hM
 have hM3 : M≤1000:=by omega
 clear hM2 hM
 go_enter Tryz.func213,Tryz.ntmps213
 go_wp2_with fail
 go_loop [5] (fun i=>∃ k : Nat,k≤M∧i = .int .i64 k∧Hid (Vm.cmpO a b=Vm.cmpOF a b (M - k) k)) (fun i=>M - (intOf i).toNat)
 case atStart=>exact ⟨0,Nat.zero_le _,rfl,HX⟩
 case round =>
  obtain ⟨k,hk,rfl,HE⟩:=hrel
  by_cases hlt : k < M
  ·have HS:=Lib.hid (cmpOF_step a b M k hlt)
   have hor:=(HK.out k).1 hlt
   by_cases hka : k < a.length
   all_goals
    try (have hkb : k < b.length:=by omega)
    go_wp2_with fail
    refine (refMark_any a k _).mono ?_
    rintro e w' ⟨rfl,rfl⟩
    go_wp2_with fail
    refine (refMark_any b k _).mono ?_
    rintro e w' ⟨rfl,rfl⟩
    obtain ⟨x,hx⟩ : ∃ x,Vm.mark a k=x:=⟨_,rfl⟩
    obtain ⟨y,hy⟩ : ∃ y,Vm.mark b k=y:=⟨_,rfl⟩
    rw [hx,hy] at HS
    rw [hx,hy]
    clear hx hy
    go_wp2_with fail
    refine (refSign_any _ _ _).mono ?_
    rintro e w' ⟨rfl,rfl⟩
    obtain ⟨c,hc⟩ : ∃ c,Vm.sgn x y=c:=⟨_,rfl⟩
    rw [hc] at HS
    rw [hc]
    clear hc
    cases h0 : c == 0
    ·have n1 : (c != 0)=true:=by rw [bne,h0];rfl
     have HB : Hid (Vm.cmpO a b=c):=by show _=_;rw [HE.out,HS.out,Vm.both,h0];rfl
     clear h0
     go_wp2_with fail
     go_ret
     exact ⟨by rw [HB.out];rfl,rfl⟩
    ·have n1 : (c != 0)=false:=by rw [bne,h0];rfl
     have HB : Hid (Vm.cmpO a b=Vm.cmpOF a b (M - (k + 1)) (k + 1)):=by show _=_;rw [HE.out,HS.out,Vm.both,h0];rfl
     clear h0
     go_wp2_with fail
     go_round
     case rel=>exact ⟨k + 1,by omega,by go_num,HB⟩
     case measure=>simp [intOf];omega
  ·obtain rfl : k=M:=by omega
   have hna : ¬ k < a.length:=fun h=>hlt ((HK.out k).2 (Or.inl h))
   have hnb : ¬ k < b.length:=fun h=>hlt ((HK.out k).2 (Or.inr h))
   have HB : Hid (Vm.cmpO a b=0):=by show _=_;rw [HE.out,Nat.sub_self];rfl
   go_wp2_with fail
   go_ret
   exact ⟨by rw [HB.out];rfl,rfl⟩
theorem bare_or (l : List UInt8) : (if (bareR l).isEmpty then [48] else bareR l)=Vm.bare l:=by
 cases l with
 | nil=>rfl
 | cons c r =>
  rw [bareR_eq (c :: r) (by simp),if_neg]
  simp [Vm.bare_ne]
theorem less_cmp : ∀ x y : List UInt8,Op.bytesLess x y=decide (Lib.compareBytes x y < 0)
 | [],[]=>rfl
 | [],_ :: _=>rfl
 | _ :: _,[]=>rfl
 | a :: x,b :: y=>by
  have ih:=less_cmp x y
  unfold Op.bytesLess Lib.compareBytes
  by_cases h1 : a < b
  ·simp [h1]
  ·by_cases h2 : b < a
   ·have : (a == b)=false:=by
     have : a ≠ b:=fun h=>by subst h;exact UInt8.lt_irrefl a h2
     simpa using this
    simp [h1,h2,this]
   ·have : (a == b)=true:=by
     rw [beq_iff_eq]
     exact UInt8.le_antisymm (UInt8.not_lt.1 h2) (UInt8.not_lt.1 h1)
    simp [h1,h2,this,ih]
theorem refDigits_any (a b : List UInt8) (w : World) (ha : a.length≤1000) (hb : b.length≤1000) :
  Calls Tryz.prog 212 #[.string ⟨a.toArray⟩,.string ⟨b.toArray⟩] w fun e w'=>e = .returned (.int .i64 (Vm.cmpD a b))∧Below w.heap.size w w':=by
 have HX : Hid (Vm.cmpD a b=Vm.both (Vm.sgn (Vm.bare a).length (Vm.bare b).length) (Lib.compareBytes (Vm.bare a) (Vm.bare b))):=rfl
 have HA:=Lib.hid (bare_or a)
 have HB:=Lib.hid (bare_or b)
 go_enter Tryz.func212,Tryz.ntmps212
 go_wp2_with fail
 refine (refBare_any a _ ha).mono ?_
 rintro e w' ⟨rfl,rfl⟩
 go_wp2_with fail
 refine (refBare_any b _ hb).mono ?_
 rintro e w' ⟨rfl,rfl⟩
 obtain ⟨x,hx⟩ : ∃ x,bareR a=x:=⟨_,rfl⟩
 obtain ⟨y,hy⟩ : ∃ y,bareR b=y:=⟨_,rfl⟩
 rw [hx] at HA
 rw [hy] at HB
 rw [hx,hy]
 clear hx hy
 cases hxe : x.isEmpty
 ·cases hye : y.isEmpty
  ·have HX1 : Hid (Vm.cmpD a b=Vm.both (Vm.sgn (x.length : Int) (y.length : Int)) (Lib.compareBytes x y)):=by
    show _=_
    rw [HX.out,← HA.out,← HB.out,hxe,hye];rfl
   clear HX HA HB
   by_cases hl : (x.length : Int)=(y.length : Int)
   ·have n1 : ((x.length : Int) != (y.length : Int))=false:=by rw [hl];simp
    have HS : Hid (Vm.cmpD a b=Lib.compareBytes x y):=by show _=_;rw [HX1.out,hl,(Vm.sgn_eq _ _).2 rfl];rfl
    clear hl HX1
    have hlc:=less_cmp x y
    have heq:=Vm.cb_eq x y
    have hrg:=Vm.cb_range x y
    obtain ⟨c,hc⟩ : ∃ c,Lib.compareBytes x y=c:=⟨_,rfl⟩
    rw [hc] at hlc heq hrg HS
    rcases Int.lt_trichotomy c 0 with h | h | h
    ·have e1 : Op.bytesLess x y=true:=by rw [hlc];simp [h]
     have HV : Hid (c = -1):=by show _=_;omega
     clear hlc heq hrg h hc
     go_wp2_with fail
     go_ret
     exact ⟨by rw [HS.out,HV.out];rfl,Below.refl _ _⟩
    ·have e1 : Op.bytesLess x y=false:=by rw [hlc];simp;omega
     have e2 : (x == y)=true:=by rw [beq_iff_eq];exact heq.1 h
     have HV : Hid (c=0):=h
     clear hlc heq hrg h hc
     go_wp2_with fail
     go_ret
     exact ⟨by rw [HS.out,HV.out];rfl,Below.refl _ _⟩
    ·have e1 : Op.bytesLess x y=false:=by rw [hlc];simp;omega
     have e2 : (x == y)=false:=by rw [beq_eq_false_iff_ne];exact fun e=>by have:=heq.2 e;omega
     have HV : Hid (c=1):=by show _=_;omega
     clear hlc heq hrg h hc
     go_wp2_with fail
     go_ret
     exact ⟨by rw [HS.out,HV.out];rfl,Below.refl _ _⟩
   ·have n1 : ((x.length : Int) != (y.length : Int))=true:=by simpa using hl
    have HS : Hid (Vm.cmpD a b=Vm.sgn (x.length : Int) (y.length : Int)):=by
     show _=_
     rw [HX1.out,Vm.both,if_neg]
     rw [beq_iff_eq,Vm.sgn_eq];exact hl
    clear hl HX1
    go_wp2_with fail
    refine (refSign_any _ _ _).mono ?_
    rintro e w' ⟨rfl,rfl⟩
    go_wp2_with fail
    go_ret
    exact ⟨by rw [HS.out];rfl,Below.refl _ _⟩
  ·have HX1 : Hid (Vm.cmpD a b=Vm.both (Vm.sgn (x.length : Int) (1 : Int)) (Lib.compareBytes x [48])):=by
    show _=_
    rw [HX.out,← HA.out,← HB.out,hxe,hye];rfl
   clear HX HA HB
   by_cases hl : (x.length : Int)=(1 : Int)
   ·have n1 : ((x.length : Int) != (1 : Int))=false:=by rw [hl];simp
    have HS : Hid (Vm.cmpD a b=Lib.compareBytes x [48]):=by show _=_;rw [HX1.out,hl,(Vm.sgn_eq _ _).2 rfl];rfl
    clear hl HX1
    have hlc:=less_cmp x [48]
    have heq:=Vm.cb_eq x [48]
    have hrg:=Vm.cb_range x [48]
    obtain ⟨c,hc⟩ : ∃ c,Lib.compareBytes x [48]=c:=⟨_,rfl⟩
    rw [hc] at hlc heq hrg HS
    rcases Int.lt_trichotomy c 0 with h | h | h
    ·have e1 : Op.bytesLess x [48]=true:=by rw [hlc];simp [h]
     have HV : Hid (c = -1):=by show _=_;omega
     clear hlc heq hrg h hc
     go_wp2_with fail
     go_ret
     exact ⟨by rw [HS.out,HV.out];rfl,Below.refl _ _⟩
    ·have e1 : Op.bytesLess x [48]=false:=by rw [hlc];simp;omega
     have e2 : (x == [48])=true:=by rw [beq_iff_eq];exact heq.1 h
     have HV : Hid (c=0):=h
     clear hlc heq hrg h hc
     go_wp2_with fail
     go_ret
     exact ⟨by rw [HS.out,HV.out];rfl,Below.refl _ _⟩
    ·have e1 : Op.bytesLess x [48]=false:=by rw [hlc];simp;omega
     have e2 : (x == [48])=false:=by rw [beq_eq_false_iff_ne];exact fun e=>by have:=heq.2 e;omega
     have HV : Hid (c=1):=by show _=_;omega
     clear hlc heq hrg h hc
     go_wp2_with fail
     go_ret
     exact ⟨by rw [HS.out,HV.out];rfl,Below.refl _ _⟩
   ·have n1 : ((x.length : Int) != (1 : Int))=true:=by simpa using hl
    have HS : Hid (Vm.cmpD a b=Vm.sgn (x.length : Int) (1 : Int)):=by
     show _=_
     rw [HX1.out,Vm.both,if_neg]
     rw [beq_iff_eq,Vm.sgn_eq];exact hl
    clear hl HX1
    go_wp2_with fail
    refine (refSign_any _ _ _).mono ?_
    rintro e w' ⟨rfl,rfl⟩
    go_wp2_with fail
    go_ret
    exact ⟨by rw [HS.out];rfl,Below.refl _ _⟩
 ·cases hye : y.isEmpty
  ·have HX1 : Hid (Vm.cmpD a b=Vm.both (Vm.sgn (1 : Int) (y.length : Int)) (Lib.compareBytes [48] y)):=by
    show _=_
    rw [HX.out,← HA.out,← HB.out,hxe,hye];rfl
   clear HX HA HB
   by_cases hl : (1 : Int)=(y.length : Int)
   ·have n1 : ((1 : Int) != (y.length : Int))=false:=by rw [hl];simp
    have HS : Hid (Vm.cmpD a b=Lib.compareBytes [48] y):=by show _=_;rw [HX1.out,hl,(Vm.sgn_eq _ _).2 rfl];rfl
    clear hl HX1
    have hlc:=less_cmp [48] y
    have heq:=Vm.cb_eq [48] y
    have hrg:=Vm.cb_range [48] y
    obtain ⟨c,hc⟩ : ∃ c,Lib.compareBytes [48] y=c:=⟨_,rfl⟩
    rw [hc] at hlc heq hrg HS
    rcases Int.lt_trichotomy c 0 with h | h | h
    ·have e1 : Op.bytesLess [48] y=true:=by rw [hlc];simp [h]
     have HV : Hid (c = -1):=by show _=_;omega
     clear hlc heq hrg h hc
     go_wp2_with fail
     go_ret
     exact ⟨by rw [HS.out,HV.out];rfl,Below.refl _ _⟩
    ·have e1 : Op.bytesLess [48] y=false:=by rw [hlc];simp;omega
     have e2 : ([48] == y)=true:=by rw [beq_iff_eq];exact heq.1 h
     have HV : Hid (c=0):=h
     clear hlc heq hrg h hc
     go_wp2_with fail
     go_ret
     exact ⟨by rw [HS.out,HV.out];rfl,Below.refl _ _⟩
    ·have e1 : Op.bytesLess [48] y=false:=by rw [hlc];simp;omega
     have e2 : ([48] == y)=false:=by rw [beq_eq_false_iff_ne];exact fun e=>by have:=heq.2 e;omega
     have HV : Hid (c=1):=by show _=_;omega
     clear hlc heq hrg h hc
     go_wp2_with fail
     go_ret
     exact ⟨by rw [HS.out,HV.out];rfl,Below.refl _ _⟩
   ·have n1 : ((1 : Int) != (y.length : Int))=true:=by simpa using hl
    have HS : Hid (Vm.cmpD a b=Vm.sgn (1 : Int) (y.length : Int)):=by
     show _=_
     rw [HX1.out,Vm.both,if_neg]
     rw [beq_iff_eq,Vm.sgn_eq];exact hl
    clear hl HX1
    go_wp2_with fail
    refine (refSign_any _ _ _).mono ?_
    rintro e w' ⟨rfl,rfl⟩
    go_wp2_with fail
    go_ret
    exact ⟨by rw [HS.out];rfl,Below.refl _ _⟩
  ·have HX1 : Hid (Vm.cmpD a b=Vm.both (Vm.sgn (1 : Int) (1 : Int)) (Lib.compareBytes [48] [48])):=by
    show _=_
    rw [HX.out,← HA.out,← HB.out,hxe,hye];rfl
   go_wp2_with fail
   go_ret
   exact ⟨by rw [HX1.out];rfl,Below.refl _ _⟩
end Go.Proofs.YtkplahkkmmoppaaGreatDoor
namespace Go.Proofs.YtkplahkkmmoppaaGreatDoor
open Go.RowKit
theorem refHeld_any (n : Nat) (a b : List UInt8) (w : World) (hn : n≤1000) (ha : a.length≤n) (hb : b.length≤n) :
  Calls Tryz.prog 173 #[.string ⟨a.toArray⟩,.string ⟨b.toArray⟩] w fun e w'=>e = .returned (.int .i64 (Vm.cmpP n a b))∧Below w.heap.size w w':=by
 go_enter Tryz.func173,Tryz.ntmps173
 go_wp2_with fail
 go_loopw [0,1] (fun p q wr=>∃ (m : Nat) (c d : List UInt8),m≤n∧c.length≤m∧d.length≤m∧p = .string ⟨c.toArray⟩∧q = .string ⟨d.toArray⟩∧Hid (Vm.cmpP n a b=Vm.cmpP m c d)∧Below w.heap.size w wr) (fun p q _=>strLen p + strLen q)
 case atStart=>exact ⟨n,a,b,Nat.le_refl _,ha,hb,rfl,rfl,rfl,Below.refl _ _⟩
 case round =>
  obtain ⟨m,c,d,hm,hc,hd,rfl,rfl,HE,hbel⟩:=hrel
  by_cases hemp : (c.isEmpty && d.isEmpty)=true
  ·have HB : Hid (Vm.cmpP n a b=0):=by show _=_;rw [HE.out];exact cmpP_end _ _ _ hemp
   have h1 : c.isEmpty=true:=by cases hc : c.isEmpty <;> simp_all
   have h2 : d.isEmpty=true:=by cases hd : d.isEmpty <;> simp_all
   clear hemp
   go_wp2_with fail
   go_ret
   exact ⟨by rw [HB.out];rfl,hbel⟩
  ·have hemp' : (c.isEmpty && d.isEmpty)=false:=by simpa using hemp
   clear hemp
   have hmpos : 0 < m:=by
    rcases Nat.eq_zero_or_pos m with h | h
    ·subst h
     have h1 : c = []:=List.eq_nil_of_length_eq_zero (by omega)
     have h2 : d = []:=List.eq_nil_of_length_eq_zero (by omega)
     subst h1 h2;simp at hemp'
    ·exact h
   obtain ⟨m',rfl⟩ : ∃ m',m=m' + 1:=⟨m - 1,by omega⟩
   have HS:=Lib.hid (cmpP_step m' c d hemp')
   have l1:=undigs_le c
   have k1:=digs_le c
   have k2:=digs_le d
   have l2:=undigs_le d
   have l3:=oths_le (Vm.undigs c)
   have l4:=oths_le (Vm.undigs d)
   have l5 : (Vm.tail2 c).length≤m':=by
    cases he : c.isEmpty
    ·have:=tail2_lt c he;omega
    ·have : c = []:=by simpa using he
     subst this;show 0≤m';omega
   have l6 : (Vm.tail2 d).length≤m':=by
    cases he : d.isEmpty
    ·have:=tail2_lt d he;omega
    ·have : d = []:=by simpa using he
     subst this;show 0≤m';omega
   have l7 : (Vm.tail2 c).length + (Vm.tail2 d).length < c.length + d.length:=by
    have h1:=tail2_le c
    have h2:=tail2_le d
    cases he : c.isEmpty
    ·have:=tail2_lt c he;omega
    ·cases he2 : d.isEmpty
     ·have:=tail2_lt d he2;omega
     ·rw [he,he2] at hemp';cases hemp'
   have HL5:=Lib.hid l5
   have HL6:=Lib.hid l6
   have HL7:=Lib.hid l7
   have HM:=Lib.hid hemp'
   clear l5 l6 l7 hemp' hmpos
   cases hc0 : c.isEmpty
   all_goals
    try (have hd0 : d.isEmpty=false:=by have:=HM.out;rw [hc0] at this;simpa using this)
    go_wp2_with fail
    refine (runT c _ (by omega)).mono ?_
    rintro e w1 ⟨rfl,hb1⟩
    go_wp2_with fail
    refine (runT d _ (by omega)).mono ?_
    rintro e w2 ⟨rfl,hb2⟩
    have hbel2 : Below w.heap.size w w2:=(hbel.trans (hb1.mono hbel.size)).trans (hb2.mono (Nat.le_trans hbel.size hb1.size))
    clear hb1 hb2
    go_wp2_with fail
    refine (refDigits_any _ _ _ (by omega) (by omega)).mono ?_
    rintro e w3 ⟨rfl,hb3⟩
    have hbel3 : Below w.heap.size w w3:=hbel2.trans (hb3.mono hbel2.size)
    clear hb3 hbel2
    obtain ⟨x,hx⟩ : ∃ x,Vm.cmpD (Vm.digs c) (Vm.digs d)=x:=⟨_,rfl⟩
    rw [hx] at HS
    rw [hx]
    clear hx
    cases h0 : x == 0
    ·have n1 : (x != 0)=true:=by rw [bne,h0];rfl
     have HB : Hid (Vm.cmpP n a b=x):=by show _=_;rw [HE.out,HS.out,Vm.both,h0];rfl
     clear h0
     go_wp2_with fail
     go_ret
     exact ⟨by rw [HB.out];rfl,hbel3⟩
    ·have n1 : (x != 0)=false:=by rw [bne,h0];rfl
     have HB : Hid (Vm.cmpP n a b=Vm.both (Vm.cmpO (Vm.oths (Vm.undigs c)) (Vm.oths (Vm.undigs d))) (Vm.cmpP m' (Vm.tail2 c) (Vm.tail2 d))):=by show _=_;rw [HE.out,HS.out,Vm.both,h0];rfl
     clear h0
     go_wp2_with fail
     refine (runF _ _ (by omega)).mono ?_
     rintro e w4 ⟨rfl,hb4⟩
     go_wp2_with fail
     refine (runF _ _ (by omega)).mono ?_
     rintro e w5 ⟨rfl,hb5⟩
     have hbel5 : Below w.heap.size w w5:=(hbel3.trans (hb4.mono hbel3.size)).trans (hb5.mono (Nat.le_trans hbel3.size hb4.size))
     clear hb4 hb5 hbel3
     go_wp2_with fail
     refine (refOthers_any _ _ _ (by omega) (by omega)).mono ?_
     rintro e w6 ⟨rfl,rfl⟩
     obtain ⟨y,hy⟩ : ∃ y,Vm.cmpO (Vm.oths (Vm.undigs c)) (Vm.oths (Vm.undigs d))=y:=⟨_,rfl⟩
     rw [hy] at HB
     rw [hy]
     clear hy
     cases h0 : y == 0
     ·have n1 : (y != 0)=true:=by rw [bne,h0];rfl
      have HC : Hid (Vm.cmpP n a b=y):=by show _=_;rw [HB.out,Vm.both,h0];rfl
      clear h0
      go_wp2_with fail
      go_ret
      exact ⟨by rw [HC.out];rfl,hbel5⟩
     ·have n1 : (y != 0)=false:=by rw [bne,h0];rfl
      have HC : Hid (Vm.cmpP n a b=Vm.cmpP m' (Vm.tail2 c) (Vm.tail2 d)):=by show _=_;rw [HB.out,Vm.both,h0];rfl
      clear h0
      go_wp2_with fail
      go_roundw
      case rel=>exact ⟨m',Vm.tail2 c,Vm.tail2 d,by omega,HL5.out,HL6.out,rfl,rfl,HC,hbel5⟩
      case measure=>have:=HL7.out;simpa [strLen,Vm.tail2] using this
theorem rvR_or {l : List UInt8} (h : Vm.check l=0) : Vm.rv l=(if (rvR l).isEmpty then [48] else rvR l):=by
 have hv:=(verOk_of h).2.2.2
 unfold rvR Vm.rv at *
 cases h1 : Vm.has 45 (Vm.rest l)
 ·rfl
 ·rw [h1] at hv
  simp only [if_true] at hv ⊢
  have hne : (Vm.snd 45 (Vm.rest l)).isEmpty=false:=by
   have:=((Vm.partOk_iff _).1 hv).1
   simpa using this
  rw [hne];rfl
theorem cmpV_parts {l m : List UInt8} (h1 : Vm.check l=0) (h2 : Vm.check m=0) :
  Vm.cmpV l m=Vm.both (Vm.sgn (Vm.num (Vm.ep l)) (Vm.num (Vm.ep m))) (Vm.both (Vm.cmpP 41 (Vm.pt l) (Vm.pt m)) (Vm.cmpP 41 (if (rvR l).isEmpty then [48] else rvR l) (if (rvR m).isEmpty then [48] else rvR m))):=by
 unfold Vm.cmpV
 rw [rvR_or h1,rvR_or h2,Vm.cmpD_num _ _ ((Vm.epOk_iff _).1 (Vm.ver_of h1).2.1).2.2 ((Vm.epOk_iff _).1 (Vm.ver_of h2).2.1).2.2]
theorem rvR_len {l : List UInt8} (h : Vm.check l=0) : (rvR l).length≤41:=by
 have:=(Vm.rv_len h).1
 rw [rvR_or h] at this
 cases hr : (rvR l).isEmpty
 ·rw [hr] at this;exact this
 ·have : rvR l = []:=by simpa using hr
  rw [this];simp
theorem refCompare_any (l m : List UInt8) (w : World) (h1 : Vm.check l=0) (h2 : Vm.check m=0) :
  Calls Tryz.prog 120 #[.string ⟨l.toArray⟩,.string ⟨m.toArray⟩] w fun e w'=>e = .returned (.int .i64 (Vm.cmpV l m))∧Below w.heap.size w w':=by
 have HX:=Lib.hid (cmpV_parts h1 h2)
 have H1:=Lib.hid h1
 have H2:=Lib.hid h2
 have p1:=(Vm.rv_len h1).2
 have p2:=(Vm.rv_len h2).2
 have r1:=rvR_len h1
 have r2:=rvR_len h2
 clear h1 h2
 go_enter Tryz.func120,Tryz.ntmps120
 go_wp2_with fail
 refine (parts_yes l _ H1.out).mono ?_
 rintro _ w2 ⟨rfl,rfl⟩
 go_wp2_with fail
 refine (parts_yes m _ H2.out).mono ?_
 rintro _ w2 ⟨rfl,rfl⟩
 obtain ⟨p,hp⟩ : ∃ x,Vm.pt l=x:=⟨_,rfl⟩
 obtain ⟨q,hq⟩ : ∃ x,Vm.pt m=x:=⟨_,rfl⟩
 obtain ⟨r,hr⟩ : ∃ x,rvR l=x:=⟨_,rfl⟩
 obtain ⟨s,hs⟩ : ∃ x,rvR m=x:=⟨_,rfl⟩
 rw [hp] at HX p1
 rw [hq] at HX p2
 rw [hr] at HX r1
 rw [hs] at HX r2
 rw [hp,hq,hr,hs]
 clear hp hq hr hs
 go_wp2_with fail
 refine (refEpoch_any l _ H1.out).mono ?_
 rintro _ w2 ⟨rfl,rfl⟩
 go_wp2_with fail
 refine (refEpoch_any m _ H2.out).mono ?_
 rintro _ w2 ⟨rfl,rfl⟩
 obtain ⟨i,hi⟩ : ∃ x,Vm.num (Vm.ep l)=x:=⟨_,rfl⟩
 obtain ⟨j,hj⟩ : ∃ x,Vm.num (Vm.ep m)=x:=⟨_,rfl⟩
 rw [hi,hj] at HX
 rw [hi,hj]
 clear hi hj
 go_wp2_with fail
 refine (refSign_any _ _ _).mono ?_
 rintro _ w2 ⟨rfl,rfl⟩
 obtain ⟨c,hc⟩ : ∃ c,Vm.sgn (i : Int) (j : Int)=c:=⟨_,rfl⟩
 rw [hc] at HX
 rw [hc]
 clear hc
 cases h0 : c == 0
 ·have n1 : (c != 0)=true:=by rw [bne,h0];rfl
  have HB : Hid (Vm.cmpV l m=c):=by show _=_;rw [HX.out,Vm.both,h0];rfl
  clear h0 HX
  go_wp2_with fail
  go_ret
  exact ⟨by rw [HB.out];rfl,Below.refl _ _⟩
 ·have n1 : (c != 0)=false:=by rw [bne,h0];rfl
  have HB : Hid (Vm.cmpV l m=Vm.both (Vm.cmpP 41 p q) (Vm.cmpP 41 (if r.isEmpty then [48] else r) (if s.isEmpty then [48] else s))):=by show _=_;rw [HX.out,Vm.both,h0];rfl
  clear h0 HX
  go_wp2_with fail
  refine (refHeld_any 41 p q _ (by omega) p1 p2).mono ?_
  rintro _ w2 ⟨rfl,hb⟩
  obtain ⟨d,hd⟩ : ∃ c,Vm.cmpP 41 p q=c:=⟨_,rfl⟩
  rw [hd] at HB
  rw [hd]
  clear hd
  cases h0 : d == 0
  ·have n2 : (d != 0)=true:=by rw [bne,h0];rfl
   have HC : Hid (Vm.cmpV l m=d):=by show _=_;rw [HB.out,Vm.both,h0];rfl
   clear h0 HB
   go_wp2_with fail
   go_ret
   exact ⟨by rw [HC.out];rfl,hb⟩
  ·have n2 : (d != 0)=false:=by rw [bne,h0];rfl
   have HC : Hid (Vm.cmpV l m=Vm.cmpP 41 (if r.isEmpty then [48] else r) (if s.isEmpty then [48] else s)):=by show _=_;rw [HB.out,Vm.both,h0];rfl
   clear h0 HB
   have HB2:=Lib.hid hb
   clear hb
   cases hr : r.isEmpty
   ·cases hs : s.isEmpty
    ·have HD : Hid (Vm.cmpV l m=Vm.cmpP 41 r s):=by show _=_;rw [HC.out,hr,hs];rfl
     clear HC
     go_wp2_with fail
     refine (refHeld_any 41 r s _ (by omega) (by first | assumption | decide) (by first | assumption | decide)).mono ?_
     rintro _ w3 ⟨rfl,hb⟩
     have HB3:=Lib.hid (HB2.out.trans (hb.mono HB2.out.size))
     clear hb
     rw [← HD.out]
     go_wp2_with fail
     go_ret
     exact ⟨rfl,HB3.out⟩
    ·have HD : Hid (Vm.cmpV l m=Vm.cmpP 41 r [48]):=by show _=_;rw [HC.out,hr,hs];rfl
     clear HC
     go_wp2_with fail
     refine (refHeld_any 41 r [48] _ (by omega) (by first | assumption | decide) (by first | assumption | decide)).mono ?_
     rintro _ w3 ⟨rfl,hb⟩
     have HB3:=Lib.hid (HB2.out.trans (hb.mono HB2.out.size))
     clear hb
     rw [← HD.out]
     go_wp2_with fail
     go_ret
     exact ⟨rfl,HB3.out⟩
   ·cases hs : s.isEmpty
    ·have HD : Hid (Vm.cmpV l m=Vm.cmpP 41 [48] s):=by show _=_;rw [HC.out,hr,hs];rfl
     clear HC
     go_wp2_with fail
     refine (refHeld_any 41 [48] s _ (by omega) (by first | assumption | decide) (by first | assumption | decide)).mono ?_
     rintro _ w3 ⟨rfl,hb⟩
     have HB3:=Lib.hid (HB2.out.trans (hb.mono HB2.out.size))
     clear hb
     rw [← HD.out]
     go_wp2_with fail
     go_ret
     exact ⟨rfl,HB3.out⟩
    ·have HD : Hid (Vm.cmpV l m=Vm.cmpP 41 [48] [48]):=by show _=_;rw [HC.out,hr,hs];rfl
     clear HC
     go_wp2_with fail
     refine (refHeld_any 41 [48] [48] _ (by omega) (by first | assumption | decide) (by first | assumption | decide)).mono ?_
     rintro _ w3 ⟨rfl,hb⟩
     have HB3:=Lib.hid (HB2.out.trans (hb.mono HB2.out.size))
     clear hb
     rw [← HD.out]
     go_wp2_with fail
     go_ret
     exact ⟨rfl,HB3.out⟩
end Go.Proofs.YtkplahkkmmoppaaGreatDoor
namespace Go.Proofs.YtkplahkkmmoppaaGreatDoor
open Go.RowKit
theorem bound_any (v : List UInt8) (w : World) :
  Calls Tryz.prog 171 #[.string ⟨v.toArray⟩] w fun e w'=>e = .returned (.int .i64 (Rs.bound v))∧Below w.heap.size w w':=by
 cases hv : v.isEmpty
 ·by_cases hc : Vm.check v=0
  ·have HK:=Lib.hid hc
   have HX : Hid (canonOf v=Vm.canon v):=by show _=_;rw [canonOf,if_pos hc]
   cases he : Vm.canon v == v
   ·have HB : Hid (Rs.bound v=5):=by show _=_;unfold Rs.bound;rw [hv,if_neg Bool.false_ne_true,if_pos hc,he];rfl
    obtain ⟨x,hx⟩ : ∃ x,Vm.canon v=x:=⟨_,rfl⟩
    rw [hx] at he HX
    clear hx hc
    go_enter Tryz.func171,Tryz.ntmps171
    go_wp2_with fail
    refine (refCanon_any v _).mono ?_
    rintro _ w1 ⟨rfl,hb⟩
    rw [HX.out,HK.out]
    have HBL:=Lib.hid hb
    clear hb
    go_wp2_with fail
    go_ret
    exact ⟨by rw [HB.out];rfl,HBL.out⟩
   ·have HB : Hid (Rs.bound v=0):=by show _=_;unfold Rs.bound;rw [hv,if_neg Bool.false_ne_true,if_pos hc,he];rfl
    obtain ⟨x,hx⟩ : ∃ x,Vm.canon v=x:=⟨_,rfl⟩
    rw [hx] at he HX
    clear hx hc
    go_enter Tryz.func171,Tryz.ntmps171
    go_wp2_with fail
    refine (refCanon_any v _).mono ?_
    rintro _ w1 ⟨rfl,hb⟩
    rw [HX.out,HK.out]
    have HBL:=Lib.hid hb
    clear hb
    go_wp2_with fail
    go_ret
    exact ⟨by rw [HB.out];rfl,HBL.out⟩
  ·have HB : Hid (Rs.bound v=Vm.check v):=by show _=_;unfold Rs.bound;rw [hv,if_neg Bool.false_ne_true,if_neg hc]
   obtain ⟨k,hk⟩ : ∃ k,Vm.check v=k:=⟨_,rfl⟩
   rw [hk] at HB hc
   have HK:=Lib.hid hk
   clear hk
   go_enter Tryz.func171,Tryz.ntmps171
   go_wp2_with fail
   refine (refCanon_any v _).mono ?_
   rintro _ w1 ⟨rfl,hb⟩
   rw [HK.out]
   have HBL:=Lib.hid hb
   clear hb
   go_wp2_with fail
   go_ret
   exact ⟨by rw [HB.out];rfl,HBL.out⟩
 ·have HB : Hid (Rs.bound v=0):=by show _=_;unfold Rs.bound;rw [hv];rfl
  go_enter Tryz.func171,Tryz.ntmps171
  go_wp2_with fail
  go_ret
  exact ⟨by rw [HB.out];rfl,Below.refl _ _⟩
def lowerS (a b : Rs.Sp) : Bool:=if a.lo.isEmpty || b.lo.isEmpty then a.lo.isEmpty && !b.lo.isEmpty else decide (Vm.cmpV a.lo b.lo < 0) || (decide (Vm.cmpV a.lo b.lo=0) && (a.li && !b.li))
end Go.Proofs.YtkplahkkmmoppaaGreatDoor
namespace Go.Proofs.YtkplahkkmmoppaaGreatDoor
open Go.RowKit Rs
attribute [local go_sem ↓] Go.wp_at_zero Go.wp_at_succ
theorem refCompare_at (l m : List UInt8) (c : Int) (w : World) (h1 : Vm.check l=0) (h2 : Vm.check m=0) (hc : Vm.cmpV l m=c) :
  Calls Tryz.prog 120 #[.string ⟨l.toArray⟩,.string ⟨m.toArray⟩] w fun e w'=>e = .returned (.int .i64 c)∧Below w.heap.size w w':=by
 have:=refCompare_any l m w h1 h2;rw [hc] at this;exact this
theorem lower_any (lo hi : List UInt8) (li hn : Bool) (lo' hi' : List UInt8) (li' hn' : Bool) (w : World) (h1 : lo.isEmpty=false → Vm.check lo=0) (h2 : lo'.isEmpty=false → Vm.check lo'=0) :
  Calls Tryz.prog 242 #[.agg #[.string ⟨lo.toArray⟩,.string ⟨hi.toArray⟩,.bool li,.bool hn],.agg #[.string ⟨lo'.toArray⟩,.string ⟨hi'.toArray⟩,.bool li',.bool hn']] w fun e w'=>e = .returned (.bool (lowerS (Sp.mk lo hi li hn) (Sp.mk lo' hi' li' hn')))∧Below w.heap.size w w':=by
 have H1:=Lib.hid h1
 have H2:=Lib.hid h2
 obtain ⟨R,hR⟩ : ∃ R,lowerS (Sp.mk lo hi li hn) (Sp.mk lo' hi' li' hn')=R:=⟨_,rfl⟩
 rw [hR]
 have HR:=Lib.hid hR
 have HST : Stable (fun u=>Box2 w u lo hi li hn lo' hi' li' hn'):=box2_stable w _ _ _ _ _ _ _ _
 have HI:=box2_new w 181 lo hi li hn lo' hi' li' hn'
 clear h1 h2 hR
 cases e1 : lo.isEmpty
 ·cases e2 : lo'.isEmpty
  ·have K1:=Lib.hid (H1.out e1)
   have K2:=Lib.hid (H2.out e2)
   obtain ⟨c,hc⟩ : ∃ c,Vm.cmpV lo lo'=c:=⟨_,rfl⟩
   have rg:=Vm.cmpV_range lo lo'
   have HC:=Lib.hid hc
   rw [hc] at rg
   have HF : Hid (∀ b,b=lowerS (Sp.mk lo hi li hn) (Sp.mk lo' hi' li' hn') → b=R):=fun b hb=>hb.trans HR.out
   clear H1 H2 hc HR
   go_enter Tryz.func242,Tryz.ntmps242
   go_wp2_with fail
   refine (refCompare_at lo lo' c _ K1.out K2.out HC.out).mono ?_
   rintro _ w1 ⟨rfl,hb⟩
   have HI1:=kp_step HST hb HI
   clear hb HI HST
   obtain ⟨⟨⟨c0,c1,c2,c3,_⟩,⟨d0,d1,d2,d3,_⟩⟩,_⟩:=HI1.out
   rcases (show c = -1 ∨ c=0 ∨ c=1 by omega) with rfl | rfl | rfl
   all_goals
    cases li <;> cases li'
   all_goals
    go_wp2_with fail
    go_ret
    refine ⟨?_,kp_below HI1⟩
    rw [← HF.out _ rfl]
    unfold lowerS
    rw [e1,e2,HC.out]
    rfl
  ·have HF : Hid (∀ b,b=lowerS (Sp.mk lo hi li hn) (Sp.mk lo' hi' li' hn') → b=R):=fun b hb=>hb.trans HR.out
   clear H1 H2 HR HST
   go_enter Tryz.func242,Tryz.ntmps242
   go_wp2_with fail
   go_ret
   refine ⟨?_,kp_below HI⟩
   rw [← HF.out _ rfl]
   unfold lowerS
   rw [e1,e2]
   rfl
 ·cases e2 : lo'.isEmpty
  all_goals
   have HF : Hid (∀ b,b=lowerS (Sp.mk lo hi li hn) (Sp.mk lo' hi' li' hn') → b=R):=fun b hb=>hb.trans HR.out
   clear H1 H2 HR HST
   go_enter Tryz.func242,Tryz.ntmps242
   go_wp2_with fail
   go_ret
   refine ⟨?_,kp_below HI⟩
   rw [← HF.out _ rfl]
   unfold lowerS
   rw [e1,e2]
   rfl
end Go.Proofs.YtkplahkkmmoppaaGreatDoor
namespace Go.Proofs.YtkplahkkmmoppaaGreatDoor
open Go.RowKit Rs
attribute [local go_sem ↓] Go.wp_at_zero Go.wp_at_succ
theorem bound_at (v : List UInt8) (k : Int) (w : World) (hk : Rs.bound v=k) : Calls Tryz.prog 171 #[.string ⟨v.toArray⟩] w fun e w'=>e = .returned (.int .i64 k)∧Below w.heap.size w w':=by
 have:=bound_any v w;rw [hk] at this;exact this
theorem span_any (lo hi : List UInt8) (li hn : Bool) (w : World) :
  Calls Tryz.prog 119 #[.agg #[.string ⟨lo.toArray⟩,.string ⟨hi.toArray⟩,.bool li,.bool hn]] w fun e w'=>e = .returned (.int .i64 (span lo hi li hn))∧Below w.heap.size w w':=by
 obtain ⟨R,hR⟩ : ∃ R,span lo hi li hn=R:=⟨_,rfl⟩
 rw [hR]
 have HF : Hid (∀ b,b=span lo hi li hn → b=R):=fun b hb=>hb.trans hR
 clear hR
 have HST : Stable (fun u=>Box u w.heap.size lo hi li hn):=box_stable _ _ _ _ _
 have HI : Hid (Kp (fun u=>Box u w.heap.size lo hi li hn) w (w.alloc (.cells #[.string ⟨lo.toArray⟩,.string ⟨hi.toArray⟩,.bool li,.bool hn] 181))):=⟨box_new ..,by simp,(Below.refl _ _).alloc (Nat.le_refl _) _⟩
 obtain ⟨k1,hk1⟩ : ∃ k,Rs.bound lo=k:=⟨_,rfl⟩
 obtain ⟨k2,hk2⟩ : ∃ k,Rs.bound hi=k:=⟨_,rfl⟩
 have G1:=Lib.hid hk1
 have G2:=Lib.hid hk2
 clear hk1 hk2
 go_enter Tryz.func119,Tryz.ntmps119
 go_wp2_with fail
 refine (bound_at lo k1 _ G1.out).mono ?_
 rintro _ w1 ⟨rfl,hb⟩
 have HI1:=kp_step HST hb HI
 clear hb HI
 obtain ⟨⟨c0,c1,c2,c3,_⟩,_⟩:=HI1.out
 by_cases n1 : k1=0
 ·subst n1
  go_wp2_with fail
  refine (bound_at hi k2 _ G2.out).mono ?_
  rintro _ w2 ⟨rfl,hb⟩
  have HI2:=kp_step HST hb HI1
  clear hb HI1 c0 c1 c2 c3
  obtain ⟨⟨c0,c1,c2,c3,_⟩,_⟩:=HI2.out
  by_cases n2 : k2=0
  ·subst n2
   cases e1 : lo.isEmpty <;> cases e2 : hi.isEmpty
   ·have K1:=Lib.hid (Rs.bound_own G1.out e1).1
    have K2:=Lib.hid (Rs.bound_own G2.out e2).1
    obtain ⟨c,hc⟩ : ∃ c,Vm.cmpV lo hi=c:=⟨_,rfl⟩
    have rg:=Vm.cmpV_range lo hi
    have HC:=Lib.hid hc
    rw [hc] at rg
    clear hc
    go_wp2_with fail
    refine (refCompare_at lo hi c _ K1.out K2.out HC.out).mono ?_
    rintro _ w3 ⟨rfl,hb⟩
    have HI3:=kp_step HST hb HI2
    clear hb HI2 HST c0 c1 c2 c3
    obtain ⟨⟨c0,c1,c2,c3,_⟩,_⟩:=HI3.out
    rcases (show c = -1 ∨ c=0 ∨ c=1 by omega) with rfl | rfl | rfl
    all_goals
     cases li <;> cases hn
    all_goals
     go_wp2_with fail
     go_ret
     refine ⟨?_,kp_below HI3⟩
     rw [← HF.out _ rfl]
     unfold span
     rw [if_neg (by simp [G1.out]),if_neg (by simp [G2.out]),e1,e2,HC.out]
     rfl
   all_goals
    clear HST
    cases li <;> cases hn
   all_goals
    go_wp2_with fail
    go_ret
    refine ⟨?_,kp_below HI2⟩
    rw [← HF.out _ rfl]
    unfold span
    rw [if_neg (by simp [G1.out]),if_neg (by simp [G2.out]),e1,e2]
    rfl
  ·have hk : (k2 == 0)=false:=beq_eq_false_iff_ne.2 n2
   have hk' : (k2 != 0)=true:=by simpa using n2
   have HK:=Lib.hid n2
   clear n2 HST
   go_wp2_with fail
   go_ret
   refine ⟨?_,kp_below HI2⟩
   rw [← HF.out k2 (by unfold span;rw [if_neg (by simp [G1.out]),if_pos (by rw [G2.out];exact HK.out)];exact G2.out.symm)]
   rfl
 ·have hk : (k1 == 0)=false:=beq_eq_false_iff_ne.2 n1
  have hk' : (k1 != 0)=true:=by simpa using n1
  have HK:=Lib.hid n1
  clear n1 HST
  go_wp2_with fail
  go_ret
  refine ⟨?_,kp_below HI1⟩
  rw [← HF.out k1 (by unfold span;rw [if_pos (by rw [G1.out];exact HK.out)];exact G1.out.symm)]
  rfl
theorem in_any (lo hi : List UInt8) (li hn : Bool) (v : List UInt8) (w : World) (h1 : Rs.bound lo=0) (h2 : Rs.bound hi=0) (hv : Vm.check v=0) :
  Calls Tryz.prog 122 #[.agg #[.string ⟨lo.toArray⟩,.string ⟨hi.toArray⟩,.bool li,.bool hn],.string ⟨v.toArray⟩] w fun e w'=>e = .returned (.bool (inS (toP lo hi li hn) v))∧Below w.heap.size w w':=by
 obtain ⟨R,hR⟩ : ∃ R,inS (toP lo hi li hn) v=R:=⟨_,rfl⟩
 rw [hR]
 have HF : Hid (∀ b,b=inS (toP lo hi li hn) v → b=R):=fun b hb=>hb.trans hR
 have G1:=Lib.hid h1
 have G2:=Lib.hid h2
 have HV:=Lib.hid hv
 clear hR h1 h2 hv
 have HST : Stable (fun u=>Box u w.heap.size lo hi li hn):=box_stable _ _ _ _ _
 have HI : Hid (Kp (fun u=>Box u w.heap.size lo hi li hn) w (w.alloc (.cells #[.string ⟨lo.toArray⟩,.string ⟨hi.toArray⟩,.bool li,.bool hn] 181))):=⟨box_new ..,by simp,(Below.refl _ _).alloc (Nat.le_refl _) _⟩
 cases e1 : lo.isEmpty
 ·have K1:=Lib.hid (Rs.bound_own G1.out e1).1
  obtain ⟨c,hc⟩ : ∃ c,Vm.cmpV v lo=c:=⟨_,rfl⟩
  have rg:=Vm.cmpV_range v lo
  have HC:=Lib.hid hc
  rw [hc] at rg
  clear hc
  go_enter Tryz.func122,Tryz.ntmps122
  go_wp2_with fail
  refine (refCompare_at v lo c _ HV.out K1.out HC.out).mono ?_
  rintro _ w1 ⟨rfl,hb⟩
  have HI2:=kp_step HST hb HI
  clear hb HI
  obtain ⟨⟨c0,c1,c2,c3,_⟩,_⟩:=HI2.out
  rcases (show c = -1 ∨ (c=0∧li=false) ∨ (c=0∧li=true) ∨ c=1 by cases li <;> simp <;> omega) with rfl | ⟨rfl,rfl⟩ | ⟨rfl,rfl⟩ | rfl
  ·clear HST
   go_wp2_with fail
   go_ret
   refine ⟨?_,kp_below HI2⟩
   rw [← HF.out false (by
    show _=(inLo (loC lo _) v && _)
    unfold loC inLo
    simp only [e1,HC.out,Bool.false_eq_true,if_false]
    rfl)]
   rfl
  ·clear HST
   go_wp2_with fail
   go_ret
   refine ⟨?_,kp_below HI2⟩
   rw [← HF.out false (by
    show _=(inLo (loC lo _) v && _)
    unfold loC inLo
    simp only [e1,HC.out,Bool.false_eq_true,if_false]
    rfl)]
   rfl
  all_goals
   cases e2 : hi.isEmpty
   ·have K2:=Lib.hid (Rs.bound_own G2.out e2).1
    obtain ⟨c',hc'⟩ : ∃ c,Vm.cmpV v hi=c:=⟨_,rfl⟩
    have rg':=Vm.cmpV_range v hi
    have HC':=Lib.hid hc'
    rw [hc'] at rg'
    clear hc'
    go_wp2_with fail
    refine (refCompare_at v hi c' _ HV.out K2.out HC'.out).mono ?_
    rintro _ w3 ⟨rfl,hb⟩
    have HI3:=kp_step HST hb HI2
    clear hb HI2 HST c0 c1 c2 c3
    obtain ⟨⟨c0,c1,c2,c3,_⟩,_⟩:=HI3.out
    rcases (show c' = -1 ∨ c'=0 ∨ c'=1 by omega) with rfl | rfl | rfl
    all_goals
     cases hn
    all_goals
     go_wp2_with fail
     go_ret
     refine ⟨?_,kp_below HI3⟩
     rw [← HF.out _ rfl]
     show _=Ending.returned (.bool (inLo (loC lo _) v && inHi (hiC hi _) v))
     unfold loC hiC inLo inHi
     simp only [e1,e2,HC.out,HC'.out,Bool.false_eq_true,if_false]
     rfl
   ·clear HST
    go_wp2_with fail
    go_ret
    refine ⟨?_,kp_below HI2⟩
    rw [← HF.out _ rfl]
    show _=Ending.returned (.bool (inLo (loC lo _) v && inHi (hiC hi _) v))
    unfold loC hiC inLo inHi
    simp only [e1,e2,HC.out,Bool.false_eq_true,if_false,if_true]
    rfl
 ·have HC:=Lib.hid e1
  have HI2:=HI
  clear HI
  go_enter Tryz.func122,Tryz.ntmps122
  have c0:=(box_new w lo hi li hn 181).1
  have c1:=(box_new w lo hi li hn 181).2.1
  have c2:=(box_new w lo hi li hn 181).2.2.1
  have c3:=(box_new w lo hi li hn 181).2.2.2.1
  cases e2 : hi.isEmpty
  ·have K2:=Lib.hid (Rs.bound_own G2.out e2).1
   obtain ⟨c',hc'⟩ : ∃ c,Vm.cmpV v hi=c:=⟨_,rfl⟩
   have rg':=Vm.cmpV_range v hi
   have HC':=Lib.hid hc'
   rw [hc'] at rg'
   clear hc'
   go_wp2_with fail
   refine (refCompare_at v hi c' _ HV.out K2.out HC'.out).mono ?_
   rintro _ w3 ⟨rfl,hb⟩
   have HI3:=kp_step HST hb HI2
   clear hb HI2 HST c0 c1 c2 c3
   obtain ⟨⟨c0,c1,c2,c3,_⟩,_⟩:=HI3.out
   rcases (show c' = -1 ∨ c'=0 ∨ c'=1 by omega) with rfl | rfl | rfl
   all_goals
    cases hn
   all_goals
    go_wp2_with fail
    go_ret
    refine ⟨?_,kp_below HI3⟩
    rw [← HF.out _ rfl]
    show _=Ending.returned (.bool (inLo (loC lo _) v && inHi (hiC hi _) v))
    unfold loC hiC inLo inHi
    simp only [e1,e2,HC'.out,Bool.false_eq_true,if_false,if_true]
    rfl
  ·clear HST
   go_wp2_with fail
   go_ret
   refine ⟨?_,kp_below HI2⟩
   rw [← HF.out _ rfl]
   show _=Ending.returned (.bool (inLo (loC lo _) v && inHi (hiC hi _) v))
   unfold loC hiC inLo inHi
   simp only [e1,e2,if_true]
   rfl
end Go.Proofs.YtkplahkkmmoppaaGreatDoor
namespace Go.Proofs.YtkplahkkmmoppaaGreatDoor
open Go.RowKit Rs
attribute [local go_sem ↓] Go.wp_at_zero Go.wp_at_succ
theorem refHas_any (A : Option Addr) (n c : Nat) (r : List (Rm.P Cut)) (v : List UInt8) (w : World) (hn : r.length=n) (hr : SRow w A (r.map spOf)) (ho : ∀ p ∈ r,Ok2 p) (hl : n≤10000) (hv : Vm.check v=0) :
  Calls Tryz.prog 76 #[.slice A n c,.string ⟨v.toArray⟩] w fun e w'=>e = .returned (.bool (hasR r v))∧Below w.heap.size w w':=by
 have HR:=Lib.hid hr
 have HO:=Lib.hid ho
 have HV:=Lib.hid hv
 have HN:=Lib.hid hn
 obtain ⟨X,hX⟩ : ∃ X,hasR r v=X:=⟨_,rfl⟩
 rw [hX]
 have HX : Hid (X=r.any (fun p=>inS p v)):=hX.symm
 clear hr ho hv hn hX
 go_enter Tryz.func76,Tryz.ntmps76
 go_wp2_with fail
 go_loopw [5] (fun i wr=>∃ k : Nat,k≤n∧i = .int .i64 k∧Hid ((r.take k).any (fun p=>inS p v)=false)∧Hid (Below w.heap.size w wr∧w.heap.size≤wr.heap.size)) (fun i _=>n - (intOf i).toNat)
 case atStart=>exact ⟨0,Nat.zero_le _,rfl,rfl,Below.refl _ _,Nat.le_refl _⟩
 case round =>
  obtain ⟨k,hk,rfl,HA,HB⟩:=hrel
  by_cases hlt : k < n
  ·have hlr : k < r.length:=by rw [HN.out];exact hlt
   obtain ⟨ad,rfl,_,c0,c1,c2,c3⟩:=row_piece (srow_below HR.out HB.out.1) k hlr
   have HS:=Lib.hid (any_snoc r k hlr (fun p=>inS p v))
   have HY : Hid (inS r[k] v=true → X=true):=fun h=>by rw [HX.out];exact any_yes hlr h
   obtain ⟨b1,b2,b3⟩:=spOf_bounds (HO.out _ (List.getElem_mem hlr))
   generalize r[k]=p at *
   have HCL : ∀ W : World,Calls Tryz.prog 122 #[.agg #[.string ⟨(spOf p).lo.toArray⟩,.string ⟨(spOf p).hi.toArray⟩,.bool (spOf p).li,.bool (spOf p).hn],.string ⟨v.toArray⟩] W fun e w'=>e = .returned (.bool (inS p v))∧Below W.heap.size W w':=fun W=>by
    have:=in_any (spOf p).lo (spOf p).hi (spOf p).li (spOf p).hn v W b1 b2 HV.out
    rw [b3] at this
    exact this
   have HC2:=Lib.hid HCL
   clear HCL b1 b2 b3
   go_wp2_with fail
   refine (HC2.out _).mono ?_
   rintro _ w1 ⟨rfl,hbl⟩
   have HB1 : Hid (Below w.heap.size w w1∧w.heap.size≤w1.heap.size):=⟨HB.out.1.trans (hbl.mono HB.out.2),Nat.le_trans HB.out.2 hbl.size⟩
   clear hbl c0 c1 c2 c3
   cases hp : inS p v
   ·have HA2 : Hid ((r.take (k + 1)).any (fun p=>inS p v)=false):=by show _=_;rw [HS.out,HA.out];exact hp
    clear hp
    go_wp2_with fail
    go_roundw
    case rel=>exact ⟨k + 1,by omega,by go_num,HA2,HB1⟩
    case measure=>simp [intOf];omega
   ·have HXT : Hid (X=true):=HY.out hp
    clear hp
    go_wp2_with fail
    go_ret
    exact ⟨by rw [HXT.out];rfl,HB1.out.1⟩
  ·have HXF : Hid (X=false):=by
    show _=_
    have:=HA.out
    rw [List.take_of_length_le (by rw [HN.out];omega)] at this
    rw [HX.out];exact this
   go_wp2_with fail
   go_ret
   exact ⟨by rw [HXF.out];rfl,HB.out.1⟩
theorem keepRR {w1 u u' : World} {p q : Addr} {x0 x1 x2 x3 y0 y1 y2 y3 : Value} (hp1 : p.block < w1.heap.size) (hq1 : q.block < w1.heap.size)
  (h : u.cell? p=some x0∧u.cell? ⟨p.block,p.off + 1,none⟩=some x1∧u.cell? ⟨p.block,p.off + 2,none⟩=some x2∧u.cell? ⟨p.block,p.off + 3,none⟩=some x3∧u.cell? q=some y0∧u.cell? ⟨q.block,q.off + 1,none⟩=some y1∧u.cell? ⟨q.block,q.off + 2,none⟩=some y2∧u.cell? ⟨q.block,q.off + 3,none⟩=some y3∧w1.heap.size≤u.heap.size∧Below w1.heap.size w1 u) (hb : Below u.heap.size u u') :
  u'.cell? p=some x0∧u'.cell? ⟨p.block,p.off + 1,none⟩=some x1∧u'.cell? ⟨p.block,p.off + 2,none⟩=some x2∧u'.cell? ⟨p.block,p.off + 3,none⟩=some x3∧u'.cell? q=some y0∧u'.cell? ⟨q.block,q.off + 1,none⟩=some y1∧u'.cell? ⟨q.block,q.off + 2,none⟩=some y2∧u'.cell? ⟨q.block,q.off + 3,none⟩=some y3∧w1.heap.size≤u'.heap.size∧Below w1.heap.size w1 u':=by
 obtain ⟨h0,h1,h2,h3,h4,h5,h6,h7,h8,h9⟩:=h
 have e : ∀ a : Addr,a.block < w1.heap.size → u'.cell? a=u.cell? a:=fun a ha=>hb.cell (by omega)
 refine ⟨?_,?_,?_,?_,?_,?_,?_,?_,Nat.le_trans h8 hb.size,h9.trans (hb.mono h8)⟩
 ·rw [e p hp1];exact h0
 ·rw [e ⟨p.block,p.off + 1,none⟩ hp1];exact h1
 ·rw [e ⟨p.block,p.off + 2,none⟩ hp1];exact h2
 ·rw [e ⟨p.block,p.off + 3,none⟩ hp1];exact h3
 ·rw [e q hq1];exact h4
 ·rw [e ⟨q.block,q.off + 1,none⟩ hq1];exact h5
 ·rw [e ⟨q.block,q.off + 2,none⟩ hq1];exact h6
 ·rw [e ⟨q.block,q.off + 3,none⟩ hq1];exact h7
theorem spanAt_any (lo hi : List UInt8) (li hn : Bool) (k : Int) (w : World) (hk : span lo hi li hn=k) :
  Calls Tryz.prog 119 #[.agg #[.string ⟨lo.toArray⟩,.string ⟨hi.toArray⟩,.bool li,.bool hn]] w fun e w'=>e = .returned (.int .i64 k)∧Below w.heap.size w w':=by
 have:=span_any lo hi li hn w;rw [hk] at this;exact this
theorem checkRange_any (A : Option Addr) (n c : Nat) (l : List Sp) (w : World) (hn : l.length=n) (hr : SRow w A l) (hl : n≤1000) :
  Calls Tryz.prog 70 #[.slice A n c] w fun e w'=>e = .returned (.int .i64 (checkR l))∧Below w.heap.size w w':=by
 have HR:=Lib.hid hr
 have HN:=Lib.hid hn
 obtain ⟨E,hE⟩ : ∃ E,checkR l=E:=⟨_,rfl⟩
 rw [hE]
 have HE:=Lib.hid hE
 clear hn hr hE
 go_enter Tryz.func70,Tryz.ntmps70
 go_wp2_with fail
 go_loopw [3] (fun i wr=>∃ k : Nat,k≤n∧i = .int .i64 k∧Hid (CkSt l k)∧Hid (Below w.heap.size w wr∧w.heap.size≤wr.heap.size)) (fun i _=>n - (intOf i).toNat)
 case atStart=>exact ⟨0,Nat.zero_le _,rfl,ckSt_start l,Below.refl _ _,Nat.le_refl _⟩
 case round =>
  obtain ⟨k,hk,rfl,HS,HB⟩:=hrel
  by_cases hlt : k < n
  ·have hlr : k < l.length:=by rw [HN.out];exact hlt
   obtain ⟨ad,lo,hi,li,hh,rfl,hs,hbl,c0,c1,c2,c3⟩:=srow_at (srow_below HR.out HB.out.1) k hlr
   obtain ⟨st1,st2,st3,st4⟩:=ckSt_step HS.out hlr
   have HSS:=Lib.hid hs
   rw [hs] at st2 st3 st4
   have ST1:=Lib.hid st1
   have ST2:=Lib.hid st2
   have ST3:=Lib.hid st3
   have ST4:=Lib.hid st4
   clear hs st1 st2 st3 st4
   by_cases h64 : 64≤k
   ·have hEk : Hid (E=4):=by show _=_;rw [← HE.out];exact ST1.out h64
    have hd : decide ((64 : Int)≤(k : Int))=true:=decide_eq_true (by omega)
    clear h64
    go_wp2_with fail
    go_ret
    exact ⟨by rw [hEk.out];rfl,HB.out.1⟩
   have hd : decide ((64 : Int)≤(k : Int))=false:=decide_eq_false (by omega)
   obtain ⟨e,he⟩ : ∃ e,span lo hi li hh=e:=⟨_,rfl⟩
   have HSP:=Lib.hid he
   clear he
   go_wp2_with fail
   refine (spanAt_any lo hi li hh e _ HSP.out).mono ?_
   rintro _ w1 ⟨rfl,hb⟩
   have HB1 : Hid (Below w.heap.size w w1∧w.heap.size≤w1.heap.size):=⟨HB.out.1.trans (hb.mono HB.out.2),Nat.le_trans HB.out.2 hb.size⟩
   have hbw : ad.block < w1.heap.size:=Nat.lt_of_lt_of_le hbl hb.size
   clear hb c0 c1 c2 c3 hd
   by_cases hsp : e=0
   ·subst hsp
    have hse : (Sp.mk lo hi li hh).err=0:=HSP.out
    by_cases hk0 : k=0
    ·have NS : Hid (CkSt l 1):=ST3.out hk0 hse
     subst hk0
     clear hse h64 ST1 ST2 ST3 ST4
     go_wp2_with fail
     go_roundw
     case rel=>exact ⟨1,by omega,rfl,NS,HB1⟩
     case measure=>simp [intOf];omega
    ·have hkm : k - 1 < l.length:=by omega
     have hgk : l[k - 1]? = some l[k - 1]:=List.getElem?_eq_getElem hkm
     obtain ⟨pe,sy,sn⟩:=ST4.out h64 _ (by omega) hgk hse
     obtain ⟨ad2,plo,phi,pli,ph,had,hps,_,d0,d1,d2,d3⟩:=srow_at (srow_below HR.out HB1.out.1) (k - 1) hkm
     obtain rfl:=Option.some.inj had
     obtain ⟨ad3,lo2,hi2,li2,hh2,had,hs2,_,c0,c1,c2,c3⟩:=srow_at (srow_below HR.out HB1.out.1) k hlr
     obtain rfl:=Option.some.inj had
     rw [HSS.out] at hs2
     obtain ⟨rfl,rfl,rfl,rfl⟩:=Sp.mk.inj hs2
     rw [hps] at pe sy sn
     have B1:=Lib.hid (span_bounds HSP.out).1
     have B2:=Lib.hid (span_bounds (lo:=plo) (hi:=phi) (li:=pli) (hn:=ph) pe).2.1
     have hbe : behind (Sp.mk plo phi pli ph) ⟨lo,hi,li,hh⟩=(!(phi.isEmpty || lo.isEmpty) && !(decide (Vm.cmpV lo phi < 0) || (decide (Vm.cmpV lo phi=0) && (li || ph)))):=rfl
     rw [hbe] at sy sn
     have SY:=Lib.hid sy
     have SN:=Lib.hid sn
     have g1 : (0 : Int)≤(k : Int) - 1:=by omega
     have g6 : (1 : Int)≤(k : Int):=by omega
     have g2 : (k : Int) - 1 < (n : Int):=by omega
     have g3 : ((k : Int) - 1).toNat=k - 1:=by omega
     have g5 : IntKind.i64.wrap ((k : Int) - 1)=(k : Int) - 1:=IntWalk.i64_in _ (by omega)
     have g8 : ((k : Int) == 0)=false:=beq_eq_false_iff_ne.2 (by omega)
     have hp1 : (ad.add (k * 4)).block < w1.heap.size:=by rw [add_block];exact hbw
     have hq1 : (ad.add ((k - 1) * 4)).block < w1.heap.size:=by rw [add_block];exact hbw
     clear hse h64 ST1 ST2 ST3 ST4 pe sy sn hps hgk had hs2 hbe hbw
     cases e1 : phi.isEmpty
     ·cases e2 : lo.isEmpty
      ·have K1:=Lib.hid (Rs.bound_own B1.out e2).1
       have K2:=Lib.hid (Rs.bound_own B2.out e1).1
       obtain ⟨x,hx⟩ : ∃ x,Vm.cmpV lo phi=x:=⟨_,rfl⟩
       have rg:=Vm.cmpV_range lo phi
       have HC:=Lib.hid hx
       rw [hx] at rg
       clear hx
       have HY : Hid ((decide (x < 0) || (decide (x=0) && (li || ph)))=false → CkSt l (k + 1)):=fun h=>SY.out (by rw [e1,e2,HC.out,h];rfl)
       have HZ : Hid ((decide (x < 0) || (decide (x=0) && (li || ph)))=true → E=7):=fun h=>by rw [← HE.out];exact SN.out (by rw [e1,e2,HC.out,h];rfl)
       clear SY SN
       go_wp2_with fail
       go_region_held3 (fun w'=>w'.cell? (ad.add (k * 4))=some (.string ⟨lo.toArray⟩)∧w'.cell? ⟨(ad.add (k * 4)).block,(ad.add (k * 4)).off + 1,none⟩=some (.string ⟨hi.toArray⟩)∧w'.cell? ⟨(ad.add (k * 4)).block,(ad.add (k * 4)).off + 2,none⟩=some (.bool li)∧w'.cell? ⟨(ad.add (k * 4)).block,(ad.add (k * 4)).off + 3,none⟩=some (.bool hh) ∧
         w'.cell? (ad.add ((k - 1) * 4))=some (.string ⟨plo.toArray⟩)∧w'.cell? ⟨(ad.add ((k - 1) * 4)).block,(ad.add ((k - 1) * 4)).off + 1,none⟩=some (.string ⟨phi.toArray⟩)∧w'.cell? ⟨(ad.add ((k - 1) * 4)).block,(ad.add ((k - 1) * 4)).off + 2,none⟩=some (.bool pli)∧w'.cell? ⟨(ad.add ((k - 1) * 4)).block,(ad.add ((k - 1) * 4)).off + 3,none⟩=some (.bool ph)∧w1.heap.size≤w'.heap.size∧Below w1.heap.size w1 w')
        (first
         | exact ⟨c0,c1,c2,c3,d0,d1,d2,d3,Nat.le_refl _,(Below.refl _ _).drew⟩
         | assumption
         | (refine keepRR hp1 hq1 ?_ hb;assumption))
        (first
         | (go_at_call 120;refine (refCompare_at lo phi x _ K1.out K2.out HC.out).mono ?_;rintro _ w4 ⟨rfl,hb⟩))
       rename_i HCC
       obtain ⟨c0,c1,c2,c3,d0,d1,d2,d3,z1,z2⟩:=HCC
       have HB4 : Hid (Below w.heap.size w w4∧w.heap.size≤w4.heap.size):=⟨HB1.out.1.trans (z2.mono HB1.out.2),Nat.le_trans HB1.out.2 z1⟩
       clear z1 z2
       rcases (show x = -1 ∨ x=0 ∨ x=1 by omega) with rfl | rfl | rfl
       ·have hE7 : Hid (E=7):=HZ.out rfl
        go_wp2_with fail
        go_ret
        exact ⟨by rw [hE7.out];rfl,HB4.out.1⟩
       ·cases li
        ·cases ph
         ·have NS : Hid (CkSt l (k + 1)):=HY.out rfl
          go_wp2_with fail
          go_roundw
          case rel=>exact ⟨k + 1,by omega,by go_num,NS,HB4⟩
          case measure=>simp [intOf];omega
         ·have hE7 : Hid (E=7):=HZ.out rfl
          go_wp2_with fail
          go_ret
          exact ⟨by rw [hE7.out];rfl,HB4.out.1⟩
        ·have hE7 : Hid (E=7):=HZ.out (by simp)
         go_wp2_with fail
         go_ret
         exact ⟨by rw [hE7.out];rfl,HB4.out.1⟩
       ·have NS : Hid (CkSt l (k + 1)):=HY.out (by simp)
        go_wp2_with fail
        go_roundw
        case rel=>exact ⟨k + 1,by omega,by go_num,NS,HB4⟩
        case measure=>simp [intOf];omega
      ·have hE7 : Hid (E=7):=by show _=_;rw [← HE.out];exact SN.out (by rw [e2];simp)
       go_wp2_with fail
       go_ret
       exact ⟨by rw [hE7.out];rfl,HB1.out.1⟩
     ·have hE7 : Hid (E=7):=by show _=_;rw [← HE.out];exact SN.out (by rw [e1];simp)
      go_wp2_with fail
      go_ret
      exact ⟨by rw [hE7.out];rfl,HB1.out.1⟩
   ·have hEk : Hid (E=e):=by show _=_;rw [← HE.out,← HSP.out];exact ST2.out h64 (by show span _ _ _ _ ≠ 0;rw [HSP.out];exact hsp)
    have hne : (e != 0)=true:=by simpa using hsp
    clear h64 hsp
    go_wp2_with fail
    go_ret
    exact ⟨by rw [hEk.out];rfl,HB1.out.1⟩
  ·have hE0 : Hid (E=0):=by
    show _=_
    rw [← HE.out,HS.out.1,List.drop_eq_nil_of_le (by rw [HN.out];omega)];rfl
   go_wp2_with fail
   go_ret
   exact ⟨by rw [hE0.out];rfl,HB.out.1⟩
end Go.Proofs.YtkplahkkmmoppaaGreatDoor
