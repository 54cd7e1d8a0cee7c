/- Part 15 of what the laws lean on. -/
import Derived.Test.YtgnaiidgjmicaaaGreatDoorM14
import Derived.StillTailTactics
set_option maxRecDepth 100000
set_option maxHeartbeats 6400000
namespace Go.Proofs.YtgnaiidgjmicaaaGreatDoor
section
open Go.RowKit
theorem dQ (x y:Int)(w:World) :
  Calls Tryz.prog 87 #[.int .i64 x,.int .i64 y] w fun e w'=>e=.returned (.int .i64 (Vm.sgn x y))/\w=w':=by
 rcases Int.lt_trichotomy x y with h | h | h
 ·have H:=zh (Vm.kn h)
  go_enter Tryz.func87,Tryz.ntmps87
  go_wp2_with fail
  go_ret
  exact⟨by rw[H.out];rfl,rfl⟩
 ·have H:=zh ((Vm.b9 x y).2 h)
  go_enter Tryz.func87,Tryz.ntmps87
  go_wp2_with fail
  go_ret
  exact⟨by rw[H.out];rfl,rfl⟩
 ·have H:=zh (Vm.ko h)
  go_enter Tryz.func87,Tryz.ntmps87
  go_wp2_with fail
  go_ret
  exact⟨by rw[H.out];rfl,rfl⟩
theorem mj (l:List UInt8)(i:Nat)(w:World) :
  Calls Tryz.prog 166 #[.string ⟨l.toArray⟩,.int .i64 i] w fun e w'=>e=.returned (.int .i64 (Vm.mark l i))/\w=w':=by
 by_cases h:i<l.length
 ·obtain⟨c,hc,aa⟩:=byte_at l i h
  have H:=zh (xp l i h)
  rw[aa] at H
  clear aa
  by_cases h1:c.toNat=126
  ·have h2:((c.toNat:Int)==126)=true:=by simp[h1]
   have H1:=zh h1
   clear h1
   go_enter Tryz.func166,Tryz.ntmps166
   go_wp2_with fail
   go_ret
   exact⟨by rw[H.out];simp[Vm.markB,H1.out],rfl⟩
  ·have h2:((c.toNat:Int)==126)=false:=by simp;omega
   go_enter Tryz.func166,Tryz.ntmps166
   go_wp2_with fail
   refine (j6 c _).mono ?_
   rintro e w' ⟨rfl,rfl⟩
   cases hl:Vm.ltr c
   all_goals
    have HL:=zh hl
    clear hl
    go_wp2
   all_goals
    go_ret
    exact⟨by rw[H.out];simp[Vm.markB,HL.out,h1,qm,sQ],rfl⟩
 ·have H:=zh (sR l i (by omega))
  go_enter Tryz.func166,Tryz.ntmps166
  go_wp2_with fail
  go_ret
  exact⟨by rw[H.out];rfl,rfl⟩
theorem rJ (a b:List UInt8)(w:World)(ha:a.length<=1000)(hb:b.length<=1000) :
  Calls Tryz.prog 130 #[.string ⟨a.toArray⟩,.string ⟨b.toArray⟩] w fun e w'=>e=.returned (.int .i64 (Vm.cmpO a b))/\w=w':=by
 obtain⟨M,hM,ab⟩:∃ M:Nat,(∀ k:Nat,k<M↔k<a.length\/k<b.length)/\max a.length b.length=M:=⟨max a.length b.length,by omega,rfl⟩
 have HX:Hid (Vm.cmpO a b=Vm.cmpOF a b M 0):=by show _=_;rw[<-ab];rfl
 have HK:=zh hM
 have ac:M<=1000:=by omega
 clear ab hM
 go_enter Tryz.func130,Tryz.ntmps130
 go_wp2_with fail
 go_loop [5] (fun i=>∃ k:Nat,k<=M/\i=.int .i64 k/\Hid (Vm.cmpO a b=Vm.cmpOF a b (M-k) k)) (fun i=>M-(intOf i).toNat)
 case atStart=>exact⟨0,Nat.zero_le _,rfl,HX⟩
 case round =>
  obtain⟨k,hk,rfl,HE⟩:=hrel
  by_cases aa:k<M
  ·have HS:=zh (nH a b M k aa)
   have ad:=(HK.out k).1 aa
   by_cases ae:k<a.length
   all_goals
    try (have af:k<b.length:=by omega)
    go_wp2_with fail
    refine (mj a k _).mono ?_
    rintro e w' ⟨rfl,rfl⟩
    go_wp2_with fail
    refine (mj b k _).mono ?_
    rintro e w' ⟨rfl,rfl⟩
    obtain⟨x,hx⟩:=ex (Vm.mark a k)
    obtain⟨y,hy⟩:=ex (Vm.mark b k)
    rw[hx,hy] at HS
    rw[hx,hy]
    clear hx hy
    go_wp2_with fail
    refine (dQ _ _ _).mono ?_
    rintro e w' ⟨rfl,rfl⟩
    obtain⟨c,hc⟩:=ex (Vm.sgn x y)
    rw[hc] at HS
    rw[hc]
    clear hc
    cases h0:c==0
    ·have n1:(c != 0)=true:=by rw[bne,h0];rfl
     have HB:Hid (Vm.cmpO a b=c):=by show _=_;rw[HE.out,HS.out,Vm.both,h0];rfl
     clear h0
     go_wp2_with fail
     go_ret
     exact⟨by rw[HB.out];rfl,rfl⟩
    ·have n1:(c != 0)=false:=by rw[bne,h0];rfl
     have HB:Hid (Vm.cmpO a b=Vm.cmpOF a b (M-(k+1)) (k+1)):=by show _=_;rw[HE.out,HS.out,Vm.both,h0];rfl
     clear h0
     go_wp2_with fail
     go_round
     case rel=>exact⟨k+1,by omega,by go_num,HB⟩
     case measure=>simp[intOf];omega
  ·obtain rfl:k=M:=by omega
   have ag:¬ k<a.length:=fun h=>aa ((HK.out k).2 (Or.inl h))
   have ah:¬ k<b.length:=fun h=>aa ((HK.out k).2 (Or.inr h))
   have HB:Hid (Vm.cmpO a b=0):=by show _=_;rw[HE.out,Nat.sub_self];rfl
   go_wp2_with fail
   go_ret
   exact⟨by rw[HB.out];rfl,rfl⟩
theorem xH (l:List UInt8):(if (bareR l).isEmpty then [48] else bareR l)=Vm.bare l:=by
 cases l with
 | nil=>rfl
 | cons c r =>
  rw[jE (c :: r) (by simp),if_neg]
  simp[Vm.gl]
theorem eT:∀ x y:List UInt8,Op.bytesLess x y=decide (Lib.compareBytes x y<0)
 | [],[]=>rfl
 | [],_ :: _=>rfl
 | _ :: _,[]=>rfl
 | a :: x,b :: y=>by
  have ih:=eT x y
  unfold Op.bytesLess Lib.compareBytes
  by_cases h1:a<b
  ·simp[h1]
  ·by_cases h2:b<a
   ·have:(a==b)=false:=by
     have:a≠b:=fun h=>by subst h;exact UInt8.lt_irrefl a h2
     simpa using this
    simp[h1,h2,this]
   ·have:(a==b)=true:=by
     rw[beq_iff_eq]
     exact UInt8.le_antisymm (UInt8.not_lt.1 h2) (UInt8.not_lt.1 h1)
    simp[h1,h2,this,ih]
theorem rK (a b:List UInt8)(w:World)(ha:a.length<=1000)(hb:b.length<=1000) :
  Calls Tryz.prog 129 #[.string ⟨a.toArray⟩,.string ⟨b.toArray⟩] w fun e w'=>e=.returned (.int .i64 (Vm.cmpD a b))/\Below w.heap.size w w':=by
 have HX:Hid (Vm.cmpD a b=Vm.both (Vm.sgn (Vm.bare a).length (Vm.bare b).length) (Lib.compareBytes (Vm.bare a) (Vm.bare b))):=rfl
 have HA:=zh (xH a)
 have HB:=zh (xH b)
 go_enter Tryz.func129,Tryz.ntmps129
 go_wp2_with fail
 refine (bp a _ ha).mono ?_
 rintro e w' ⟨rfl,rfl⟩
 go_wp2_with fail
 refine (bp b _ hb).mono ?_
 rintro e w' ⟨rfl,rfl⟩
 obtain⟨x,hx⟩:=ex (bareR a)
 obtain⟨y,hy⟩:=ex (bareR b)
 rw[hx] at HA
 rw[hy] at HB
 rw[hx,hy]
 clear hx hy
 cases ae:x.isEmpty
 ·cases ad:y.isEmpty
  ·have ab:Hid (Vm.cmpD a b=Vm.both (Vm.sgn (x.length:Int) (y.length:Int)) (Lib.compareBytes x y)):=by
    show _=_
    rw[HX.out,<-HA.out,<-HB.out,ae,ad];rfl
   clear HX HA HB
   by_cases hl:(x.length:Int)=(y.length:Int)
   ·have n1:((x.length:Int) != (y.length:Int))=false:=by rw[hl];simp
    have HS:Hid (Vm.cmpD a b=Lib.compareBytes x y):=by show _=_;rw[ab.out,hl,(Vm.b9 _ _).2 rfl];rfl
    clear hl ab
    have aa:=eT x y
    have heq:=Vm.ez x y
    have ac:=Vm.eR x y
    obtain⟨c,hc⟩:=ex (Lib.compareBytes x y)
    rw[hc] at aa heq ac HS
    rcases Int.lt_trichotomy c 0 with h | h | h
    ·have e1:Op.bytesLess x y=true:=by rw[aa];simp[h]
     have HV:Hid (c = -1):=by show _=_;omega
     clear aa heq ac h hc
     go_wp2_with fail
     go_ret
     exact⟨by rw[HS.out,HV.out];rfl,Below.refl _ _⟩
    ·have e1:Op.bytesLess x y=false:=by rw[aa];simp;omega
     have e2:(x==y)=true:=by rw[beq_iff_eq];exact heq.1 h
     have HV:Hid (c=0):=h
     clear aa heq ac h hc
     go_wp2_with fail
     go_ret
     exact⟨by rw[HS.out,HV.out];rfl,Below.refl _ _⟩
    ·have e1:Op.bytesLess x y=false:=by rw[aa];simp;omega
     have e2:(x==y)=false:=by rw[beq_eq_false_iff_ne];exact fun e=>by have:=heq.2 e;omega
     have HV:Hid (c=1):=by show _=_;omega
     clear aa heq ac h hc
     go_wp2_with fail
     go_ret
     exact⟨by rw[HS.out,HV.out];rfl,Below.refl _ _⟩
   ·have n1:((x.length:Int) != (y.length:Int))=true:=by simpa using hl
    have HS:Hid (Vm.cmpD a b=Vm.sgn (x.length:Int) (y.length:Int)):=by
     show _=_
     rw[ab.out,Vm.both,if_neg]
     rw[beq_iff_eq,Vm.b9];exact hl
    clear hl ab
    go_wp2_with fail
    refine (dQ _ _ _).mono ?_
    rintro e w' ⟨rfl,rfl⟩
    go_wp2_with fail
    go_ret
    exact⟨by rw[HS.out];rfl,Below.refl _ _⟩
  ·have ab:Hid (Vm.cmpD a b=Vm.both (Vm.sgn (x.length:Int) (1:Int)) (Lib.compareBytes x [48])):=by
    show _=_
    rw[HX.out,<-HA.out,<-HB.out,ae,ad];rfl
   clear HX HA HB
   by_cases hl:(x.length:Int)=(1:Int)
   ·have n1:((x.length:Int) != (1:Int))=false:=by rw[hl];simp
    have HS:Hid (Vm.cmpD a b=Lib.compareBytes x [48]):=by show _=_;rw[ab.out,hl,(Vm.b9 _ _).2 rfl];rfl
    clear hl ab
    have aa:=eT x [48]
    have heq:=Vm.ez x [48]
    have ac:=Vm.eR x [48]
    obtain⟨c,hc⟩:=ex (Lib.compareBytes x [48])
    rw[hc] at aa heq ac HS
    rcases Int.lt_trichotomy c 0 with h | h | h
    ·have e1:Op.bytesLess x [48]=true:=by rw[aa];simp[h]
     have HV:Hid (c = -1):=by show _=_;omega
     clear aa heq ac h hc
     go_wp2_with fail
     go_ret
     exact⟨by rw[HS.out,HV.out];rfl,Below.refl _ _⟩
    ·have e1:Op.bytesLess x [48]=false:=by rw[aa];simp;omega
     have e2:(x==[48])=true:=by rw[beq_iff_eq];exact heq.1 h
     have HV:Hid (c=0):=h
     clear aa heq ac h hc
     go_wp2_with fail
     go_ret
     exact⟨by rw[HS.out,HV.out];rfl,Below.refl _ _⟩
    ·have e1:Op.bytesLess x [48]=false:=by rw[aa];simp;omega
     have e2:(x==[48])=false:=by rw[beq_eq_false_iff_ne];exact fun e=>by have:=heq.2 e;omega
     have HV:Hid (c=1):=by show _=_;omega
     clear aa heq ac h hc
     go_wp2_with fail
     go_ret
     exact⟨by rw[HS.out,HV.out];rfl,Below.refl _ _⟩
   ·have n1:((x.length:Int) != (1:Int))=true:=by simpa using hl
    have HS:Hid (Vm.cmpD a b=Vm.sgn (x.length:Int) (1:Int)):=by
     show _=_
     rw[ab.out,Vm.both,if_neg]
     rw[beq_iff_eq,Vm.b9];exact hl
    clear hl ab
    go_wp2_with fail
    refine (dQ _ _ _).mono ?_
    rintro e w' ⟨rfl,rfl⟩
    go_wp2_with fail
    go_ret
    exact⟨by rw[HS.out];rfl,Below.refl _ _⟩
 ·cases ad:y.isEmpty
  ·have ab:Hid (Vm.cmpD a b=Vm.both (Vm.sgn (1:Int) (y.length:Int)) (Lib.compareBytes [48] y)):=by
    show _=_
    rw[HX.out,<-HA.out,<-HB.out,ae,ad];rfl
   clear HX HA HB
   by_cases hl:(1:Int)=(y.length:Int)
   ·have n1:((1:Int) != (y.length:Int))=false:=by rw[hl];simp
    have HS:Hid (Vm.cmpD a b=Lib.compareBytes [48] y):=by show _=_;rw[ab.out,hl,(Vm.b9 _ _).2 rfl];rfl
    clear hl ab
    have aa:=eT [48] y
    have heq:=Vm.ez [48] y
    have ac:=Vm.eR [48] y
    obtain⟨c,hc⟩:=ex (Lib.compareBytes [48] y)
    rw[hc] at aa heq ac HS
    rcases Int.lt_trichotomy c 0 with h | h | h
    ·have e1:Op.bytesLess [48] y=true:=by rw[aa];simp[h]
     have HV:Hid (c = -1):=by show _=_;omega
     clear aa heq ac h hc
     go_wp2_with fail
     go_ret
     exact⟨by rw[HS.out,HV.out];rfl,Below.refl _ _⟩
    ·have e1:Op.bytesLess [48] y=false:=by rw[aa];simp;omega
     have e2:([48]==y)=true:=by rw[beq_iff_eq];exact heq.1 h
     have HV:Hid (c=0):=h
     clear aa heq ac h hc
     go_wp2_with fail
     go_ret
     exact⟨by rw[HS.out,HV.out];rfl,Below.refl _ _⟩
    ·have e1:Op.bytesLess [48] y=false:=by rw[aa];simp;omega
     have e2:([48]==y)=false:=by rw[beq_eq_false_iff_ne];exact fun e=>by have:=heq.2 e;omega
     have HV:Hid (c=1):=by show _=_;omega
     clear aa heq ac h hc
     go_wp2_with fail
     go_ret
     exact⟨by rw[HS.out,HV.out];rfl,Below.refl _ _⟩
   ·have n1:((1:Int) != (y.length:Int))=true:=by simpa using hl
    have HS:Hid (Vm.cmpD a b=Vm.sgn (1:Int) (y.length:Int)):=by
     show _=_
     rw[ab.out,Vm.both,if_neg]
     rw[beq_iff_eq,Vm.b9];exact hl
    clear hl ab
    go_wp2_with fail
    refine (dQ _ _ _).mono ?_
    rintro e w' ⟨rfl,rfl⟩
    go_wp2_with fail
    go_ret
    exact⟨by rw[HS.out];rfl,Below.refl _ _⟩
  ·have ab:Hid (Vm.cmpD a b=Vm.both (Vm.sgn (1:Int) (1:Int)) (Lib.compareBytes [48] [48])):=by
    show _=_
    rw[HX.out,<-HA.out,<-HB.out,ae,ad];rfl
   go_wp2_with fail
   go_ret
   exact⟨by rw[ab.out];rfl,Below.refl _ _⟩
end
section
open Go.RowKit
theorem dR (n:Nat)(a b:List UInt8)(w:World)(hn:n<=1000)(ha:a.length<=n)(hb:b.length<=n) :
  Calls Tryz.prog 89 #[.string ⟨a.toArray⟩,.string ⟨b.toArray⟩] w fun e w'=>e=.returned (.int .i64 (Vm.cmpP n a b))/\Below w.heap.size w w':=by
 go_enter Tryz.func89,Tryz.ntmps89
 go_wp2_with fail
 go_loopw [0,1] (fun p q wr=>∃ (m:Nat) (c d:List UInt8),m<=n/\c.length<=m/\d.length<=m/\p=.string ⟨c.toArray⟩/\q=.string ⟨d.toArray⟩/\Hid (Vm.cmpP n a b=Vm.cmpP m c d)/\Below w.heap.size w wr) (fun p q _=>strLen p+strLen q)
 case atStart=>exact⟨n,a,b,Nat.le_refl _,ha,hb,rfl,rfl,rfl,Below.refl _ _⟩
 case round =>
  obtain⟨m,c,d,hm,hc,hd,rfl,rfl,HE,af⟩:=hrel
  by_cases ac:(c.isEmpty&&d.isEmpty)=true
  ·have HB:Hid (Vm.cmpP n a b=0):=by show _=_;rw[HE.out];exact sW _ _ _ ac
   have h1:c.isEmpty=true:=by cases hc:c.isEmpty <;> simp_all
   have h2:d.isEmpty=true:=by cases hd:d.isEmpty <;> simp_all
   clear ac
   go_wp2_with fail
   go_ret
   exact⟨by rw[HB.out];rfl,af⟩
  ·have aa:(c.isEmpty&&d.isEmpty)=false:=by simpa using ac
   clear ac
   have ag:0<m:=by
    rcases Nat.eq_zero_or_pos m with h | h
    ·subst h
     have h1:c=[]:=List.eq_nil_of_length_eq_zero (by omega)
     have h2:d=[]:=List.eq_nil_of_length_eq_zero (by omega)
     subst h1 h2;simp at aa
    ·exact h
   obtain⟨m',rfl⟩:∃ m',m=m'+1:=⟨m-1,by omega⟩
   have HS:=zh (qp m' c d aa)
   have l1:=cO c
   have k1:=pj c
   have k2:=pj d
   have l2:=cO d
   have l3:=iZ (Vm.undigs c)
   have l4:=iZ (Vm.undigs d)
   have l5:(Vm.tail2 c).length<=m':=by
    cases he:c.isEmpty
    ·have:=cf c he;omega
    ·have:c=[]:=by simpa using he
     subst this;show 0<=m';omega
   have l6:(Vm.tail2 d).length<=m':=by
    cases he:d.isEmpty
    ·have:=cf d he;omega
    ·have:d=[]:=by simpa using he
     subst this;show 0<=m';omega
   have l7:(Vm.tail2 c).length+(Vm.tail2 d).length<c.length+d.length:=by
    have h1:=jF c
    have h2:=jF d
    cases he:c.isEmpty
    ·have:=cf c he;omega
    ·cases aj:d.isEmpty
     ·have:=cf d aj;omega
     ·rw[he,aj] at aa;cases aa
   have an:=zh l5
   have ao:=zh l6
   have ap:=zh l7
   have HM:=zh aa
   clear l5 l6 l7 aa ag
   cases aq:c.isEmpty
   all_goals
    try (have ar:d.isEmpty=false:=by have:=HM.out;rw[aq] at this;simpa using this)
    go_wp2_with fail
    refine (runT c _ (by omega)).mono ?_
    rintro e w1 ⟨rfl,ah⟩
    go_wp2_with fail
    refine (runT d _ (by omega)).mono ?_
    rintro e w2 ⟨rfl,ak⟩
    have ad:Below w.heap.size w w2:=(bt af ah).trans (ak.mono (Nat.le_trans af.size ah.size))
    clear ah ak
    go_wp2_with fail
    refine (rK _ _ _ (by omega) (by omega)).mono ?_
    rintro e w3 ⟨rfl,al⟩
    have ab:Below w.heap.size w w3:=bt ad al
    clear al ad
    obtain⟨x,hx⟩:=ex (Vm.cmpD (Vm.digs c) (Vm.digs d))
    rw[hx] at HS
    rw[hx]
    clear hx
    cases h0:x==0
    ·have n1:(x != 0)=true:=by rw[bne,h0];rfl
     have HB:Hid (Vm.cmpP n a b=x):=by show _=_;rw[HE.out,HS.out,Vm.both,h0];rfl
     clear h0
     go_wp2_with fail
     go_ret
     exact⟨by rw[HB.out];rfl,ab⟩
    ·have n1:(x != 0)=false:=by rw[bne,h0];rfl
     have HB:Hid (Vm.cmpP n a b=Vm.both (Vm.cmpO (Vm.oths (Vm.undigs c)) (Vm.oths (Vm.undigs d))) (Vm.cmpP m' (Vm.tail2 c) (Vm.tail2 d))):=by show _=_;rw[HE.out,HS.out,Vm.both,h0];rfl
     clear h0
     go_wp2_with fail
     refine (runF _ _ (by omega)).mono ?_
     rintro e w4 ⟨rfl,ai⟩
     go_wp2_with fail
     refine (runF _ _ (by omega)).mono ?_
     rintro e w5 ⟨rfl,am⟩
     have ae:Below w.heap.size w w5:=(bt ab ai).trans (am.mono (Nat.le_trans ab.size ai.size))
     clear ai am ab
     go_wp2_with fail
     refine (rJ _ _ _ (by omega) (by omega)).mono ?_
     rintro e w6 ⟨rfl,rfl⟩
     obtain⟨y,hy⟩:=ex (Vm.cmpO (Vm.oths (Vm.undigs c)) (Vm.oths (Vm.undigs d)))
     rw[hy] at HB
     rw[hy]
     clear hy
     cases h0:y==0
     ·have n1:(y != 0)=true:=by rw[bne,h0];rfl
      have HC:Hid (Vm.cmpP n a b=y):=by show _=_;rw[HB.out,Vm.both,h0];rfl
      clear h0
      go_wp2_with fail
      go_ret
      exact⟨by rw[HC.out];rfl,ae⟩
     ·have n1:(y != 0)=false:=by rw[bne,h0];rfl
      have HC:Hid (Vm.cmpP n a b=Vm.cmpP m' (Vm.tail2 c) (Vm.tail2 d)):=by show _=_;rw[HB.out,Vm.both,h0];rfl
      clear h0
      go_wp2_with fail
      go_roundw
      case rel=>exact⟨m',Vm.tail2 c,Vm.tail2 d,by omega,an.out,ao.out,rfl,rfl,HC,ae⟩
      case measure=>have:=ap.out;simpa [strLen,Vm.tail2] using this
theorem tP {l:List UInt8}(h:Vm.check l=0):Vm.rv l=(if (rvR l).isEmpty then [48] else rvR l):=by
 have hv:=(ch h).2.2.2
 unfold rvR Vm.rv at *
 cases h1:Vm.has 45 (Vm.rest l)
 ·rfl
 ·rw[h1] at hv
  simp only[if_true] at hv ⊢
  have aa:(Vm.snd 45 (Vm.rest l)).isEmpty=false:=by
   have:=((Vm.jz _).1 hv).1
   simpa using this
  rw[aa];rfl
theorem zm {l m:List UInt8}(h1:Vm.check l=0)(h2:Vm.check m=0) :
  Vm.cmpV l m=Vm.both (Vm.sgn (Vm.num (Vm.ep l)) (Vm.num (Vm.ep m))) (Vm.both (Vm.cmpP 41 (Vm.pt l) (Vm.pt m)) (Vm.cmpP 41 (if (rvR l).isEmpty then [48] else rvR l) (if (rvR m).isEmpty then [48] else rvR m))):=by
 unfold Vm.cmpV
 rw[tP h1,tP h2,Vm.ab8 _ _ ((Vm.gA _).1 (Vm.cI h1).2.1).2.2 ((Vm.gA _).1 (Vm.cI h2).2.1).2.2]
theorem xI {l:List UInt8}(h:Vm.check l=0):(rvR l).length<=41:=by
 have:=(Vm.eA h).1
 rw[tP h] at this
 cases hr:(rvR l).isEmpty
 ·rw[hr] at this;exact this
 ·have:rvR l=[]:=by simpa using hr
  rw[this];simp
theorem eU (l m:List UInt8)(w:World)(h1:Vm.check l=0)(h2:Vm.check m=0) :
  Calls Tryz.prog 48 #[.string ⟨l.toArray⟩,.string ⟨m.toArray⟩] w fun e w'=>e=.returned (.int .i64 (Vm.cmpV l m))/\Below w.heap.size w w':=by
 have HX:=zh (zm h1 h2)
 have H1:=zh h1
 have H2:=zh h2
 have p1:=(Vm.eA h1).2
 have p2:=(Vm.eA h2).2
 have r1:=xI h1
 have r2:=xI h2
 clear h1 h2
 go_enter Tryz.func48,Tryz.ntmps48
 go_wp2_with fail
 refine (ic l _ H1.out).mono ?_
 rintro _ w2 ⟨rfl,rfl⟩
 go_wp2_with fail
 refine (ic m _ H2.out).mono ?_
 rintro _ w2 ⟨rfl,rfl⟩
 obtain⟨p,hp⟩:=ex (Vm.pt l)
 obtain⟨q,hq⟩:=ex (Vm.pt m)
 obtain⟨r,hr⟩:=ex (rvR l)
 obtain⟨s,hs⟩:=ex (rvR m)
 rw[hp] at HX p1
 rw[hq] at HX p2
 rw[hr] at HX r1
 rw[hs] at HX r2
 rw[hp,hq,hr,hs]
 clear hp hq hr hs
 go_wp2_with fail
 refine (kE l _ H1.out).mono ?_
 rintro _ w2 ⟨rfl,rfl⟩
 go_wp2_with fail
 refine (kE m _ H2.out).mono ?_
 rintro _ w2 ⟨rfl,rfl⟩
 obtain⟨i,hi⟩:=ex (Vm.num (Vm.ep l))
 obtain⟨j,hj⟩:=ex (Vm.num (Vm.ep m))
 rw[hi,hj] at HX
 rw[hi,hj]
 clear hi hj
 go_wp2_with fail
 refine (dQ _ _ _).mono ?_
 rintro _ w2 ⟨rfl,rfl⟩
 obtain⟨c,hc⟩:=ex (Vm.sgn (i:Int) (j:Int))
 rw[hc] at HX
 rw[hc]
 clear hc
 cases h0:c==0
 ·have n1:(c != 0)=true:=by rw[bne,h0];rfl
  have HB:Hid (Vm.cmpV l m=c):=by show _=_;rw[HX.out,Vm.both,h0];rfl
  clear h0 HX
  go_wp2_with fail
  go_ret
  exact⟨by rw[HB.out];rfl,Below.refl _ _⟩
 ·have n1:(c != 0)=false:=by rw[bne,h0];rfl
  have HB:Hid (Vm.cmpV l m=Vm.both (Vm.cmpP 41 p q) (Vm.cmpP 41 (if r.isEmpty then [48] else r) (if s.isEmpty then [48] else s))):=by show _=_;rw[HX.out,Vm.both,h0];rfl
  clear h0 HX
  go_wp2_with fail
  refine (dR 41 p q _ (by omega) p1 p2).mono ?_
  rintro _ w2 ⟨rfl,hb⟩
  obtain⟨d,hd⟩:=ex (Vm.cmpP 41 p q)
  rw[hd] at HB
  rw[hd]
  clear hd
  cases h0:d==0
  ·have n2:(d != 0)=true:=by rw[bne,h0];rfl
   have HC:Hid (Vm.cmpV l m=d):=by show _=_;rw[HB.out,Vm.both,h0];rfl
   clear h0 HB
   go_wp2_with fail
   go_ret
   exact⟨by rw[HC.out];rfl,hb⟩
  ·have n2:(d != 0)=false:=by rw[bne,h0];rfl
   have HC:Hid (Vm.cmpV l m=Vm.cmpP 41 (if r.isEmpty then [48] else r) (if s.isEmpty then [48] else s)):=by show _=_;rw[HB.out,Vm.both,h0];rfl
   clear h0 HB
   have ab:=zh hb
   clear hb
   cases hr:r.isEmpty
   ·cases hs:s.isEmpty
    ·have HD:Hid (Vm.cmpV l m=Vm.cmpP 41 r s):=by show _=_;rw[HC.out,hr,hs];rfl
     clear HC
     go_wp2_with fail
     refine (dR 41 r s _ (by omega) (by first | assumption | decide) (by first | assumption | decide)).mono ?_
     rintro _ w3 ⟨rfl,hb⟩
     have aa:=zh (bt ab.out hb)
     clear hb
     rw[<-HD.out]
     go_wp2_with fail
     go_ret
     exact⟨rfl,aa.out⟩
    ·have HD:Hid (Vm.cmpV l m=Vm.cmpP 41 r [48]):=by show _=_;rw[HC.out,hr,hs];rfl
     clear HC
     go_wp2_with fail
     refine (dR 41 r [48] _ (by omega) (by first | assumption | decide) (by first | assumption | decide)).mono ?_
     rintro _ w3 ⟨rfl,hb⟩
     have aa:=zh (bt ab.out hb)
     clear hb
     rw[<-HD.out]
     go_wp2_with fail
     go_ret
     exact⟨rfl,aa.out⟩
   ·cases hs:s.isEmpty
    ·have HD:Hid (Vm.cmpV l m=Vm.cmpP 41 [48] s):=by show _=_;rw[HC.out,hr,hs];rfl
     clear HC
     go_wp2_with fail
     refine (dR 41 [48] s _ (by omega) (by first | assumption | decide) (by first | assumption | decide)).mono ?_
     rintro _ w3 ⟨rfl,hb⟩
     have aa:=zh (bt ab.out hb)
     clear hb
     rw[<-HD.out]
     go_wp2_with fail
     go_ret
     exact⟨rfl,aa.out⟩
    ·have HD:Hid (Vm.cmpV l m=Vm.cmpP 41 [48] [48]):=by show _=_;rw[HC.out,hr,hs];rfl
     clear HC
     go_wp2_with fail
     refine (dR 41 [48] [48] _ (by omega) (by first | assumption | decide) (by first | assumption | decide)).mono ?_
     rintro _ w3 ⟨rfl,hb⟩
     have aa:=zh (bt ab.out hb)
     clear hb
     rw[<-HD.out]
     go_wp2_with fail
     go_ret
     exact⟨rfl,aa.out⟩
end
section
open Go.RowKit
theorem aaM (v:List UInt8)(w:World) :
  Calls Tryz.prog 121 #[.string ⟨v.toArray⟩] w fun e w'=>e=.returned (.int .i64 (Rs.bound v))/\Below w.heap.size w w':=by
 cases hv:v.isEmpty
 ·by_cases hc:Vm.check v=0
  ·have HK:=zh hc
   have HX:Hid (canonOf v=Vm.canon v):=by show _=_;rw[canonOf,if_pos hc]
   cases he:Vm.canon v==v
   ·have HB:Hid (Rs.bound v=5):=by show _=_;unfold Rs.bound;rw[hv,if_neg Bool.false_ne_true,if_pos hc,he];rfl
    obtain⟨x,hx⟩:=ex (Vm.canon v)
    rw[hx] at he HX
    clear hx hc
    go_enter Tryz.func121,Tryz.ntmps121
    go_wp2_with fail
    refine (eF v _).mono ?_
    rintro _ w1 ⟨rfl,hb⟩
    rw[HX.out,HK.out]
    have aa:=zh hb
    clear hb
    go_wp2_with fail
    go_ret
    exact⟨by rw[HB.out];rfl,aa.out⟩
   ·have HB:Hid (Rs.bound v=0):=by show _=_;unfold Rs.bound;rw[hv,if_neg Bool.false_ne_true,if_pos hc,he];rfl
    obtain⟨x,hx⟩:=ex (Vm.canon v)
    rw[hx] at he HX
    clear hx hc
    go_enter Tryz.func121,Tryz.ntmps121
    go_wp2_with fail
    refine (eF v _).mono ?_
    rintro _ w1 ⟨rfl,hb⟩
    rw[HX.out,HK.out]
    have aa:=zh hb
    clear hb
    go_wp2_with fail
    go_ret
    exact⟨by rw[HB.out];rfl,aa.out⟩
  ·have HB:Hid (Rs.bound v=Vm.check v):=by show _=_;unfold Rs.bound;rw[hv,if_neg Bool.false_ne_true,if_neg hc]
   obtain⟨k,hk⟩:=ex (Vm.check v)
   rw[hk] at HB hc
   have HK:=zh hk
   clear hk
   go_enter Tryz.func121,Tryz.ntmps121
   go_wp2_with fail
   refine (eF v _).mono ?_
   rintro _ w1 ⟨rfl,hb⟩
   rw[HK.out]
   have aa:=zh hb
   clear hb
   go_wp2_with fail
   go_ret
   exact⟨by rw[HB.out];rfl,aa.out⟩
 ·have HB:Hid (Rs.bound v=0):=by show _=_;unfold Rs.bound;rw[hv];rfl
  go_enter Tryz.func121,Tryz.ntmps121
  go_wp2_with fail
  go_ret
  exact⟨by rw[HB.out];rfl,Below.refl _ _⟩
end
section
open Go.RowKit Rs
attribute [local go_sem ↓] Go.wp_at_zero Go.wp_at_succ
theorem df (l m:List UInt8)(c:Int)(w:World)(h1:Vm.check l=0)(h2:Vm.check m=0)(hc:Vm.cmpV l m=c) :
  Calls Tryz.prog 48 #[.string ⟨l.toArray⟩,.string ⟨m.toArray⟩] w fun e w'=>e=.returned (.int .i64 c)/\Below w.heap.size w w':=by
 have:=eU l m w h1 h2;rw[hc] at this;exact this
end
section
open Go.RowKit Rs
attribute [local go_sem ↓] Go.wp_at_zero Go.wp_at_succ
theorem tQ (v:List UInt8)(k:Int)(w:World)(hk:Rs.bound v=k):Calls Tryz.prog 121 #[.string ⟨v.toArray⟩] w fun e w'=>e=.returned (.int .i64 k)/\Below w.heap.size w w':=by
 have:=aaM v w;rw[hk] at this;exact this
theorem acY (lo hi:List UInt8)(li hn:Bool)(w:World) :
  Calls Tryz.prog 81 #[.agg #[.string ⟨lo.toArray⟩,.string ⟨hi.toArray⟩,.bool li,.bool hn]] w fun e w'=>e=.returned (.int .i64 (span lo hi li hn))/\Below w.heap.size w w':=by
 obtain⟨R,hR⟩:=ex (span lo hi li hn)
 rw[hR]
 have HF:Hid (∀ b,b=span lo hi li hn->b=R):=fun b hb=>hb.trans hR
 clear hR
 have aa:Stable (fun u=>Box u w.heap.size lo hi li hn):=dI _ _ _ _ _
 have HI:Hid (Kp (fun u=>Box u w.heap.size lo hi li hn) w (w.alloc (.cells #[.string ⟨lo.toArray⟩,.string ⟨hi.toArray⟩,.bool li,.bool hn] 132))):=⟨ck ..,by simp,(Below.refl _ _).alloc (Nat.le_refl _) _⟩
 obtain⟨k1,ae⟩:=ex (Rs.bound lo)
 obtain⟨k2,af⟩:=ex (Rs.bound hi)
 have G1:=zh ae
 have G2:=zh af
 clear ae af
 go_enter Tryz.func81,Tryz.ntmps81
 go_wp2_with fail
 refine (tQ lo k1 _ G1.out).mono ?_
 rintro _ w1 ⟨rfl,hb⟩
 have ac:=bg aa hb HI
 clear hb HI
 obtain⟨⟨c0,c1,c2,c3,_⟩,_⟩:=ac.out
 by_cases n1:k1=0
 ·subst n1
  go_wp2_with fail
  refine (tQ hi k2 _ G2.out).mono ?_
  rintro _ w2 ⟨rfl,hb⟩
  have ab:=bg aa hb ac
  clear hb ac c0 c1 c2 c3
  obtain⟨⟨c0,c1,c2,c3,_⟩,_⟩:=ab.out
  by_cases n2:k2=0
  ·subst n2
   cases e1:lo.isEmpty <;> cases e2:hi.isEmpty
   ·have K1:=zh (Rs.aV G1.out e1).1
    have K2:=zh (Rs.aV G2.out e2).1
    obtain⟨c,hc⟩:=ex (Vm.cmpV lo hi)
    have rg:=Vm.cu lo hi
    have HC:=zh hc
    rw[hc] at rg
    clear hc
    go_wp2_with fail
    refine (df lo hi c _ K1.out K2.out HC.out).mono ?_
    rintro _ w3 ⟨rfl,hb⟩
    have ad:=bg aa hb ab
    clear hb ab aa c0 c1 c2 c3
    obtain⟨⟨c0,c1,c2,c3,_⟩,_⟩:=ad.out
    rcases (show c = -1\/c=0\/c=1 by omega) with rfl | rfl | rfl
    all_goals
     cases li <;> cases hn
    all_goals
     go_wp2_with fail
     go_ret
     refine⟨?_,bD ad⟩
     rw[<-HF.out _ rfl]
     unfold span
     rw[if_neg (by simp[G1.out]),if_neg (by simp[G2.out]),e1,e2,HC.out]
     rfl
   all_goals
    clear aa
    cases li <;> cases hn
   all_goals
    go_wp2_with fail
    go_ret
    refine⟨?_,bD ab⟩
    rw[<-HF.out _ rfl]
    unfold span
    rw[if_neg (by simp[G1.out]),if_neg (by simp[G2.out]),e1,e2]
    rfl
  ·have hk:(k2==0)=false:=beq_eq_false_iff_ne.2 n2
   have ag:(k2 != 0)=true:=by simpa using n2
   have HK:=zh n2
   clear n2 aa
   go_wp2_with fail
   go_ret
   refine⟨?_,bD ab⟩
   rw[<-HF.out k2 (by unfold span;rw[if_neg (by simp[G1.out]),if_pos (by rw[G2.out];exact HK.out)];exact G2.out.symm)]
   rfl
 ·have hk:(k1==0)=false:=beq_eq_false_iff_ne.2 n1
  have ag:(k1 != 0)=true:=by simpa using n1
  have HK:=zh n1
  clear n1 aa
  go_wp2_with fail
  go_ret
  refine⟨?_,bD ac⟩
  rw[<-HF.out k1 (by unfold span;rw[if_pos (by rw[G1.out];exact HK.out)];exact G1.out.symm)]
  rfl
end
section
open Go.RowKit Rs
attribute [local go_sem ↓] Go.wp_at_zero Go.wp_at_succ
theorem keepRR {w1 u u':World}{p q:Addr}{x0 x1 x2 x3 y0 y1 y2 y3:Value}(hp1:p.block<w1.heap.size)(hq1:q.block<w1.heap.size)
  (h:u.cell? p=some x0/\u.cell? ⟨p.block,p.off+1,none⟩=some x1/\u.cell? ⟨p.block,p.off+2,none⟩=some x2/\u.cell? ⟨p.block,p.off+3,none⟩=some x3/\u.cell? q=some y0/\u.cell? ⟨q.block,q.off+1,none⟩=some y1/\u.cell? ⟨q.block,q.off+2,none⟩=some y2/\u.cell? ⟨q.block,q.off+3,none⟩=some y3/\w1.heap.size<=u.heap.size/\Below w1.heap.size w1 u) (hb:Below u.heap.size u u') :
  u'.cell? p=some x0/\u'.cell? ⟨p.block,p.off+1,none⟩=some x1/\u'.cell? ⟨p.block,p.off+2,none⟩=some x2/\u'.cell? ⟨p.block,p.off+3,none⟩=some x3/\u'.cell? q=some y0/\u'.cell? ⟨q.block,q.off+1,none⟩=some y1/\u'.cell? ⟨q.block,q.off+2,none⟩=some y2/\u'.cell? ⟨q.block,q.off+3,none⟩=some y3/\w1.heap.size<=u'.heap.size/\Below w1.heap.size w1 u':=by
 obtain⟨h0,h1,h2,h3,h4,h5,h6,h7,h8,h9⟩:=h
 have e:∀ a:Addr,a.block<w1.heap.size->u'.cell? a=u.cell? a:=fun a ha=>hb.cell (by omega)
 refine⟨?_,?_,?_,?_,?_,?_,?_,?_,Nat.le_trans h8 hb.size,h9.trans (hb.mono h8)⟩
 ·rw[e p hp1];exact h0
 ·rw[e ⟨p.block,p.off+1,none⟩ hp1];exact h1
 ·rw[e ⟨p.block,p.off+2,none⟩ hp1];exact h2
 ·rw[e ⟨p.block,p.off+3,none⟩ hp1];exact h3
 ·rw[e q hq1];exact h4
 ·rw[e ⟨q.block,q.off+1,none⟩ hq1];exact h5
 ·rw[e ⟨q.block,q.off+2,none⟩ hq1];exact h6
 ·rw[e ⟨q.block,q.off+3,none⟩ hq1];exact h7
theorem zn (lo hi:List UInt8)(li hn:Bool)(k:Int)(w:World)(hk:span lo hi li hn=k) :
  Calls Tryz.prog 81 #[.agg #[.string ⟨lo.toArray⟩,.string ⟨hi.toArray⟩,.bool li,.bool hn]] w fun e w'=>e=.returned (.int .i64 k)/\Below w.heap.size w w':=by
 have:=acY lo hi li hn w;rw[hk] at this;exact this
theorem oa (A:Option Addr)(n c:Nat)(l:List Sp)(w:World)(hn:l.length=n)(hr:SRow w A l)(hl:n<=9223372036854775807) :
  Calls Tryz.prog 41 #[.slice A n c] w fun e w'=>e=.returned (.int .i64 (checkR l))/\Below w.heap.size w w':=by
 have HR:=zh hr
 have HN:=zh hn
 obtain⟨E,hE⟩:=ex (checkR l)
 rw[hE]
 have HE:=zh hE
 clear hn hr hE
 go_enter Tryz.func41,Tryz.ntmps41
 go_wp2_with fail
 go_loopw [3] (fun i wr=>∃ k:Nat,k<=n/\i=.int .i64 k/\Hid (CkSt l k)/\Hid (Below w.heap.size w wr/\w.heap.size<=wr.heap.size)) (fun i _=>n-(intOf i).toNat)
 case atStart=>exact⟨0,Nat.zero_le _,rfl,nP l,Below.refl _ _,Nat.le_refl _⟩
 case round =>
  obtain⟨k,hk,rfl,HS,HB⟩:=hrel
  by_cases aD:k<n
  ·have aj:k<l.length:=by rw[HN.out];exact aD
   obtain⟨ad,lo,hi,li,hh,rfl,hs,aI,c0,c1,c2,c3⟩:=bM (ao HR.out HB.out.1) k aj
   obtain⟨st1,st2,ar,au⟩:=qx HS.out aj
   have aE:=zh hs
   rw[hs] at st2 ar au
   have ak:=zh st1
   have al:=zh st2
   have am:=zh ar
   have an:=zh au
   clear hs st1 st2 ar au
   by_cases ac:64<=k
   ·have ap:Hid (E=4):=by show _=_;rw[<-HE.out];exact ak.out ac
    have hd:decide ((64:Int)<=(k:Int))=true:=decide_eq_true (by omega)
    clear ac
    go_wp2_with fail
    go_ret
    exact⟨by rw[ap.out];rfl,HB.out.1⟩
   have hd:decide ((64:Int)<=(k:Int))=false:=decide_eq_false (by omega)
   obtain⟨e,he⟩:=ex (span lo hi li hh)
   have ae:=zh he
   clear he
   go_wp2_with fail
   refine (zn lo hi li hh e _ ae.out).mono ?_
   rintro _ w1 ⟨rfl,hb⟩
   have aa:Hid (Below w.heap.size w w1/\w.heap.size<=w1.heap.size):=⟨HB.out.1.trans (hb.mono HB.out.2),Nat.le_trans HB.out.2 hb.size⟩
   have aq:ad.block<w1.heap.size:=Nat.lt_of_lt_of_le aI hb.size
   clear hb c0 c1 c2 c3 hd
   by_cases ag:e=0
   ·subst ag
    have ah:(Sp.mk lo hi li hh).err=0:=ae.out
    by_cases ay:k=0
    ·have NS:Hid (CkSt l 1):=am.out ay ah
     subst ay
     clear ah ac ak al am an
     go_wp2_with fail
     go_roundw
     case rel=>exact⟨1,by omega,rfl,NS,aa⟩
     case measure=>simp[intOf];omega
    ·have az:k-1<l.length:=by omega
     have aA:l[k-1]?=some l[k-1]:=List.getElem?_eq_getElem az
     obtain⟨pe,sy,sn⟩:=an.out ac _ (by omega) aA ah
     obtain⟨aL,av,phi,aw,ph,ai,aC,_,d0,d1,d2,d3⟩:=bM (ao HR.out aa.out.1) (k-1) az
     obtain rfl:=Option.some.inj ai
     obtain⟨aM,aN,aO,aP,aQ,ai,ax,_,c0,c1,c2,c3⟩:=bM (ao HR.out aa.out.1) k aj
     obtain rfl:=Option.some.inj ai
     rw[aE.out] at ax
     obtain⟨rfl,rfl,rfl,rfl⟩:=Sp.mk.inj ax
     rw[aC] at pe sy sn
     have B1:=zh (dh ae.out).1
     have B2:=zh (dh (lo:=av) (hi:=phi) (li:=aw) (hn:=ph) pe).2.1
     have aB:behind (Sp.mk av phi aw ph) ⟨lo,hi,li,hh⟩=(!(phi.isEmpty||lo.isEmpty)&&!(decide (Vm.cmpV lo phi<0)||(decide (Vm.cmpV lo phi=0)&&(li||ph)))):=rfl
     rw[aB] at sy sn
     have SY:=zh sy
     have SN:=zh sn
     have g1:(0:Int)<=(k:Int)-1:=by omega
     have g6:(1:Int)<=(k:Int):=by omega
     have g2:(k:Int)-1<(n:Int):=by omega
     have g3:((k:Int)-1).toNat=k-1:=by omega
     have g5:IntKind.i64.wrap ((k:Int)-1)=(k:Int)-1:=IntWalk.i64_in _ (by omega)
     have g8:((k:Int)==0)=false:=beq_eq_false_iff_ne.2 (by omega)
     have aF:(ad.add (k*4)).block<w1.heap.size:=by rw[add_block];exact aq
     have aG:(ad.add ((k-1)*4)).block<w1.heap.size:=by rw[add_block];exact aq
     clear ah ac ak al am an pe sy sn aC aA ai ax aB aq
     cases e1:phi.isEmpty
     ·cases e2:lo.isEmpty
      ·have K1:=zh (Rs.aV B1.out e2).1
       have K2:=zh (Rs.aV B2.out e1).1
       obtain⟨x,hx⟩:=ex (Vm.cmpV lo phi)
       have rg:=Vm.cu lo phi
       have HC:=zh hx
       rw[hx] at rg
       clear hx
       have HY:Hid ((decide (x<0)||(decide (x=0)&&(li||ph)))=false->CkSt l (k+1)):=fun h=>SY.out (by rw[e1,e2,HC.out,h];rfl)
       have HZ:Hid ((decide (x<0)||(decide (x=0)&&(li||ph)))=true->E=7):=fun h=>by rw[<-HE.out];exact SN.out (by rw[e1,e2,HC.out,h];rfl)
       clear SY SN
       go_wp2_with fail
       go_region_held3 (fun w'=>w'.cell? (ad.add (k*4))=some (.string ⟨lo.toArray⟩)/\w'.cell? ⟨(ad.add (k*4)).block,(ad.add (k*4)).off+1,none⟩=some (.string ⟨hi.toArray⟩)/\w'.cell? ⟨(ad.add (k*4)).block,(ad.add (k*4)).off+2,none⟩=some (.bool li)/\w'.cell? ⟨(ad.add (k*4)).block,(ad.add (k*4)).off+3,none⟩=some (.bool hh) /\
         w'.cell? (ad.add ((k-1)*4))=some (.string ⟨av.toArray⟩)/\w'.cell? ⟨(ad.add ((k-1)*4)).block,(ad.add ((k-1)*4)).off+1,none⟩=some (.string ⟨phi.toArray⟩)/\w'.cell? ⟨(ad.add ((k-1)*4)).block,(ad.add ((k-1)*4)).off+2,none⟩=some (.bool aw)/\w'.cell? ⟨(ad.add ((k-1)*4)).block,(ad.add ((k-1)*4)).off+3,none⟩=some (.bool ph)/\w1.heap.size<=w'.heap.size/\Below w1.heap.size w1 w')
        (first
         | exact⟨c0,c1,c2,c3,d0,d1,d2,d3,Nat.le_refl _,(Below.refl _ _).drew⟩
         | assumption
         | (refine keepRR aF aG ?_ hb;assumption))
        (first
         | (go_at_call 48;refine (df lo phi x _ K1.out K2.out HC.out).mono ?_;rintro _ w4 ⟨rfl,hb⟩))
       rename_i aJ
       obtain⟨c0,c1,c2,c3,d0,d1,d2,d3,z1,z2⟩:=aJ
       have af:Hid (Below w.heap.size w w4/\w.heap.size<=w4.heap.size):=⟨aa.out.1.trans (z2.mono aa.out.2),Nat.le_trans aa.out.2 z1⟩
       clear z1 z2
       rcases (show x = -1\/x=0\/x=1 by omega) with rfl | rfl | rfl
       ·have ab:Hid (E=7):=HZ.out rfl
        go_wp2_with fail
        go_ret
        exact⟨by rw[ab.out];rfl,af.out.1⟩
       ·cases li
        ·cases ph
         ·have NS:Hid (CkSt l (k+1)):=HY.out rfl
          go_wp2_with fail
          go_roundw
          case rel=>exact⟨k+1,by omega,by go_num,NS,af⟩
          case measure=>simp[intOf];omega
         ·have ab:Hid (E=7):=HZ.out rfl
          go_wp2_with fail
          go_ret
          exact⟨by rw[ab.out];rfl,af.out.1⟩
        ·have ab:Hid (E=7):=HZ.out (by simp)
         go_wp2_with fail
         go_ret
         exact⟨by rw[ab.out];rfl,af.out.1⟩
       ·have NS:Hid (CkSt l (k+1)):=HY.out (by simp)
        go_wp2_with fail
        go_roundw
        case rel=>exact⟨k+1,by omega,by go_num,NS,af⟩
        case measure=>simp[intOf];omega
      ·have ab:Hid (E=7):=by show _=_;rw[<-HE.out];exact SN.out (by rw[e2];simp)
       go_wp2_with fail
       go_ret
       exact⟨by rw[ab.out];rfl,aa.out.1⟩
     ·have ab:Hid (E=7):=by show _=_;rw[<-HE.out];exact SN.out (by rw[e1];simp)
      go_wp2_with fail
      go_ret
      exact⟨by rw[ab.out];rfl,aa.out.1⟩
   ·have ap:Hid (E=e):=by show _=_;rw[<-HE.out,<-ae.out];exact al.out ac (by show span _ _ _ _≠0;rw[ae.out];exact ag)
    have aK:(e != 0)=true:=by simpa using ag
    clear ac ag
    go_wp2_with fail
    go_ret
    exact⟨by rw[ap.out];rfl,aa.out.1⟩
  ·have aH:Hid (E=0):=by
    show _=_
    rw[<-HE.out,HS.out.1,List.drop_eq_nil_of_le (by rw[HN.out];omega)];rfl
   go_wp2_with fail
   go_ret
   exact⟨by rw[aH.out];rfl,HB.out.1⟩
end
section
open Go.RowKit Rs At
theorem qH (c:UInt8):(At.low c=true->decide ((c.toNat:Int)<97)=false/\decide ((122:Int)<(c.toNat:Int))=false/\decide ((97:Int)<=(c.toNat:Int))=true/\decide ((c.toNat:Int)<=122)=true):=fun h=>by
 unfold At.low at h
 rw[Bool.and_eq_true,decide_eq_true_eq,decide_eq_true_eq] at h
 exact⟨decide_eq_false (by omega),decide_eq_false (by omega),decide_eq_true (by omega),decide_eq_true (by omega)⟩
theorem pz (c:UInt8)(h:At.low c=false):(c.toNat<97)\/(¬ c.toNat<97/\122<c.toNat):=by
 unfold At.low at h
 rw[Bool.and_eq_false_iff,decide_eq_false_iff_not,decide_eq_false_iff_not] at h
 omega
theorem iQ (l:List UInt8)(w:World)(hm:l.length<=maxLen) :
  Calls Tryz.prog 40 #[.string ⟨l.toArray⟩] w fun e w'=>e=.returned (.bool (nameB l))/\w=w':=by
 obtain⟨R,hR⟩:=ex (nameB l)
 rw[hR]
 cases l with
 | nil =>
  obtain rfl:R=false:=hR.symm
  go_enter Tryz.func40,Tryz.ntmps40
  go_wp2_with fail
  go_ret
  exact⟨rfl,rfl⟩
 | cons c0 t =>
  have ac:0<(c0 :: t).length:=by simp
  obtain⟨l,hl⟩:=ex (c0 :: t)
  have ah:Hid (24<l.length->R=false):=fun h=>by rw[<-hR,hl];exact At.kK h
  have HC:Hid (l.length<=24->R=(At.low c0&&l.all At.nameC)):=fun h=>by rw[<-hR,<-hl];exact At.qy (by rw[hl];exact h)
  have ak:0<l.length:=by rw[<-hl];exact ac
  obtain⟨cb,ao,ad⟩:=byte_at l 0 ak
  have h0:cb=c0:=by rw[<-ad];simp[<-hl]
  subst h0
  rw[hl] at hm ⊢
  have n0:decide ((l.length:Int)<1)=false:=decide_eq_false (by omega)
  clear hR ad ac hl
  by_cases al:24<l.length
  ·obtain rfl:R=false:=ah.out al
   have d0:decide ((24:Int)<(l.length:Int))=true:=decide_eq_true (by omega)
   go_enter Tryz.func40,Tryz.ntmps40
   go_wp2_with fail
   go_ret
   exact⟨rfl,rfl⟩
  ·have HR:=zh (HC.out (by omega))
   have d0:decide ((24:Int)<(l.length:Int))=false:=decide_eq_false (by omega)
   have am:Hid (l.length<=24):=by show _<=_;omega
   clear HC ah
   cases aa:At.low cb
   ·have ai:Hid (R=false):=by show _=_;rw[HR.out,aa];rfl
    rcases pz cb aa with h1 | ⟨h1,h2⟩
    ·have a1:decide ((cb.toNat:Int)<97)=true:=decide_eq_true (by omega)
     clear aa HR h1
     go_enter Tryz.func40,Tryz.ntmps40
     go_wp2_with fail
     go_ret
     exact⟨by rw[ai.out];rfl,rfl⟩
    ·have a1:decide ((cb.toNat:Int)<97)=false:=decide_eq_false (by omega)
     have a2:decide ((122:Int)<(cb.toNat:Int))=true:=decide_eq_true (by omega)
     clear aa HR h1 h2
     go_enter Tryz.func40,Tryz.ntmps40
     go_wp2_with fail
     go_ret
     exact⟨by rw[ai.out];rfl,rfl⟩
   ·have aj:Hid (R=l.all At.nameC):=by show _=_;rw[HR.out,aa];rfl
    obtain⟨a1,a2,_,_⟩:=qH cb aa
    clear aa HR
    go_enter Tryz.func40,Tryz.ntmps40
    go_wp2_with fail
    go_loop [3,4] (fun i _=>∃ k:Nat,k<=l.length/\i=.int .i64 k/\Hid ((l.take k).all At.nameC=true)) (fun i _=>l.length-(intOf i).toNat)
    case atStart=>exact⟨0,Nat.zero_le _,rfl,rfl⟩
    case round =>
     obtain⟨k,hk,rfl,HK⟩:=hrel
     by_cases ae:k<l.length
     ·obtain⟨c,hc,ag⟩:=byte_at l k ae
      have HS:=zh (At.dZ (f:=At.nameC) ae ag)
      have HN:Hid (At.nameC c=false->R=false):=fun h=>by rw[aj.out];exact At.ja ae ag h
      have HY:Hid (At.nameC c=true->(l.take (k+1)).all At.nameC=true):=fun h=>by rw[HS.out,HK.out,h];rfl
      clear ag HS HK a1 a2
      cases h1:At.low c
      ·have H1:=zh h1
       have ht:∃ b1 b2:Bool,decide ((97:Int)<=(c.toNat:Int))=b1/\decide ((c.toNat:Int)<=122)=b2/\(b1&&b2)=false:=by
        refine⟨_,_,rfl,rfl,?_⟩
        rcases pz c h1 with h | ⟨_,h⟩
        ·rw[decide_eq_false (by omega)];rfl
        ·rw[decide_eq_false (p:=(c.toNat:Int)<=122) (by omega),Bool.and_false]
       rcases pz c h1 with h | ⟨g,h⟩
       ·have b1:decide ((97:Int)<=(c.toNat:Int))=false:=decide_eq_false (by omega)
        clear h h1 ht
        go_wp2_with fail
        refine (bK c _).mono ?_
        rintro e w' ⟨rfl,rfl⟩
        cases h2:Vm.dig c
        ·have HE:=zh (At.jL H1.out h2)
         clear h2
         by_cases h3:c.toNat=45
         ·have n1:((c.toNat:Int) != 45)=false:=by simp[h3]
          have e3:c=45:=by rw[<-UInt8.toNat_inj];exact h3
          have ab:=zh (HY.out (by rw[HE.out,e3];rfl))
          clear h3 e3
          go_wp2_with fail
          go_round
          case rel=>exact⟨k+1,by omega,by go_num,ab⟩
          case measure=>simp[intOf];omega
         ·have n1:((c.toNat:Int) != 45)=true:=by simp;omega
          have af:=zh (HN.out (by rw[HE.out];rw[beq_eq_false_iff_ne];intro e;exact h3 (by rw[e];rfl)))
          clear h3
          go_wp2_with fail
          go_ret
          exact⟨by rw[af.out];rfl,rfl⟩
        ·have ab:=zh (HY.out (At.kL h2))
         clear h2
         go_wp2_with fail
         go_round
         case rel=>exact⟨k+1,by omega,by go_num,ab⟩
         case measure=>simp[intOf];omega
       ·have b1:decide ((97:Int)<=(c.toNat:Int))=true:=decide_eq_true (by omega)
        have b2:decide ((c.toNat:Int)<=122)=false:=decide_eq_false (by omega)
        clear g h h1 ht
        go_wp2_with fail
        refine (bK c _).mono ?_
        rintro e w' ⟨rfl,rfl⟩
        cases h2:Vm.dig c
        ·have HE:=zh (At.jL H1.out h2)
         clear h2
         by_cases h3:c.toNat=45
         ·have n1:((c.toNat:Int) != 45)=false:=by simp[h3]
          have e3:c=45:=by rw[<-UInt8.toNat_inj];exact h3
          have ab:=zh (HY.out (by rw[HE.out,e3];rfl))
          clear h3 e3
          go_wp2_with fail
          go_round
          case rel=>exact⟨k+1,by omega,by go_num,ab⟩
          case measure=>simp[intOf];omega
         ·have n1:((c.toNat:Int) != 45)=true:=by simp;omega
          have af:=zh (HN.out (by rw[HE.out];rw[beq_eq_false_iff_ne];intro e;exact h3 (by rw[e];rfl)))
          clear h3
          go_wp2_with fail
          go_ret
          exact⟨by rw[af.out];rfl,rfl⟩
        ·have ab:=zh (HY.out (At.kL h2))
         clear h2
         go_wp2_with fail
         go_round
         case rel=>exact⟨k+1,by omega,by go_num,ab⟩
         case measure=>simp[intOf];omega
      ·obtain⟨_,_,b1,b2⟩:=qH c h1
       have ab:=zh (HY.out (At.qz h1))
       clear h1
       go_wp2_with fail
       go_round
       case rel=>exact⟨k+1,by omega,by go_num,ab⟩
       case measure=>simp[intOf];omega
     ·obtain rfl:k=l.length:=by omega
      have an:Hid (R=true):=by show _=_;rw[aj.out];have h:=HK.out;rwa [List.take_length] at h
      go_wp2_with fail
      go_ret
      exact⟨by rw[an.out];rfl,rfl⟩
end
section
open Go.RowKit Rs At
theorem wv (s:Sp):(conds s).length=(if s.lo=[] then 0 else 1)+(if s.hi≠[]/\s.lo≠s.hi then 1 else 0):=by
 unfold conds
 by_cases h1:s.lo=s.hi
 ·by_cases h2:s.lo=[]
  ·have h3:s.hi=[]:=by rw[<-h1];exact h2
   simp[h2,h3]
  ·simp[h1,h1 ▸ h2]
 ·by_cases h2:s.lo=[]
  ·by_cases h3:s.hi=[]
   ·exact absurd (h2.trans h3.symm) h1
   ·have h4:¬ []=s.hi:=fun e=>h3 e.symm
    simp[h2,h3,h4]
  ·by_cases h3:s.hi=[] <;> simp[h1,h2,h3]
theorem ob (A:Option Addr)(n c:Nat)(l:List Sp)(w:World)(hn:l.length=n)(hr:SRow w A l)(hl:n<=1000) :
  Calls Tryz.prog 42 #[.slice A n c] w fun e w'=>e=.returned (.int .i64 (vers (termOf l)))/\Below w.heap.size w w':=by
 have HR:=zh hr
 have HN:=zh hn
 clear hr hn
 go_enter Tryz.func42,Tryz.ntmps42
 go_wp2_with fail
 go_loopw [3,4] (fun m i wr=>∃ k:Nat,k<=n/\i=.int .i64 k/\m=.int .i64 (vers (termOf (l.take k)))/\Hid (Below w.heap.size w wr)) (fun _ i _=>n-(intOf i).toNat)
 case atStart=>exact⟨0,Nat.zero_le _,rfl,rfl,Below.refl _ _⟩
 case round =>
  obtain⟨k,hk,rfl,rfl,HB⟩:=hrel
  by_cases ae:k<n
  ·have af:k<l.length:=by rw[HN.out];exact ae
   obtain⟨ad,lo,hi,li,hh,rfl,hs,_,c0,c1,c2,c3⟩:=bM (ao HR.out HB.out) k af
   have aa:vers (termOf (l.take (k+1)))=vers (termOf (l.take k))+(conds l[k]).length:=by
    unfold termOf vers
    rw[List.take_succ_eq_append_getElem af,List.map_append,List.map_append,List.sum_append];simp
   have ag:vers (termOf (l.take k))<=2000:=by
    have h:=jP 2 (termOf (l.take k)) (fun x hx=>by obtain⟨s,_,rfl⟩:=List.mem_map.1 hx;exact il s)
    have h2:(termOf (l.take k)).length<=k:=by unfold termOf;rw[List.length_map,List.length_take];omega
    omega
   rw[hs,wv] at aa
   dsimp only at aa
   obtain⟨v,hv⟩:=ex (vers (termOf (l.take k)))
   rw[hv] at aa ag ⊢
   have ab:=zh ae
   clear hs hv
   cases e1:lo.isEmpty <;> cases e2:hi.isEmpty <;> cases e3:lo==hi
   case false.false.false =>
    have ac:Hid (vers (termOf (l.take (k+1)))=v+2):=by
     show _=_
     rw[aa]
     simp at e1 e2 e3
     simp[e1,e2,e3]
    have e4:(hi==lo)=false:=by rw[BEq.comm];exact e3
    clear aa
    go_wp2_with fail
    go_quiet (fail)
    go_wp2_with fail
    go_roundw
    case rel=>exact⟨k+1,(by have:=ab.out;omega),by go_num,by rw[ac.out];go_num,below_drewN HB.out _⟩
    case measure=>have:=ab.out;simp[intOf];omega
   case false.false.true =>
    have ac:Hid (vers (termOf (l.take (k+1)))=v+1):=by
     show _=_
     rw[aa]
     simp at e1 e2 e3
     simp[e2,e3]
    have e4:(hi==lo)=true:=by rw[BEq.comm];exact e3
    clear aa
    go_wp2_with fail
    go_quiet (fail)
    go_wp2_with fail
    go_roundw
    case rel=>exact⟨k+1,(by have:=ab.out;omega),by go_num,by rw[ac.out];go_num,below_drewN HB.out _⟩
    case measure=>have:=ab.out;simp[intOf];omega
   case false.true.false =>
    have ac:Hid (vers (termOf (l.take (k+1)))=v+1):=by
     show _=_
     rw[aa]
     simp at e1 e2 e3
     simp[e1,e2]
    have e4:(hi==lo)=false:=by rw[BEq.comm];exact e3
    clear aa
    go_wp2_with fail
    go_quiet (fail)
    go_wp2_with fail
    go_roundw
    case rel=>exact⟨k+1,(by have:=ab.out;omega),by go_num,by rw[ac.out];go_num,below_drewN HB.out _⟩
    case measure=>have:=ab.out;simp[intOf];omega
   case false.true.true =>
    exfalso
    simp at e1 e2 e3
    simp_all
   case true.false.false =>
    have ac:Hid (vers (termOf (l.take (k+1)))=v+1):=by
     show _=_
     rw[aa]
     simp at e1 e2 e3
     simp[e1,e2]
    have e4:(hi==lo)=false:=by rw[BEq.comm];exact e3
    clear aa
    go_wp2_with fail
    go_quiet (fail)
    go_wp2_with fail
    go_roundw
    case rel=>exact⟨k+1,(by have:=ab.out;omega),by go_num,by rw[ac.out];go_num,below_drewN HB.out _⟩
    case measure=>have:=ab.out;simp[intOf];omega
   case true.false.true =>
    exfalso
    simp at e1 e2 e3
    simp_all
   case true.true.false =>
    exfalso
    simp at e1 e2 e3
    simp_all
   case true.true.true =>
    have ac:Hid (vers (termOf (l.take (k+1)))=v+0):=by
     show _=_
     rw[aa]
     simp at e1 e2 e3
     simp[e1,e2]
    have e4:(hi==lo)=true:=by rw[BEq.comm];exact e3
    clear aa
    go_wp2_with fail
    go_quiet (fail)
    go_wp2_with fail
    go_roundw
    case rel=>exact⟨k+1,(by have:=ab.out;omega),by go_num,by rw[ac.out];go_num,below_drewN HB.out _⟩
    case measure=>have:=ab.out;simp[intOf];omega
  ·obtain rfl:k=n:=by omega
   have HV:Hid (l.take k=l):=List.take_of_length_le (by rw[HN.out];exact Nat.le_refl _)
   rw[HV.out]
   go_wp2_with fail
   go_ret
   exact⟨rfl,HB.out⟩
end
section
open Go.RowKit Rs At
theorem zo (l:List Sp):vers (termOf l)<=l.length*2:=by
 have h:=jP 2 (termOf l) (fun x hx=>by obtain⟨s,_,rfl⟩:=List.mem_map.1 hx;exact il s)
 have h2:(termOf l).length=l.length:=by unfold termOf;rw[List.length_map]
 rw[h2] at h;exact h
theorem fQ (name:List UInt8)(A:Option Addr)(n c:Nat)(l:List Sp)(w:World)(hw:MaxOk w)(hm:name.length<=maxLen)(hn:l.length=n)(hr:SRow w A l)(hl:n<=9223372036854775807) :
  Calls Tryz.prog 12 #[.agg #[.string ⟨name.toArray⟩,.slice A n c]] w fun e w'=>e=.returned (.int .i64 (checkA ⟨name,l⟩))/\Below w.heap.size w w':=by
 obtain⟨K,hK⟩:=ex (checkA ⟨name,l⟩)
 rw[hK]
 have aj:Hid (nameB name=false->K=3):=fun h=>by rw[<-hK];unfold checkA;rw[if_neg (by rw[h];decide)]
 have ac:Hid (nameB name=true->checkR l≠0->K=checkR l):=fun h h2=>by rw[<-hK];unfold checkA;rw[if_pos h,if_neg h2]
 have aa:Hid (nameB name=true->checkR l=0->K=if 16<vers (termOf l) then 4 else 0):=fun h h2=>by rw[<-hK];unfold checkA;rw[if_pos h,if_pos h2]
 obtain⟨b,hb⟩:=ex w.heap.size
 obtain⟨W1,ah⟩:=ex (w.alloc (.cells #[.string ⟨name.toArray⟩,.slice A n c] 25))
 have aq:Hid (Bx2 b name A n c W1):=by rw[<-ah,<-hb];exact dk w name A n c _
 have ad:Hid (Below w.heap.size w W1):=by rw[<-ah];exact (Below.refl _ _).alloc (Nat.le_refl _) _
 have ar:Hid (SRow W1 A l):=ao hr ad.out
 have aE:Hid (MaxOk W1):=ag hw ad.out
 have ay:b<W1.heap.size:=by rw[<-ah,<-hb];simp
 have az:=zh ay
 have aA:=zh hm
 have HN:=zh hn
 clear hw hr hK hm hn
 obtain⟨k0,k1⟩:=aq.out
 obtain⟨nb,an⟩:=ex (nameB name)
 obtain⟨cr,ap⟩:=ex (checkR l)
 obtain⟨v,hv⟩:=ex (vers (termOf l))
 have aB:Hid (n<=64->v<=2000):=fun h64=>by have h:=zo l;rw[hv,HN.out] at h;omega
 rw[an] at aj ac aa
 rw[ap] at ac aa
 rw[hv] at aa
 have aC:=zh an
 have au:=zh ap
 have HV:=zh hv
 clear an ap hv
 go_enter Tryz.func12,Tryz.ntmps12
 go_wp2_with fail
 clear hb ah
 refine (iQ name _ aA.out).mono ?_
 rintro _ z1 ⟨rfl,rfl⟩
 rw[aC.out]
 cases nb
 ·have HK:=zh (aj.out rfl)
  go_wp2_with fail
  go_ret
  exact⟨by rw[HK.out];rfl,ad.out⟩
 ·have ak:=zh (ac.out rfl)
  have al:=zh (aa.out rfl)
  clear ac aa aj
  go_wp2_with fail
  refine (oa A n c l _ HN.out ar.out hl).mono ?_
  rintro _ z3 ⟨rfl,ai⟩
  rw[au.out]
  have av:Hid (Below w.heap.size w z3):=bt ad.out ai
  have aD:Hid (SRow z3 A l):=ao ar.out ai
  obtain⟨q0,q1⟩:=aR aq.out az.out ai
  clear ai k0 k1
  by_cases ae:cr=0
  ·subst ae
   have HK:=zh (al.out rfl)
   have ab:Hid (n<=64):=by show n<=64;rw[<-HN.out];have:=(cX au.out).1.2.2;rwa [List.length_map] at this
   go_wp2_with fail
   refine (ob A n c l _ HN.out aD.out (Nat.le_trans ab.out (by decide))).mono ?_
   rintro _ z4 ⟨rfl,ax⟩
   rw[HV.out]
   have aw:Hid (Below w.heap.size w z4):=bt av.out ax
   clear ax
   have aF:=aB.out ab.out
   by_cases af:16<v
   ·have d0:decide ((16:Int)<(v:Int))=true:=decide_eq_true (by omega)
    have am:Hid (K=4):=by show _=_;rw[HK.out,if_pos af]
    clear af
    go_wp2_with fail
    go_ret
    exact⟨by rw[am.out];rfl,aw.out⟩
   ·have d0:decide ((16:Int)<(v:Int))=false:=decide_eq_false (by omega)
    have am:Hid (K=0):=by show _=_;rw[HK.out,if_neg af]
    clear af
    go_wp2_with fail
    go_ret
    exact⟨by rw[am.out];rfl,aw.out⟩
  ·have HK:=zh (ak.out ae)
   have aG:(cr != 0)=true:=bne_iff_ne.2 ae
   clear ae
   go_wp2_with fail
   go_ret
   exact⟨by rw[HK.out];rfl,av.out⟩
end
section
open Go.RowKit Rs At
instance pDecA:DecidableEq (Rm.P Cut):=fun a b=>decidable_of_iff (a.lo=b.lo/\a.hi=b.hi) ⟨fun h=>by cases a;cases b;simp_all,fun h=>by rw[h];exact⟨rfl,rfl⟩⟩
end
section
open Go.RowKit Rs At
attribute [local go_sem ↓] Go.wp_at_zero Go.wp_at_succ
abbrev stA (u:World) (b:Nat) (name:List UInt8) (C:Option Addr) (m d:Nat):World:=(u.setCell ⟨b,0,none⟩ (.string ⟨name.toArray⟩)).setCell ⟨b,1,none⟩ (.slice C m d)
end
end Go.Proofs.YtgnaiidgjmicaaaGreatDoor
