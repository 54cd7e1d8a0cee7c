/- Part 16 of what the laws lean on. -/
import Derived.Test.YtkaeamjnphaadaaGreatDoorL12
set_option maxRecDepth 100000
set_option maxHeartbeats 6400000
namespace Go.Proofs.YtkaeamjnphaadaaGreatDoor
section
open Go.RowKit
theorem dZ (x y:Int)(w:World) :
  Calls Tryz.prog 64 #[.int .i64 x,.int .i64 y] w fun e w'=>e=.returned (.int .i64 (Vm.sgn x y))/\w=w':=by
 rcases Int.lt_trichotomy x y with h | h | h
 ·have H:=zh (Vm.kH h)
  go_enter Tryz.func64,Tryz.ntmps64
  go_wp2_with fail
  go_ret
  exact⟨by rw[H.out];rfl,rfl⟩
 ·have H:=zh ((Vm.bw x y).2 h)
  go_enter Tryz.func64,Tryz.ntmps64
  go_wp2_with fail
  go_ret
  exact⟨by rw[H.out];rfl,rfl⟩
 ·have H:=zh (Vm.kI h)
  go_enter Tryz.func64,Tryz.ntmps64
  go_wp2_with fail
  go_ret
  exact⟨by rw[H.out];rfl,rfl⟩
theorem mE (l:List UInt8)(i:Nat)(w:World) :
  Calls Tryz.prog 299 #[.string ⟨l.toArray⟩,.int .i64 i] w fun e w'=>e=.returned (.int .i64 (Vm.mark l i))/\w=w':=by
 by_cases h:i<l.length
 ·obtain⟨c,hc,aa⟩:=byte_at l i h
  have H:=zh (wi l i h)
  rw[aa] at H
  clear aa
  by_cases h1:c.toNat=126
  ·have h2:((c.toNat:Int)==126)=true:=by simp[h1]
   have H1:=zh h1
   clear h1
   go_enter Tryz.func299,Tryz.ntmps299
   go_wp2_with fail
   go_ret
   exact⟨by rw[H.out];simp[Vm.markB,H1.out],rfl⟩
  ·have h2:((c.toNat:Int)==126)=false:=by simp;omega
   go_enter Tryz.func299,Tryz.ntmps299
   go_wp2_with fail
   refine (kt c _).mono ?_
   rintro e w' ⟨rfl,rfl⟩
   cases hl:Vm.ltr c
   all_goals
    have HL:=zh hl
    clear hl
    go_wp2
   all_goals
    go_ret
    exact⟨by rw[H.out];simp[Vm.markB,HL.out,h1,qe,sj],rfl⟩
 ·have H:=zh (so l i (by omega))
  go_enter Tryz.func299,Tryz.ntmps299
  go_wp2_with fail
  go_ret
  exact⟨by rw[H.out];rfl,rfl⟩
theorem rl (a b:List UInt8)(w:World)(ha:a.length<=1000)(hb:b.length<=1000) :
  Calls Tryz.prog 287 #[.string ⟨a.toArray⟩,.string ⟨b.toArray⟩] w fun e w'=>e=.returned (.int .i64 (Vm.cmpO a b))/\w=w':=by
 obtain⟨M,hM,ab⟩:∃ M:Nat,(∀ k:Nat,k<M↔k<a.length\/k<b.length)/\max a.length b.length=M:=⟨max a.length b.length,by omega,rfl⟩
 have HX:Hid (Vm.cmpO a b=Vm.cmpOF a b M 0):=by show _=_;rw[<-ab];rfl
 have HK:=zh hM
 have ac:M<=1000:=by omega
 clear ab hM
 go_enter Tryz.func287,Tryz.ntmps287
 go_wp2_with fail
 go_loop [5] (fun i=>∃ k:Nat,k<=M/\i=.int .i64 k/\Hid (Vm.cmpO a b=Vm.cmpOF a b (M-k) k)) (fun i=>M-(intOf i).toNat)
 case atStart=>exact⟨0,Nat.zero_le _,rfl,HX⟩
 case round =>
  obtain⟨k,hk,rfl,HE⟩:=hrel
  by_cases aa:k<M
  ·have HS:=zh (nV a b M k aa)
   have ad:=(HK.out k).1 aa
   by_cases ae:k<a.length
   all_goals
    try (have af:k<b.length:=by omega)
    go_wp2_with fail
    refine (mE a k _).mono ?_
    rintro e w' ⟨rfl,rfl⟩
    go_wp2_with fail
    refine (mE b k _).mono ?_
    rintro e w' ⟨rfl,rfl⟩
    obtain⟨x,hx⟩:=ex (Vm.mark a k)
    obtain⟨y,hy⟩:=ex (Vm.mark b k)
    rw[hx,hy] at HS
    rw[hx,hy]
    clear hx hy
    go_wp2_with fail
    refine (dZ _ _ _).mono ?_
    rintro e w' ⟨rfl,rfl⟩
    obtain⟨c,hc⟩:=ex (Vm.sgn x y)
    rw[hc] at HS
    rw[hc]
    clear hc
    cases h0:c==0
    ·have n1:(c != 0)=true:=by rw[bne,h0];rfl
     have HB:Hid (Vm.cmpO a b=c):=by show _=_;rw[HE.out,HS.out,Vm.both,h0];rfl
     clear h0
     go_wp2_with fail
     go_ret
     exact⟨by rw[HB.out];rfl,rfl⟩
    ·have n1:(c != 0)=false:=by rw[bne,h0];rfl
     have HB:Hid (Vm.cmpO a b=Vm.cmpOF a b (M-(k+1)) (k+1)):=by show _=_;rw[HE.out,HS.out,Vm.both,h0];rfl
     clear h0
     go_wp2_with fail
     go_round
     case rel=>exact⟨k+1,by omega,by go_num,HB⟩
     case measure=>simp[intOf];omega
  ·obtain rfl:k=M:=by omega
   have ag:¬ k<a.length:=fun h=>aa ((HK.out k).2 (Or.inl h))
   have ah:¬ k<b.length:=fun h=>aa ((HK.out k).2 (Or.inr h))
   have HB:Hid (Vm.cmpO a b=0):=by show _=_;rw[HE.out,Nat.sub_self];rfl
   go_wp2_with fail
   go_ret
   exact⟨by rw[HB.out];rfl,rfl⟩
theorem wE (l:List UInt8):(if (bareR l).isEmpty then [48] else bareR l)=Vm.bare l:=by
 cases l with
 | nil=>rfl
 | cons c r =>
  rw[jP (c :: r) (by simp),if_neg]
  simp[Vm.gw]
theorem j6:∀ x y:List UInt8,Op.bytesLess x y=decide (Lib.compareBytes x y<0)
 | [],[]=>rfl
 | [],_ :: _=>rfl
 | _ :: _,[]=>rfl
 | a :: x,b :: y=>by
  have ih:=j6 x y
  unfold Op.bytesLess Lib.compareBytes
  by_cases h1:a<b
  ·simp[h1]
  ·by_cases h2:b<a
   ·have:(a==b)=false:=by
     have:a≠b:=fun h=>by subst h;exact UInt8.lt_irrefl a h2
     simpa using this
    simp[h1,h2,this]
   ·have:(a==b)=true:=by
     rw[beq_iff_eq]
     exact UInt8.le_antisymm (UInt8.not_lt.1 h2) (UInt8.not_lt.1 h1)
    simp[h1,h2,this,ih]
theorem rm (a b:List UInt8)(w:World)(ha:a.length<=1000)(hb:b.length<=1000) :
  Calls Tryz.prog 286 #[.string ⟨a.toArray⟩,.string ⟨b.toArray⟩] w fun e w'=>e=.returned (.int .i64 (Vm.cmpD a b))/\Below w.heap.size w w':=by
 have HX:Hid (Vm.cmpD a b=Vm.both (Vm.sgn (Vm.bare a).length (Vm.bare b).length) (Lib.compareBytes (Vm.bare a) (Vm.bare b))):=rfl
 have HA:=zh (wE a)
 have HB:=zh (wE b)
 go_enter Tryz.func286,Tryz.ntmps286
 go_wp2_with fail
 refine (bj a _ ha).mono ?_
 rintro e w' ⟨rfl,rfl⟩
 go_wp2_with fail
 refine (bj b _ hb).mono ?_
 rintro e w' ⟨rfl,rfl⟩
 obtain⟨x,hx⟩:=ex (bareR a)
 obtain⟨y,hy⟩:=ex (bareR b)
 rw[hx] at HA
 rw[hy] at HB
 rw[hx,hy]
 clear hx hy
 cases ae:x.isEmpty
 ·cases ad:y.isEmpty
  ·have ab:Hid (Vm.cmpD a b=Vm.both (Vm.sgn (x.length:Int) (y.length:Int)) (Lib.compareBytes x y)):=by
    show _=_
    rw[HX.out,<-HA.out,<-HB.out,ae,ad];rfl
   clear HX HA HB
   by_cases hl:(x.length:Int)=(y.length:Int)
   ·have n1:((x.length:Int) != (y.length:Int))=false:=by rw[hl];simp
    have HS:Hid (Vm.cmpD a b=Lib.compareBytes x y):=by show _=_;rw[ab.out,hl,(Vm.bw _ _).2 rfl];rfl
    clear hl ab
    have aa:=j6 x y
    have heq:=Vm.jC x y
    have ac:=Vm.gH x y
    obtain⟨c,hc⟩:=ex (Lib.compareBytes x y)
    rw[hc] at aa heq ac HS
    rcases Int.lt_trichotomy c 0 with h | h | h
    ·have e1:Op.bytesLess x y=true:=by rw[aa];simp[h]
     have HV:Hid (c = -1):=by show _=_;omega
     clear aa heq ac h hc
     go_wp2_with fail
     go_ret
     exact⟨by rw[HS.out,HV.out];rfl,Below.refl _ _⟩
    ·have e1:Op.bytesLess x y=false:=by rw[aa];simp;omega
     have e2:(x==y)=true:=by rw[beq_iff_eq];exact heq.1 h
     have HV:Hid (c=0):=h
     clear aa heq ac h hc
     go_wp2_with fail
     go_ret
     exact⟨by rw[HS.out,HV.out];rfl,Below.refl _ _⟩
    ·have e1:Op.bytesLess x y=false:=by rw[aa];simp;omega
     have e2:(x==y)=false:=by rw[beq_eq_false_iff_ne];exact fun e=>by have:=heq.2 e;omega
     have HV:Hid (c=1):=by show _=_;omega
     clear aa heq ac h hc
     go_wp2_with fail
     go_ret
     exact⟨by rw[HS.out,HV.out];rfl,Below.refl _ _⟩
   ·have n1:((x.length:Int) != (y.length:Int))=true:=by simpa using hl
    have HS:Hid (Vm.cmpD a b=Vm.sgn (x.length:Int) (y.length:Int)):=by
     show _=_
     rw[ab.out,Vm.both,if_neg]
     rw[beq_iff_eq,Vm.bw];exact hl
    clear hl ab
    go_wp2_with fail
    refine (dZ _ _ _).mono ?_
    rintro e w' ⟨rfl,rfl⟩
    go_wp2_with fail
    go_ret
    exact⟨by rw[HS.out];rfl,Below.refl _ _⟩
  ·have ab:Hid (Vm.cmpD a b=Vm.both (Vm.sgn (x.length:Int) (1:Int)) (Lib.compareBytes x [48])):=by
    show _=_
    rw[HX.out,<-HA.out,<-HB.out,ae,ad];rfl
   clear HX HA HB
   by_cases hl:(x.length:Int)=(1:Int)
   ·have n1:((x.length:Int) != (1:Int))=false:=by rw[hl];simp
    have HS:Hid (Vm.cmpD a b=Lib.compareBytes x [48]):=by show _=_;rw[ab.out,hl,(Vm.bw _ _).2 rfl];rfl
    clear hl ab
    have aa:=j6 x [48]
    have heq:=Vm.jC x [48]
    have ac:=Vm.gH x [48]
    obtain⟨c,hc⟩:=ex (Lib.compareBytes x [48])
    rw[hc] at aa heq ac HS
    rcases Int.lt_trichotomy c 0 with h | h | h
    ·have e1:Op.bytesLess x [48]=true:=by rw[aa];simp[h]
     have HV:Hid (c = -1):=by show _=_;omega
     clear aa heq ac h hc
     go_wp2_with fail
     go_ret
     exact⟨by rw[HS.out,HV.out];rfl,Below.refl _ _⟩
    ·have e1:Op.bytesLess x [48]=false:=by rw[aa];simp;omega
     have e2:(x==[48])=true:=by rw[beq_iff_eq];exact heq.1 h
     have HV:Hid (c=0):=h
     clear aa heq ac h hc
     go_wp2_with fail
     go_ret
     exact⟨by rw[HS.out,HV.out];rfl,Below.refl _ _⟩
    ·have e1:Op.bytesLess x [48]=false:=by rw[aa];simp;omega
     have e2:(x==[48])=false:=by rw[beq_eq_false_iff_ne];exact fun e=>by have:=heq.2 e;omega
     have HV:Hid (c=1):=by show _=_;omega
     clear aa heq ac h hc
     go_wp2_with fail
     go_ret
     exact⟨by rw[HS.out,HV.out];rfl,Below.refl _ _⟩
   ·have n1:((x.length:Int) != (1:Int))=true:=by simpa using hl
    have HS:Hid (Vm.cmpD a b=Vm.sgn (x.length:Int) (1:Int)):=by
     show _=_
     rw[ab.out,Vm.both,if_neg]
     rw[beq_iff_eq,Vm.bw];exact hl
    clear hl ab
    go_wp2_with fail
    refine (dZ _ _ _).mono ?_
    rintro e w' ⟨rfl,rfl⟩
    go_wp2_with fail
    go_ret
    exact⟨by rw[HS.out];rfl,Below.refl _ _⟩
 ·cases ad:y.isEmpty
  ·have ab:Hid (Vm.cmpD a b=Vm.both (Vm.sgn (1:Int) (y.length:Int)) (Lib.compareBytes [48] y)):=by
    show _=_
    rw[HX.out,<-HA.out,<-HB.out,ae,ad];rfl
   clear HX HA HB
   by_cases hl:(1:Int)=(y.length:Int)
   ·have n1:((1:Int) != (y.length:Int))=false:=by rw[hl];simp
    have HS:Hid (Vm.cmpD a b=Lib.compareBytes [48] y):=by show _=_;rw[ab.out,hl,(Vm.bw _ _).2 rfl];rfl
    clear hl ab
    have aa:=j6 [48] y
    have heq:=Vm.jC [48] y
    have ac:=Vm.gH [48] y
    obtain⟨c,hc⟩:=ex (Lib.compareBytes [48] y)
    rw[hc] at aa heq ac HS
    rcases Int.lt_trichotomy c 0 with h | h | h
    ·have e1:Op.bytesLess [48] y=true:=by rw[aa];simp[h]
     have HV:Hid (c = -1):=by show _=_;omega
     clear aa heq ac h hc
     go_wp2_with fail
     go_ret
     exact⟨by rw[HS.out,HV.out];rfl,Below.refl _ _⟩
    ·have e1:Op.bytesLess [48] y=false:=by rw[aa];simp;omega
     have e2:([48]==y)=true:=by rw[beq_iff_eq];exact heq.1 h
     have HV:Hid (c=0):=h
     clear aa heq ac h hc
     go_wp2_with fail
     go_ret
     exact⟨by rw[HS.out,HV.out];rfl,Below.refl _ _⟩
    ·have e1:Op.bytesLess [48] y=false:=by rw[aa];simp;omega
     have e2:([48]==y)=false:=by rw[beq_eq_false_iff_ne];exact fun e=>by have:=heq.2 e;omega
     have HV:Hid (c=1):=by show _=_;omega
     clear aa heq ac h hc
     go_wp2_with fail
     go_ret
     exact⟨by rw[HS.out,HV.out];rfl,Below.refl _ _⟩
   ·have n1:((1:Int) != (y.length:Int))=true:=by simpa using hl
    have HS:Hid (Vm.cmpD a b=Vm.sgn (1:Int) (y.length:Int)):=by
     show _=_
     rw[ab.out,Vm.both,if_neg]
     rw[beq_iff_eq,Vm.bw];exact hl
    clear hl ab
    go_wp2_with fail
    refine (dZ _ _ _).mono ?_
    rintro e w' ⟨rfl,rfl⟩
    go_wp2_with fail
    go_ret
    exact⟨by rw[HS.out];rfl,Below.refl _ _⟩
  ·have ab:Hid (Vm.cmpD a b=Vm.both (Vm.sgn (1:Int) (1:Int)) (Lib.compareBytes [48] [48])):=by
    show _=_
    rw[HX.out,<-HA.out,<-HB.out,ae,ad];rfl
   go_wp2_with fail
   go_ret
   exact⟨by rw[ab.out];rfl,Below.refl _ _⟩
end
section
open Go.RowKit
theorem ec (n:Nat)(a b:List UInt8)(w:World)(hn:n<=1000)(ha:a.length<=n)(hb:b.length<=n) :
  Calls Tryz.prog 261 #[.string ⟨a.toArray⟩,.string ⟨b.toArray⟩] w fun e w'=>e=.returned (.int .i64 (Vm.cmpP n a b))/\Below w.heap.size w w':=by
 go_enter Tryz.func261,Tryz.ntmps261
 go_wp2_with fail
 go_loopw [0,1] (fun p q wr=>∃ (m:Nat) (c d:List UInt8),m<=n/\c.length<=m/\d.length<=m/\p=.string ⟨c.toArray⟩/\q=.string ⟨d.toArray⟩/\Hid (Vm.cmpP n a b=Vm.cmpP m c d)/\Below w.heap.size w wr) (fun p q _=>strLen p+strLen q)
 case atStart=>exact⟨n,a,b,Nat.le_refl _,ha,hb,rfl,rfl,rfl,Below.refl _ _⟩
 case round =>
  obtain⟨m,c,d,hm,hc,hd,rfl,rfl,HE,af⟩:=hrel
  by_cases ac:(c.isEmpty&&d.isEmpty)=true
  ·have HB:Hid (Vm.cmpP n a b=0):=by show _=_;rw[HE.out];exact sw _ _ _ ac
   have h1:c.isEmpty=true:=by cases hc:c.isEmpty <;> simp_all
   have h2:d.isEmpty=true:=by cases hd:d.isEmpty <;> simp_all
   clear ac
   go_wp2_with fail
   go_ret
   exact⟨by rw[HB.out];rfl,af⟩
  ·have aa:(c.isEmpty&&d.isEmpty)=false:=by simpa using ac
   clear ac
   have ag:0<m:=by
    rcases Nat.eq_zero_or_pos m with h | h
    ·subst h
     have h1:c=[]:=List.eq_nil_of_length_eq_zero (by omega)
     have h2:d=[]:=List.eq_nil_of_length_eq_zero (by omega)
     subst h1 h2;simp at aa
    ·exact h
   obtain⟨m',rfl⟩:∃ m',m=m'+1:=⟨m-1,by omega⟩
   have HS:=zh (qg m' c d aa)
   have l1:=cW c
   have k1:=pw c
   have k2:=pw d
   have l2:=cW d
   have l3:=jk (Vm.undigs c)
   have l4:=jk (Vm.undigs d)
   have l5:(Vm.tail2 c).length<=m':=by
    cases he:c.isEmpty
    ·have:=cC c he;omega
    ·have:c=[]:=by simpa using he
     subst this;show 0<=m';omega
   have l6:(Vm.tail2 d).length<=m':=by
    cases he:d.isEmpty
    ·have:=cC d he;omega
    ·have:d=[]:=by simpa using he
     subst this;show 0<=m';omega
   have l7:(Vm.tail2 c).length+(Vm.tail2 d).length<c.length+d.length:=by
    have h1:=jQ c
    have h2:=jQ d
    cases he:c.isEmpty
    ·have:=cC c he;omega
    ·cases aj:d.isEmpty
     ·have:=cC d aj;omega
     ·rw[he,aj] at aa;cases aa
   have an:=zh l5
   have ao:=zh l6
   have ap:=zh l7
   have HM:=zh aa
   clear l5 l6 l7 aa ag
   cases aq:c.isEmpty
   all_goals
    try (have ar:d.isEmpty=false:=by have:=HM.out;rw[aq] at this;simpa using this)
    go_wp2_with fail
    refine (runT c _ (by omega)).mono ?_
    rintro e w1 ⟨rfl,ah⟩
    go_wp2_with fail
    refine (runT d _ (by omega)).mono ?_
    rintro e w2 ⟨rfl,ak⟩
    have ad:Below w.heap.size w w2:=(bt af ah).trans (ak.mono (Nat.le_trans af.size ah.size))
    clear ah ak
    go_wp2_with fail
    refine (rm _ _ _ (by omega) (by omega)).mono ?_
    rintro e w3 ⟨rfl,al⟩
    have ab:Below w.heap.size w w3:=bt ad al
    clear al ad
    obtain⟨x,hx⟩:=ex (Vm.cmpD (Vm.digs c) (Vm.digs d))
    rw[hx] at HS
    rw[hx]
    clear hx
    cases h0:x==0
    ·have n1:(x != 0)=true:=by rw[bne,h0];rfl
     have HB:Hid (Vm.cmpP n a b=x):=by show _=_;rw[HE.out,HS.out,Vm.both,h0];rfl
     clear h0
     go_wp2_with fail
     go_ret
     exact⟨by rw[HB.out];rfl,ab⟩
    ·have n1:(x != 0)=false:=by rw[bne,h0];rfl
     have HB:Hid (Vm.cmpP n a b=Vm.both (Vm.cmpO (Vm.oths (Vm.undigs c)) (Vm.oths (Vm.undigs d))) (Vm.cmpP m' (Vm.tail2 c) (Vm.tail2 d))):=by show _=_;rw[HE.out,HS.out,Vm.both,h0];rfl
     clear h0
     go_wp2_with fail
     refine (runF _ _ (by omega)).mono ?_
     rintro e w4 ⟨rfl,ai⟩
     go_wp2_with fail
     refine (runF _ _ (by omega)).mono ?_
     rintro e w5 ⟨rfl,am⟩
     have ae:Below w.heap.size w w5:=(bt ab ai).trans (am.mono (Nat.le_trans ab.size ai.size))
     clear ai am ab
     go_wp2_with fail
     refine (rl _ _ _ (by omega) (by omega)).mono ?_
     rintro e w6 ⟨rfl,rfl⟩
     obtain⟨y,hy⟩:=ex (Vm.cmpO (Vm.oths (Vm.undigs c)) (Vm.oths (Vm.undigs d)))
     rw[hy] at HB
     rw[hy]
     clear hy
     cases h0:y==0
     ·have n1:(y != 0)=true:=by rw[bne,h0];rfl
      have HC:Hid (Vm.cmpP n a b=y):=by show _=_;rw[HB.out,Vm.both,h0];rfl
      clear h0
      go_wp2_with fail
      go_ret
      exact⟨by rw[HC.out];rfl,ae⟩
     ·have n1:(y != 0)=false:=by rw[bne,h0];rfl
      have HC:Hid (Vm.cmpP n a b=Vm.cmpP m' (Vm.tail2 c) (Vm.tail2 d)):=by show _=_;rw[HB.out,Vm.both,h0];rfl
      clear h0
      go_wp2_with fail
      go_roundw
      case rel=>exact⟨m',Vm.tail2 c,Vm.tail2 d,by omega,an.out,ao.out,rfl,rfl,HC,ae⟩
      case measure=>have:=ap.out;simpa [strLen,Vm.tail2] using this
theorem s7 {l:List UInt8}(h:Vm.check l=0):Vm.rv l=(if (rvR l).isEmpty then [48] else rvR l):=by
 have hv:=(bY h).2.2.2
 unfold rvR Vm.rv at *
 cases h1:Vm.has 45 (Vm.rest l)
 ·rfl
 ·rw[h1] at hv
  simp only[if_true] at hv ⊢
  have aa:(Vm.snd 45 (Vm.rest l)).isEmpty=false:=by
   have:=((Vm.jJ _).1 hv).1
   simpa using this
  rw[aa];rfl
theorem xW {l m:List UInt8}(h1:Vm.check l=0)(h2:Vm.check m=0) :
  Vm.cmpV l m=Vm.both (Vm.sgn (Vm.num (Vm.ep l)) (Vm.num (Vm.ep m))) (Vm.both (Vm.cmpP 41 (Vm.pt l) (Vm.pt m)) (Vm.cmpP 41 (if (rvR l).isEmpty then [48] else rvR l) (if (rvR m).isEmpty then [48] else rvR m))):=by
 unfold Vm.cmpV
 rw[s7 h1,s7 h2,Vm.abm _ _ ((Vm.gJ _).1 (Vm.cQ h1).2.1).2.2 ((Vm.gJ _).1 (Vm.cQ h2).2.1).2.2]
theorem wF {l:List UInt8}(h:Vm.check l=0):(rvR l).length<=41:=by
 have:=(Vm.eM h).1
 rw[s7 h] at this
 cases hr:(rvR l).isEmpty
 ·rw[hr] at this;exact this
 ·have:rvR l=[]:=by simpa using hr
  rw[this];simp
theorem pF (l m:List UInt8)(w:World)(h1:Vm.check l=0)(h2:Vm.check m=0) :
  Calls Tryz.prog 221 #[.string ⟨l.toArray⟩,.string ⟨m.toArray⟩] w fun e w'=>e=.returned (.int .i64 (Vm.cmpV l m))/\Below w.heap.size w w':=by
 have HX:=zh (xW h1 h2)
 have H1:=zh h1
 have H2:=zh h2
 have p1:=(Vm.eM h1).2
 have p2:=(Vm.eM h2).2
 have r1:=wF h1
 have r2:=wF h2
 clear h1 h2
 go_enter Tryz.func221,Tryz.ntmps221
 go_wp2_with fail
 refine (iC l _ H1.out).mono ?_
 rintro _ w2 ⟨rfl,rfl⟩
 go_wp2_with fail
 refine (iC m _ H2.out).mono ?_
 rintro _ w2 ⟨rfl,rfl⟩
 obtain⟨p,hp⟩:=ex (Vm.pt l)
 obtain⟨q,hq⟩:=ex (Vm.pt m)
 obtain⟨r,hr⟩:=ex (rvR l)
 obtain⟨s,hs⟩:=ex (rvR m)
 rw[hp] at HX p1
 rw[hq] at HX p2
 rw[hr] at HX r1
 rw[hs] at HX r2
 rw[hp,hq,hr,hs]
 clear hp hq hr hs
 go_wp2_with fail
 refine (kX l _ H1.out).mono ?_
 rintro _ w2 ⟨rfl,rfl⟩
 go_wp2_with fail
 refine (kX m _ H2.out).mono ?_
 rintro _ w2 ⟨rfl,rfl⟩
 obtain⟨i,hi⟩:=ex (Vm.num (Vm.ep l))
 obtain⟨j,hj⟩:=ex (Vm.num (Vm.ep m))
 rw[hi,hj] at HX
 rw[hi,hj]
 clear hi hj
 go_wp2_with fail
 refine (dZ _ _ _).mono ?_
 rintro _ w2 ⟨rfl,rfl⟩
 obtain⟨c,hc⟩:=ex (Vm.sgn (i:Int) (j:Int))
 rw[hc] at HX
 rw[hc]
 clear hc
 cases h0:c==0
 ·have n1:(c != 0)=true:=by rw[bne,h0];rfl
  have HB:Hid (Vm.cmpV l m=c):=by show _=_;rw[HX.out,Vm.both,h0];rfl
  clear h0 HX
  go_wp2_with fail
  go_ret
  exact⟨by rw[HB.out];rfl,Below.refl _ _⟩
 ·have n1:(c != 0)=false:=by rw[bne,h0];rfl
  have HB:Hid (Vm.cmpV l m=Vm.both (Vm.cmpP 41 p q) (Vm.cmpP 41 (if r.isEmpty then [48] else r) (if s.isEmpty then [48] else s))):=by show _=_;rw[HX.out,Vm.both,h0];rfl
  clear h0 HX
  go_wp2_with fail
  refine (ec 41 p q _ (by omega) p1 p2).mono ?_
  rintro _ w2 ⟨rfl,hb⟩
  obtain⟨d,hd⟩:=ex (Vm.cmpP 41 p q)
  rw[hd] at HB
  rw[hd]
  clear hd
  cases h0:d==0
  ·have n2:(d != 0)=true:=by rw[bne,h0];rfl
   have HC:Hid (Vm.cmpV l m=d):=by show _=_;rw[HB.out,Vm.both,h0];rfl
   clear h0 HB
   go_wp2_with fail
   go_ret
   exact⟨by rw[HC.out];rfl,hb⟩
  ·have n2:(d != 0)=false:=by rw[bne,h0];rfl
   have HC:Hid (Vm.cmpV l m=Vm.cmpP 41 (if r.isEmpty then [48] else r) (if s.isEmpty then [48] else s)):=by show _=_;rw[HB.out,Vm.both,h0];rfl
   clear h0 HB
   have ab:=zh hb
   clear hb
   cases hr:r.isEmpty
   ·cases hs:s.isEmpty
    ·have HD:Hid (Vm.cmpV l m=Vm.cmpP 41 r s):=by show _=_;rw[HC.out,hr,hs];rfl
     clear HC
     go_wp2_with fail
     refine (ec 41 r s _ (by omega) (by first | assumption | decide) (by first | assumption | decide)).mono ?_
     rintro _ w3 ⟨rfl,hb⟩
     have aa:=zh (bt ab.out hb)
     clear hb
     rw[<-HD.out]
     go_wp2_with fail
     go_ret
     exact⟨rfl,aa.out⟩
    ·have HD:Hid (Vm.cmpV l m=Vm.cmpP 41 r [48]):=by show _=_;rw[HC.out,hr,hs];rfl
     clear HC
     go_wp2_with fail
     refine (ec 41 r [48] _ (by omega) (by first | assumption | decide) (by first | assumption | decide)).mono ?_
     rintro _ w3 ⟨rfl,hb⟩
     have aa:=zh (bt ab.out hb)
     clear hb
     rw[<-HD.out]
     go_wp2_with fail
     go_ret
     exact⟨rfl,aa.out⟩
   ·cases hs:s.isEmpty
    ·have HD:Hid (Vm.cmpV l m=Vm.cmpP 41 [48] s):=by show _=_;rw[HC.out,hr,hs];rfl
     clear HC
     go_wp2_with fail
     refine (ec 41 [48] s _ (by omega) (by first | assumption | decide) (by first | assumption | decide)).mono ?_
     rintro _ w3 ⟨rfl,hb⟩
     have aa:=zh (bt ab.out hb)
     clear hb
     rw[<-HD.out]
     go_wp2_with fail
     go_ret
     exact⟨rfl,aa.out⟩
    ·have HD:Hid (Vm.cmpV l m=Vm.cmpP 41 [48] [48]):=by show _=_;rw[HC.out,hr,hs];rfl
     clear HC
     go_wp2_with fail
     refine (ec 41 [48] [48] _ (by omega) (by first | assumption | decide) (by first | assumption | decide)).mono ?_
     rintro _ w3 ⟨rfl,hb⟩
     have aa:=zh (bt ab.out hb)
     clear hb
     rw[<-HD.out]
     go_wp2_with fail
     go_ret
     exact⟨rfl,aa.out⟩
end
section
open Go.RowKit
theorem zO (v:List UInt8)(w:World) :
  Calls Tryz.prog 222 #[.string ⟨v.toArray⟩] w fun e w'=>e=.returned (.int .i64 (Rs.bound v))/\Below w.heap.size w w':=by
 cases hv:v.isEmpty
 ·by_cases hc:Vm.check v=0
  ·have HK:=zh hc
   have HX:Hid (canonOf v=Vm.canon v):=by show _=_;rw[canonOf,if_pos hc]
   cases he:Vm.canon v==v
   ·have HB:Hid (Rs.bound v=5):=by show _=_;unfold Rs.bound;rw[hv,if_neg Bool.false_ne_true,if_pos hc,he];rfl
    obtain⟨x,hx⟩:=ex (Vm.canon v)
    rw[hx] at he HX
    clear hx hc
    go_enter Tryz.func222,Tryz.ntmps222
    go_wp2_with fail
    refine (cT v _).mono ?_
    rintro _ w1 ⟨rfl,hb⟩
    rw[HX.out,HK.out]
    have aa:=zh hb
    clear hb
    go_wp2_with fail
    go_ret
    exact⟨by rw[HB.out];rfl,aa.out⟩
   ·have HB:Hid (Rs.bound v=0):=by show _=_;unfold Rs.bound;rw[hv,if_neg Bool.false_ne_true,if_pos hc,he];rfl
    obtain⟨x,hx⟩:=ex (Vm.canon v)
    rw[hx] at he HX
    clear hx hc
    go_enter Tryz.func222,Tryz.ntmps222
    go_wp2_with fail
    refine (cT v _).mono ?_
    rintro _ w1 ⟨rfl,hb⟩
    rw[HX.out,HK.out]
    have aa:=zh hb
    clear hb
    go_wp2_with fail
    go_ret
    exact⟨by rw[HB.out];rfl,aa.out⟩
  ·have HB:Hid (Rs.bound v=Vm.check v):=by show _=_;unfold Rs.bound;rw[hv,if_neg Bool.false_ne_true,if_neg hc]
   obtain⟨k,hk⟩:=ex (Vm.check v)
   rw[hk] at HB hc
   have HK:=zh hk
   clear hk
   go_enter Tryz.func222,Tryz.ntmps222
   go_wp2_with fail
   refine (cT v _).mono ?_
   rintro _ w1 ⟨rfl,hb⟩
   rw[HK.out]
   have aa:=zh hb
   clear hb
   go_wp2_with fail
   go_ret
   exact⟨by rw[HB.out];rfl,aa.out⟩
 ·have HB:Hid (Rs.bound v=0):=by show _=_;unfold Rs.bound;rw[hv];rfl
  go_enter Tryz.func222,Tryz.ntmps222
  go_wp2_with fail
  go_ret
  exact⟨by rw[HB.out];rfl,Below.refl _ _⟩
def lowerS (a b:Rs.Sp):Bool:=if a.lo.isEmpty||b.lo.isEmpty then a.lo.isEmpty&&!b.lo.isEmpty else decide (Vm.cmpV a.lo b.lo<0)||(decide (Vm.cmpV a.lo b.lo=0)&&(a.li&&!b.li))
def beyondS (a b:Rs.Sp):Bool:=if a.hi.isEmpty||b.hi.isEmpty then a.hi.isEmpty&&!b.hi.isEmpty else decide (0<Vm.cmpV a.hi b.hi)||(decide (Vm.cmpV a.hi b.hi=0)&&(a.hn&&!b.hn))
def touchS (a b:Rs.Sp):Bool:=if a.hi.isEmpty||b.lo.isEmpty then true else decide (Vm.cmpV b.lo a.hi<0)||(decide (Vm.cmpV b.lo a.hi=0)&&(b.li||a.hn))
theorem zP {p q:Rm.P Rs.Cut}(hp:Rs.Ok2 p)(hq:Rs.Ok2 q):lowerS (Rs.spOf p) (Rs.spOf q)=Rm.lt Rs.Ln p.lo q.lo:=by
 obtain⟨pl,ph⟩:=p
 obtain⟨ql,qh⟩:=q
 have h1:Rs.LoOk pl:=hp.1
 have h2:Rs.LoOk ql:=hq.1
 show (if (Rs.txt pl).isEmpty||(Rs.txt ql).isEmpty then (Rs.txt pl).isEmpty&&!(Rs.txt ql).isEmpty else decide (Vm.cmpV (Rs.txt pl) (Rs.txt ql)<0)||(decide (Vm.cmpV (Rs.txt pl) (Rs.txt ql)=0)&&(Rs.loI pl&&!Rs.loI ql)))=Rm.lt Rs.Ln pl ql
 cases pl with
 | top=>exact h1.elim
 | bot =>
  cases ql with
  | top=>exact h2.elim
  | bot=>rfl
  | pos w b=>show (if true||w.isEmpty then true&&!w.isEmpty else _)=_;rw[Rs.aD h2];rfl
 | pos v a =>
  cases ql with
  | top=>exact h2.elim
  | bot=>show (if v.isEmpty||true then v.isEmpty&&!true else _)=_;rw[Rs.aD h1];rfl
  | pos w b =>
   show (if v.isEmpty||w.isEmpty then _ else decide (Vm.cmpV v w<0)||(decide (Vm.cmpV v w=0)&&(!a&&!!b)))=_
   rw[Rs.aD h1,Rs.aD h2,Rs.nQ h1 h2,Bool.not_not];rfl
theorem xX {p q:Rm.P Rs.Cut}(hp:Rs.Ok2 p)(hq:Rs.Ok2 q):beyondS (Rs.spOf p) (Rs.spOf q)=Rm.lt Rs.Ln q.hi p.hi:=by
 obtain⟨pl,ph⟩:=p
 obtain⟨ql,qh⟩:=q
 have h1:Rs.HiOk ph:=hp.2
 have h2:Rs.HiOk qh:=hq.2
 show (if (Rs.txt ph).isEmpty||(Rs.txt qh).isEmpty then (Rs.txt ph).isEmpty&&!(Rs.txt qh).isEmpty else decide (0<Vm.cmpV (Rs.txt ph) (Rs.txt qh))||(decide (Vm.cmpV (Rs.txt ph) (Rs.txt qh)=0)&&(Rs.aft ph&&!Rs.aft qh)))=Rm.lt Rs.Ln qh ph
 cases ph with
 | bot=>exact h1.elim
 | top =>
  cases qh with
  | bot=>exact h2.elim
  | top=>rfl
  | pos w b=>show (if true||w.isEmpty then true&&!w.isEmpty else _)=_;rw[Rs.aD h2];rfl
 | pos v a =>
  cases qh with
  | bot=>exact h2.elim
  | top=>show (if v.isEmpty||true then v.isEmpty&&!true else _)=_;rw[Rs.aD h1];rfl
  | pos w b =>
   show (if v.isEmpty||w.isEmpty then _ else decide (0<Vm.cmpV v w)||(decide (Vm.cmpV v w=0)&&(a&&!b)))=_
   rw[Rs.aD h1,Rs.aD h2,Rs.nQ h2 h1,Vm.fe.1 v w,Bool.eq_iff_iff]
   cases a <;> cases b <;> simp <;> omega
theorem zQ {p q:Rm.P Rs.Cut}(hp:Rs.Ok2 p)(hq:Rs.Ok2 q):touchS (Rs.spOf p) (Rs.spOf q)=Rs.Ln.le q.lo p.hi:=by
 obtain⟨pl,ph⟩:=p
 obtain⟨ql,qh⟩:=q
 have h1:Rs.HiOk ph:=hp.2
 have h2:Rs.LoOk ql:=hq.1
 show (if (Rs.txt ph).isEmpty||(Rs.txt ql).isEmpty then true else decide (Vm.cmpV (Rs.txt ql) (Rs.txt ph)<0)||(decide (Vm.cmpV (Rs.txt ql) (Rs.txt ph)=0)&&(Rs.loI ql||Rs.aft ph)))=Rs.Ln.le ql ph
 cases ph with
 | bot=>exact h1.elim
 | top=>cases ql <;> rfl
 | pos v a =>
  cases ql with
  | top=>exact h2.elim
  | bot=>show (if v.isEmpty||true then true else _)=_;rw[Bool.or_true];rfl
  | pos w b =>
   show (if v.isEmpty||w.isEmpty then true else decide (Vm.cmpV w v<0)||(decide (Vm.cmpV w v=0)&&(!b||a)))=_
   rw[Rs.aD h1,Rs.aD h2,Rs.aff h2 h1];rfl
end
section
open Go.RowKit Rs
attribute [local go_sem ↓] Go.wp_at_zero Go.wp_at_succ
theorem dt (l m:List UInt8)(c:Int)(w:World)(h1:Vm.check l=0)(h2:Vm.check m=0)(hc:Vm.cmpV l m=c) :
  Calls Tryz.prog 221 #[.string ⟨l.toArray⟩,.string ⟨m.toArray⟩] w fun e w'=>e=.returned (.int .i64 c)/\Below w.heap.size w w':=by
 have:=pF l m w h1 h2;rw[hc] at this;exact this
theorem zR (lo hi:List UInt8)(li hn:Bool)(lo' hi':List UInt8)(li' hn':Bool)(w:World)(h1:lo.isEmpty=false->Vm.check lo=0)(h2:lo'.isEmpty=false->Vm.check lo'=0) :
  Calls Tryz.prog 186 #[.agg #[.string ⟨lo.toArray⟩,.string ⟨hi.toArray⟩,.bool li,.bool hn],.agg #[.string ⟨lo'.toArray⟩,.string ⟨hi'.toArray⟩,.bool li',.bool hn']] w fun e w'=>e=.returned (.bool (lowerS (Sp.mk lo hi li hn) (Sp.mk lo' hi' li' hn')))/\Below w.heap.size w w':=by
 have H1:=zh h1
 have H2:=zh h2
 obtain⟨R,hR⟩:=ex (lowerS (Sp.mk lo hi li hn) (Sp.mk lo' hi' li' hn'))
 rw[hR]
 have HR:=zh hR
 have aa:Stable (fun u=>Box2 w u lo hi li hn lo' hi' li' hn'):=fC w _ _ _ _ _ _ _ _
 have HI:=jU w 230 lo hi li hn lo' hi' li' hn'
 clear h1 h2 hR
 cases e1:lo.isEmpty
 ·cases e2:lo'.isEmpty
  ·have K1:=zh (H1.out e1)
   have K2:=zh (H2.out e2)
   obtain⟨c,hc⟩:=ex (Vm.cmpV lo lo')
   have rg:=Vm.cF lo lo'
   have HC:=zh hc
   rw[hc] at rg
   have HF:Hid (∀ b,b=lowerS (Sp.mk lo hi li hn) (Sp.mk lo' hi' li' hn')->b=R):=fun b hb=>hb.trans HR.out
   clear H1 H2 hc HR
   go_enter Tryz.func186,Tryz.ntmps186
   go_wp2_with fail
   refine (dt lo lo' c _ K1.out K2.out HC.out).mono ?_
   rintro _ w1 ⟨rfl,hb⟩
   have ab:=a9 aa hb HI
   clear hb HI aa
   obtain⟨⟨⟨c0,c1,c2,c3,_⟩,⟨d0,d1,d2,d3,_⟩⟩,_⟩:=ab.out
   rcases (show c = -1\/c=0\/c=1 by omega) with rfl | rfl | rfl
   all_goals
    cases li <;> cases li'
   all_goals
    go_wp2_with fail
    go_ret
    refine⟨?_,ba ab⟩
    rw[<-HF.out _ rfl]
    unfold lowerS
    rw[e1,e2,HC.out]
    rfl
  ·have HF:Hid (∀ b,b=lowerS (Sp.mk lo hi li hn) (Sp.mk lo' hi' li' hn')->b=R):=fun b hb=>hb.trans HR.out
   clear H1 H2 HR aa
   go_enter Tryz.func186,Tryz.ntmps186
   go_wp2_with fail
   go_ret
   refine⟨?_,ba HI⟩
   rw[<-HF.out _ rfl]
   unfold lowerS
   rw[e1,e2]
   rfl
 ·cases e2:lo'.isEmpty
  all_goals
   have HF:Hid (∀ b,b=lowerS (Sp.mk lo hi li hn) (Sp.mk lo' hi' li' hn')->b=R):=fun b hb=>hb.trans HR.out
   clear H1 H2 HR aa
   go_enter Tryz.func186,Tryz.ntmps186
   go_wp2_with fail
   go_ret
   refine⟨?_,ba HI⟩
   rw[<-HF.out _ rfl]
   unfold lowerS
   rw[e1,e2]
   rfl
theorem xY (lo hi:List UInt8)(li hn:Bool)(lo' hi':List UInt8)(li' hn':Bool)(w:World)(h1:hi.isEmpty=false->Vm.check hi=0)(h2:hi'.isEmpty=false->Vm.check hi'=0) :
  Calls Tryz.prog 187 #[.agg #[.string ⟨lo.toArray⟩,.string ⟨hi.toArray⟩,.bool li,.bool hn],.agg #[.string ⟨lo'.toArray⟩,.string ⟨hi'.toArray⟩,.bool li',.bool hn']] w fun e w'=>e=.returned (.bool (beyondS (Sp.mk lo hi li hn) (Sp.mk lo' hi' li' hn')))/\Below w.heap.size w w':=by
 have H1:=zh h1
 have H2:=zh h2
 obtain⟨R,hR⟩:=ex (beyondS (Sp.mk lo hi li hn) (Sp.mk lo' hi' li' hn'))
 rw[hR]
 have HR:=zh hR
 have aa:Stable (fun u=>Box2 w u lo hi li hn lo' hi' li' hn'):=fC w _ _ _ _ _ _ _ _
 have HI:=jU w 230 lo hi li hn lo' hi' li' hn'
 clear h1 h2 hR
 cases e1:hi.isEmpty
 ·cases e2:hi'.isEmpty
  ·have K1:=zh (H1.out e1)
   have K2:=zh (H2.out e2)
   obtain⟨c,hc⟩:=ex (Vm.cmpV hi hi')
   have rg:=Vm.cF hi hi'
   have HC:=zh hc
   rw[hc] at rg
   have HF:Hid (∀ b,b=beyondS (Sp.mk lo hi li hn) (Sp.mk lo' hi' li' hn')->b=R):=fun b hb=>hb.trans HR.out
   clear H1 H2 hc HR
   go_enter Tryz.func187,Tryz.ntmps187
   go_wp2_with fail
   refine (dt hi hi' c _ K1.out K2.out HC.out).mono ?_
   rintro _ w1 ⟨rfl,hb⟩
   have ab:=a9 aa hb HI
   clear hb HI aa
   obtain⟨⟨⟨c0,c1,c2,c3,_⟩,⟨d0,d1,d2,d3,_⟩⟩,_⟩:=ab.out
   rcases (show c = -1\/c=0\/c=1 by omega) with rfl | rfl | rfl
   all_goals
    cases hn <;> cases hn'
   all_goals
    go_wp2_with fail
    go_ret
    refine⟨?_,ba ab⟩
    rw[<-HF.out _ rfl]
    unfold beyondS
    rw[e1,e2,HC.out]
    rfl
  ·have HF:Hid (∀ b,b=beyondS (Sp.mk lo hi li hn) (Sp.mk lo' hi' li' hn')->b=R):=fun b hb=>hb.trans HR.out
   clear H1 H2 HR aa
   go_enter Tryz.func187,Tryz.ntmps187
   go_wp2_with fail
   go_ret
   refine⟨?_,ba HI⟩
   rw[<-HF.out _ rfl]
   unfold beyondS
   rw[e1,e2]
   rfl
 ·cases e2:hi'.isEmpty
  all_goals
   have HF:Hid (∀ b,b=beyondS (Sp.mk lo hi li hn) (Sp.mk lo' hi' li' hn')->b=R):=fun b hb=>hb.trans HR.out
   clear H1 H2 HR aa
   go_enter Tryz.func187,Tryz.ntmps187
   go_wp2_with fail
   go_ret
   refine⟨?_,ba HI⟩
   rw[<-HF.out _ rfl]
   unfold beyondS
   rw[e1,e2]
   rfl
theorem zS (lo hi:List UInt8)(li hn:Bool)(lo' hi':List UInt8)(li' hn':Bool)(w:World)(h1:hi.isEmpty=false->Vm.check hi=0)(h2:lo'.isEmpty=false->Vm.check lo'=0) :
  Calls Tryz.prog 223 #[.agg #[.string ⟨lo.toArray⟩,.string ⟨hi.toArray⟩,.bool li,.bool hn],.agg #[.string ⟨lo'.toArray⟩,.string ⟨hi'.toArray⟩,.bool li',.bool hn']] w fun e w'=>e=.returned (.bool (touchS (Sp.mk lo hi li hn) (Sp.mk lo' hi' li' hn')))/\Below w.heap.size w w':=by
 have H1:=zh h1
 have H2:=zh h2
 obtain⟨R,hR⟩:=ex (touchS (Sp.mk lo hi li hn) (Sp.mk lo' hi' li' hn'))
 rw[hR]
 have HR:=zh hR
 have aa:Stable (fun u=>Box2 w u lo hi li hn lo' hi' li' hn'):=fC w _ _ _ _ _ _ _ _
 have HI:=jU w 230 lo hi li hn lo' hi' li' hn'
 clear h1 h2 hR
 cases e1:hi.isEmpty
 ·cases e2:lo'.isEmpty
  ·have K1:=zh (H1.out e1)
   have K2:=zh (H2.out e2)
   obtain⟨c,hc⟩:=ex (Vm.cmpV lo' hi)
   have rg:=Vm.cF lo' hi
   have HC:=zh hc
   rw[hc] at rg
   have HF:Hid (∀ b,b=touchS (Sp.mk lo hi li hn) (Sp.mk lo' hi' li' hn')->b=R):=fun b hb=>hb.trans HR.out
   clear H1 H2 hc HR
   go_enter Tryz.func223,Tryz.ntmps223
   go_wp2_with fail
   refine (dt lo' hi c _ K2.out K1.out HC.out).mono ?_
   rintro _ w1 ⟨rfl,hb⟩
   have ab:=a9 aa hb HI
   clear hb HI aa
   obtain⟨⟨⟨c0,c1,c2,c3,_⟩,⟨d0,d1,d2,d3,_⟩⟩,_⟩:=ab.out
   rcases (show c = -1\/c=0\/c=1 by omega) with rfl | rfl | rfl
   all_goals
    cases li' <;> cases hn
   all_goals
    go_wp2_with fail
    go_ret
    refine⟨?_,ba ab⟩
    rw[<-HF.out _ rfl]
    unfold touchS
    rw[e1,e2,HC.out]
    rfl
  ·have HF:Hid (∀ b,b=touchS (Sp.mk lo hi li hn) (Sp.mk lo' hi' li' hn')->b=R):=fun b hb=>hb.trans HR.out
   clear H1 H2 HR aa
   go_enter Tryz.func223,Tryz.ntmps223
   go_wp2_with fail
   go_ret
   refine⟨?_,ba HI⟩
   rw[<-HF.out _ rfl]
   unfold touchS
   rw[e1,e2]
   rfl
 ·cases e2:lo'.isEmpty
  all_goals
   have HF:Hid (∀ b,b=touchS (Sp.mk lo hi li hn) (Sp.mk lo' hi' li' hn')->b=R):=fun b hb=>hb.trans HR.out
   clear H1 H2 HR aa
   go_enter Tryz.func223,Tryz.ntmps223
   go_wp2_with fail
   go_ret
   refine⟨?_,ba HI⟩
   rw[<-HF.out _ rfl]
   unfold touchS
   rw[e1,e2]
   rfl
end
section
open Go.RowKit Rs
attribute [local go_sem ↓] Go.wp_at_zero Go.wp_at_succ
theorem s8 (v:List UInt8)(k:Int)(w:World)(hk:Rs.bound v=k):Calls Tryz.prog 222 #[.string ⟨v.toArray⟩] w fun e w'=>e=.returned (.int .i64 k)/\Below w.heap.size w w':=by
 have:=zO v w;rw[hk] at this;exact this
theorem acb (lo hi:List UInt8)(li hn:Bool)(w:World) :
  Calls Tryz.prog 188 #[.agg #[.string ⟨lo.toArray⟩,.string ⟨hi.toArray⟩,.bool li,.bool hn]] w fun e w'=>e=.returned (.int .i64 (span lo hi li hn))/\Below w.heap.size w w':=by
 obtain⟨R,hR⟩:=ex (span lo hi li hn)
 rw[hR]
 have HF:Hid (∀ b,b=span lo hi li hn->b=R):=fun b hb=>hb.trans hR
 clear hR
 have aa:Stable (fun u=>Box u w.heap.size lo hi li hn):=eR _ _ _ _ _
 have HI:Hid (Kp (fun u=>Box u w.heap.size lo hi li hn) w (w.alloc (.cells #[.string ⟨lo.toArray⟩,.string ⟨hi.toArray⟩,.bool li,.bool hn] 230))):=⟨fh ..,by simp,(Below.refl _ _).alloc (Nat.le_refl _) _⟩
 obtain⟨k1,ae⟩:=ex (Rs.bound lo)
 obtain⟨k2,af⟩:=ex (Rs.bound hi)
 have G1:=zh ae
 have G2:=zh af
 clear ae af
 go_enter Tryz.func188,Tryz.ntmps188
 go_wp2_with fail
 refine (s8 lo k1 _ G1.out).mono ?_
 rintro _ w1 ⟨rfl,hb⟩
 have ac:=a9 aa hb HI
 clear hb HI
 obtain⟨⟨c0,c1,c2,c3,_⟩,_⟩:=ac.out
 by_cases n1:k1=0
 ·subst n1
  go_wp2_with fail
  refine (s8 hi k2 _ G2.out).mono ?_
  rintro _ w2 ⟨rfl,hb⟩
  have ab:=a9 aa hb ac
  clear hb ac c0 c1 c2 c3
  obtain⟨⟨c0,c1,c2,c3,_⟩,_⟩:=ab.out
  by_cases n2:k2=0
  ·subst n2
   cases e1:lo.isEmpty <;> cases e2:hi.isEmpty
   ·have K1:=zh (Rs.aK G1.out e1).1
    have K2:=zh (Rs.aK G2.out e2).1
    obtain⟨c,hc⟩:=ex (Vm.cmpV lo hi)
    have rg:=Vm.cF lo hi
    have HC:=zh hc
    rw[hc] at rg
    clear hc
    go_wp2_with fail
    refine (dt lo hi c _ K1.out K2.out HC.out).mono ?_
    rintro _ w3 ⟨rfl,hb⟩
    have ad:=a9 aa hb ab
    clear hb ab aa c0 c1 c2 c3
    obtain⟨⟨c0,c1,c2,c3,_⟩,_⟩:=ad.out
    rcases (show c = -1\/c=0\/c=1 by omega) with rfl | rfl | rfl
    all_goals
     cases li <;> cases hn
    all_goals
     go_wp2_with fail
     go_ret
     refine⟨?_,ba ad⟩
     rw[<-HF.out _ rfl]
     unfold span
     rw[if_neg (by simp[G1.out]),if_neg (by simp[G2.out]),e1,e2,HC.out]
     rfl
   all_goals
    clear aa
    cases li <;> cases hn
   all_goals
    go_wp2_with fail
    go_ret
    refine⟨?_,ba ab⟩
    rw[<-HF.out _ rfl]
    unfold span
    rw[if_neg (by simp[G1.out]),if_neg (by simp[G2.out]),e1,e2]
    rfl
  ·have hk:(k2==0)=false:=beq_eq_false_iff_ne.2 n2
   have ag:(k2 != 0)=true:=by simpa using n2
   have HK:=zh n2
   clear n2 aa
   go_wp2_with fail
   go_ret
   refine⟨?_,ba ab⟩
   rw[<-HF.out k2 (by unfold span;rw[if_neg (by simp[G1.out]),if_pos (by rw[G2.out];exact HK.out)];exact G2.out.symm)]
   rfl
 ·have hk:(k1==0)=false:=beq_eq_false_iff_ne.2 n1
  have ag:(k1 != 0)=true:=by simpa using n1
  have HK:=zh n1
  clear n1 aa
  go_wp2_with fail
  go_ret
  refine⟨?_,ba ac⟩
  rw[<-HF.out k1 (by unfold span;rw[if_pos (by rw[G1.out];exact HK.out)];exact G1.out.symm)]
  rfl
end
section
open Go.RowKit Rs
attribute [local go_sem ↓] Go.wp_at_zero Go.wp_at_succ
theorem keepRR {w1 u u':World}{p q:Addr}{x0 x1 x2 x3 y0 y1 y2 y3:Value}(hp1:p.block<w1.heap.size)(hq1:q.block<w1.heap.size)
  (h:u.cell? p=some x0/\u.cell? ⟨p.block,p.off+1,none⟩=some x1/\u.cell? ⟨p.block,p.off+2,none⟩=some x2/\u.cell? ⟨p.block,p.off+3,none⟩=some x3/\u.cell? q=some y0/\u.cell? ⟨q.block,q.off+1,none⟩=some y1/\u.cell? ⟨q.block,q.off+2,none⟩=some y2/\u.cell? ⟨q.block,q.off+3,none⟩=some y3/\w1.heap.size<=u.heap.size/\Below w1.heap.size w1 u) (hb:Below u.heap.size u u') :
  u'.cell? p=some x0/\u'.cell? ⟨p.block,p.off+1,none⟩=some x1/\u'.cell? ⟨p.block,p.off+2,none⟩=some x2/\u'.cell? ⟨p.block,p.off+3,none⟩=some x3/\u'.cell? q=some y0/\u'.cell? ⟨q.block,q.off+1,none⟩=some y1/\u'.cell? ⟨q.block,q.off+2,none⟩=some y2/\u'.cell? ⟨q.block,q.off+3,none⟩=some y3/\w1.heap.size<=u'.heap.size/\Below w1.heap.size w1 u':=by
 obtain⟨h0,h1,h2,h3,h4,h5,h6,h7,h8,h9⟩:=h
 have e:∀ a:Addr,a.block<w1.heap.size->u'.cell? a=u.cell? a:=fun a ha=>hb.cell (by omega)
 refine⟨?_,?_,?_,?_,?_,?_,?_,?_,Nat.le_trans h8 hb.size,h9.trans (hb.mono h8)⟩
 ·rw[e p hp1];exact h0
 ·rw[e ⟨p.block,p.off+1,none⟩ hp1];exact h1
 ·rw[e ⟨p.block,p.off+2,none⟩ hp1];exact h2
 ·rw[e ⟨p.block,p.off+3,none⟩ hp1];exact h3
 ·rw[e q hq1];exact h4
 ·rw[e ⟨q.block,q.off+1,none⟩ hq1];exact h5
 ·rw[e ⟨q.block,q.off+2,none⟩ hq1];exact h6
 ·rw[e ⟨q.block,q.off+3,none⟩ hq1];exact h7
theorem eU (lo hi:List UInt8)(li hn:Bool)(k:Int)(w:World)(hk:span lo hi li hn=k) :
  Calls Tryz.prog 188 #[.agg #[.string ⟨lo.toArray⟩,.string ⟨hi.toArray⟩,.bool li,.bool hn]] w fun e w'=>e=.returned (.int .i64 k)/\Below w.heap.size w w':=by
 have:=acb lo hi li hn w;rw[hk] at this;exact this
theorem pG (A:Option Addr)(n c:Nat)(l:List Sp)(w:World)(hn:l.length=n)(hr:SRow w A l)(hl:n<=1000) :
  Calls Tryz.prog 190 #[.slice A n c] w fun e w'=>e=.returned (.int .i64 (checkR l))/\Below w.heap.size w w':=by
 have HR:=zh hr
 have HN:=zh hn
 obtain⟨E,hE⟩:=ex (checkR l)
 rw[hE]
 have HE:=zh hE
 clear hn hr hE
 go_enter Tryz.func190,Tryz.ntmps190
 go_wp2_with fail
 go_loopw [3] (fun i wr=>∃ k:Nat,k<=n/\i=.int .i64 k/\Hid (CkSt l k)/\Hid (Below w.heap.size w wr/\w.heap.size<=wr.heap.size)) (fun i _=>n-(intOf i).toNat)
 case atStart=>exact⟨0,Nat.zero_le _,rfl,og l,Below.refl _ _,Nat.le_refl _⟩
 case round =>
  obtain⟨k,hk,rfl,HS,HB⟩:=hrel
  by_cases aD:k<n
  ·have aj:k<l.length:=by rw[HN.out];exact aD
   obtain⟨ad,lo,hi,li,hh,rfl,hs,aI,c0,c1,c2,c3⟩:=bW (ak HR.out HB.out.1) k aj
   obtain⟨st1,st2,ar,au⟩:=qn HS.out aj
   have aE:=zh hs
   rw[hs] at st2 ar au
   have al:=zh st1
   have am:=zh st2
   have an:=zh ar
   have ao:=zh au
   clear hs st1 st2 ar au
   by_cases ac:64<=k
   ·have ap:Hid (E=4):=by show _=_;rw[<-HE.out];exact al.out ac
    have hd:decide ((64:Int)<=(k:Int))=true:=decide_eq_true (by omega)
    clear ac
    go_wp2_with fail
    go_ret
    exact⟨by rw[ap.out];rfl,HB.out.1⟩
   have hd:decide ((64:Int)<=(k:Int))=false:=decide_eq_false (by omega)
   obtain⟨e,he⟩:=ex (span lo hi li hh)
   have ae:=zh he
   clear he
   go_wp2_with fail
   refine (eU lo hi li hh e _ ae.out).mono ?_
   rintro _ w1 ⟨rfl,hb⟩
   have aa:Hid (Below w.heap.size w w1/\w.heap.size<=w1.heap.size):=⟨HB.out.1.trans (hb.mono HB.out.2),Nat.le_trans HB.out.2 hb.size⟩
   have aq:ad.block<w1.heap.size:=Nat.lt_of_lt_of_le aI hb.size
   clear hb c0 c1 c2 c3 hd
   by_cases ag:e=0
   ·subst ag
    have ah:(Sp.mk lo hi li hh).err=0:=ae.out
    by_cases ay:k=0
    ·have NS:Hid (CkSt l 1):=an.out ay ah
     subst ay
     clear ah ac al am an ao
     go_wp2_with fail
     go_roundw
     case rel=>exact⟨1,by omega,rfl,NS,aa⟩
     case measure=>simp[intOf];omega
    ·have az:k-1<l.length:=by omega
     have aA:l[k-1]?=some l[k-1]:=List.getElem?_eq_getElem az
     obtain⟨pe,sy,sn⟩:=ao.out ac _ (by omega) aA ah
     obtain⟨aM,av,phi,aw,ph,ai,aC,_,d0,d1,d2,d3⟩:=bW (ak HR.out aa.out.1) (k-1) az
     obtain rfl:=Option.some.inj ai
     obtain⟨aN,aO,aP,aQ,aR,ai,ax,_,c0,c1,c2,c3⟩:=bW (ak HR.out aa.out.1) k aj
     obtain rfl:=Option.some.inj ai
     rw[aE.out] at ax
     obtain⟨rfl,rfl,rfl,rfl⟩:=Sp.mk.inj ax
     rw[aC] at pe sy sn
     have B1:=zh (du ae.out).1
     have B2:=zh (du (lo:=av) (hi:=phi) (li:=aw) (hn:=ph) pe).2.1
     have aB:behind (Sp.mk av phi aw ph) ⟨lo,hi,li,hh⟩=(!(phi.isEmpty||lo.isEmpty)&&!(decide (Vm.cmpV lo phi<0)||(decide (Vm.cmpV lo phi=0)&&(li||ph)))):=rfl
     rw[aB] at sy sn
     have SY:=zh sy
     have SN:=zh sn
     have g1:(0:Int)<=(k:Int)-1:=by omega
     have g6:(1:Int)<=(k:Int):=by omega
     have g2:(k:Int)-1<(n:Int):=by omega
     have g3:((k:Int)-1).toNat=k-1:=by omega
     have g5:IntKind.i64.wrap ((k:Int)-1)=(k:Int)-1:=IntWalk.i64_in _ (by omega)
     have g8:((k:Int)==0)=false:=beq_eq_false_iff_ne.2 (by omega)
     have aF:(ad.add (k*4)).block<w1.heap.size:=by rw[add_block];exact aq
     have aG:(ad.add ((k-1)*4)).block<w1.heap.size:=by rw[add_block];exact aq
     clear ah ac al am an ao pe sy sn aC aA ai ax aB aq
     cases e1:phi.isEmpty
     ·cases e2:lo.isEmpty
      ·have K1:=zh (Rs.aK B1.out e2).1
       have K2:=zh (Rs.aK B2.out e1).1
       obtain⟨x,hx⟩:=ex (Vm.cmpV lo phi)
       have rg:=Vm.cF lo phi
       have HC:=zh hx
       rw[hx] at rg
       clear hx
       have HY:Hid ((decide (x<0)||(decide (x=0)&&(li||ph)))=false->CkSt l (k+1)):=fun h=>SY.out (by rw[e1,e2,HC.out,h];rfl)
       have HZ:Hid ((decide (x<0)||(decide (x=0)&&(li||ph)))=true->E=7):=fun h=>by rw[<-HE.out];exact SN.out (by rw[e1,e2,HC.out,h];rfl)
       clear SY SN
       go_wp2_with fail
       go_region_held3 (fun w'=>w'.cell? (ad.add (k*4))=some (.string ⟨lo.toArray⟩)/\w'.cell? ⟨(ad.add (k*4)).block,(ad.add (k*4)).off+1,none⟩=some (.string ⟨hi.toArray⟩)/\w'.cell? ⟨(ad.add (k*4)).block,(ad.add (k*4)).off+2,none⟩=some (.bool li)/\w'.cell? ⟨(ad.add (k*4)).block,(ad.add (k*4)).off+3,none⟩=some (.bool hh) /\
         w'.cell? (ad.add ((k-1)*4))=some (.string ⟨av.toArray⟩)/\w'.cell? ⟨(ad.add ((k-1)*4)).block,(ad.add ((k-1)*4)).off+1,none⟩=some (.string ⟨phi.toArray⟩)/\w'.cell? ⟨(ad.add ((k-1)*4)).block,(ad.add ((k-1)*4)).off+2,none⟩=some (.bool aw)/\w'.cell? ⟨(ad.add ((k-1)*4)).block,(ad.add ((k-1)*4)).off+3,none⟩=some (.bool ph)/\w1.heap.size<=w'.heap.size/\Below w1.heap.size w1 w')
        (first
         | exact⟨c0,c1,c2,c3,d0,d1,d2,d3,Nat.le_refl _,(Below.refl _ _).drew⟩
         | assumption
         | (refine keepRR aF aG ?_ hb;assumption))
        (first
         | (go_at_call 221;refine (dt lo phi x _ K1.out K2.out HC.out).mono ?_;rintro _ w4 ⟨rfl,hb⟩))
       rename_i aJ
       obtain⟨c0,c1,c2,c3,d0,d1,d2,d3,z1,z2⟩:=aJ
       have af:Hid (Below w.heap.size w w4/\w.heap.size<=w4.heap.size):=⟨aa.out.1.trans (z2.mono aa.out.2),Nat.le_trans aa.out.2 z1⟩
       clear z1 z2
       rcases (show x = -1\/x=0\/x=1 by omega) with rfl | rfl | rfl
       ·have ab:Hid (E=7):=HZ.out rfl
        go_wp2_with fail
        go_ret
        exact⟨by rw[ab.out];rfl,af.out.1⟩
       ·cases li
        ·cases ph
         ·have NS:Hid (CkSt l (k+1)):=HY.out rfl
          go_wp2_with fail
          go_roundw
          case rel=>exact⟨k+1,by omega,by go_num,NS,af⟩
          case measure=>simp[intOf];omega
         ·have ab:Hid (E=7):=HZ.out rfl
          go_wp2_with fail
          go_ret
          exact⟨by rw[ab.out];rfl,af.out.1⟩
        ·have ab:Hid (E=7):=HZ.out (by simp)
         go_wp2_with fail
         go_ret
         exact⟨by rw[ab.out];rfl,af.out.1⟩
       ·have NS:Hid (CkSt l (k+1)):=HY.out (by simp)
        go_wp2_with fail
        go_roundw
        case rel=>exact⟨k+1,by omega,by go_num,NS,af⟩
        case measure=>simp[intOf];omega
      ·have ab:Hid (E=7):=by show _=_;rw[<-HE.out];exact SN.out (by rw[e2];simp)
       go_wp2_with fail
       go_ret
       exact⟨by rw[ab.out];rfl,aa.out.1⟩
     ·have ab:Hid (E=7):=by show _=_;rw[<-HE.out];exact SN.out (by rw[e1];simp)
      go_wp2_with fail
      go_ret
      exact⟨by rw[ab.out];rfl,aa.out.1⟩
   ·have ap:Hid (E=e):=by show _=_;rw[<-HE.out,<-ae.out];exact am.out ac (by show span _ _ _ _≠0;rw[ae.out];exact ag)
    have aL:(e != 0)=true:=by simpa using ag
    clear ac ag
    go_wp2_with fail
    go_ret
    exact⟨by rw[ap.out];rfl,aa.out.1⟩
  ·have aH:Hid (E=0):=by
    show _=_
    rw[<-HE.out,HS.out.1,List.drop_eq_nil_of_le (by rw[HN.out];omega)];rfl
   go_wp2_with fail
   go_ret
   exact⟨by rw[aH.out];rfl,HB.out.1⟩
end
end Go.Proofs.YtkaeamjnphaadaaGreatDoor
