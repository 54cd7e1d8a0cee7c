/- Part 33 of what the laws lean on. -/
import Derived.Test.YtgnaiidgjmicaaaGreatDoorM32
set_option maxRecDepth 100000
set_option maxHeartbeats 6400000
namespace Go.Proofs.YtgnaiidgjmicaaaGreatDoor
section
open Go.RowKit
theorem spanR:SpanT 132:=⟨by kernel_rfl,by kernel_rfl,by kernel_rfl,by kernel_rfl⟩
end
section
open Go.RowKit
attribute [local go_sem ↓] Go.wp_at_zero Go.wp_at_succ
theorem si (A:Option Addr)(c:Nat)(l:List Rs.Sp)(B:Option Addr)(d:Nat)(m:List Rs.Sp)(w:World)(hr:Rs.SRow w A l)(hq:Rs.SRow w B m)(hl:l.length<=100000)(_hm:m.length<=100000) :
  Calls Tryz.prog 96 #[.slice A l.length c,.slice B m.length d] w fun e w'=>e=.returned (.bool (decide (l=m)))/\Below w.heap.size w w':=by
 have HR:=zh hr
 have HQ:=zh hq
 clear hr hq
 obtain⟨X,hX⟩:=ex (decide (l=m))
 rw[hX]
 have HX:=zh hX
 clear hX
 by_cases hlen:l.length=m.length
 ·have HL:=zh hlen
  have hd:((l.length:Int) != m.length)=false:=by rw[hlen];simp
  clear hlen
  go_enter Tryz.func96,Tryz.ntmps96
  go_wp2_with fail
  clear hd
  go_loopw [5] (fun i wr=>∃ k:Nat,k<=l.length/\i=.int .i64 k/\Hid (l.take k=m.take k)/\∃ n,wr=w.drewN n) (fun i _=>l.length-(intOf i).toNat)
  case atStart=>exact⟨0,Nat.zero_le _,rfl,rfl,0,rfl⟩
  case round =>
   obtain⟨k,hk,rfl,HT,n,rfl⟩:=hrel
   by_cases af:k<l.length
   ·have aa:k<m.length:=by have:=HL.out;omega
    obtain⟨ad,lo,hi,li,hn,rfl,hs,_,c0,c1,c2,c3⟩:=bM HR.out k af
    obtain⟨ae,ag,ah,ai,aj,rfl,ac,_,e0,e1,e2,e3⟩:=bM HQ.out k aa
    have ab:=tj spanR lo hi li hn ag ah ai aj
    have ak:∀ (x y:Operand) (W:World),(eqGuard .neq 132 x y (.agg #[.string ⟨lo.toArray⟩,.string ⟨hi.toArray⟩,.bool li,.bool hn]) (.agg #[.string ⟨ag.toArray⟩,.string ⟨ah.toArray⟩,.bool ai,.bool aj])).run Tryz.prog W=.ok () W:=fun x y W=>tm spanR .neq x y _ _ W
    by_cases he:(Rs.Sp.mk lo hi li hn)=⟨ag,ah,ai,aj⟩
    ·rw[decide_eq_true he] at ab
     have al:Hid (l.take (k+1)=m.take (k+1)):=kG af aa HT.out (by rw[hs,ac,he])
     clear hs ac he HT
     go_wp2_with fail
     go_quiet (fail)
     clear ab ak c0 c1 c2 c3 e0 e1 e2 e3
     go_wp2_with fail
     go_roundw
     case rel=>exact⟨k+1,by omega,by go_num,al,_,rfl⟩
     case measure=>simp[intOf];omega
    ·rw[decide_eq_false he] at ab
     have HF:Hid (X=false):=by show _=_;rw[<-HX.out];exact ad1 af aa (by rw[hs,ac];exact he)
     clear hs ac he HT
     go_wp2_with fail
     go_quiet (fail)
     clear ab ak c0 c1 c2 c3 e0 e1 e2 e3
     go_wp2_with fail
     go_ret
     exact⟨by rw[HF.out];rfl,below_drewN (below_drewN (Below.refl _ _) _) _⟩
   ·obtain rfl:k=l.length:=by omega
    have HF:Hid (X=true):=by
     show _=_
     have:=HT.out
     rw[List.take_length,HL.out,List.take_length] at this
     rw[<-HX.out];exact decide_eq_true this
    clear HT
    go_wp2_with fail
    go_ret
    exact⟨by rw[HF.out];rfl,below_drewN (Below.refl _ _) _⟩
 ·have hd:((l.length:Int) != m.length)=true:=by simp;omega
  have HF:Hid (X=false):=by show _=_;rw[<-HX.out];exact decide_eq_false fun h=>hlen (by rw[h])
  go_enter Tryz.func96,Tryz.ntmps96
  go_wp2_with fail
  go_ret
  exact⟨by rw[HF.out];rfl,Below.refl _ _⟩
end
section
open Go.RowKit Rs
section
variable {w0 u u':World} {L:List Ent}
variable {A B:Option Addr} {n m:Nat}
theorem mD (h:St w0 u L)(i j:Nat){l k:List Sp}(hi:L[i]?=some ⟨A,n,l⟩)(hj:L[j]?=some ⟨B,m,k⟩)(hn:n<=1000)(hm:m<=1000)(ca cb:Nat)(b:Bool)(hb:decide (l=k)=b) :
  Calls Tryz.prog 96 #[.slice A n ca,.slice B m cb] u (BoolRet w0 L b):=by
 obtain⟨h1,rfl⟩:=aI h i hi
 obtain⟨h2,rfl⟩:=aI h j hj
 exact (si A ca l B cb k u h1 h2 (by omega) (by omega)).mono fun _ _=>jK h hb
end
end
section
open Go.RowKit Rs
attribute [local go_sem ↓] Go.wp_at_zero Go.wp_at_succ
theorem afZ (lo hi:List UInt8)(li hn:Bool)(v:List UInt8)(w:World)(h1:Rs.bound lo=0)(h2:Rs.bound hi=0)(hv:Vm.check v=0) :
  Calls Tryz.prog 137 #[.agg #[.string ⟨lo.toArray⟩,.string ⟨hi.toArray⟩,.bool li,.bool hn],.string ⟨v.toArray⟩] w fun e w'=>e=.returned (.bool (inS (toP lo hi li hn) v))/\Below w.heap.size w w':=by
 obtain⟨R,hR⟩:=ex (inS (toP lo hi li hn) v)
 rw[hR]
 have HF:Hid (∀ b,b=inS (toP lo hi li hn) v->b=R):=fun b hb=>hb.trans hR
 have G1:=zh h1
 have G2:=zh h2
 have HV:=zh hv
 clear hR h1 h2 hv
 have ab:Stable (fun u=>Box u w.heap.size lo hi li hn):=dI _ _ _ _ _
 have HI:Hid (Kp (fun u=>Box u w.heap.size lo hi li hn) w (w.alloc (.cells #[.string ⟨lo.toArray⟩,.string ⟨hi.toArray⟩,.bool li,.bool hn] 132))):=⟨ck ..,by simp,(Below.refl _ _).alloc (Nat.le_refl _) _⟩
 cases e1:lo.isEmpty
 ·have K1:=zh (Rs.aV G1.out e1).1
  obtain⟨c,hc⟩:=ex (Vm.cmpV v lo)
  have rg:=Vm.cu v lo
  have HC:=zh hc
  rw[hc] at rg
  clear hc
  go_enter Tryz.func137,Tryz.ntmps137
  go_wp2_with fail
  refine (df v lo c _ HV.out K1.out HC.out).mono ?_
  rintro _ w1 ⟨rfl,hb⟩
  have aa:=bg ab hb HI
  clear hb HI
  obtain⟨⟨c0,c1,c2,c3,_⟩,_⟩:=aa.out
  rcases (show c = -1\/(c=0/\li=false)\/(c=0/\li=true)\/c=1 by cases li <;> simp <;> omega) with rfl | ⟨rfl,rfl⟩ | ⟨rfl,rfl⟩ | rfl
  ·clear ab
   go_wp2_with fail
   go_ret
   refine⟨?_,bD aa⟩
   rw[<-HF.out false (by
    show _=(inLo (loC lo _) v&&_)
    unfold loC inLo
    simp only[e1,HC.out,Bool.false_eq_true,if_false]
    rfl)]
   rfl
  ·clear ab
   go_wp2_with fail
   go_ret
   refine⟨?_,bD aa⟩
   rw[<-HF.out false (by
    show _=(inLo (loC lo _) v&&_)
    unfold loC inLo
    simp only[e1,HC.out,Bool.false_eq_true,if_false]
    rfl)]
   rfl
  all_goals
   cases e2:hi.isEmpty
   ·have K2:=zh (Rs.aV G2.out e2).1
    obtain⟨c',ac⟩:∃ c,Vm.cmpV v hi=c:=⟨_,rfl⟩
    have af:=Vm.cu v hi
    have ad:=zh ac
    rw[ac] at af
    clear ac
    go_wp2_with fail
    refine (df v hi c' _ HV.out K2.out ad.out).mono ?_
    rintro _ w3 ⟨rfl,hb⟩
    have ae:=bg ab hb aa
    clear hb aa ab c0 c1 c2 c3
    obtain⟨⟨c0,c1,c2,c3,_⟩,_⟩:=ae.out
    rcases (show c' = -1\/c'=0\/c'=1 by omega) with rfl | rfl | rfl
    all_goals
     cases hn
    all_goals
     go_wp2_with fail
     go_ret
     refine⟨?_,bD ae⟩
     rw[<-HF.out _ rfl]
     show _=Ending.returned (.bool (inLo (loC lo _) v&&inHi (hiC hi _) v))
     unfold loC hiC inLo inHi
     simp only[e1,e2,HC.out,ad.out,Bool.false_eq_true,if_false]
     rfl
   ·clear ab
    go_wp2_with fail
    go_ret
    refine⟨?_,bD aa⟩
    rw[<-HF.out _ rfl]
    show _=Ending.returned (.bool (inLo (loC lo _) v&&inHi (hiC hi _) v))
    unfold loC hiC inLo inHi
    simp only[e1,e2,HC.out,Bool.false_eq_true,if_false,if_true]
    rfl
 ·have HC:=zh e1
  have aa:=HI
  clear HI
  go_enter Tryz.func137,Tryz.ntmps137
  have c0:=(ck w lo hi li hn 132).1
  have c1:=(ck w lo hi li hn 132).2.1
  have c2:=(ck w lo hi li hn 132).2.2.1
  have c3:=(ck w lo hi li hn 132).2.2.2.1
  cases e2:hi.isEmpty
  ·have K2:=zh (Rs.aV G2.out e2).1
   obtain⟨c',ac⟩:∃ c,Vm.cmpV v hi=c:=⟨_,rfl⟩
   have af:=Vm.cu v hi
   have ad:=zh ac
   rw[ac] at af
   clear ac
   go_wp2_with fail
   refine (df v hi c' _ HV.out K2.out ad.out).mono ?_
   rintro _ w3 ⟨rfl,hb⟩
   have ae:=bg ab hb aa
   clear hb aa ab c0 c1 c2 c3
   obtain⟨⟨c0,c1,c2,c3,_⟩,_⟩:=ae.out
   rcases (show c' = -1\/c'=0\/c'=1 by omega) with rfl | rfl | rfl
   all_goals
    cases hn
   all_goals
    go_wp2_with fail
    go_ret
    refine⟨?_,bD ae⟩
    rw[<-HF.out _ rfl]
    show _=Ending.returned (.bool (inLo (loC lo _) v&&inHi (hiC hi _) v))
    unfold loC hiC inLo inHi
    simp only[e1,e2,ad.out,Bool.false_eq_true,if_false,if_true]
    rfl
  ·clear ab
   go_wp2_with fail
   go_ret
   refine⟨?_,bD aa⟩
   rw[<-HF.out _ rfl]
   show _=Ending.returned (.bool (inLo (loC lo _) v&&inHi (hiC hi _) v))
   unfold loC hiC inLo inHi
   simp only[e1,e2,if_true]
   rfl
end
section
open Go.RowKit Rs
attribute [local go_sem ↓] Go.wp_at_zero Go.wp_at_succ
theorem zS (A:Option Addr)(n c:Nat)(r:List (Rm.P Cut))(v:List UInt8)(w:World)(hn:r.length=n)(hr:SRow w A (r.map spOf))(ho:∀ p∈r,Ok2 p)(hl:n<=10000)(hv:Vm.check v=0) :
  Calls Tryz.prog 95 #[.slice A n c,.string ⟨v.toArray⟩] w fun e w'=>e=.returned (.bool (hasR r v))/\Below w.heap.size w w':=by
 have HR:=zh hr
 have HO:=zh ho
 have HV:=zh hv
 have HN:=zh hn
 obtain⟨X,hX⟩:=ex (hasR r v)
 rw[hX]
 have HX:Hid (X=r.any (fun p=>inS p v)):=hX.symm
 clear hr ho hv hn hX
 go_enter Tryz.func95,Tryz.ntmps95
 go_wp2_with fail
 go_loopw [5] (fun i wr=>∃ k:Nat,k<=n/\i=.int .i64 k/\Hid ((r.take k).any (fun p=>inS p v)=false)/\Hid (Below w.heap.size w wr/\w.heap.size<=wr.heap.size)) (fun i _=>n-(intOf i).toNat)
 case atStart=>exact⟨0,Nat.zero_le _,rfl,rfl,Below.refl _ _,Nat.le_refl _⟩
 case round =>
  obtain⟨k,hk,rfl,HA,HB⟩:=hrel
  by_cases af:k<n
  ·have aa:k<r.length:=by rw[HN.out];exact af
   obtain⟨ad,rfl,_,c0,c1,c2,c3⟩:=qv (ao HR.out HB.out.1) k aa
   have HS:=zh (tA r k aa (fun p=>inS p v))
   have HY:Hid (inS r[k] v=true->X=true):=fun h=>by rw[HX.out];exact xx aa h
   obtain⟨b1,b2,b3⟩:=mf (HO.out _ (List.getElem_mem aa))
   generalize r[k]=p at *
   have ac:∀ W:World,Calls Tryz.prog 137 #[.agg #[.string ⟨(spOf p).lo.toArray⟩,.string ⟨(spOf p).hi.toArray⟩,.bool (spOf p).li,.bool (spOf p).hn],.string ⟨v.toArray⟩] W fun e w'=>e=.returned (.bool (inS p v))/\Below W.heap.size W w':=fun W=>by
    have:=afZ (spOf p).lo (spOf p).hi (spOf p).li (spOf p).hn v W b1 b2 HV.out
    rw[b3] at this
    exact this
   have ag:=zh ac
   clear ac b1 b2 b3
   go_wp2_with fail
   refine (ag.out _).mono ?_
   rintro _ w1 ⟨rfl,ab⟩
   have ae:Hid (Below w.heap.size w w1/\w.heap.size<=w1.heap.size):=⟨HB.out.1.trans (ab.mono HB.out.2),Nat.le_trans HB.out.2 ab.size⟩
   clear ab c0 c1 c2 c3
   cases hp:inS p v
   ·have ah:Hid ((r.take (k+1)).any (fun p=>inS p v)=false):=by show _=_;rw[HS.out,HA.out];exact hp
    clear hp
    go_wp2_with fail
    go_roundw
    case rel=>exact⟨k+1,by omega,by go_num,ah,ae⟩
    case measure=>simp[intOf];omega
   ·have ai:Hid (X=true):=HY.out hp
    clear hp
    go_wp2_with fail
    go_ret
    exact⟨by rw[ai.out];rfl,ae.out.1⟩
  ·have aj:Hid (X=false):=by
    show _=_
    have:=HA.out
    rw[List.take_of_length_le (by rw[HN.out];omega)] at this
    rw[HX.out];exact this
   go_wp2_with fail
   go_ret
   exact⟨by rw[aj.out];rfl,HB.out.1⟩
end
section
open Go.RowKit Rs
section
variable {w0 u u':World} {L:List Ent} {A B:Option Addr} {n m:Nat}
theorem adV (h:St w0 u L)(i:Nat){a:List (Rm.P Cut)}(hi:L[i]?=some ⟨A,n,a.map spOf⟩)(ga:Rs.Good a)(ca:Nat)(v:List UInt8)(hv:Vm.check v=0)(b:Bool)(hb:hasR a v=b) :
  Calls Tryz.prog 95 #[.slice A n ca,.string ⟨v.toArray⟩] u (BoolRet w0 L b) :=
 (zS A n ca a v u (mM ga (aI h i hi).2).1 (aI h i hi).1 ga.2.1 (by have:=(mM ga (aI h i hi).2).2;omega) hv).mono fun _ _=>jK h hb
end
end
section
open Go.RowKit Rs At
theorem zT (w:World):Calls Tryz.prog 97 #[] w (SpansRet w (allR.map spOf)):=by
 go_enter Tryz.func97,Tryz.ntmps97
 go_wp2_with fail
 go_ret
 refine⟨⟨some ⟨w.heap.size,0,none⟩,1,rfl,fun _=>⟨_,rfl,by simp,fun i hi=>?_⟩,Nat.le_refl _,fun a ha=>by cases ha;exact Nat.le_refl _⟩,(Below.refl _ _).alloc (Nat.le_refl _) _⟩
 have aa:i<1:=hi
 obtain rfl:i=0:=by omega
 have e:∀ j,((⟨w.heap.size,0,none⟩:Addr).add (0*4)).add j=⟨w.heap.size,j,none⟩:=fun j=>by
  rw[Nat.zero_mul,Rg.add_zero];unfold Addr.add;split <;> simp_all
 refine⟨?_,?_,?_,?_⟩ <;> (rw[e,World.cell?_alloc_mark];rfl)
end
section
open Go.RowKit Rs At
theorem ni (name:List UInt8)(A:Option Addr)(n c:Nat)(l:List Sp)(w:World)(hw:MaxOk w)(hm:name.length<=maxLen)(hn:l.length=n)(hr:SRow w A l)(hl:n<=1000) :
  Calls Tryz.prog 12 #[.agg #[.string ⟨name.toArray⟩,.slice A n c]] w fun e w'=>e=.returned (.int .i64 (checkA ⟨name,l⟩))/\Below w.heap.size w w':=fQ name A n c l w hw hm hn hr (Nat.le_trans hl (by decide))
end
section
open Go.RowKit Rs At
attribute [local go_sem ↓] Go.wp_at_zero Go.wp_at_succ
theorem vv {w0 u:World}{L:List Ent}(h:St w0 u L):Calls Tryz.prog 97 #[] u (RowRet w0 L (allR.map spOf)):=(zT u).mono fun _ _ hr=>lJ h hr
end
section
open Go.RowKit Go.ChangeShapes Go.WideShapes Go.Joins Rs
theorem abR {H:Type}{enc:TypeId × Value->H}{P:Program}{W:World}{b0:Nat}{ta t e ts tb:TypeId}{f0 f1 n0 n1 n2 n3:Field}{v:Value}{d:DataW H}{ps:List MemPlace}
  (hat:P.underlying ta=some (.struct #[f0,f1])) (hf0:f0.type=ts/\f0.offset=0) (hf1:f1.type=t/\f1.offset=1) (cta:P.cellsOf ta=2) (ct:P.cellsOf t=1)
  (ht:P.underlying t=some (.slice e)) (he:P.underlying e=some (.struct #[n0,n1,n2,n3])) (h0:n0.type=ts/\n0.offset=0) (h1:n1.type=ts/\n1.offset=1) (h2:n2.type=tb/\n2.offset=2) (h3:n3.type=tb/\n3.offset=3)
  (hs:P.underlying ts=some .string) (hb:P.underlying tb=some .bool) (cts:P.cellsOf ts=1) (cb:P.cellsOf tb=1) (ce:P.cellsOf e=4)
  (hval:Value.okWide P W .any b0 ta v) (h:DataW.Trod enc P W 0 (fun _=>true) true ta v d ps) :
  ∃ (s:ByteArray) (A:Option Addr) (c:Nat) (l:List Sp),v=.agg #[.string s,.slice A l.length c]/\s.data.toList.length<=maxLen/\SRow W A l/\l.length<=maxLen/\∀ s∈l,s.lo.length<=maxLen/\s.hi.length<=maxLen:=by
 obtain⟨cs,rfl,aa⟩:=okWide_struct hat hval
 obtain⟨fuel,hf⟩:=h
 rw[cta] at aa
 obtain⟨c0,c1,rfl⟩:∃ c0 c1,cs=#[c0,c1]:=by
  obtain⟨l⟩:=cs
  match l,aa with
  | [a,b],_=>exact⟨a,b,rfl⟩
 obtain⟨y0,y1,n,_,_,g0,g1⟩:=trod_struct2 hat hf
 rw[hf0.1,hf0.2,cts] at g0
 rw[hf1.1,hf1.2,ct] at g1
 obtain⟨s,e0,_,m0⟩:=DataW.trod_string hs g0
 obtain⟨A,c,l,e1,hr,hm,hw⟩:=mA ht he h0 h1 h2 h3 hs hb cts cb ce g1
 have q0:c0=.string s:=by simpa [Value.cells] using e0
 have q1:c1=.slice A l.length c:=by simpa [Value.cells] using e1
 exact⟨s,A,c,l,by rw[q0,q1],by rw[Array.length_toList];exact m0,hr,hm,hw⟩
end
section
open Go.RowKit Rs At Pg
namespace Pg
theorem adW {nm:List UInt8}{l:List Sp}(h:fewA ⟨nm,l⟩=true):nm.length<=100/\l.length<=80:=by
 unfold fewA at h
 rw[Bool.and_eq_true,decide_eq_true_eq] at h
 exact⟨h.1,xy h.2⟩
end Pg
end
section
open Go.RowKit Rs At Pg Rp
attribute [local go_sem ↓] Go.wp_at_zero Go.wp_at_succ
attribute [local go_sem] Pg.av
theorem vw (A:Option Addr)(n c:Nat)(l:List Pk)(nm:List UInt8)(w:World)(hn:l.length=n)(hr:RRow w A l)(hl:n<=100000) :
  Calls Tryz.prog 21 #[.slice A n c,.string ⟨nm.toArray⟩] w (NumRet w (numF (fun p=>decide (p.name=nm)) 0 l)):=by
 have HR:=zh hr
 have HN:=zh hn
 obtain⟨f,hf⟩:∃ f:Pk->Bool,(fun p=>decide (p.name=nm))=f:=⟨_,rfl⟩
 have HF:Hid (∀ p:Pk,decide (p.name=nm)=f p):=fun p=>by rw[<-hf]
 rw[hf]
 obtain⟨X,hX⟩:=ex (numF f 0 l)
 rw[hX]
 have HX:=zh hX
 clear hr hn hX hf
 go_enter Tryz.func21,Tryz.ntmps21
 go_wp2_with fail
 go_loopw [5,6] (fun v i wr=>∃ (k:Nat) (out:List Int),k<=n/\i=.int .i64 k/\Hid (out++numF f k (l.drop k)=X)/\Hid (out.length<=k)/\Hid (Rg.Own Rp.encI 1 wr w.heap.size 3 v out)/\Hid (Below w.heap.size w wr/\w.heap.size<=wr.heap.size)) (fun _ i _=>n-(intOf i).toNat)
 case atStart=>exact⟨0,[],Nat.zero_le _,rfl,HX.out,Nat.le_refl _,Rg.aB _ _ _,Below.refl _ _,Nat.le_refl _⟩
 case round =>
  obtain⟨k,out,hk,rfl,HA,ab,HO,HB⟩:=hrel
  by_cases am:k<n
  ·have ae:k<l.length:=by rw[HN.out];exact am
   obtain⟨ad,D,dc,C,cc,G,gc,rfl,-,-,-,hc⟩:=aY HR.out k ae
   obtain⟨c0,-,-,-,-,-⟩:=hc _ HB.out.1
   obtain⟨hy,ah⟩:=oS ae HA.out
   obtain⟨a,ha⟩:=ex (l[k])
   rw[ha] at c0 hy ah
   obtain⟨ac,ai⟩:=ex a.name
   rw[ai] at c0
   have HE:Hid (decide (ac=nm)=f a):=by show _=_;rw[<-ai];exact HF.out a
   have HY:=zh hy
   have af:=zh ah
   clear hc hy ah ae ha ai
   by_cases he:ac=nm
   ·have d1:(ac==nm)=true:=beq_iff_eq.2 he
    have ag:=zh (HY.out (by rw[<-HE.out];exact decide_eq_true he))
    have aa:Hid ((out++[(k:Int)]).length<=k+1):=by show _<=_;rw[List.length_append];exact Nat.succ_le_succ ab.out
    have aj:Hid (out.length+1<=1000000):=by show _<=_;have:=ab.out;omega
    clear he HE HY af ab
    go_wp2_with (at_builtin;refine Rg.aN sliceI rfl (.tmp 20) (.tmp 22) rfl w.heap.size _ out [(k:Int)] rfl (Rg.own_below HO.out ((Below.refl _ _).alloc (Nat.le_refl _) _)) _ _ rfl (Rg.az wr _ _ _ (by rfl)) (Nat.zero_lt_succ _) aj.out ?b1 ?_)
    case b1=>have:=HB.out.2;simp;omega
    intro v5 W5 ak al ar
    have an:=cF HB HO al
    have ao:=zh ak
    clear ak al ar HO HB aj c0 d1
    go_wp2_with fail
    go_roundw
    case rel=>exact⟨k+1,out++[(k:Int)],by omega,by go_num,ag.out,aa.out,ao.out,an.out⟩
    case measure=>simp[intOf];omega
   ·have d1:(ac==nm)=false:=beq_eq_false_iff_ne.2 he
    have ag:=zh (af.out (by rw[<-HE.out];exact decide_eq_false he))
    have aa:Hid (out.length<=k+1):=Nat.le_succ_of_le ab.out
    clear he HE HY af ab
    go_wp2_with fail
    go_roundw
    case rel=>exact⟨k+1,out,by omega,by go_num,ag.out,aa.out,HO.out,HB.out⟩
    case measure=>simp[intOf];omega
  ·obtain rfl:k=n:=by omega
   have ap:Hid (out=X):=by
    show _=_
    have:=HA.out
    rw[List.drop_eq_nil_of_le (by rw[HN.out];exact Nat.le_refl _)] at this
    rw[<-this];exact (List.append_nil _).symm
   have aq:=zh (ap.out ▸ HO.out)
   go_wp2_with fail
   go_ret
   exact⟨_,rfl,aq.out,HB.out.1⟩
def Rp.foundR (X:Int):Int × Bool:=if X<0 then (0,false) else (X,true)
theorem Rp.abS (k:Nat):foundR (k:Int)=((k:Int),true):=if_neg (by omega)
theorem xb (A:Option Addr)(n c:Nat)(l:List Pk)(nm v:List UInt8)(w:World)(hn:l.length=n)(hr:RRow w A l)(hl:n<=100000)(hv:Vm.check v=0)(ho:∀ p∈l,Vm.check p.ver=0) :
  Calls Tryz.prog 15 #[.slice A n c,.string ⟨nm.toArray⟩,.string ⟨v.toArray⟩] w fun e w'=>e=.returned (.tuple #[.int .i64 (foundR (idxF (isP nm v) 0 l)).1,.bool (foundR (idxF (isP nm v) 0 l)).2])/\Below w.heap.size w w':=by
 have HR:=zh hr
 have HN:=zh hn
 have HO:=zh ho
 have HC:=zh (fun (pv:List UInt8) (hpv:Vm.check pv=0) (W:World)=>eU pv v W hpv hv)
 obtain⟨X,hX⟩:=ex (idxF (isP nm v) 0 l)
 rw[hX]
 have HX:=zh hX
 clear hr hn ho hv hX
 go_enter Tryz.func15,Tryz.ntmps15
 go_wp2_with fail
 go_loopw [8] (fun i wr=>∃ k:Nat,k<=n/\i=.int .i64 k/\Hid (idxF (isP nm v) k (l.drop k)=X)/\Hid (Below w.heap.size w wr)) (fun i _=>n-(intOf i).toNat)
 case atStart=>exact⟨0,Nat.zero_le _,rfl,HX.out,Below.refl _ _⟩
 case round =>
  obtain⟨k,hk,rfl,HA,HB⟩:=hrel
  by_cases ar:k<n
  ·have ac:k<l.length:=by rw[HN.out];exact ar
   obtain⟨ad,D,dc,C,cc,G,gc,rfl,-,-,-,hc⟩:=aY HR.out k ac
   obtain⟨c0,c1,-,-,-,-⟩:=hc _ HB.out
   obtain⟨hy,al⟩:=abI ac HA.out
   have ah:=HO.out _ (List.getElem_mem ac)
   obtain⟨a,ha⟩:=ex (l[k])
   rw[ha] at c0 c1 hy al ah
   obtain⟨af,am⟩:=ex a.name
   obtain⟨aq,ag⟩:=ex a.ver
   rw[am] at c0
   rw[ag] at c1
   have ai:=HC.out aq (by rw[<-ag];exact ah) wr
   obtain⟨y,an⟩:=ex (Vm.cmpV aq v)
   rw[an] at ai
   have ae:Hid (isP nm v a=(decide (af=nm)&&(y==0))):=by show _=_;unfold isP;rw[am,ag,an]
   have aj:=zh ai
   have HY:=zh hy
   have ab:=zh al
   clear hc ai hy al ah ac ha am ag an
   by_cases he:af=nm
   ·have d1:(af==nm)=true:=beq_iff_eq.2 he
    have aa:Hid (isP nm v a=(y==0)):=by show _=_;rw[ae.out,decide_eq_true he,Bool.true_and]
    clear he ae
    go_wp2_with fail
    refine aj.out.mono ?_
    rintro _ u ⟨rfl,hb⟩
    have ao:Hid (Below w.heap.size w u):=bt HB.out hb
    clear hb aj c0 c1 HB d1
    cases ap:y==0
    ·have ak:=zh (ab.out (by rw[aa.out];exact ap))
     clear aa HY ab
     go_wp2_with fail
     go_roundw
     case rel=>exact⟨k+1,by omega,by go_num,ak.out,ao.out⟩
     case measure=>simp[intOf];omega
    ·have au:=zh (HY.out (by rw[aa.out];exact ap))
     clear aa HY ab
     go_wp2_with fail
     go_ret2
     exact⟨by rw[au.out,abS];rfl,ao.out⟩
   ·have d1:(af==nm)=false:=beq_eq_false_iff_ne.2 he
    have ak:=zh (ab.out (by rw[ae.out,decide_eq_false he,Bool.false_and]))
    clear he ae HY ab aj
    go_wp2_with fail
    go_roundw
    case rel=>exact⟨k+1,by omega,by go_num,ak.out,HB.out⟩
    case measure=>simp[intOf];omega
  ·obtain rfl:k=n:=by omega
   have av:Hid (X = -1):=by
    show _=_
    have:=HA.out
    rw[List.drop_eq_nil_of_le (by rw[HN.out];exact Nat.le_refl _)] at this
    exact this.symm
   go_wp2_with fail
   go_ret2
   exact⟨by rw[av.out];rfl,HB.out⟩
end
section
open Go.RowKit Rs At Pg
section
variable {P:Program} {ops:Array Oper} {L:List Oper} {md:Region.Mode} {Q:Exit->Act->World->Prop} {S:World->Prop} {fuel:Nat} {listed:Array Bool} {a:Act} {w:World}
theorem afn (hL:L.toArray=ops)(i:Nat){oi:Oper}(hi:L[i]?=some oi)(hs:Region.noSelect ops=true)(hf:Region.free md L.toArray listed i=true)(hr:(Region.ready md L.toArray listed).contains i=true)
  (hQ:∀ c a w,Q (.panic c) (a.put oi.dst undef) w->Q (.panic c) a w) (hw:Region.wanted oi (yielded L.toArray a.tmps)=false) (hS:S w)
  (h:wpAnyH P md ops Q S fuel (listed.setIfInBounds i true) (a.put oi.dst undef) w):wpAnyH P md ops Q S (fuel+1) listed a w:=by
 subst hL
 exact wpAnyH_take (by simpa using hi) hs hf hr hQ (Or.inr ⟨hw,rfl⟩) hS h
theorem mw (hS:S w)(hL:L.toArray=ops)(hs:Region.noSelect ops=true)(i:Nat){oi:Oper}(h:wpAnyH P md ops Q S fuel (listed.setIfInBounds i true) (a.put oi.dst undef) w)
  (hi:L[i]?=some oi:=by rfl) (hf:Region.free md L.toArray listed i=true:=by kernel_rfl) (hr:(Region.ready md L.toArray listed).contains i=true:=by kernel_rfl) (hQ:∀ c a w,Q (.panic c) (a.put oi.dst undef) w->Q (.panic c) a w:=by exact fun _ _ _ h=>h) (hw:Region.wanted oi (yielded L.toArray a.tmps)=false:=by rfl):wpAnyH P md ops Q S (fuel+1) listed a w:=afn hL i hi hs hf hr hQ hw hS h
end
attribute [local go_sem ↓] Go.wp_at_zero Go.wp_at_succ
theorem iL {w0 u:World}{L:List Ent}{A:Option Addr}{n:Nat}(h:St w0 u L)(i:Nat){l:List Sp}(hi:L[i]?=some ⟨A,n,l⟩)(hk:checkR l=0)(c:Nat)(v:List UInt8)(hv:Vm.check v=0)(b:Bool)(hb:hasR (l.map Sp.piece) v=b) :
  Calls Tryz.prog 95 #[.slice A n c,.string ⟨v.toArray⟩] u (BoolRet w0 L b) :=
 adV h i (a:=l.map Sp.piece) (by rw[(cX hk).2];exact hi) (cX hk).1 c v hv b hb
theorem vx (p:Pk)(D C G:Option Addr)(dn dc cn cc gn gc:Nat)(anm:List UInt8)(B:Option Addr)(m d:Nat)(r:List Sp)(w:World)(hw:MaxOk w)(hg:GRow w G p.prov)(hgn:p.prov.length=gn)(hgl:gn<=1000000)(ho:∀ g∈p.prov,g.ver=[]\/Vm.check g.ver=0)(hv:Vm.check p.ver=0)(hm:r.length=m)(hq:SRow w B r)(hm2:m<=64)(hk:checkR r=0) :
  Calls Tryz.prog 56 #[.agg #[.string ⟨p.name.toArray⟩,.string ⟨p.ver.toArray⟩,.slice D dn dc,.slice C cn cc,.slice G gn gc,.float .f64 p.wt],.agg #[.string ⟨anm.toArray⟩,.slice B m d]] w fun e w'=>e=.returned (.bool (metP p ⟨anm,r⟩))/\Below w.heap.size w w':=by
 obtain⟨nm,v,aQ,aC,prov,wt⟩:=p
 dsimp only at hg hgn ho hv ⊢
 obtain⟨R,hR⟩:=ex (metP ⟨nm,v,aQ,aC,prov,wt⟩ ⟨anm,r⟩)
 rw[hR]
 unfold metP at hR
 dsimp only at hR
 obtain⟨W1,aE⟩:=ex (w.alloc (.cells #[.string ⟨nm.toArray⟩,.string ⟨v.toArray⟩,.slice D dn dc,.slice C cn cc,.slice G gn gc,.float .f64 wt] 60))
 obtain⟨W2,aF⟩:=ex (W1.alloc (.cells #[.string ⟨anm.toArray⟩,.slice B m d] 25))
 have aR:Below w.heap.size w W1:=ai aE
 have aK:Below W1.heap.size W1 W2:=ai aF
 have HB:Hid (Below w.heap.size w W2):=bt aR aK
 have au:Hid (∀ u,Below W2.heap.size W2 u->Below w.heap.size w u):=fun u h=>bt HB.out h
 obtain⟨b,hb⟩:=ex w.heap.size
 obtain⟨b1,aJ⟩:=ex W1.heap.size
 have HY:=zh (fun W (h:Below W2.heap.size W2 W)=>aw aE (bt aK h))
 have HX:=zh (fun W (h:Below W2.heap.size W2 W)=>aD aF h)
 rw[hb] at HY
 rw[aJ] at HX
 have HG:Hid (GRow W2 G prov):=Rg.aj hg HB.out
 have aS:=zh hgn
 have HO:=zh ho
 have HK:=zh hk
 have aG:Hid (∀ u,Below W2.heap.size W2 u->St u u [⟨B,m,r⟩]):=fun u h=>⟨ag hw (au.out u h),Below.refl _ _,fun x hx=>by rw[List.mem_singleton.1 hx];exact⟨ao hq (au.out u h),hm⟩⟩
 obtain⟨x,hx⟩:=ex (hasL r v)
 obtain⟨y,hy⟩:=ex (prov.any fun g=>givM g ⟨anm,r⟩)
 have HH:=zh (iL (aG.out _ (Below.refl _ _)) 0 rfl hk d v hv x hx)
 have aX:Hid (∀ u,Below W2.heap.size W2 u->∀ gv,Vm.check gv=0->Calls Tryz.prog 95 #[.slice B m d,.string ⟨gv.toArray⟩] u (BoolRet u [⟨B,m,r⟩] (hasL r gv))):=fun u h gv hgv=>iL (aG.out u h) 0 rfl hk d gv hgv _ rfl
 rw[hx,hy] at hR
 have HR:=zh hR
 have av:=zh hy
 have aT:=zh hm2
 clear hw hg hgn ho hv hm hq hm2 hk hx hy hR aR aK
 obtain⟨c0,c1,c2,c3,c4,c5⟩:=HY.out _ (Below.refl _ _)
 obtain⟨a0,a1⟩:=HX.out _ (Below.refl _ _)
 by_cases e1:nm=anm
 case' pos =>
  have d1:(nm==anm)=true:=beq_iff_eq.2 e1
  have aL:Hid ((x||y)=R):=by show _=_;rw[<-HR.out,decide_eq_true e1,Bool.true_and]
  clear e1 HR
  cases x
  case' true =>
   have HE:Hid (R=true):=aL.out.symm
   go_enter Tryz.func56,Tryz.ntmps56
   go_wp2_with fail
   clear aE aF hb aJ
   refine HH.out.mono ?_
   rintro _ u ⟨rfl,hs⟩
   have HU:=zh hs.2.1
   clear hs
   go_wp2_with fail
   go_ret
   exact⟨by rw[HE.out];rfl,au.out _ HU.out⟩
  case' false =>
   have HE:Hid (y=R):=aL.out
   clear aL
   go_enter Tryz.func56,Tryz.ntmps56
   go_wp2_with fail
   clear aE aF hb aJ
   refine HH.out.mono ?_
   rintro _ u ⟨rfl,hs⟩
   have HU:=zh hs.2.1
   clear hs c0 c1 c2 c3 c4 c5 a0 a1
   go_wp2_with fail
 case' neg =>
  have d1:(nm==anm)=false:=beq_eq_false_iff_ne.2 e1
  have HE:Hid (y=R):=by show _=_;rw[<-HR.out,decide_eq_false e1,Bool.false_and,Bool.false_or]
  clear e1 HR
  have HU:Hid (Below W2.heap.size W2 W2):=Below.refl _ _
  go_enter Tryz.func56,Tryz.ntmps56
  go_wp2_with fail
  clear aE aF hb aJ c0 c1 c2 c3 c4 c5 a0 a1
 all_goals
  go_loopw [5] (fun i wr=>∃ k:Nat,k<=gn/\i=.int .i64 k/\Hid (((prov.take k).any fun g=>givM g ⟨anm,r⟩)=false)/\Hid (Below W2.heap.size W2 wr)) (fun i _=>gn-(intOf i).toNat)
  case atStart=>exact⟨0,Nat.zero_le _,rfl,rfl,HU.out⟩
  case round =>
   obtain⟨k,hk,rfl,HT,HW⟩:=hrel
   obtain⟨c0,c1,c2,c3,c4,c5⟩:=HY.out _ HW.out
   by_cases aV:k<gn
   ·have aH:k<prov.length:=by rw[aS.out];exact aV
    obtain⟨ad,rfl,hc⟩:=dJ HG.out k aH
    obtain⟨q0,q1⟩:=hc _ HW.out
    have ax:=HO.out _ (List.getElem_mem aH)
    have aM:givM prov[k] ⟨anm,r⟩=false->((prov.take (k+1)).any fun g=>givM g ⟨anm,r⟩)=false:=fun h=>by
     rw[List.take_succ_eq_append_getElem aH,List.any_append,HT.out,Bool.false_or,List.any_cons,h];rfl
    have an:givM prov[k] ⟨anm,r⟩=true->R=true:=fun h=>by
     rw[<-HE.out,<-av.out]
     exact List.any_eq_true.2 ⟨_,List.getElem_mem aH,h⟩
    obtain⟨g,hg⟩:=ex (prov[k])
    rw[hg] at q0 q1 ax aM an
    obtain⟨am,gv⟩:=g
    dsimp only at q0 q1 ax
    obtain⟨z,hz⟩:=ex wr.heap.size
    obtain⟨V,hV⟩:=ex (wr.alloc (.cells #[.string ⟨am.toArray⟩,.string ⟨gv.toArray⟩] 126))
    have aW:Hid (Below wr.heap.size wr V):=ai hV
    have af:Hid (Below W2.heap.size W2 V):=bt HW.out aW.out
    have HP:=zh (fun u (h:Below V.heap.size V u)=>aD hV h)
    rw[hz] at HP
    have ap:=zh aM
    have ae:=zh an
    clear hc hg aM an HT
    by_cases g1:am=anm
    case neg =>
     have d2:(am != anm)=true:=by simp[g1]
     have d3:(am==anm)=false:=beq_eq_false_iff_ne.2 g1
     have ay:=zh (ap.out (by unfold givM;rw[decide_eq_false g1,Bool.false_and]))
     obtain⟨v0,v1⟩:=HP.out _ (Below.refl _ _)
     obtain⟨a0,a1⟩:=HX.out _ af.out
     clear g1 ap ae
     go_wp2_with fail
     go_roundw
     case rel=>exact⟨k+1,by omega,by go_num,ay,af⟩
     case measure=>simp[intOf];omega
    have d2:(am != anm)=false:=by simp[g1]
    have d3:(am==anm)=true:=beq_iff_eq.2 g1
    by_cases g2:gv=[]
    ·have e3:(gv==[])=true:=by rw[g2];rfl
     have e4:(gv != [])=false:=by rw[g2];rfl
     obtain⟨sm,ar⟩:=ex (decide (r=allR.map spOf))
     have az:=zh ar
     have aA:givM ⟨am,gv⟩ ⟨anm,r⟩=sm:=by unfold givM;rw[decide_eq_true g1,if_pos g2,Bool.true_and];exact ar
     rw[aA] at ap ae
     obtain⟨v0,v1⟩:=HP.out _ (Below.refl _ _)
     obtain⟨a0,a1⟩:=HX.out _ af.out
     clear g1 g2 aA ar ax
     have ah:Hid (∀ u,Below V.heap.size V u->u.cell? ⟨z,1,none⟩=some (.string ⟨gv.toArray⟩)/\u.cell? ⟨b1,1,none⟩=some (.slice B m d)):=fun u h=>⟨(HP.out u h).2,(HX.out u (bt af.out h)).2⟩
     have aB:Hid (∀ u,Below V.heap.size V u->St u u [⟨B,m,r⟩]):=fun u h=>aG.out u (bt af.out h)
     have ac:Hid (Below V.heap.size V V.drew):=(Below.refl _ _).drew
     cases sm
     ·have ay:=zh (ap.out rfl)
      go_wp2_with fail
      refine dF (fun ops hops=>?_)
      have aa:=zh hops
      have ab:=zh (gS hops (by kernel_rfl))
      have ak:=jm hops (n:=21) (by rfl)
      clear hops
      refine wp_region_held_drew (S:=fun u=>u.cell? ⟨z,1,none⟩=some (.string ⟨gv.toArray⟩)/\u.cell? ⟨b1,1,none⟩=some (.slice B m d)) (by kernel_rfl) ?_ (fun hH0=>?_)
      ·exact ah.out _ ac.out
      rw[ak]
      clear ak
      refine mv (by assumption) aa.out ab.out 0 ?_
      try simp only[Act.put,mvS]
      refine mv (by assumption) aa.out ab.out 1 ?_
      try simp only[Act.put,mvS]
      refine mv (by assumption) aa.out ab.out 2 ?_
      try simp only[Act.put,mvS]
      refine mv (by assumption) aa.out ab.out 3 ?_
      try simp only[Act.put,mvS]
      refine mv (by assumption) aa.out ab.out 4 ?_
      try simp only[Act.put,mvS]
      refine mv (by assumption) aa.out ab.out 5 ?_
      try simp only[Act.put,mvS]
      refine cN aa.out 6 rfl (by kernel_rfl) (by rfl) (fun K hK=>?_)
      go_simp
      go_at_call 97;refine (vv (aB.out _ ac.out)).mono ?_;rintro _ z1 ⟨Ce,m1,de,rfl,hs⟩;have aN:=zh hs;have aO:=zh (aI hs 0 rfl).2;have aP:=zh (ac.out.trans (hs.2.1.mono ac.out.size));clear hs
      refine hK.out _ _ ?_ (fun hH6=>?_)
      ·exact ah.out _ aP.out
      clear hK K hH0
      try simp only[Act.put,mvS]
      refine cN aa.out 7 rfl (by kernel_rfl) (by rfl) (fun K hK=>?_)
      go_simp
      go_at_call 96;refine (mD aN.out 1 0 rfl rfl (by have:=aT.out;omega) (by rw[<-aO.out];decide) _ _ _ az.out).mono ?_;rintro _ z2 ⟨rfl,hs⟩;have al:=zh (ac.out.trans (hs.2.1.mono ac.out.size));clear hs
      refine hK.out _ _ ?_ (fun hH7=>?_)
      ·exact ah.out _ al.out
      clear hK K hH6
      try simp only[Act.put,mvS]
      refine mv (by assumption) aa.out ab.out 8 ?_
      try simp only[Act.put,mvS]
      refine mv (by assumption) aa.out ab.out 9 ?_
      try simp only[Act.put,mvS]
      refine mv (by assumption) aa.out ab.out 10 ?_
      try simp only[Act.put,mvS]
      refine mv (by assumption) aa.out ab.out 11 ?_
      try simp only[Act.put,mvS]
      refine mv (by assumption) aa.out ab.out 12 ?_
      try simp only[Act.put,mvS]
      refine mv (by assumption) aa.out ab.out 13 ?_
      try simp only[Act.put,mvS]
      refine mw (by assumption) aa.out ab.out 14 ?_
      try simp only[Act.put,mvS]
      refine mw (by assumption) aa.out ab.out 15 ?_
      try simp only[Act.put,mvS]
      refine mw (by assumption) aa.out ab.out 16 ?_
      try simp only[Act.put,mvS]
      refine mw (by assumption) aa.out ab.out 17 ?_
      try simp only[Act.put,mvS]
      refine mw (by assumption) aa.out ab.out 18 ?_
      try simp only[Act.put,mvS]
      refine mv (by assumption) aa.out ab.out 19 ?_
      try simp only[Act.put,mvS]
      refine mv (by assumption) aa.out ab.out 20 ?_
      try simp only[Act.put,mvS]
      refine gr aa.out (by kernel_rfl) ?_
      have aq:=zh (bt af.out al.out)
      go_wp2_with fail
      go_roundw
      case rel=>exact⟨k+1,by omega,by go_num,ay,aq⟩
      case measure=>simp[intOf];omega
     ·have HF:=zh (ae.out rfl)
      go_wp2_with fail
      refine dF (fun ops hops=>?_)
      have aa:=zh hops
      have ab:=zh (gS hops (by kernel_rfl))
      have ak:=jm hops (n:=21) (by rfl)
      clear hops
      refine wp_region_held_drew (S:=fun u=>u.cell? ⟨z,1,none⟩=some (.string ⟨gv.toArray⟩)/\u.cell? ⟨b1,1,none⟩=some (.slice B m d)) (by kernel_rfl) ?_ (fun hH0=>?_)
      ·exact ah.out _ ac.out
      rw[ak]
      clear ak
      refine mv (by assumption) aa.out ab.out 0 ?_
      try simp only[Act.put,mvS]
      refine mv (by assumption) aa.out ab.out 1 ?_
      try simp only[Act.put,mvS]
      refine mv (by assumption) aa.out ab.out 2 ?_
      try simp only[Act.put,mvS]
      refine mv (by assumption) aa.out ab.out 3 ?_
      try simp only[Act.put,mvS]
      refine mv (by assumption) aa.out ab.out 4 ?_
      try simp only[Act.put,mvS]
      refine mv (by assumption) aa.out ab.out 5 ?_
      try simp only[Act.put,mvS]
      refine cN aa.out 6 rfl (by kernel_rfl) (by rfl) (fun K hK=>?_)
      go_simp
      go_at_call 97;refine (vv (aB.out _ ac.out)).mono ?_;rintro _ z1 ⟨Ce,m1,de,rfl,hs⟩;have aN:=zh hs;have aO:=zh (aI hs 0 rfl).2;have aP:=zh (ac.out.trans (hs.2.1.mono ac.out.size));clear hs
      refine hK.out _ _ ?_ (fun hH6=>?_)
      ·exact ah.out _ aP.out
      clear hK K hH0
      try simp only[Act.put,mvS]
      refine cN aa.out 7 rfl (by kernel_rfl) (by rfl) (fun K hK=>?_)
      go_simp
      go_at_call 96;refine (mD aN.out 1 0 rfl rfl (by have:=aT.out;omega) (by rw[<-aO.out];decide) _ _ _ az.out).mono ?_;rintro _ z2 ⟨rfl,hs⟩;have al:=zh (ac.out.trans (hs.2.1.mono ac.out.size));clear hs
      refine hK.out _ _ ?_ (fun hH7=>?_)
      ·exact ah.out _ al.out
      clear hK K hH6
      try simp only[Act.put,mvS]
      refine mv (by assumption) aa.out ab.out 8 ?_
      try simp only[Act.put,mvS]
      refine mv (by assumption) aa.out ab.out 9 ?_
      try simp only[Act.put,mvS]
      refine mw (by assumption) aa.out ab.out 10 ?_
      try simp only[Act.put,mvS]
      refine mw (by assumption) aa.out ab.out 11 ?_
      try simp only[Act.put,mvS]
      refine mw (by assumption) aa.out ab.out 12 ?_
      try simp only[Act.put,mvS]
      refine mw (by assumption) aa.out ab.out 13 ?_
      try simp only[Act.put,mvS]
      refine mw (by assumption) aa.out ab.out 14 ?_
      try simp only[Act.put,mvS]
      refine mw (by assumption) aa.out ab.out 15 ?_
      try simp only[Act.put,mvS]
      refine mw (by assumption) aa.out ab.out 16 ?_
      try simp only[Act.put,mvS]
      refine mw (by assumption) aa.out ab.out 17 ?_
      try simp only[Act.put,mvS]
      refine mw (by assumption) aa.out ab.out 18 ?_
      try simp only[Act.put,mvS]
      refine mw (by assumption) aa.out ab.out 19 ?_
      try simp only[Act.put,mvS]
      refine mv (by assumption) aa.out ab.out 20 ?_
      try simp only[Act.put,mvS]
      refine gr aa.out (by kernel_rfl) ?_
      have aq:=zh (bt af.out al.out)
      go_wp2_with fail
      go_ret
      exact⟨by rw[HF.out];rfl,au.out _ aq.out⟩
    ·have e3:(gv==[])=false:=beq_eq_false_iff_ne.2 g2
     have e4:(gv != [])=true:=by simpa using g2
     have aA:givM ⟨am,gv⟩ ⟨anm,r⟩=hasL r gv:=by unfold givM;rw[decide_eq_true g1,if_neg g2,Bool.true_and]
     rw[aA] at ap ae
     have aU:Hid (Vm.check gv=0):=ax.resolve_left g2
     obtain⟨v0,v1⟩:=HP.out _ (Below.refl _ _)
     obtain⟨a0,a1⟩:=HX.out _ af.out
     obtain⟨sm,ar⟩:=ex (hasL r gv)
     rw[ar] at ap ae
     have az:=zh ar
     clear g1 g2 aA ar ax
     have ah:Hid (∀ u,Below V.heap.size V u->u.cell? ⟨z,1,none⟩=some (.string ⟨gv.toArray⟩)/\u.cell? ⟨b1,1,none⟩=some (.slice B m d)):=fun u h=>⟨(HP.out u h).2,(HX.out u (bt af.out h)).2⟩
     have aB:Hid (∀ u,Below V.heap.size V u->St u u [⟨B,m,r⟩]):=fun u h=>aG.out u (bt af.out h)
     have ac:Hid (Below V.heap.size V V.drew):=(Below.refl _ _).drew
     cases sm
     ·have ay:=zh (ap.out rfl)
      go_wp2_with fail
      refine dF (fun ops hops=>?_)
      have aa:=zh hops
      have ab:=zh (gS hops (by kernel_rfl))
      have ak:=jm hops (n:=21) (by rfl)
      clear hops
      refine wp_region_held_drew (S:=fun u=>u.cell? ⟨z,1,none⟩=some (.string ⟨gv.toArray⟩)/\u.cell? ⟨b1,1,none⟩=some (.slice B m d)) (by kernel_rfl) ?_ (fun hH0=>?_)
      ·exact ah.out _ ac.out
      rw[ak]
      clear ak
      refine mv (by assumption) aa.out ab.out 0 ?_
      try simp only[Act.put,mvS]
      refine mv (by assumption) aa.out ab.out 1 ?_
      try simp only[Act.put,mvS]
      refine mv (by assumption) aa.out ab.out 2 ?_
      try simp only[Act.put,mvS]
      refine mv (by assumption) aa.out ab.out 3 ?_
      try simp only[Act.put,mvS]
      refine mw (by assumption) aa.out ab.out 4 ?_
      try simp only[Act.put,mvS]
      refine mw (by assumption) aa.out ab.out 5 ?_
      try simp only[Act.put,mvS]
      refine mw (by assumption) aa.out ab.out 6 ?_
      try simp only[Act.put,mvS]
      refine mw (by assumption) aa.out ab.out 7 ?_
      try simp only[Act.put,mvS]
      refine mv (by assumption) aa.out ab.out 8 ?_
      try simp only[Act.put,mvS]
      refine mv (by assumption) aa.out ab.out 9 ?_
      try simp only[Act.put,mvS]
      refine mv (by assumption) aa.out ab.out 10 ?_
      try simp only[Act.put,mvS]
      refine mv (by assumption) aa.out ab.out 11 ?_
      try simp only[Act.put,mvS]
      refine mv (by assumption) aa.out ab.out 12 ?_
      try simp only[Act.put,mvS]
      refine mv (by assumption) aa.out ab.out 13 ?_
      try simp only[Act.put,mvS]
      refine mv (by assumption) aa.out ab.out 14 ?_
      try simp only[Act.put,mvS]
      refine mv (by assumption) aa.out ab.out 15 ?_
      try simp only[Act.put,mvS]
      refine mv (by assumption) aa.out ab.out 16 ?_
      try simp only[Act.put,mvS]
      refine mv (by assumption) aa.out ab.out 17 ?_
      try simp only[Act.put,mvS]
      refine cN aa.out 18 rfl (by kernel_rfl) (by rfl) (fun K hK=>?_)
      go_simp
      go_at_call 95;refine (iL (aB.out _ ac.out) 0 rfl HK.out d gv aU.out _ az.out).mono ?_;rintro _ z2 ⟨rfl,hs⟩;have al:=zh (ac.out.trans (hs.2.1.mono ac.out.size));clear hs
      refine hK.out _ _ ?_ (fun hH18=>?_)
      ·exact ah.out _ al.out
      clear hK K hH0
      try simp only[Act.put,mvS]
      refine mv (by assumption) aa.out ab.out 19 ?_
      try simp only[Act.put,mvS]
      refine mv (by assumption) aa.out ab.out 20 ?_
      try simp only[Act.put,mvS]
      refine gr aa.out (by kernel_rfl) ?_
      have aq:=zh (bt af.out al.out)
      go_wp2_with fail
      go_roundw
      case rel=>exact⟨k+1,by omega,by go_num,ay,aq⟩
      case measure=>simp[intOf];omega
     ·have HF:=zh (ae.out rfl)
      go_wp2_with fail
      refine dF (fun ops hops=>?_)
      have aa:=zh hops
      have ab:=zh (gS hops (by kernel_rfl))
      have ak:=jm hops (n:=21) (by rfl)
      clear hops
      refine wp_region_held_drew (S:=fun u=>u.cell? ⟨z,1,none⟩=some (.string ⟨gv.toArray⟩)/\u.cell? ⟨b1,1,none⟩=some (.slice B m d)) (by kernel_rfl) ?_ (fun hH0=>?_)
      ·exact ah.out _ ac.out
      rw[ak]
      clear ak
      refine mv (by assumption) aa.out ab.out 0 ?_
      try simp only[Act.put,mvS]
      refine mv (by assumption) aa.out ab.out 1 ?_
      try simp only[Act.put,mvS]
      refine mv (by assumption) aa.out ab.out 2 ?_
      try simp only[Act.put,mvS]
      refine mv (by assumption) aa.out ab.out 3 ?_
      try simp only[Act.put,mvS]
      refine mw (by assumption) aa.out ab.out 4 ?_
      try simp only[Act.put,mvS]
      refine mw (by assumption) aa.out ab.out 5 ?_
      try simp only[Act.put,mvS]
      refine mw (by assumption) aa.out ab.out 6 ?_
      try simp only[Act.put,mvS]
      refine mw (by assumption) aa.out ab.out 7 ?_
      try simp only[Act.put,mvS]
      refine mv (by assumption) aa.out ab.out 8 ?_
      try simp only[Act.put,mvS]
      refine mv (by assumption) aa.out ab.out 9 ?_
      try simp only[Act.put,mvS]
      refine mv (by assumption) aa.out ab.out 10 ?_
      try simp only[Act.put,mvS]
      refine mv (by assumption) aa.out ab.out 11 ?_
      try simp only[Act.put,mvS]
      refine mv (by assumption) aa.out ab.out 12 ?_
      try simp only[Act.put,mvS]
      refine mv (by assumption) aa.out ab.out 13 ?_
      try simp only[Act.put,mvS]
      refine mv (by assumption) aa.out ab.out 14 ?_
      try simp only[Act.put,mvS]
      refine mv (by assumption) aa.out ab.out 15 ?_
      try simp only[Act.put,mvS]
      refine mv (by assumption) aa.out ab.out 16 ?_
      try simp only[Act.put,mvS]
      refine mv (by assumption) aa.out ab.out 17 ?_
      try simp only[Act.put,mvS]
      refine cN aa.out 18 rfl (by kernel_rfl) (by rfl) (fun K hK=>?_)
      go_simp
      go_at_call 95;refine (iL (aB.out _ ac.out) 0 rfl HK.out d gv aU.out _ az.out).mono ?_;rintro _ z2 ⟨rfl,hs⟩;have al:=zh (ac.out.trans (hs.2.1.mono ac.out.size));clear hs
      refine hK.out _ _ ?_ (fun hH18=>?_)
      ·exact ah.out _ al.out
      clear hK K hH0
      try simp only[Act.put,mvS]
      refine mv (by assumption) aa.out ab.out 19 ?_
      try simp only[Act.put,mvS]
      refine mv (by assumption) aa.out ab.out 20 ?_
      try simp only[Act.put,mvS]
      refine gr aa.out (by kernel_rfl) ?_
      have aq:=zh (bt af.out al.out)
      go_wp2_with fail
      go_ret
      exact⟨by rw[HF.out];rfl,au.out _ aq.out⟩
   ·obtain rfl:k=gn:=by omega
    have HF:Hid (R=false):=by
     show _=_
     rw[<-HE.out,<-av.out]
     have:=HT.out
     rw[List.take_of_length_le (by rw[aS.out];exact Nat.le_refl _)] at this
     exact this
    go_wp2_with fail
    go_ret
    exact⟨by rw[HF.out];rfl,au.out _ HW.out⟩
end
section
open Go.RowKit Rs At Pg Rp
attribute [local go_sem ↓] Go.wp_at_zero Go.wp_at_succ
attribute [local go_sem] Pg.av
theorem pZ (A:Option Addr)(n c:Nat)(l:List Pk)(nm:List UInt8)(B:Option Addr)(m d:Nat)(r:List Sp)(w:World)(hw:MaxOk w)(hn:l.length=n)(hr:RRow w A l)(hl:n<=100000)(hO:∀ p∈l,Vm.check p.ver=0/\(∀ g∈p.prov,g.ver=[]\/Vm.check g.ver=0)/\p.prov.length<=1000000)(hm:r.length=m)(hq:SRow w B r)(hm2:m<=64)(hk:checkR r=0) :
  Calls Tryz.prog 24 #[.slice A n c,.agg #[.string ⟨nm.toArray⟩,.slice B m d]] w (NumRet w (numF (fun p=>metP p ⟨nm,r⟩) 0 l)):=by
 have HR:=zh hr
 have HN:=zh hn
 have HC:=zh (fun (p:Pk) (hp:p∈l) (D C G:Option Addr) (dn dc cn cc gn gc:Nat) (pn pv:List UInt8) (wt:Nat) (hgn:p.prov.length=gn) (e0:p.name=pn) (e1:p.ver=pv) (e5:p.wt=wt) (W:World) (h:Below w.heap.size w W) (hg:GRow W G p.prov)=>show Calls Tryz.prog 56 #[.agg #[.string ⟨pn.toArray⟩,.string ⟨pv.toArray⟩,.slice D dn dc,.slice C cn cc,.slice G gn gc,.float .f64 wt],.agg #[.string ⟨nm.toArray⟩,.slice B m d]] W fun e w'=>e=.returned (.bool (metP p ⟨nm,r⟩))/\Below W.heap.size W w' from by
  subst e0 e1 e5
  exact vx p D C G dn dc cn cc gn gc nm B m d r W (ag hw h) hg hgn (hgn ▸ (hO p hp).2.2) (hO p hp).2.1 (hO p hp).1 hm (ao hq h) hm2 hk)
 obtain⟨b1,aC⟩:=ex w.heap.size
 obtain⟨V0,ae⟩:=ex (w.alloc (.cells #[.string ⟨nm.toArray⟩,.slice B m d] 25))
 have aI:Hid (Below w.heap.size w V0/\w.heap.size<=V0.heap.size):=⟨ai ae,(ai ae).size⟩
 have aS:Hid (∀ u,Below V0.heap.size V0 u->Bx2 b1 nm B m d u):=fun u hu=>by
  refine aR (by rw[<-ae,<-aC];exact dk w nm B m d _) ?_ hu
  rw[<-ae,<-aC];simp
 obtain⟨f,hf⟩:∃ f:Pk->Bool,(fun p=>metP p ⟨nm,r⟩)=f:=⟨_,rfl⟩
 have HF:Hid (∀ p:Pk,metP p ⟨nm,r⟩=f p):=fun p=>by rw[<-hf]
 rw[hf]
 obtain⟨X,hX⟩:=ex (numF f 0 l)
 rw[hX]
 have HX:=zh hX
 have ac:Hid (w.heap.size<=V0.heap.size/\Below w.heap.size w V0):=⟨aI.out.2,aI.out.1⟩
 clear hw hr hn hO hm hq hm2 hk hX hf
 go_enter Tryz.func24,Tryz.ntmps24
 go_wp2_with fail
 clear ae aC
 go_loopw [5,6] (fun v i wr=>∃ (k:Nat) (out:List Int),k<=n/\i=.int .i64 k/\Hid (out++numF f k (l.drop k)=X)/\Hid (out.length<=k)/\Hid (Rg.Own Rp.encI 1 wr V0.heap.size 3 v out)/\Hid (Below V0.heap.size V0 wr/\V0.heap.size<=wr.heap.size)) (fun _ i _=>n-(intOf i).toNat)
 case atStart=>exact⟨0,[],Nat.zero_le _,rfl,HX.out,Nat.le_refl _,Rg.aB _ _ _,Below.refl _ _,Nat.le_refl _⟩
 case round =>
  obtain⟨k,out,hk,rfl,HA,af,HO,HB⟩:=hrel
  by_cases aT:k<n
  ·have ah:k<l.length:=by rw[HN.out];exact aT
   have aJ:Hid (∀ u,Below V0.heap.size V0 u->Below w.heap.size w u):=fun u h=>ac.out.2.trans (h.mono ac.out.1)
   obtain⟨ad,D,dc,C,cc,G,gc,rfl,pd,pc,pg,hc⟩:=aY HR.out k ah
   obtain⟨hy,aD⟩:=oS ah HA.out
   have aa:=List.getElem_mem ah
   obtain⟨a,ha⟩:=ex (l[k])
   rw[ha] at hc hy aD aa pd pc pg
   have HY:=zh hy
   have aw:=zh aD
   obtain⟨an,aE⟩:=ex a.name
   obtain⟨ap,aF⟩:=ex a.ver
   obtain⟨aq,aM⟩:=ex a.deps.length
   obtain⟨ar,aO⟩:=ex a.confl.length
   obtain⟨au,aG⟩:=ex a.prov.length
   obtain⟨av,aH⟩:=ex a.wt
   rw[aE,aF,aM,aO,aG,aH] at hc
   have ax:Hid (∀ u,Below wr.heap.size wr u->(u.cell? (ad.add (k*6))=some (.string ⟨an.toArray⟩)/\u.cell? ⟨(ad.add (k*6)).block,(ad.add (k*6)).off+1,none⟩=some (.string ⟨ap.toArray⟩)/\u.cell? ⟨(ad.add (k*6)).block,(ad.add (k*6)).off+2,none⟩=some (.slice D aq dc)/\u.cell? ⟨(ad.add (k*6)).block,(ad.add (k*6)).off+3,none⟩=some (.slice C ar cc)/\u.cell? ⟨(ad.add (k*6)).block,(ad.add (k*6)).off+4,none⟩=some (.slice G au gc)/\u.cell? ⟨(ad.add (k*6)).block,(ad.add (k*6)).off+5,none⟩=some (.float .f64 av))/\(u.cell? ⟨b1,0,none⟩=some (.string ⟨nm.toArray⟩)/\u.cell? ⟨b1,1,none⟩=some (.slice B m d))):=fun u h=>⟨hc u (aJ.out u (HB.out.1.trans (h.mono HB.out.2))),aS.out u (HB.out.1.trans (h.mono HB.out.2))⟩
   have FC:Hid (∀ u,Below wr.heap.size wr u->Calls Tryz.prog 56 #[.agg #[.string ⟨an.toArray⟩,.string ⟨ap.toArray⟩,.slice D aq dc,.slice C ar cc,.slice G au gc,.float .f64 av],.agg #[.string ⟨nm.toArray⟩,.slice B m d]] u fun e w'=>e=.returned (.bool (f a))/\Below u.heap.size u w'):=fun u h=>by
    have aK:=aJ.out u (HB.out.1.trans (h.mono HB.out.2))
    have:=HC.out a aa D C G aq dc ar cc au gc an ap av aG aE aF aH u aK (Rg.aj pg aK)
    rw[HF.out] at this
    exact this
   have ay:Hid (Below wr.heap.size wr wr.drew):=(Below.refl _ _).drew
   have j0:(0:Int)<=(k:Int):=by omega
   have j1:(k:Int)<(n:Int):=by omega
   obtain⟨s,hs⟩:=ex (f a)
   rw[hs] at FC
   have HS:=zh hs
   clear hc hy aD aa ah ha pd pc pg aE aF aM aO aG aH hs
   go_wp2_with fail
   go_region_held3 (fun u=>(u.cell? (ad.add (k*6))=some (.string ⟨an.toArray⟩)/\u.cell? ⟨(ad.add (k*6)).block,(ad.add (k*6)).off+1,none⟩=some (.string ⟨ap.toArray⟩)/\u.cell? ⟨(ad.add (k*6)).block,(ad.add (k*6)).off+2,none⟩=some (.slice D aq dc)/\u.cell? ⟨(ad.add (k*6)).block,(ad.add (k*6)).off+3,none⟩=some (.slice C ar cc)/\u.cell? ⟨(ad.add (k*6)).block,(ad.add (k*6)).off+4,none⟩=some (.slice G au gc)/\u.cell? ⟨(ad.add (k*6)).block,(ad.add (k*6)).off+5,none⟩=some (.float .f64 av))/\(u.cell? ⟨b1,0,none⟩=some (.string ⟨nm.toArray⟩)/\u.cell? ⟨b1,1,none⟩=some (.slice B m d)))
    (first
     | with_reducible exact ax.out _ ay.out
     | with_reducible exact ax.out _ ak.out)
    ((go_at_call 56;refine (FC.out _ ay.out).mono ?_;rintro _ u1 ⟨rfl,hb⟩;have ak:=zh (bt ay.out hb);clear hb))
   have al:Hid (Below V0.heap.size V0 u1/\V0.heap.size<=u1.heap.size):=⟨HB.out.1.trans (ak.out.mono HB.out.2),Nat.le_trans HB.out.2 ak.out.size⟩
   have am:=zh (Rg.own_below HO.out ak.out)
   clear ax FC HB HO j0
   cases s
   ·have aA:=zh (aw.out HS.out)
    have ab:Hid (out.length<=k+1):=Nat.le_succ_of_le af.out
    clear HS HY aw af j1
    go_wp2_with fail
    go_roundw
    case rel=>exact⟨k+1,out,by omega,by go_num,aA.out,ab.out,am.out,al.out⟩
    case measure=>simp[intOf];omega
   ·have aA:=zh (HY.out HS.out)
    have ab:Hid ((out++[(k:Int)]).length<=k+1):=by show _<=_;rw[List.length_append];exact Nat.succ_le_succ af.out
    have aL:Hid (out.length+1<=1000000):=by show _<=_;have:=af.out;omega
    clear HS HY aw af j1
    go_wp2_with (at_builtin;refine Rg.aN sliceI rfl (.tmp 19) (.tmp 21) rfl V0.heap.size _ out [(k:Int)] rfl (Rg.own_below am.out ((Below.refl _ _).alloc (Nat.le_refl _) _)) _ _ rfl (Rg.az u1 _ _ _ (by rfl)) (Nat.zero_lt_succ _) aL.out ?b1 ?_)
    case b1=>have:=al.out.2;simp;omega
    intro v5 W5 aP aQ a0
    have aU:=cF al am aQ
    have aV:=zh aP
    clear aP aQ a0 am al aL
    go_wp2_with fail
    go_roundw
    case rel=>exact⟨k+1,out++[(k:Int)],by omega,by go_num,aA.out,ab.out,aV.out,aU.out⟩
    case measure=>simp[intOf];omega
  ·obtain rfl:k=n:=by omega
   have aW:Hid (out=X):=by
    show _=_
    have:=HA.out
    rw[List.drop_eq_nil_of_le (by rw[HN.out];exact Nat.le_refl _)] at this
    rw[<-this];exact (List.append_nil _).symm
   have aX:=zh (Rg.mI ac.out.1 (aW.out ▸ HO.out))
   have aZ:Hid (Below w.heap.size w wr):=ac.out.2.trans (HB.out.1.mono ac.out.1)
   go_wp2_with fail
   go_ret
   exact⟨_,rfl,aX.out,aZ.out⟩
end
end Go.Proofs.YtgnaiidgjmicaaaGreatDoor
