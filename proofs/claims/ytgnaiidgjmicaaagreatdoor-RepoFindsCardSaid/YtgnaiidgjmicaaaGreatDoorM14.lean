/- Part 14 of what the laws lean on. -/
import Derived.Test.YtgnaiidgjmicaaaGreatDoorM13
set_option maxRecDepth 100000
set_option maxHeartbeats 3200000
namespace Go.Proofs.YtgnaiidgjmicaaaGreatDoor
section
open Go.RowKit Rs At
theorem mP (w:World)(T:TypeId)(l:List (List UInt8))(cs:Array Value)(h:cs.toList=Rg.flat encT l):Rg.Row encT 1 (w.alloc (.cells cs T)) (some ⟨w.heap.size,0,none⟩) l:=fun _=>by
 refine⟨_,rfl,by simp,fun i hi j v hv=>?_⟩
 have hj:j<1:=(List.getElem?_eq_some_iff.1 hv).1
 rw[<-Rg.lF]
 exact Rg.az w T l cs h _ _ ((Rg.flat_get fitsT l i hi j hj).trans hv)
theorem dP {w:World}{A:Option Addr}{l:List (List UInt8)}(h:Rg.Row encT 1 w A l)(k:Nat)(hk:k<l.length):∃ ad,A=some ad/\ad.block<w.heap.size/\w.cell? (ad.add k)=some (.string ⟨l[k].toArray⟩):=by
 obtain⟨ad,x,e,hx,aa,hc⟩:=Rg.cK h k hk
 refine⟨ad,e,aa,?_⟩
 have:=hc 0 _ rfl
 rw[if_pos rfl,Nat.mul_one] at this
 rw[hx]
 exact this
theorem flatT (l:List (List UInt8)):Rg.flat encT l=l.map fun t=>Value.string ⟨t.toArray⟩:=by
 induction l with
 | nil=>rfl
 | cons a l ih=>show encT a++Rg.flat encT l=_;rw[ih];rfl
theorem c6 (sep:List UInt8):∀ (k:Nat) (s:List UInt8),∀ p∈Lib.splitK sep 0 k s,p.length<=s.length
 | 0,s,p,hp=>by
  unfold Lib.splitK at hp
  rw[List.mem_singleton.1 hp];exact Nat.le_refl _
 | k+1,s,p,hp=>by
  unfold Lib.splitK at hp
  split at hp
  ·rw[List.mem_singleton.1 hp];exact Nat.le_refl _
  ·rcases List.mem_cons.1 hp with e | hp
   ·rw[e];simp;omega
   ·have:=c6 sep k _ p hp
    simp at this;omega
theorem iu (s sep:List UInt8)(w:World)(hm:MaxOk w)(hl:s.length<=900000)(h1:1<=sep.length) :
  Calls Tryz.prog 204 #[.string ⟨s.toArray⟩,.string ⟨sep.toArray⟩] w fun e w'=>∃ A n c,e=.returned (.slice A n c)/\(Lib.split s sep).length=n/\n<=s.length+1/\Rg.Row encT 1 w' A (Lib.split s sep)/\Below w.heap.size w w':=by
 obtain⟨m,hm⟩:=hm
 refine (Tryz.strings_Split ⟨s.toArray⟩ ⟨sep.toArray⟩ m w (by show s.length<_;omega) hm h1).mono ?_
 rintro e w' ⟨rfl,rfl⟩
 have hd:(Lib.splitB ⟨sep.toArray⟩ 0 (Lib.countB ⟨s.toArray⟩ ⟨sep.toArray⟩) ⟨s.toArray⟩).map (·.data.toList)=Lib.split s sep:=Lib.splitB_data _ _ _ _
 have hn:=Lib.splitB_all ⟨sep.toArray⟩ h1 0 (Lib.countB ⟨s.toArray⟩ ⟨sep.toArray⟩) ⟨s.toArray⟩ rfl
 have hc:=Lib.countB_le ⟨sep.toArray⟩ h1 s.length ⟨s.toArray⟩ (Nat.le_refl _)
 refine⟨_,_,_,rfl,by rw[<-hd,List.length_map,hn],Nat.succ_le_succ hc,mP w _ _ _ ?_,(Below.refl _ _).alloc (Nat.le_refl _) _⟩
 rw[flatT,<-hd,List.map_map]
 rfl
theorem aaK (s:List UInt8):bodyP s=if Lib.hasPrefix s [40]&&Lib.hasSuffix (Lib.trimPrefix s [40]) [41] then some (Lib.trimSuffix (Lib.trimPrefix s [40]) [41]) else none:=by
 cases s with
 | nil=>rfl
 | cons b l =>
  by_cases hb:b=40
  ·subst hb
   have hp:Lib.hasPrefix (40 :: l) [40]=true:=by simp[Lib.hasPrefix]
   have ht:Lib.trimPrefix (40 :: l) [40]=l:=by unfold Lib.trimPrefix;rw[hp];rfl
   rw[ht,hp,Bool.true_and]
   unfold bodyP Lib.trimSuffix Lib.hasSuffix
   rcases List.eq_nil_or_concat l with rfl | ⟨m,x,rfl⟩
   ·rfl
   ·rw[List.concat_eq_append]
    have hx:([41]:List UInt8).isSuffixOf (m++[x])=(x==41):=by
     show List.isPrefixOf [41] (m++[x]).reverse=_
     rw[List.reverse_append]
     show ((41==x)&&true)=_
     rw[Bool.and_true,Bool.eq_iff_iff,beq_iff_eq,beq_iff_eq]
     exact eq_comm
    rw[hx]
    have hz:(40 :: (m++[x])).length=m.length+2:=by simp
    have hg:(40 :: (m++[x])).getD (m.length+1) 0=x:=by
     rw[List.getD_cons_succ,List.getD_eq_getElem?_getD,List.getElem?_append_right (Nat.le_refl _)];simp
    have aa:(m++[x]).length-([41]:List UInt8).length=m.length:=by simp
    rw[hz,aa,show m.length+2-1=m.length+1 from rfl,hg]
    show (if 2<=m.length+2/\(40:UInt8)=40/\x=41 then some (List.take (m.length+2-2) (m++[x])) else none)=_
    by_cases e:x=41
    ·subst e;rw[if_pos ⟨by omega,rfl,rfl⟩];rfl
    ·rw[if_neg (fun h=>e h.2.2),show (x==41)=false from beq_eq_false_iff_ne.2 e];rfl
  ·have hp:Lib.hasPrefix (b :: l) [40]=false:=by
    show ((40==b)&&List.isPrefixOf [] l)=false
    rw[show ((40:UInt8)==b)=false from beq_eq_false_iff_ne.2 (Ne.symm hb)];rfl
   rw[hp,Bool.false_and]
   unfold bodyP
   rw[if_neg (by rintro⟨_,h,_⟩;exact hb h)]
   rfl
def UnR (R:Option (List UInt8)) (e:Ending):Prop:=match R with | some b=>e=.returned (.string ⟨b.toArray⟩) | none=>e=pan 2
theorem zk (s:List UInt8)(w:World)(hs:s.length<=900000) :
  Calls Tryz.prog 310 #[.string ⟨s.toArray⟩] w fun e w'=>UnR (bodyP s) e/\w'=w:=by
 obtain⟨R,hR⟩:=ex (bodyP s)
 rw[hR]
 rw[aaK] at hR
 have c1:=Tryz.strings_CutPrefix ⟨s.toArray⟩ ⟨#[40]⟩ w
 rw[show Lib.trimPrefix (⟨s.toArray⟩:ByteArray).data.toList (⟨#[40]⟩:ByteArray).data.toList=Lib.trimPrefix s [40] from rfl,show Lib.hasPrefix (⟨s.toArray⟩:ByteArray).data.toList (⟨#[40]⟩:ByteArray).data.toList=Lib.hasPrefix s [40] from rfl] at c1
 have ab:(Lib.trimPrefix s [40]).length<=s.length:=by unfold Lib.trimPrefix;split <;> simp
 obtain⟨t,ht⟩:=ex (Lib.trimPrefix s [40])
 obtain⟨p,hp⟩:=ex (Lib.hasPrefix s [40])
 rw[ht,hp] at hR c1
 rw[ht] at ab
 have c2:=Tryz.strings_CutSuffix ⟨t.toArray⟩ ⟨#[41]⟩ w (by show t.length<=_;omega)
 rw[show Lib.trimSuffix (⟨t.toArray⟩:ByteArray).data.toList (⟨#[41]⟩:ByteArray).data.toList=Lib.trimSuffix t [41] from rfl,show Lib.hasSuffix (⟨t.toArray⟩:ByteArray).data.toList (⟨#[41]⟩:ByteArray).data.toList=Lib.hasSuffix t [41] from rfl] at c2
 obtain⟨v,hv⟩:∃ t',Lib.trimSuffix t [41]=t':=⟨_,rfl⟩
 obtain⟨q,hq⟩:=ex (Lib.hasSuffix t [41])
 rw[hv,hq] at hR c2
 have HR:=zh hR
 have C1:=zh c1
 have C2:=zh c2
 clear hR c1 c2 ht hp hv hq ab
 cases p
 ·have aa:Hid (R=none):=by show _=_;rw[<-HR.out];rfl
  go_enter Tryz.func310,Tryz.ntmps310
  go_wp2_with fail
  refine C1.out.mono ?_
  rintro e' u ⟨rfl,hw⟩;rw[hw]
  go_wp2_with fail
  refine C2.out.mono ?_
  rintro e' u ⟨rfl,hw⟩;rw[hw]
  go_wp2_with fail
  refine (au _).mono ?_
  rintro _ u2 ⟨rfl,rfl⟩
  go_wp2_with fail
  exact⟨rfl,by show UnR R _;rw[aa.out];rfl,rfl⟩
 ·cases q
  ·have aa:Hid (R=none):=by show _=_;rw[<-HR.out];rfl
   go_enter Tryz.func310,Tryz.ntmps310
   go_wp2_with fail
   refine C1.out.mono ?_
   rintro e' u ⟨rfl,hw⟩;rw[hw]
   go_wp2_with fail
   refine C2.out.mono ?_
   rintro e' u ⟨rfl,hw⟩;rw[hw]
   go_wp2_with fail
   refine (au _).mono ?_
   rintro _ u2 ⟨rfl,rfl⟩
   go_wp2_with fail
   exact⟨rfl,by show UnR R _;rw[aa.out];rfl,rfl⟩
  ·have aa:Hid (R=some v):=by show _=_;rw[<-HR.out];rfl
   go_enter Tryz.func310,Tryz.ntmps310
   go_wp2_with fail
   refine C1.out.mono ?_
   rintro e' u ⟨rfl,hw⟩;rw[hw]
   go_wp2_with fail
   refine C2.out.mono ?_
   rintro e' u ⟨rfl,hw⟩;rw[hw]
   go_wp2_with fail
   refine (ak _).mono ?_
   rintro _ u2 ⟨rfl,rfl⟩
   go_wp2_with fail
   go_ret
   exact⟨by show UnR R _;rw[aa.out];rfl,rfl⟩
theorem qD {α β γ:Type}{f:α->Option β}{p:α}{l:List α}{g:List β->γ}(h:f p=none):((p :: l).mapM f).map g=none:=by
 rw[List.mapM_cons,h];rfl
theorem qE {α β:Type}{f:α->Option β}{p:α}{c:β}{l:List α}{acc:List β}(h:f p=some c):((p :: l).mapM f).map (acc++·)=(l.mapM f).map ((acc++[c])++·):=by
 rw[List.mapM_cons,h]
 show ((l.mapM f).bind fun r=>some (c :: r)).map _=_
 cases l.mapM f with
 | none=>rfl
 | some r=>show some (acc++c :: r)=some (acc++[c]++r);simp
def AltRet (w:World) (R:Option (List Cond)) (e:Ending) (w':World):Prop:=match R with | some l=>CondsRet w l e w' | none=>e=pan 2/\Below w.heap.size w w'
theorem eG (s:List UInt8)(w:World)(hw:MaxOk w)(hs:s.length<=900000) :
  Calls Tryz.prog 318 #[.string ⟨s.toArray⟩] w (AltRet w (altP s)):=by
 obtain⟨R,hR⟩:=ex (altP s)
 rw[hR]
 have hc:=iu s [32,38,32] w hw hs (by decide)
 have ah:∀ p∈Lib.split s [32,38,32],p.length<=s.length:=c6 _ _ _
 unfold altP at hR
 obtain⟨ps,au⟩:=ex (Lib.split s [32,38,32])
 rw[au] at hR hc ah
 have HR:=zh hR
 have HC:=zh hc
 have HP:Hid (∀ p∈ps,p.length<=900000):=fun p hp=>Nat.le_trans (ah p hp) hs
 have HM:=zh hw
 clear hR hc ah au hw
 go_enter Tryz.func318,Tryz.ntmps318
 go_wp2_with fail
 refine HC.out.mono ?_
 rintro _ z1 ⟨A,n,c,rfl,hn,av,af,aw⟩
 have HN:=zh hn
 have ao:Hid (n<=900001):=Nat.le_trans av (by omega)
 have ai:=zh af
 have ab:=zh aw
 clear hn av af aw
 go_wp2_with fail
 go_loopw [3,9] (fun v i wr=>∃ (k:Nat) (acc:List Cond),k<=n/\i=.int .i64 k/\Hid (DOwn wr z1.heap.size v acc)/\Hid (Below z1.heap.size z1 wr/\z1.heap.size<=wr.heap.size)/\Hid (acc.length=k)/\Hid (((ps.drop k).mapM condP).map (acc++·)=R)) (fun _ i _=>n-(intOf i).toNat)
 case atStart=>exact⟨0,[],Nat.zero_le _,rfl,Rg.aB _ _ _,⟨Below.refl _ _,Nat.le_refl _⟩,rfl,by show ((ps.drop 0).mapM condP).map _=R;rw[List.drop_zero,HR.out];cases R <;> rfl⟩
 case round =>
  obtain⟨k,acc,hk,rfl,HO,HB,HA,HE⟩:=hrel
  have ap:Hid (MaxOk wr):=ag (ag HM.out ab.out) HB.out.1
  by_cases aq:k<n
  ·have ar:=zh aq
   have ak:k<ps.length:=by rw[HN.out];exact aq
   have aH:k<=900001:=by have:=ao.out;omega
   obtain⟨ad,rfl,_,c0⟩:=dP (Rg.aj ai.out HB.out.1) k ak
   have ae:=HP.out _ (List.getElem_mem ak)
   have he:=HE.out
   rw[List.drop_eq_getElem_cons ak] at he
   obtain⟨p,hp⟩:=ex (ps[k])
   rw[hp] at ae he c0
   have aA:Hid (acc.length+1<=1000000):=by have:=HA.out;have:=ao.out;show _<=_;omega
   cases ac:condP p with
   | none =>
    have al:Hid (R=none):=by show _=_;rw[<-he];exact qD ac
    have am:=zh (fy p wr ap.out (Nat.le_trans ae (by decide)))
    have an:=zh ac
    clear he hp ae ac
    go_wp2_with fail
    refine am.out.mono ?_
    rintro e z2 ⟨he,hb⟩
    rw[an.out] at he
    obtain rfl:e=pan 2:=he
    have aa:Hid (Below w.heap.size w z2):=ab.out.trans ((HB.out.1.trans (hb.mono HB.out.2)).mono ab.out.size)
    clear hb
    go_wp2_with fail
    exact⟨rfl,by show AltRet w R _ _;rw[al.out];exact⟨rfl,aa.out⟩⟩
   | some cd =>
    have aC:=zh ((qE (acc:=acc) ac).symm.trans he)
    have am:=zh (fy p wr ap.out (Nat.le_trans ae (by decide)))
    have an:=zh ac
    clear he hp ae ac
    go_wp2_with fail
    refine am.out.mono ?_
    rintro e z2 ⟨he,hb⟩
    rw[an.out] at he
    obtain rfl:e=.returned (.agg #[.string ⟨cd.1.toArray⟩,.string ⟨cd.2.toArray⟩]):=he
    have aa:=zh hb
    clear hb c0
    go_wp2_with (at_builtin;refine Rg.aN sliceD rfl (.tmp 13) (.tmp 16) rfl z1.heap.size _ acc [cd] rfl (Rg.own_below HO.out (aa.out.alloc aa.out.size _)) _ _ rfl (newsD z2 cd _) (Nat.zero_lt_succ _) aA.out ?b2 ?_)
    case b2=>have:=HB.out.2;have:=aa.out.size;simp;omega
    intro v5 W5 ax ay aG
    have aD:=el HB aa.out HO ay
    have aE:Hid (DOwn W5 z1.heap.size v5 (acc++[cd])):=ax
    clear ax ay aG HO HB aa
    go_wp2_with fail
    go_roundw
    case rel=>exact⟨k+1,acc++[cd],(by have:=ar.out;omega),by go_num,aE,aD,by show (acc++[cd]).length=_;rw[List.length_append,HA.out];rfl,aC⟩
    case measure=>have:=ar.out;simp[intOf];omega
  ·obtain rfl:k=n:=by omega
   have al:Hid (R=some acc):=by show _=_;rw[<-HE.out,List.drop_eq_nil_of_le (by rw[HN.out];exact Nat.le_refl _)];show some (acc++[])=_;rw[List.append_nil]
   obtain⟨C,d,rfl,az,hf⟩:=gJ HO.out
   have aF:=zh az
   have HF:=zh hf
   clear az hf
   go_wp2_with fail
   go_ret
   show AltRet w R _ _
   rw[al.out]
   exact⟨C,_,d,rfl,rfl,aF.out,fun a ha=>Nat.le_trans ab.out.size (HF.out a ha),ab.out.trans (HB.out.1.mono ab.out.size)⟩
def TermR (w:World) (R:Option (List (List Cond))) (e:Ending) (w':World):Prop:=match R with | some t=>TermRet w t e w' | none=>e=pan 2/\Below w.heap.size w w'
theorem rH (s:List UInt8)(w:World)(hw:MaxOk w)(hs:s.length<=900000) :
  Calls Tryz.prog 309 #[.string ⟨s.toArray⟩] w (TermR w (termP s)):=by
 obtain⟨R,hR⟩:=ex (termP s)
 rw[hR]
 unfold termP at hR
 by_cases af:s=noneT
 ·rw[if_pos af] at hR
  have ah:Hid (R=some []):=hR.symm
  subst af
  clear hR
  go_enter Tryz.func309,Tryz.ntmps309
  go_wp2_with fail
  go_ret
  show TermR w R _ _
  rw[ah.out]
  exact⟨none,0,0,rfl,rfl,⟨[],fun h=>absurd h (by decide),rfl,fun i d l h=>by simp at h⟩,Below.refl _ _⟩
 rw[if_neg af] at hR
 have aK:(s==[110,111,110,101])=false:=beq_eq_false_iff_ne.2 af
 have hc:=iu s [32,124,32] w hw hs (by decide)
 have am:∀ p∈Lib.split s [32,124,32],p.length<=s.length:=c6 _ _ _
 obtain⟨ps,ax⟩:=ex (Lib.split s [32,124,32])
 rw[ax] at hR hc am
 have HR:=zh hR
 have HC:=zh hc
 have HP:Hid (∀ p∈ps,p.length<=900000):=fun p hp=>Nat.le_trans (am p hp) hs
 have HM:=zh hw
 clear hR hc am ax hw af
 go_enter Tryz.func309,Tryz.ntmps309
 go_wp2_with fail
 refine HC.out.mono ?_
 rintro _ z1 ⟨A,n,c,rfl,hn,ay,aa,az⟩
 have HN:=zh hn
 have ar:Hid (n<=900001):=Nat.le_trans ay (by omega)
 have an:=zh aa
 have ai:=zh az
 clear hn ay aa az
 go_wp2_with fail
 go_loopw [3,12] (fun v i wr=>∃ (k:Nat) (acc:List (List Cond)),k<=n/\i=.int .i64 k/\Hid (TOwn wr z1.heap.size v acc)/\Hid (Below z1.heap.size z1 wr/\z1.heap.size<=wr.heap.size)/\Hid (acc.length=k)/\Hid (((ps.drop k).mapM altP).map (acc++·)=R)) (fun _ i _=>n-(intOf i).toNat)
 case atStart=>exact⟨0,[],Nat.zero_le _,rfl,tH _ _,⟨Below.refl _ _,Nat.le_refl _⟩,rfl,by show ((ps.drop 0).mapM altP).map _=R;rw[List.drop_zero,HR.out];cases R <;> rfl⟩
 case round =>
  obtain⟨k,acc,hk,rfl,HO,HB,HA,HE⟩:=hrel
  have au:Hid (MaxOk wr):=ag (ag HM.out ai.out) HB.out.1
  by_cases av:k<n
  ·have aw:=zh av
   have ao:k<ps.length:=by rw[HN.out];exact av
   have aL:k<=900001:=by have:=ar.out;omega
   obtain⟨ad,rfl,_,c0⟩:=dP (Rg.aj an.out HB.out.1) k ao
   have ak:=HP.out _ (List.getElem_mem ao)
   have he:=HE.out
   rw[List.drop_eq_getElem_cons ao] at he
   obtain⟨p,hp⟩:=ex (ps[k])
   rw[hp] at ak he c0
   have aE:Hid (acc.length+1<=1000000):=by have:=HA.out;have:=ar.out;show _<=_;omega
   cases ae:altP p with
   | none =>
    have ah:Hid (R=none):=by show _=_;rw[<-he];exact qD ae
    have ap:=zh (eG p wr au.out ak)
    have aq:=zh ae
    clear he hp ak ae
    go_wp2_with fail
    refine ap.out.mono ?_
    rintro e z2 hh
    rw[aq.out] at hh
    obtain⟨he,hb⟩:e=pan 2/\Below wr.heap.size wr z2:=hh
    subst he
    have ac:Hid (Below w.heap.size w z2):=ai.out.trans ((HB.out.1.trans (hb.mono HB.out.2)).mono ai.out.size)
    clear hb
    go_wp2_with fail
    exact⟨rfl,by show TermR w R _ _;rw[ah.out];exact⟨rfl,ac.out⟩⟩
   | some al =>
    have aF:=zh ((qE (acc:=acc) ae).symm.trans he)
    have ap:=zh (eG p wr au.out ak)
    have aq:=zh ae
    clear he hp ak ae
    go_wp2_with fail
    refine ap.out.mono ?_
    rintro e z2 hh
    rw[aq.out] at hh
    obtain⟨C,m,d,rfl,hm,aa,hf,hb⟩:CondsRet wr al e z2:=hh
    have aG:=zh hm
    have ab:=zh aa
    have ac:=zh hb
    have HF:Hid (∀ a,C=some a->wr.heap.size<=a.block):=hf
    clear hm aa hf hb c0
    go_wp2_with (at_builtin;refine mi rfl (.tmp 16) (.tmp 19) rfl z1.heap.size _ acc al C m d rfl rfl (nT HO.out ac.out) aG.out ab.out (tfresh HO.out (Nat.le_refl _) HF.out _) aE.out (Nat.le_trans HB.out.2 ac.out.size) ?_)
    intro v5 W5 aA aB aC
    have aH:=zh aA
    have aI:Hid (Below z1.heap.size z1 W5/\z1.heap.size<=W5.heap.size):=⟨(HB.out.1.trans (ac.out.mono HB.out.2)).trans aB,Nat.le_trans (Nat.le_trans HB.out.2 ac.out.size) aC⟩
    clear aA aB aC HO HB ac ab HF
    go_wp2_with fail
    go_roundw
    case rel=>exact⟨k+1,acc++[al],(by have:=aw.out;omega),by go_num,aH,aI,by show (acc++[al]).length=_;rw[List.length_append,HA.out];rfl,aF⟩
    case measure=>have:=aw.out;simp[intOf];omega
  ·obtain rfl:k=n:=by omega
   have ah:Hid (R=some acc):=by show _=_;rw[<-HE.out,List.drop_eq_nil_of_le (by rw[HN.out];exact Nat.le_refl _)];show some (acc++[])=_;rw[List.append_nil]
   obtain⟨C,d,rfl,aD⟩:=tI HO.out
   have aJ:=zh aD
   clear aD
   go_wp2_with fail
   go_ret
   show TermR w R _ _
   rw[ah.out]
   exact⟨C,_,d,rfl,rfl,aJ.out,ai.out.trans (HB.out.1.mono ai.out.size)⟩
end
section
open Go.RowKit Rs At
def parseT (s:List UInt8):Option (List (List Cond)):=if wordB (Vm.fst 32 s) then (if Vm.has 32 s then (bodyP (Vm.snd 32 s)).bind termP else some [[]]) else none
theorem qF (s:List UInt8):parseA s=match parseT s with | none=>(2,zeroA) | some t=>readA (Vm.fst 32 s) t:=by
 unfold parseA parseT
 cases wordB (Vm.fst 32 s)
 ·rfl
 ·simp only[if_true]
  cases h:Vm.has 32 s
  ·have:=(At.tF (c:=32) (p:=s) (fun hm=>by unfold Vm.has at h;rw[List.contains_iff_mem.2 hm] at h;cases h)).1
   rw[this];rfl
  ·simp only[if_true]
   cases (bodyP (Vm.snd 32 s)).bind termP <;> rfl
theorem aeA {s v:List UInt8}(h:bodyP s=some v):v.length<=s.length:=by
 unfold bodyP at h
 split at h
 ·cases h;simp;omega
 ·cases h
def PR (w:World) (name:List UInt8) (R:Option (List (List Cond))) (e:Ending) (w':World):Prop :=
 match R with
 | some t=>∃ C n c,e=.returned (.tuple #[.string ⟨name.toArray⟩,.slice C n c])/\t.length=n/\TRow w' C t/\Below w.heap.size w w'
 | none=>e=pan 2/\Below w.heap.size w w'
theorem nZ (s:List UInt8)(w:World)(hw:MaxOk w)(hs:s.length<=900000) :
  Calls Tryz.prog 295 #[.string ⟨s.toArray⟩] w (PR w (Vm.fst 32 s) (parseT s)):=by
 obtain⟨R,hR⟩:=ex (parseT s)
 rw[hR]
 have hcut:=xE 32 s w hw (by omega)
 have ak:(Vm.snd 32 s).length<=900000:=by unfold Vm.snd;rw[List.length_drop];have:=(List.dropWhile_sublist (. != (32:UInt8)) (l:=s)).length_le;omega
 have al:(Vm.fst 32 s).length<=1000000:=by unfold Vm.fst;have:=(List.takeWhile_sublist (. != (32:UInt8)) (l:=s)).length_le;omega
 unfold parseT at hR
 obtain⟨x,hx⟩:=ex (Vm.fst 32 s)
 obtain⟨y,hy⟩:=ex (Vm.snd 32 s)
 obtain⟨b,hb⟩:=ex (Vm.has 32 s)
 obtain⟨y2,ao⟩:=ex (if b then y else [])
 rw[hx,hy,hb,ao] at hcut
 rw[hx,hy,hb] at hR
 have av:Hid (b=true->y2=y):=fun h=>by rw[<-ao,h];rfl
 rw[hx] at al ⊢
 rw[hy] at ak
 have HR:=zh hR
 have HC:=zh hcut
 have HM:=zh hw
 have HY:=zh ak
 have HX:=zh al
 clear hR hcut hw ak al hx hy hb hs ao
 go_enter Tryz.func295,Tryz.ntmps295
 go_wp2_with fail
 refine HC.out.mono ?_
 rintro _ z1 ⟨rfl,ap⟩
 have ar:=zh ap
 have aw:Hid (MaxOk z1):=ag HM.out ap
 clear ap
 go_wp2_with fail
 cases ab:wordB x
 ·have af:Hid (R=none):=by show _=_;rw[<-HR.out,ab];rfl
  refine (xF x _ HX.out ab).mono ?_
  clear ab
  rintro _ z2 ⟨rfl,ae⟩
  go_wp2_with fail
  exact⟨rfl,by show PR w x R _ _;rw[af.out];exact⟨rfl,bt ar.out ae⟩⟩
 ·refine (tO x _ HX.out ab).mono ?_
  have af:Hid (R=if b then (bodyP y).bind termP else some [[]]):=by show _=_;rw[<-HR.out,ab];rfl
  clear ab
  rintro _ z2 ⟨rfl,ae⟩
  have ah:Hid (Below w.heap.size w z2):=bt ar.out ae
  have ax:Hid (MaxOk z2):=ag aw.out ae
  clear ae
  cases b
  ·have ai:Hid (R=some [[]]):=af.out
   go_wp2_with fail
   refine (xw z2).mono ?_
   rintro _ z3 ⟨⟨C,d,rfl,hr,_,_⟩,au⟩
   have ay:=zh hr
   have az:Hid (Below w.heap.size w z3):=bt ah.out au
   clear hr au
   go_wp2_with fail
   refine (jN C _ d (allR.map spOf) _ rfl ay.out (by decide)).mono ?_
   rintro _ z4 ⟨C4,n4,d4,rfl,hn,hr,ad⟩
   have HN:=zh hn
   have am:=zh hr
   have aA:Hid (Below w.heap.size w z4):=bt az.out ad
   clear hn hr ad
   go_wp2_with fail
   go_ret2
   show PR w x R _ _
   rw[ai.out]
   exact⟨C4,n4,d4,rfl,HN.out,am.out,aA.out⟩
  ·have ai:Hid (R=(bodyP y).bind termP):=af.out
   obtain rfl:y=y2:=(av.out rfl).symm
   have aB:=zh (zk y z2 HY.out)
   go_wp2_with fail
   refine aB.out.mono ?_
   rintro e z3 ⟨he,aq⟩
   rw[aq]
   cases aa:bodyP y with
   | none =>
    have aj:Hid (R=none):=by show _=_;rw[ai.out,aa];rfl
    rw[aa] at he
    obtain rfl:e=pan 2:=he
    clear aa aq
    go_wp2_with fail
    exact⟨rfl,by show PR w x R _ _;rw[aj.out];exact⟨rfl,ah.out⟩⟩
   | some v =>
    have aj:Hid (R=termP v):=by show _=_;rw[ai.out,aa];rfl
    rw[aa] at he
    obtain rfl:e=.returned (.string ⟨v.toArray⟩):=he
    have HV:Hid (v.length<=900000):=Nat.le_trans (aeA aa) HY.out
    clear aa aq
    go_wp2_with fail
    have aC:=zh (rH v z2 ax.out HV.out)
    refine aC.out.mono ?_
    rintro e z4 hh
    cases ac:termP v with
    | none =>
     rw[ac] at hh
     obtain⟨he,ad⟩:e=pan 2/\Below z2.heap.size z2 z4:=hh
     subst he
     have an:Hid (R=none):=aj.out.trans ac
     clear ac
     go_wp2_with fail
     exact⟨rfl,by show PR w x R _ _;rw[an.out];exact⟨rfl,bt ah.out ad⟩⟩
    | some t =>
     rw[ac] at hh
     obtain⟨C,n,c,he,hn,hr,ad⟩:TermRet z2 t e z4:=hh
     subst he
     have an:Hid (R=some t):=aj.out.trans ac
     have am:=zh hr
     have HN:=zh hn
     clear ac hr hn
     go_wp2_with fail
     go_ret2
     show PR w x R _ _
     rw[an.out]
     exact⟨C,n,c,rfl,HN.out,am.out,bt ah.out ad⟩
end
section
open Go.RowKit Rs At
theorem qG (s sep:List UInt8)(h1:1<=sep.length):(Lib.split s sep).length<=s.length+1:=by
 have hd:(Lib.splitB ⟨sep.toArray⟩ 0 (Lib.countB ⟨s.toArray⟩ ⟨sep.toArray⟩) ⟨s.toArray⟩).map (·.data.toList)=Lib.split s sep:=Lib.splitB_data _ _ _ _
 have hn:=Lib.splitB_all ⟨sep.toArray⟩ h1 0 (Lib.countB ⟨s.toArray⟩ ⟨sep.toArray⟩) ⟨s.toArray⟩ rfl
 have hc:=Lib.countB_le ⟨sep.toArray⟩ h1 s.length ⟨s.toArray⟩ (Nat.le_refl _)
 rw[<-hd,List.length_map,hn];exact Nat.succ_le_succ hc
theorem mQ {α β:Type}{f:α->Option β}:∀ {l:List α} {r:List β},l.mapM f=some r->r.length=l.length/\∀ b∈r,∃ a∈l,f a=some b
 | [],r,h=>by cases h;exact⟨rfl,fun b hb=>by simp at hb⟩
 | a :: l,r,h=>by
  rw[List.mapM_cons] at h
  cases hf:f a with
  | none=>rw[hf] at h;cases h
  | some b =>
   rw[hf] at h
   cases hl:l.mapM f with
   | none=>rw[hl] at h;cases h
   | some r' =>
    rw[hl] at h
    cases h
    obtain⟨h1,h2⟩:=mQ hl
    refine⟨by simp[h1],fun x hx=>?_⟩
    rcases List.mem_cons.1 hx with rfl | hx
    ·exact⟨a,by simp,hf⟩
    ·obtain⟨y,hy,aa⟩:=h2 x hx
     exact⟨y,by simp[hy],aa⟩
theorem acW {s:List UInt8}{t:List (List Cond)}(h:termP s=some t):t.length<=s.length+1/\∀ l∈t,l.length<=s.length+1:=by
 unfold termP at h
 split at h
 ·cases h;exact⟨by simp,fun l hl=>by simp at hl⟩
 ·obtain⟨h1,h2⟩:=mQ h
  refine⟨by rw[h1];exact qG s _ (by decide),fun l hl=>?_⟩
  obtain⟨p,hp,aa⟩:=h2 l hl
  have ab:=c6 _ _ _ p hp
  obtain⟨h3,_⟩:=mQ (show (Lib.split p [32,38,32]).mapM condP=some l from aa)
  have:=qG p [32,38,32] (by decide)
  omega
theorem acX {s v:List UInt8}(h:bodyP s=some v):v.length+2<=s.length:=by
 unfold bodyP at h
 split at h
 ·cases h;simp;omega
 ·cases h
theorem aaL {s:List UInt8}{t:List (List Cond)}(hs:s.length<=4000)(h:parseT s=some t):t.length<=3999/\∀ l∈t,l.length<=3999:=by
 unfold parseT at h
 split at h
 ·split at h
  ·cases hb:bodyP (Vm.snd 32 s) with
   | none=>rw[hb] at h;cases h
   | some v =>
    rw[hb] at h
    have h1:=acW (show termP v=some t from h)
    have h2:=acX hb
    have h3:(Vm.snd 32 s).length<=s.length:=by unfold Vm.snd;rw[List.length_drop];have:=(List.dropWhile_sublist (. != (32:UInt8)) (l:=s)).length_le;omega
    exact⟨by omega,fun l hl=>by have:=h1.2 l hl;omega⟩
  ·cases h;exact⟨by simp,fun l hl=>by simp at hl;rw[hl];simp⟩
 ·cases h
theorem jP (m:Nat):∀ (t:List (List Cond)),(∀ l∈t,l.length<=m)->vers t<=t.length*m
 | [],_=>by simp[vers]
 | a :: t,h=>by
  have h1:=h a (by simp)
  have h2:=jP m t (fun l hl=>h l (by simp[hl]))
  have e:vers (a :: t)=a.length+vers t:=by simp[vers]
  rw[e,List.length_cons,Nat.succ_mul];omega
def PC (b:Nat) (u:World):Prop:=u.cell? ⟨b,0,none⟩=some (.string ⟨#[]⟩)/\u.cell? ⟨b,1,none⟩=some (.slice none 0 0)/\u.frozen? ⟨b,0,none⟩=false/\u.frozen? ⟨b,1,none⟩=false/\u.cell? ⟨b+1,0,none⟩=some (.int .i64 0)/\u.frozen? ⟨b+1,0,none⟩=false
theorem af4 {w W1 W2 u:World}(h1:w.alloc (.cells #[.string ⟨#[]⟩,.slice none 0 0] 51)=W1)(h2:W1.alloc (.cells #[.int .i64 0] 77)=W2)(hb:Below W2.heap.size W2 u):PC w.heap.size u:=by
 have aa:W1.heap.size=w.heap.size+1:=by rw[<-h1];simp
 have ac:W2.heap.size=w.heap.size+2:=by rw[<-h2];simp[aa]
 have ab:Below (W1.heap.size+1) (W1.alloc (.cells #[.int .i64 0] 77)) u:=by rw[h2];rw[aa];rw[ac] at hb;exact hb
 have ad:Below W1.heap.size W1 u:=bl ab
 obtain⟨q0,q1,z0,z1⟩:=cY h1 ad
 obtain⟨c,f⟩:=bj W1 u _ _ ab
 rw[aa] at c f
 exact⟨q0,q1,z0,z1,c,f⟩
theorem fA {u:World}{b:Nat}{A:Option Addr}{l:List Sp}(h:SRow u A l)(hn:∀ j,2<=j->u.cell? ⟨b,j,none⟩=none):0<l.length->∀ a,A=some a->a.block≠b:=fun h0 a ha hb=>by
 obtain⟨a',e,_,hc⟩:=h h0
 rw[ha] at e;cases e
 obtain⟨_,_,_,c3⟩:=hc 0 h0
 have e3:(a.add (0*4)).add 3=⟨b,a.off+3,none⟩:=by subst hb;simp[Addr.add]
 rw[e3,hn _ (by omega)] at c3
 cases c3
theorem dA {w:World}{A:Option Addr}{l:List Sp}{p:Addr}{v:Value}(h:SRow w A l)(hne:0<l.length->∀ a,A=some a->a.block≠p.block):SRow (w.setCell p v) A l:=fun h0=>by
 obtain⟨a,e,hl,hc⟩:=h h0
 have hb:=hne h0 a e
 refine⟨a,e,by simpa [World.setCell] using hl,fun i hi=>?_⟩
 obtain⟨c0,c1,c2,c3⟩:=hc i hi
 refine⟨?_,?_,?_,?_⟩
 ·rw[World.cell?_setCell_far _ _ _ _ (by rw[add_block,add_block];exact Ne.symm hb)];exact c0
 ·rw[World.cell?_setCell_far _ _ _ _ (by rw[add_block,add_block];exact Ne.symm hb)];exact c1
 ·rw[World.cell?_setCell_far _ _ _ _ (by rw[add_block,add_block];exact Ne.symm hb)];exact c2
 ·rw[World.cell?_setCell_far _ _ _ _ (by rw[add_block,add_block];exact Ne.symm hb)];exact c3
theorem af5 {w W1 W2 u:World}(h1:w.alloc (.cells #[.string ⟨#[]⟩,.slice none 0 0] 51)=W1)(h2:W1.alloc (.cells #[.int .i64 0] 77)=W2)(hb:Below W2.heap.size W2 u) :
  (∀ j,2<=j->u.cell? ⟨w.heap.size,j,none⟩=none)/\(∀ j,2<=j->u.cell? ⟨w.heap.size+1,j,none⟩=none):=by
 have aa:W1.heap.size=w.heap.size+1:=by rw[<-h1];simp
 have ac:W2.heap.size=w.heap.size+2:=by rw[<-h2];simp[aa]
 have ab:Below (W1.heap.size+1) (W1.alloc (.cells #[.int .i64 0] 77)) u:=by rw[h2];rw[aa];rw[ac] at hb;exact hb
 have ad:Below W1.heap.size W1 u:=bl ab
 have e1:u.heap[w.heap.size]?=some (.cells #[.string ⟨#[]⟩,.slice none 0 0] 51 (0,0)):=(ad.block _ (by omega)).trans (by rw[<-h1];exact heap_alloc_new w _)
 have e2:u.heap[W1.heap.size]?=some (.cells #[.int .i64 0] 77 (0,0)):=(ab.block _ (Nat.lt_succ_self _)).trans (heap_alloc_new W1 _)
 rw[aa] at e2
 refine⟨fun j hj=>?_,fun j hj=>?_⟩
 ·simp[World.cell?,e1];omega
 ·simp[World.cell?,e2];omega
def ParseRet (w:World) (x:Int × Atm) (e:Ending) (w':World):Prop:=∃ C m d,e=.returned (.tuple #[.agg #[.string ⟨x.2.name.toArray⟩,.slice C m d],.int .i64 x.1])/\x.2.rng.length=m/\SRow w' C x.2.rng/\Below w.heap.size w w'
theorem c7 {w u:World}{k:Int}{X:Int × Atm}(hX:X=(k,zeroA))(hb:Below w.heap.size w u):ParseRet w X (.returned (.tuple #[.agg #[.string ⟨#[]⟩,.slice none 0 0],.int .i64 k])) (u.setCell ⟨w.heap.size+1,0,none⟩ (.int .i64 k)):=by
 subst hX
 exact⟨none,0,0,rfl,rfl,fun h=>absurd h (Nat.lt_irrefl 0),hb.setCell (Nat.le_succ _) _⟩
theorem rI (s:List UInt8)(w:World)(hw:MaxOk w)(hs:s.length<=4000) :
  Calls Tryz.prog 275 #[.string ⟨s.toArray⟩] w (ParseRet w (parseA s)):=by
 have bg:∀ (fn:Fn) (first cap:Array Value) (w:World),(Instr.makeFunc fn first cap).run Tryz.prog w=.ok (.func fn first cap) w:=fun _ _ _ _=>rfl
 obtain⟨X,hX⟩:=ex (parseA s)
 rw[hX]
 rw[qF] at hX
 obtain⟨W1,ah⟩:=ex (w.alloc (.cells #[.string ⟨#[]⟩,.slice none 0 0] 51))
 obtain⟨W2,ap⟩:=ex (W1.alloc (.cells #[.int .i64 0] 77))
 have aj:Hid (∀ u,Below W2.heap.size W2 u->PC w.heap.size u):=fun u hb=>af4 ah ap hb
 have aM:Hid (∀ u,Below W2.heap.size W2 u->(∀ j,2<=j->u.cell? ⟨w.heap.size,j,none⟩=none)/\(∀ j,2<=j->u.cell? ⟨w.heap.size+1,j,none⟩=none)):=fun u hb=>af5 ah ap hb
 have bh:W1.heap.size=w.heap.size+1:=by rw[<-ah];simp
 have af:Hid (Below w.heap.size w W2):=(ai ah).trans ((ai ap).mono (ai ah).size)
 have aN:Hid (MaxOk W2):=ag hw af.out
 have aW:Hid (w.heap.size+2<=W2.heap.size):=by show _<=_;rw[<-ap,<-ah];simp
 have bi:=zh hw
 obtain⟨nm,aG⟩:=ex (Vm.fst 32 s)
 have aO:nm.length<=4000:=by rw[<-aG];unfold Vm.fst;have:=(List.takeWhile_sublist (. != (32:UInt8)) (l:=s)).length_le;omega
 have az:=nZ s W2 aN.out (by omega)
 obtain⟨T,hT⟩:=ex (parseT s)
 have aX:Hid (∀ t,T=some t->t.length<=3999/\∀ l∈t,l.length<=3999):=fun t h=>aaL hs (hT.trans h)
 rw[aG,hT] at hX az
 have HX:=zh hX
 have aY:=zh az
 have aA:=zh aO
 clear hX az hT aG aO hs hw
 go_enter_defers Tryz.func275,Tryz.ntmps275
 go_wp2_with fail
 clear ah ap
 refine aY.out.mono ?_
 rintro e z1 hh
 cases T with
 | none =>
  obtain⟨he,hb⟩:e=pan 2/\Below W2.heap.size W2 z1:=hh
  subst he
  have ar:Hid (X=(2,zeroA)):=HX.out.symm
  have HB:=zh hb
  obtain⟨q0,q1,_,_,aa,ab⟩:=aj.out z1 hb
  clear hb
  go_wp2_with fail
  refine leaves_cons (f:=294) (args:=#[.pointer (some ⟨w.heap.size+1,0,none⟩)]) (by simp) (by simp[go_sem]) ?_
  refine (dy ⟨w.heap.size+1,0,none⟩ 0 _ _ ?_ ?_).mono ?_
  ·simp[go_sem,aa]
  ·simp[go_sem,ab]
  rintro e u' w3 ⟨rfl,rfl,rfl⟩
  have ac:(z1.setCell ⟨w.heap.size+1,0,none⟩ (.int .i64 2)).cell? ⟨w.heap.size,0,none⟩=some (.string ⟨#[]⟩):=by rw[World.cell?_setCell_far _ _ _ _ (by show w.heap.size+1≠w.heap.size;omega)];exact q0
  have ad:(z1.setCell ⟨w.heap.size+1,0,none⟩ (.int .i64 2)).cell? ⟨w.heap.size,1,none⟩=some (.slice none 0 0):=by rw[World.cell?_setCell_far _ _ _ _ (by show w.heap.size+1≠w.heap.size;omega)];exact q1
  simp[Leaves,settle,results,Tryz.results275,go_sem,aa,ac,ad]
  exact c7 ar.out (bt af.out HB.out)
 | some t =>
  obtain⟨C,n,c,he,hn,hr,hb⟩:∃ C n c,e=.returned (.tuple #[.string ⟨nm.toArray⟩,.slice C n c])/\t.length=n/\TRow z1 C t/\Below W2.heap.size W2 z1:=hh
  subst he
  have ar:Hid (X=readA nm t):=HX.out.symm
  have HB:=zh hb
  have HN:=zh hn
  have aP:=zh hr
  obtain⟨aH,aJ⟩:=aX.out t rfl
  have aQ:Hid (n<=3999):=by rw[<-hn];exact aH
  have aZ:=zh aJ
  have a0:Hid (vers t<=100000000):=Nat.le_trans (jP 3999 t aJ) (Nat.le_trans (Nat.mul_le_mul_right _ aH) (by decide))
  clear hb hn hr aH aJ
  go_wp2_with fail
  refine (ft nm _ (Nat.le_trans aA.out (by decide))).mono ?_
  rintro _ z2 ⟨rfl,rfl⟩
  cases av:nameB nm
  ·have aw:Hid (X=(3,zeroA)):=by show _=_;rw[ar.out];unfold readA;rw[av];rfl
   obtain⟨q0,q1,_,_,aa,ab⟩:=aj.out z1 HB.out
   clear av
   go_wp2_with fail
   refine (au _).mono ?_
   rintro _ z3 ⟨rfl,rfl⟩
   go_wp2_with fail
   refine leaves_cons (f:=294) (args:=#[.pointer (some ⟨w.heap.size+1,0,none⟩)]) (by simp) (by simp[go_sem]) ?_
   refine (dy ⟨w.heap.size+1,0,none⟩ 0 _ _ ?_ ?_).mono ?_
   ·simp[go_sem,aa]
   ·simp[go_sem,ab]
   rintro e u' w3 ⟨rfl,rfl,rfl⟩
   have ac:(z1.setCell ⟨w.heap.size+1,0,none⟩ (.int .i64 3)).cell? ⟨w.heap.size,0,none⟩=some (.string ⟨#[]⟩):=by rw[World.cell?_setCell_far _ _ _ _ (by show w.heap.size+1≠w.heap.size;omega)];exact q0
   have ad:(z1.setCell ⟨w.heap.size+1,0,none⟩ (.int .i64 3)).cell? ⟨w.heap.size,1,none⟩=some (.slice none 0 0):=by rw[World.cell?_setCell_far _ _ _ _ (by show w.heap.size+1≠w.heap.size;omega)];exact q1
   simp[Leaves,settle,results,Tryz.results275,go_sem,aa,ac,ad]
   exact c7 aw.out (bt af.out HB.out)
  ·have aB:=kN C n c t z1 HN.out aP.out (by have:=aQ.out;omega) a0.out
   obtain⟨v,hv⟩:=ex (vers t)
   have aw:Hid (X=if v<=16 then (if (hTerm [] t).1=0 then (if checkA ⟨nm,(hTerm [] t).2.map spOf⟩=0 then (0,⟨nm,(hTerm [] t).2.map spOf⟩) else (checkA ⟨nm,(hTerm [] t).2.map spOf⟩,zeroA)) else ((hTerm [] t).1,zeroA)) else (4,zeroA)):=by show _=_;rw[ar.out];unfold readA;rw[av,hv];rfl
   rw[hv] at aB
   have a3:=zh aB
   clear av aB hv
   go_wp2_with fail
   refine (ak _).mono ?_
   rintro _ z3 ⟨rfl,rfl⟩
   go_wp2_with fail
   refine a3.out.mono ?_
   rintro _ z3 ⟨rfl,rfl⟩
   by_cases ax:v<=16
   ·have d0:decide ((v:Int)<=16)=true:=decide_eq_true (by omega)
    have aC:Hid (X=if (hTerm [] t).1=0 then (if checkA ⟨nm,(hTerm [] t).2.map spOf⟩=0 then (0,⟨nm,(hTerm [] t).2.map spOf⟩) else (checkA ⟨nm,(hTerm [] t).2.map spOf⟩,zeroA)) else ((hTerm [] t).1,zeroA)):=by show _=_;rw[aw.out,if_pos ax]
    clear ax
    go_wp2_with fail
    refine (ak _).mono ?_
    rintro _ z4 ⟨rfl,rfl⟩
    go_wp2_with fail
    refine (a6 nm _ (by have:=aA.out;omega)).mono ?_
    rintro _ z5 ⟨rfl,aK⟩
    have a4:Hid (Below W2.heap.size W2 z5):=bt HB.out aK
    have aD:Hid (TRow z5 C t):=jM aP.out aK
    clear aK
    go_wp2_with fail
    have a5:Hid (St W2 z5 []):=⟨aN.out,a4.out,fun x hx=>by simp at hx⟩
    have aS:=zh (aaI a5.out C n c t HN.out aD.out (by have:=aQ.out;omega) (fun l hl=>by have:=aZ.out l hl;omega))
    have a9:Hid (Rs.Good (hTerm [] t).2):=nW _ _ jO
    refine aS.out.mono ?_
    clear aS
    rintro e z6 hh
    obtain⟨H,hH⟩:=ex (hTerm [] t)
    rw[hH] at hh
    obtain⟨h1,r⟩:=H
    have aT:Hid (X=if h1=0 then (if checkA ⟨nm,r.map spOf⟩=0 then (0,⟨nm,r.map spOf⟩) else (checkA ⟨nm,r.map spOf⟩,zeroA)) else (h1,zeroA)):=by show _=_;rw[aC.out,hH]
    have ba:Hid (Rs.Good r):=by have h:=a9.out;rw[hH] at h;exact h
    clear hH
    by_cases ay:h1=0
    ·subst ay
     obtain⟨C6,n6,d6,rfl,aq⟩:=hh.1 rfl
     have ae:=zh aq
     clear hh aq
     go_wp2_with fail
     have aE:Hid (Below z6.heap.size z6 (z6.alloc (.cells #[.string ⟨nm.toArray⟩,.slice C6 n6 d6] 51))):=(Below.refl _ _).alloc (Nat.le_refl _) _
     refine (im nm C6 n6 d6 (r.map spOf) _ (ag (fq ae.out) aE.out) (Nat.le_trans aA.out (by decide)) (aI ae.out 0 rfl).2 (ao (aI ae.out 0 rfl).1 aE.out) (by rw[<-(aI ae.out 0 rfl).2,List.length_map];have:=ba.out.2.2;omega)).mono ?_
     rintro _ z7 ⟨rfl,aL⟩
     have al:Hid (Below z6.heap.size z6 z7):=bt aE.out aL
     have am:Hid (Below W2.heap.size W2 z7):=ae.out.2.1.trans (al.out.mono ae.out.2.1.size)
     have an:Hid (SRow z7 C6 (r.map spOf)/\(r.map spOf).length=n6):=⟨ao (aI ae.out 0 rfl).1 al.out,(aI ae.out 0 rfl).2⟩
     obtain⟨K,hK⟩:=ex (checkA ⟨nm,r.map spOf⟩)
     have aU:Hid (X=if K=0 then (0,⟨nm,r.map spOf⟩) else (K,zeroA)):=by show _=_;rw[aT.out,hK];first | rfl | rw[if_pos trivial]
     rw[hK]
     have bb:Hid (Bx2 z6.heap.size nm C6 n6 d6 z7):=aR (dk z6 nm C6 n6 d6 51) (by simp) aL
     obtain⟨q0,q1,f0,f1,aa,ab⟩:=aj.out z7 am.out
     obtain⟨k0,k1⟩:=bb.out
     have bj:w.heap.size+1<z6.heap.size:=by
      have h:=ae.out.2.1.size
      have h2:w.heap.size+2<=W2.heap.size:=aW.out
      omega
     clear aL hK
     by_cases hk:K=0
     ·subst hk
      have aF:Hid (X=(0,⟨nm,r.map spOf⟩)):=aU.out
      rw[a8]
      go_wp2_with fail
      have bc:Hid (SRow (((z7.setCell ⟨w.heap.size,0,none⟩ (.string ⟨nm.toArray⟩)).setCell ⟨w.heap.size,1,none⟩ (.slice C6 n6 d6)).setCell ⟨w.heap.size+1,0,none⟩ (.int .i64 0)) C6 (r.map spOf)):=by
       have hp:=aM.out z7 am.out
       have a1:=fA an.out.1 hp.1
       have a2:=fA an.out.1 hp.2
       exact dA (dA (dA an.out.1 a1) a1) a2
      have bd:Hid (Below w.heap.size w (((z7.setCell ⟨w.heap.size,0,none⟩ (.string ⟨nm.toArray⟩)).setCell ⟨w.heap.size,1,none⟩ (.slice C6 n6 d6)).setCell ⟨w.heap.size+1,0,none⟩ (.int .i64 0))) :=
       (((bt af.out am.out).setCell (Nat.le_refl _) _).setCell (Nat.le_refl _) _).setCell (Nat.le_succ _) _
      have g0:(((z7.setCell ⟨w.heap.size,0,none⟩ (.string ⟨nm.toArray⟩)).setCell ⟨w.heap.size,1,none⟩ (.slice C6 n6 d6)).setCell ⟨w.heap.size+1,0,none⟩ (.int .i64 0)).cell? ⟨w.heap.size,0,none⟩=some (.string ⟨nm.toArray⟩):=by
       rw[World.cell?_setCell_far _ _ _ _ (by show w.heap.size+1≠w.heap.size;omega)];simp[go_sem,q0]
      have g1:(((z7.setCell ⟨w.heap.size,0,none⟩ (.string ⟨nm.toArray⟩)).setCell ⟨w.heap.size,1,none⟩ (.slice C6 n6 d6)).setCell ⟨w.heap.size+1,0,none⟩ (.int .i64 0)).cell? ⟨w.heap.size,1,none⟩=some (.slice C6 n6 d6):=by
       rw[World.cell?_setCell_far _ _ _ _ (by show w.heap.size+1≠w.heap.size;omega)];simp[go_sem,q1]
      have g2:(((z7.setCell ⟨w.heap.size,0,none⟩ (.string ⟨nm.toArray⟩)).setCell ⟨w.heap.size,1,none⟩ (.slice C6 n6 d6)).setCell ⟨w.heap.size+1,0,none⟩ (.int .i64 0)).cell? ⟨w.heap.size+1,0,none⟩=some (.int .i64 0):=by
       simp[go_sem,aa]
      have g3:(((z7.setCell ⟨w.heap.size,0,none⟩ (.string ⟨nm.toArray⟩)).setCell ⟨w.heap.size,1,none⟩ (.slice C6 n6 d6)).setCell ⟨w.heap.size+1,0,none⟩ (.int .i64 0)).frozen? ⟨w.heap.size+1,0,none⟩=false:=by
       simp[go_sem,ab]
      generalize ((z7.setCell ⟨w.heap.size,0,none⟩ (.string ⟨nm.toArray⟩)).setCell ⟨w.heap.size,1,none⟩ (.slice C6 n6 d6)).setCell ⟨w.heap.size+1,0,none⟩ (.int .i64 0)=V at *
      have k2:(V.setCell ⟨w.heap.size+1,0,none⟩ (.int .i64 0)).cell? ⟨w.heap.size,0,none⟩=some (.string ⟨nm.toArray⟩):=by rw[World.cell?_setCell_far _ _ _ _ (by show w.heap.size+1≠w.heap.size;omega)];exact g0
      have k3:(V.setCell ⟨w.heap.size+1,0,none⟩ (.int .i64 0)).cell? ⟨w.heap.size,1,none⟩=some (.slice C6 n6 d6):=by rw[World.cell?_setCell_far _ _ _ _ (by show w.heap.size+1≠w.heap.size;omega)];exact g1
      have be:Hid (SRow (V.setCell ⟨w.heap.size+1,0,none⟩ (.int .i64 0)) C6 (r.map spOf)):=dA bc.out (fA an.out.1 (aM.out z7 am.out).2)
      refine leaves_cons (f:=294) (args:=#[.pointer (some ⟨w.heap.size+1,0,none⟩)]) (by simp) (by simp[go_sem]) ?_
      refine (wk ⟨w.heap.size+1,0,none⟩ 0 _ ?_ ?_).mono ?_
      ·simp[go_sem,g2]
      ·simp[go_sem,g3]
      rintro e u' w3 ⟨rfl,rfl,rfl⟩
      simp[Leaves,settle,results,Tryz.results275,go_sem,g2,k2,k3]
      rw[aF.out]
      exact⟨C6,n6,d6,rfl,an.out.2,be.out,bd.out.setCell (Nat.le_succ _) _⟩
     ·rw[a7 hk]
      have aF:Hid (X=(K,zeroA)):=by show _=_;rw[aU.out,if_neg hk]
      clear hk
      go_wp2_with fail
      refine leaves_cons (f:=294) (args:=#[.pointer (some ⟨w.heap.size+1,0,none⟩)]) (by simp) (by simp[go_sem]) ?_
      refine (dy ⟨w.heap.size+1,0,none⟩ 0 _ _ ?_ ?_).mono ?_
      ·simp[go_sem,aa]
      ·simp[go_sem,ab]
      rintro e u' w3 ⟨rfl,rfl,rfl⟩
      have ac:(z7.setCell ⟨w.heap.size+1,0,none⟩ (.int .i64 K)).cell? ⟨w.heap.size,0,none⟩=some (.string ⟨#[]⟩):=by rw[World.cell?_setCell_far _ _ _ _ (by show w.heap.size+1≠w.heap.size;omega)];exact q0
      have ad:(z7.setCell ⟨w.heap.size+1,0,none⟩ (.int .i64 K)).cell? ⟨w.heap.size,1,none⟩=some (.slice none 0 0):=by rw[World.cell?_setCell_far _ _ _ _ (by show w.heap.size+1≠w.heap.size;omega)];exact q1
      simp[Leaves,settle,results,Tryz.results275,go_sem,aa,ac,ad]
      exact c7 aF.out (bt af.out am.out)
    ·obtain⟨he,aq⟩:=hh.2 ay
     subst he
     have bf:Hid (X=(h1,zeroA)):=by show _=_;rw[aT.out,if_neg ay]
     have aV:Hid (Below W2.heap.size W2 z6):=aq.2.1
     obtain⟨q0,q1,_,_,aa,ab⟩:=aj.out z6 aV.out
     clear hh aq ay
     go_wp2_with fail
     refine leaves_cons (f:=294) (args:=#[.pointer (some ⟨w.heap.size+1,0,none⟩)]) (by simp) (by simp[go_sem]) ?_
     refine (dy ⟨w.heap.size+1,0,none⟩ 0 _ _ ?_ ?_).mono ?_
     ·simp[go_sem,aa]
     ·simp[go_sem,ab]
     rintro e u' w3 ⟨rfl,rfl,rfl⟩
     have ac:(z6.setCell ⟨w.heap.size+1,0,none⟩ (.int .i64 h1)).cell? ⟨w.heap.size,0,none⟩=some (.string ⟨#[]⟩):=by rw[World.cell?_setCell_far _ _ _ _ (by show w.heap.size+1≠w.heap.size;omega)];exact q0
     have ad:(z6.setCell ⟨w.heap.size+1,0,none⟩ (.int .i64 h1)).cell? ⟨w.heap.size,1,none⟩=some (.slice none 0 0):=by rw[World.cell?_setCell_far _ _ _ _ (by show w.heap.size+1≠w.heap.size;omega)];exact q1
     simp[Leaves,settle,results,Tryz.results275,go_sem,aa,ac,ad]
     exact c7 bf.out (bt af.out aV.out)
   ·have d0:decide ((v:Int)<=16)=false:=decide_eq_false (by omega)
    have aC:Hid (X=(4,zeroA)):=by show _=_;rw[aw.out,if_neg ax]
    obtain⟨q0,q1,_,_,aa,ab⟩:=aj.out z1 HB.out
    clear ax
    go_wp2_with fail
    refine (au _).mono ?_
    rintro _ z4 ⟨rfl,rfl⟩
    go_wp2_with fail
    refine leaves_cons (f:=294) (args:=#[.pointer (some ⟨w.heap.size+1,0,none⟩)]) (by simp) (by simp[go_sem]) ?_
    refine (dy ⟨w.heap.size+1,0,none⟩ 0 _ _ ?_ ?_).mono ?_
    ·simp[go_sem,aa]
    ·simp[go_sem,ab]
    rintro e u' w3 ⟨rfl,rfl,rfl⟩
    have ac:(z1.setCell ⟨w.heap.size+1,0,none⟩ (.int .i64 4)).cell? ⟨w.heap.size,0,none⟩=some (.string ⟨#[]⟩):=by rw[World.cell?_setCell_far _ _ _ _ (by show w.heap.size+1≠w.heap.size;omega)];exact q0
    have ad:(z1.setCell ⟨w.heap.size+1,0,none⟩ (.int .i64 4)).cell? ⟨w.heap.size,1,none⟩=some (.slice none 0 0):=by rw[World.cell?_setCell_far _ _ _ _ (by show w.heap.size+1≠w.heap.size;omega)];exact q1
    simp[Leaves,settle,results,Tryz.results275,go_sem,aa,ac,ad]
    exact c7 aC.out (bt af.out HB.out)
end
end Go.Proofs.YtgnaiidgjmicaaaGreatDoor
