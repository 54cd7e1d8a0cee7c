/- Part 11 of what the laws lean on. -/
import Derived.Test.YtgnaiidgjmicaaaGreatDoorL10
import Derived.StillTailTactics
set_option maxRecDepth 100000
set_option maxHeartbeats 3200000
namespace Go.Proofs.YtgnaiidgjmicaaaGreatDoor
section
open Go.RowKit Rs At
theorem jy (w:World)(T:TypeId)(l:List (List UInt8))(cs:Array Value)(h:cs.toList=Rg.flat encT l):Rg.Row encT 1 (w.alloc (.cells cs T)) (some ⟨w.heap.size,0,none⟩) l:=fun _=>by
 refine⟨_,rfl,by simp,fun i hi j v hv=>?_⟩
 have hj:j<1:=(List.getElem?_eq_some_iff.1 hv).1
 rw[<-Rg.eM]
 exact Rg.aw w T l cs h _ _ ((Rg.flat_get fitsT l i hi j hj).trans hv)
theorem cE {w:World}{A:Option Addr}{l:List (List UInt8)}(h:Rg.Row encT 1 w A l)(k:Nat)(hk:k<l.length):∃ ad,A=some ad/\ad.block<w.heap.size/\w.cell? (ad.add k)=some (.string ⟨l[k].toArray⟩):=by
 obtain⟨ad,x,e,hx,aa,hc⟩:=Rg.bz h k hk
 refine⟨ad,e,aa,?_⟩
 have:=hc 0 _ rfl
 rw[if_pos rfl,Nat.mul_one] at this
 rw[hx]
 exact this
theorem flatT (l:List (List UInt8)):Rg.flat encT l=l.map fun t=>Value.string ⟨t.toArray⟩:=by
 induction l with
 | nil=>rfl
 | cons a l ih=>show encT a++Rg.flat encT l=_;rw[ih];rfl
theorem bV (sep:List UInt8):∀ (k:Nat) (s:List UInt8),∀ p∈Lib.splitK sep 0 k s,p.length<=s.length
 | 0,s,p,hp=>by
  unfold Lib.splitK at hp
  rw[List.mem_singleton.1 hp];exact Nat.le_refl _
 | k+1,s,p,hp=>by
  unfold Lib.splitK at hp
  split at hp
  ·rw[List.mem_singleton.1 hp];exact Nat.le_refl _
  ·rcases List.mem_cons.1 hp with e | hp
   ·rw[e];simp;omega
   ·have:=bV sep k _ p hp
    simp at this;omega
theorem eV (s sep:List UInt8)(w:World)(hm:MaxOk w)(hl:s.length<=900000)(h1:1<=sep.length) :
  Calls Tryz.prog 204 #[.string ⟨s.toArray⟩,.string ⟨sep.toArray⟩] w fun e w'=>∃ A n c,e=.returned (.slice A n c)/\(Lib.split s sep).length=n/\n<=s.length+1/\Rg.Row encT 1 w' A (Lib.split s sep)/\Below w.heap.size w w':=by
 obtain⟨m,hm⟩:=hm
 refine (Tryz.strings_Split ⟨s.toArray⟩ ⟨sep.toArray⟩ m w (by show s.length<_;omega) hm h1).mono ?_
 rintro e w' ⟨rfl,rfl⟩
 have hd:(Lib.splitB ⟨sep.toArray⟩ 0 (Lib.countB ⟨s.toArray⟩ ⟨sep.toArray⟩) ⟨s.toArray⟩).map (·.data.toList)=Lib.split s sep:=Lib.splitB_data _ _ _ _
 have hn:=Lib.splitB_all ⟨sep.toArray⟩ h1 0 (Lib.countB ⟨s.toArray⟩ ⟨sep.toArray⟩) ⟨s.toArray⟩ rfl
 have hc:=Lib.countB_le ⟨sep.toArray⟩ h1 s.length ⟨s.toArray⟩ (Nat.le_refl _)
 refine⟨_,_,_,rfl,by rw[<-hd,List.length_map,hn],Nat.succ_le_succ hc,jy w _ _ _ ?_,(Below.refl _ _).alloc (Nat.le_refl _) _⟩
 rw[flatT,<-hd,List.map_map]
 rfl
theorem uR (s:List UInt8):bodyP s=if Lib.hasPrefix s [40]&&Lib.hasSuffix (Lib.trimPrefix s [40]) [41] then some (Lib.trimSuffix (Lib.trimPrefix s [40]) [41]) else none:=by
 cases s with
 | nil=>rfl
 | cons b l =>
  by_cases hb:b=40
  ·subst hb
   have hp:Lib.hasPrefix (40 :: l) [40]=true:=by simp[Lib.hasPrefix]
   have ht:Lib.trimPrefix (40 :: l) [40]=l:=by unfold Lib.trimPrefix;rw[hp];rfl
   rw[ht,hp,Bool.true_and]
   unfold bodyP Lib.trimSuffix Lib.hasSuffix
   rcases List.eq_nil_or_concat l with rfl | ⟨m,x,rfl⟩
   ·rfl
   ·rw[List.concat_eq_append]
    have hx:([41]:List UInt8).isSuffixOf (m++[x])=(x==41):=by
     show List.isPrefixOf [41] (m++[x]).reverse=_
     rw[List.reverse_append]
     show ((41==x)&&true)=_
     rw[Bool.and_true,Bool.eq_iff_iff,beq_iff_eq,beq_iff_eq]
     exact eq_comm
    rw[hx]
    have hz:(40 :: (m++[x])).length=m.length+2:=by simp
    have hg:(40 :: (m++[x])).getD (m.length+1) 0=x:=by
     rw[List.getD_cons_succ,List.getD_eq_getElem?_getD,List.getElem?_append_right (Nat.le_refl _)];simp
    have aa:(m++[x]).length-([41]:List UInt8).length=m.length:=by simp
    rw[hz,aa,show m.length+2-1=m.length+1 from rfl,hg]
    show (if 2<=m.length+2/\(40:UInt8)=40/\x=41 then some (List.take (m.length+2-2) (m++[x])) else none)=_
    by_cases e:x=41
    ·subst e;rw[if_pos ⟨by omega,rfl,rfl⟩];rfl
    ·rw[if_neg (fun h=>e h.2.2),show (x==41)=false from beq_eq_false_iff_ne.2 e];rfl
  ·have hp:Lib.hasPrefix (b :: l) [40]=false:=by
    show ((40==b)&&List.isPrefixOf [] l)=false
    rw[show ((40:UInt8)==b)=false from beq_eq_false_iff_ne.2 (Ne.symm hb)];rfl
   rw[hp,Bool.false_and]
   unfold bodyP
   rw[if_neg (by rintro⟨_,h,_⟩;exact hb h)]
   rfl
def UnR (R:Option (List UInt8)) (e:Ending):Prop:=match R with | some b=>e=.returned (.string ⟨b.toArray⟩) | none=>e=pan 2
theorem td (s:List UInt8)(w:World)(hs:s.length<=900000) :
  Calls Tryz.prog 310 #[.string ⟨s.toArray⟩] w fun e w'=>UnR (bodyP s) e/\w'=w:=by
 obtain⟨R,hR⟩:=ex (bodyP s)
 rw[hR]
 rw[uR] at hR
 have c1:=Tryz.strings_CutPrefix ⟨s.toArray⟩ ⟨#[40]⟩ w
 rw[show Lib.trimPrefix (⟨s.toArray⟩:ByteArray).data.toList (⟨#[40]⟩:ByteArray).data.toList=Lib.trimPrefix s [40] from rfl,show Lib.hasPrefix (⟨s.toArray⟩:ByteArray).data.toList (⟨#[40]⟩:ByteArray).data.toList=Lib.hasPrefix s [40] from rfl] at c1
 have ab:(Lib.trimPrefix s [40]).length<=s.length:=by unfold Lib.trimPrefix;split <;> simp
 obtain⟨t,ht⟩:=ex (Lib.trimPrefix s [40])
 obtain⟨p,hp⟩:=ex (Lib.hasPrefix s [40])
 rw[ht,hp] at hR c1
 rw[ht] at ab
 have c2:=Tryz.strings_CutSuffix ⟨t.toArray⟩ ⟨#[41]⟩ w (by show t.length<=_;omega)
 rw[show Lib.trimSuffix (⟨t.toArray⟩:ByteArray).data.toList (⟨#[41]⟩:ByteArray).data.toList=Lib.trimSuffix t [41] from rfl,show Lib.hasSuffix (⟨t.toArray⟩:ByteArray).data.toList (⟨#[41]⟩:ByteArray).data.toList=Lib.hasSuffix t [41] from rfl] at c2
 obtain⟨v,hv⟩:∃ t',Lib.trimSuffix t [41]=t':=⟨_,rfl⟩
 obtain⟨q,hq⟩:=ex (Lib.hasSuffix t [41])
 rw[hv,hq] at hR c2
 have HR:=zh hR
 have C1:=zh c1
 have C2:=zh c2
 clear hR c1 c2 ht hp hv hq ab
 cases p
 ·have aa:Hid (R=none):=by show _=_;rw[<-HR.out];rfl
  go_enter Tryz.func310,Tryz.ntmps310
  go_wp2_with fail
  refine C1.out.mono ?_
  rintro e' u ⟨rfl,hw⟩;rw[hw]
  go_wp2_with fail
  refine C2.out.mono ?_
  rintro e' u ⟨rfl,hw⟩;rw[hw]
  go_wp2_with fail
  refine (ai _).mono ?_
  rintro _ u2 ⟨rfl,rfl⟩
  go_wp2_with fail
  exact⟨rfl,by show UnR R _;rw[aa.out];rfl,rfl⟩
 ·cases q
  ·have aa:Hid (R=none):=by show _=_;rw[<-HR.out];rfl
   go_enter Tryz.func310,Tryz.ntmps310
   go_wp2_with fail
   refine C1.out.mono ?_
   rintro e' u ⟨rfl,hw⟩;rw[hw]
   go_wp2_with fail
   refine C2.out.mono ?_
   rintro e' u ⟨rfl,hw⟩;rw[hw]
   go_wp2_with fail
   refine (ai _).mono ?_
   rintro _ u2 ⟨rfl,rfl⟩
   go_wp2_with fail
   exact⟨rfl,by show UnR R _;rw[aa.out];rfl,rfl⟩
  ·have aa:Hid (R=some v):=by show _=_;rw[<-HR.out];rfl
   go_enter Tryz.func310,Tryz.ntmps310
   go_wp2_with fail
   refine C1.out.mono ?_
   rintro e' u ⟨rfl,hw⟩;rw[hw]
   go_wp2_with fail
   refine C2.out.mono ?_
   rintro e' u ⟨rfl,hw⟩;rw[hw]
   go_wp2_with fail
   refine (ah _).mono ?_
   rintro _ u2 ⟨rfl,rfl⟩
   go_wp2_with fail
   go_ret
   exact⟨by show UnR R _;rw[aa.out];rfl,rfl⟩
theorem mC {α β γ:Type}{f:α->Option β}{p:α}{l:List α}{g:List β->γ}(h:f p=none):((p :: l).mapM f).map g=none:=by
 rw[List.mapM_cons,h];rfl
theorem mD {α β:Type}{f:α->Option β}{p:α}{c:β}{l:List α}{acc:List β}(h:f p=some c):((p :: l).mapM f).map (acc++·)=(l.mapM f).map ((acc++[c])++·):=by
 rw[List.mapM_cons,h]
 show ((l.mapM f).bind fun r=>some (c :: r)).map _=_
 cases l.mapM f with
 | none=>rfl
 | some r=>show some (acc++c :: r)=some (acc++[c]++r);simp
def AltRet (w:World) (R:Option (List Cond)) (e:Ending) (w':World):Prop:=match R with | some l=>CondsRet w l e w' | none=>e=pan 2/\Below w.heap.size w w'
theorem de (s:List UInt8)(w:World)(hw:MaxOk w)(hs:s.length<=900000) :
  Calls Tryz.prog 318 #[.string ⟨s.toArray⟩] w (AltRet w (altP s)):=by
 obtain⟨R,hR⟩:=ex (altP s)
 rw[hR]
 have hc:=eV s [32,38,32] w hw hs (by decide)
 have ai:∀ p∈Lib.split s [32,38,32],p.length<=s.length:=bV _ _ _
 unfold altP at hR
 obtain⟨ps,av⟩:=ex (Lib.split s [32,38,32])
 rw[av] at hR hc ai
 have HR:=zh hR
 have HC:=zh hc
 have HP:Hid (∀ p∈ps,p.length<=900000):=fun p hp=>Nat.le_trans (ai p hp) hs
 have HM:=zh hw
 clear hR hc ai av hw
 go_enter Tryz.func318,Tryz.ntmps318
 go_wp2_with fail
 refine HC.out.mono ?_
 rintro _ z1 ⟨A,n,c,rfl,hn,aw,ah,ax⟩
 have HN:=zh hn
 have ap:Hid (n<=900001):=Nat.le_trans aw (by omega)
 have aj:=zh ah
 have ac:=zh ax
 clear hn aw ah ax
 go_wp2_with fail
 go_loopw [3,9] (fun v i wr=>∃ (k:Nat) (acc:List Cond),k<=n/\i=.int .i64 k/\Hid (DOwn wr z1.heap.size v acc)/\Hid (Below z1.heap.size z1 wr/\z1.heap.size<=wr.heap.size)/\Hid (acc.length=k)/\Hid (((ps.drop k).mapM condP).map (acc++·)=R)) (fun _ i _=>n-(intOf i).toNat)
 case atStart=>exact⟨0,[],Nat.zero_le _,rfl,Rg.an _ _ _,⟨Below.refl _ _,Nat.le_refl _⟩,rfl,by show ((ps.drop 0).mapM condP).map _=R;rw[List.drop_zero,HR.out];cases R <;> rfl⟩
 case round =>
  obtain⟨k,acc,hk,rfl,HO,HB,HA,HE⟩:=hrel
  have aq:Hid (MaxOk wr):=ab (ab HM.out ac.out) HB.out.1
  by_cases ar:k<n
  ·have au:=zh ar
   have ak:k<ps.length:=by rw[HN.out];exact ar
   have aH:k<=900001:=by have:=ap.out;omega
   obtain⟨ad,rfl,_,c0⟩:=cE (Rg.ag aj.out HB.out.1) k ak
   have af:=HP.out _ (List.getElem_mem ak)
   have he:=HE.out
   rw[List.drop_eq_getElem_cons ak] at he
   obtain⟨p,hp⟩:=ex (ps[k])
   rw[hp] at af he c0
   have aB:Hid (acc.length+1<=1000000):=by have:=HA.out;have:=ap.out;show _<=_;omega
   cases ae:condP p with
   | none =>
    have al:Hid (R=none):=by show _=_;rw[<-he];exact mC ae
    have am:=zh (dJ p wr aq.out (Nat.le_trans af (by decide)))
    have ao:=zh ae
    clear he hp af ae
    go_wp2_with fail
    refine am.out.mono ?_
    rintro e z2 ⟨he,hb⟩
    rw[ao.out] at he
    obtain rfl:e=pan 2:=he
    have aa:Hid (Below w.heap.size w z2):=ac.out.trans ((HB.out.1.trans (hb.mono HB.out.2)).mono ac.out.size)
    clear hb
    go_wp2_with fail
    exact⟨rfl,by show AltRet w R _ _;rw[al.out];exact⟨rfl,aa.out⟩⟩
   | some cd =>
    have aC:=zh ((mD (acc:=acc) ae).symm.trans he)
    have am:=zh (dJ p wr aq.out (Nat.le_trans af (by decide)))
    have ao:=zh ae
    clear he hp af ae
    go_wp2_with fail
    refine am.out.mono ?_
    rintro e z2 ⟨he,hb⟩
    rw[ao.out] at he
    obtain rfl:e=.returned (.agg #[.string ⟨cd.1.toArray⟩,.string ⟨cd.2.toArray⟩]):=he
    have aa:=zh hb
    clear hb c0
    go_wp2_with (at_builtin;refine Rg.bb sliceD rfl (.tmp 13) (.tmp 16) rfl z1.heap.size _ acc [cd] rfl (Rg.own_below HO.out (aa.out.alloc aa.out.size _)) _ _ rfl (newsD z2 cd _) (Nat.zero_lt_succ _) aB.out ?b2 ?_)
    case b2=>have:=HB.out.2;have:=aa.out.size;simp;omega
    intro v5 W5 ay az aG
    have aD:=uP HB aa.out HO az
    have aE:Hid (DOwn W5 z1.heap.size v5 (acc++[cd])):=ay
    clear ay az aG HO HB aa
    go_wp2_with fail
    go_roundw
    case rel=>exact⟨k+1,acc++[cd],(by have:=au.out;omega),by go_num,aE,aD,by show (acc++[cd]).length=_;rw[List.length_append,HA.out];rfl,aC⟩
    case measure=>have:=au.out;simp[intOf];omega
  ·obtain rfl:k=n:=by omega
   have al:Hid (R=some acc):=by show _=_;rw[<-HE.out,List.drop_eq_nil_of_le (by rw[HN.out];exact Nat.le_refl _)];show some (acc++[])=_;rw[List.append_nil]
   obtain⟨C,d,rfl,aA,hf⟩:=eE HO.out
   have aF:=zh aA
   have HF:=zh hf
   clear aA hf
   go_wp2_with fail
   go_ret
   show AltRet w R _ _
   rw[al.out]
   exact⟨C,_,d,rfl,rfl,aF.out,fun a ha=>Nat.le_trans ac.out.size (HF.out a ha),ac.out.trans (HB.out.1.mono ac.out.size)⟩
def TermR (w:World) (R:Option (List (List Cond))) (e:Ending) (w':World):Prop:=match R with | some t=>TermRet w t e w' | none=>e=pan 2/\Below w.heap.size w w'
theorem nr (s:List UInt8)(w:World)(hw:MaxOk w)(hs:s.length<=900000) :
  Calls Tryz.prog 309 #[.string ⟨s.toArray⟩] w (TermR w (termP s)):=by
 obtain⟨R,hR⟩:=ex (termP s)
 rw[hR]
 unfold termP at hR
 by_cases ah:s=noneT
 ·rw[if_pos ah] at hR
  have ai:Hid (R=some []):=hR.symm
  subst ah
  clear hR
  go_enter Tryz.func309,Tryz.ntmps309
  go_wp2_with fail
  go_ret
  show TermR w R _ _
  rw[ai.out]
  exact⟨none,0,0,rfl,rfl,⟨[],fun h=>absurd h (by decide),rfl,fun i d l h=>by simp at h⟩,Below.refl _ _⟩
 rw[if_neg ah] at hR
 have aK:(s==[110,111,110,101])=false:=beq_eq_false_iff_ne.2 ah
 have hc:=eV s [32,124,32] w hw hs (by decide)
 have am:∀ p∈Lib.split s [32,124,32],p.length<=s.length:=bV _ _ _
 obtain⟨ps,ax⟩:=ex (Lib.split s [32,124,32])
 rw[ax] at hR hc am
 have HR:=zh hR
 have HC:=zh hc
 have HP:Hid (∀ p∈ps,p.length<=900000):=fun p hp=>Nat.le_trans (am p hp) hs
 have HM:=zh hw
 clear hR hc am ax hw ah
 go_enter Tryz.func309,Tryz.ntmps309
 go_wp2_with fail
 refine HC.out.mono ?_
 rintro _ z1 ⟨A,n,c,rfl,hn,ay,aa,az⟩
 have HN:=zh hn
 have ar:Hid (n<=900001):=Nat.le_trans ay (by omega)
 have an:=zh aa
 have aj:=zh az
 clear hn ay aa az
 go_wp2_with fail
 go_loopw [3,12] (fun v i wr=>∃ (k:Nat) (acc:List (List Cond)),k<=n/\i=.int .i64 k/\Hid (TOwn wr z1.heap.size v acc)/\Hid (Below z1.heap.size z1 wr/\z1.heap.size<=wr.heap.size)/\Hid (acc.length=k)/\Hid (((ps.drop k).mapM altP).map (acc++·)=R)) (fun _ i _=>n-(intOf i).toNat)
 case atStart=>exact⟨0,[],Nat.zero_le _,rfl,oM _ _,⟨Below.refl _ _,Nat.le_refl _⟩,rfl,by show ((ps.drop 0).mapM altP).map _=R;rw[List.drop_zero,HR.out];cases R <;> rfl⟩
 case round =>
  obtain⟨k,acc,hk,rfl,HO,HB,HA,HE⟩:=hrel
  have au:Hid (MaxOk wr):=ab (ab HM.out aj.out) HB.out.1
  by_cases av:k<n
  ·have aw:=zh av
   have ao:k<ps.length:=by rw[HN.out];exact av
   have aL:k<=900001:=by have:=ar.out;omega
   obtain⟨ad,rfl,_,c0⟩:=cE (Rg.ag an.out HB.out.1) k ao
   have ak:=HP.out _ (List.getElem_mem ao)
   have he:=HE.out
   rw[List.drop_eq_getElem_cons ao] at he
   obtain⟨p,hp⟩:=ex (ps[k])
   rw[hp] at ak he c0
   have aE:Hid (acc.length+1<=1000000):=by have:=HA.out;have:=ar.out;show _<=_;omega
   cases af:altP p with
   | none =>
    have ai:Hid (R=none):=by show _=_;rw[<-he];exact mC af
    have ap:=zh (de p wr au.out ak)
    have aq:=zh af
    clear he hp ak af
    go_wp2_with fail
    refine ap.out.mono ?_
    rintro e z2 hh
    rw[aq.out] at hh
    obtain⟨he,hb⟩:e=pan 2/\Below wr.heap.size wr z2:=hh
    subst he
    have ae:Hid (Below w.heap.size w z2):=aj.out.trans ((HB.out.1.trans (hb.mono HB.out.2)).mono aj.out.size)
    clear hb
    go_wp2_with fail
    exact⟨rfl,by show TermR w R _ _;rw[ai.out];exact⟨rfl,ae.out⟩⟩
   | some al =>
    have aF:=zh ((mD (acc:=acc) af).symm.trans he)
    have ap:=zh (de p wr au.out ak)
    have aq:=zh af
    clear he hp ak af
    go_wp2_with fail
    refine ap.out.mono ?_
    rintro e z2 hh
    rw[aq.out] at hh
    obtain⟨C,m,d,rfl,hm,aa,hf,hb⟩:CondsRet wr al e z2:=hh
    have aG:=zh hm
    have ac:=zh aa
    have ae:=zh hb
    have HF:Hid (∀ a,C=some a->wr.heap.size<=a.block):=hf
    clear hm aa hf hb c0
    go_wp2_with (at_builtin;refine ja rfl (.tmp 16) (.tmp 19) rfl z1.heap.size _ acc al C m d rfl rfl (kl HO.out ae.out) aG.out ac.out (tfresh HO.out (Nat.le_refl _) HF.out _) aE.out (Nat.le_trans HB.out.2 ae.out.size) ?_)
    intro v5 W5 aA aB aC
    have aH:=zh aA
    have aI:Hid (Below z1.heap.size z1 W5/\z1.heap.size<=W5.heap.size):=⟨(HB.out.1.trans (ae.out.mono HB.out.2)).trans aB,Nat.le_trans (Nat.le_trans HB.out.2 ae.out.size) aC⟩
    clear aA aB aC HO HB ae ac HF
    go_wp2_with fail
    go_roundw
    case rel=>exact⟨k+1,acc++[al],(by have:=aw.out;omega),by go_num,aH,aI,by show (acc++[al]).length=_;rw[List.length_append,HA.out];rfl,aF⟩
    case measure=>have:=aw.out;simp[intOf];omega
  ·obtain rfl:k=n:=by omega
   have ai:Hid (R=some acc):=by show _=_;rw[<-HE.out,List.drop_eq_nil_of_le (by rw[HN.out];exact Nat.le_refl _)];show some (acc++[])=_;rw[List.append_nil]
   obtain⟨C,d,rfl,aD⟩:=oN HO.out
   have aJ:=zh aD
   clear aD
   go_wp2_with fail
   go_ret
   show TermR w R _ _
   rw[ai.out]
   exact⟨C,_,d,rfl,rfl,aJ.out,aj.out.trans (HB.out.1.mono aj.out.size)⟩
end
section
open Go.RowKit Rs At
def parseT (s:List UInt8):Option (List (List Cond)):=if wordB (Vm.fst 32 s) then (if Vm.has 32 s then (bodyP (Vm.snd 32 s)).bind termP else some [[]]) else none
theorem mE (s:List UInt8):parseA s=match parseT s with | none=>(2,zeroA) | some t=>readA (Vm.fst 32 s) t:=by
 unfold parseA parseT
 cases wordB (Vm.fst 32 s)
 ·rfl
 ·simp only[if_true]
  cases h:Vm.has 32 s
  ·have:=(At.oL (c:=32) (p:=s) (fun hm=>by unfold Vm.has at h;rw[List.contains_iff_mem.2 hm] at h;cases h)).1
   rw[this];rfl
  ·simp only[if_true]
   cases (bodyP (Vm.snd 32 s)).bind termP <;> rfl
theorem zn {s v:List UInt8}(h:bodyP s=some v):v.length<=s.length:=by
 unfold bodyP at h
 split at h
 ·cases h;simp;omega
 ·cases h
def PR (w:World) (name:List UInt8) (R:Option (List (List Cond))) (e:Ending) (w':World):Prop :=
 match R with
 | some t=>∃ C n c,e=.returned (.tuple #[.string ⟨name.toArray⟩,.slice C n c])/\t.length=n/\TRow w' C t/\Below w.heap.size w w'
 | none=>e=pan 2/\Below w.heap.size w w'
theorem ku (s:List UInt8)(w:World)(hw:MaxOk w)(hs:s.length<=900000) :
  Calls Tryz.prog 295 #[.string ⟨s.toArray⟩] w (PR w (Vm.fst 32 s) (parseT s)):=by
 obtain⟨R,hR⟩:=ex (parseT s)
 rw[hR]
 have hcut:=rM 32 s w hw (by omega)
 have ak:(Vm.snd 32 s).length<=900000:=by unfold Vm.snd;rw[List.length_drop];have:=(List.dropWhile_sublist (. != (32:UInt8)) (l:=s)).length_le;omega
 have al:(Vm.fst 32 s).length<=1000000:=by unfold Vm.fst;have:=(List.takeWhile_sublist (. != (32:UInt8)) (l:=s)).length_le;omega
 unfold parseT at hR
 obtain⟨x,hx⟩:=ex (Vm.fst 32 s)
 obtain⟨y,hy⟩:=ex (Vm.snd 32 s)
 obtain⟨b,hb⟩:=ex (Vm.has 32 s)
 obtain⟨y2,ao⟩:=ex (if b then y else [])
 rw[hx,hy,hb,ao] at hcut
 rw[hx,hy,hb] at hR
 have av:Hid (b=true->y2=y):=fun h=>by rw[<-ao,h];rfl
 rw[hx] at al ⊢
 rw[hy] at ak
 have HR:=zh hR
 have HC:=zh hcut
 have HM:=zh hw
 have HY:=zh ak
 have HX:=zh al
 clear hR hcut hw ak al hx hy hb hs ao
 go_enter Tryz.func295,Tryz.ntmps295
 go_wp2_with fail
 refine HC.out.mono ?_
 rintro _ z1 ⟨rfl,ap⟩
 have ar:=zh ap
 have aw:Hid (MaxOk z1):=ab HM.out ap
 clear ap
 go_wp2_with fail
 cases ac:wordB x
 ·have ag:Hid (R=none):=by show _=_;rw[<-HR.out,ac];rfl
  refine (rN x _ HX.out ac).mono ?_
  clear ac
  rintro _ z2 ⟨rfl,af⟩
  go_wp2_with fail
  exact⟨rfl,by show PR w x R _ _;rw[ag.out];exact⟨rfl,bt ar.out af⟩⟩
 ·refine (oQ x _ HX.out ac).mono ?_
  have ag:Hid (R=if b then (bodyP y).bind termP else some [[]]):=by show _=_;rw[<-HR.out,ac];rfl
  clear ac
  rintro _ z2 ⟨rfl,af⟩
  have ah:Hid (Below w.heap.size w z2):=bt ar.out af
  have ax:Hid (MaxOk z2):=ab aw.out af
  clear af
  cases b
  ·have ai:Hid (R=some [[]]):=ag.out
   go_wp2_with fail
   refine (rJ z2).mono ?_
   rintro _ z3 ⟨⟨C,d,rfl,hr,_,_⟩,au⟩
   have ay:=zh hr
   have az:Hid (Below w.heap.size w z3):=bt ah.out au
   clear hr au
   go_wp2_with fail
   refine (km C _ d (allR.map spOf) _ rfl ay.out (by decide)).mono ?_
   rintro _ z4 ⟨C4,n4,d4,rfl,hn,hr,ae⟩
   have HN:=zh hn
   have am:=zh hr
   have aA:Hid (Below w.heap.size w z4):=bt az.out ae
   clear hn hr ae
   go_wp2_with fail
   go_ret2
   show PR w x R _ _
   rw[ai.out]
   exact⟨C4,n4,d4,rfl,HN.out,am.out,aA.out⟩
  ·have ai:Hid (R=(bodyP y).bind termP):=ag.out
   obtain rfl:y=y2:=(av.out rfl).symm
   have aB:=zh (td y z2 HY.out)
   go_wp2_with fail
   refine aB.out.mono ?_
   rintro e z3 ⟨he,aq⟩
   rw[aq]
   cases aa:bodyP y with
   | none =>
    have aj:Hid (R=none):=by show _=_;rw[ai.out,aa];rfl
    rw[aa] at he
    obtain rfl:e=pan 2:=he
    clear aa aq
    go_wp2_with fail
    exact⟨rfl,by show PR w x R _ _;rw[aj.out];exact⟨rfl,ah.out⟩⟩
   | some v =>
    have aj:Hid (R=termP v):=by show _=_;rw[ai.out,aa];rfl
    rw[aa] at he
    obtain rfl:e=.returned (.string ⟨v.toArray⟩):=he
    have HV:Hid (v.length<=900000):=Nat.le_trans (zn aa) HY.out
    clear aa aq
    go_wp2_with fail
    have aC:=zh (nr v z2 ax.out HV.out)
    refine aC.out.mono ?_
    rintro e z4 hh
    cases ad:termP v with
    | none =>
     rw[ad] at hh
     obtain⟨he,ae⟩:e=pan 2/\Below z2.heap.size z2 z4:=hh
     subst he
     have an:Hid (R=none):=aj.out.trans ad
     clear ad
     go_wp2_with fail
     exact⟨rfl,by show PR w x R _ _;rw[an.out];exact⟨rfl,bt ah.out ae⟩⟩
    | some t =>
     rw[ad] at hh
     obtain⟨C,n,c,he,hn,hr,ae⟩:TermRet z2 t e z4:=hh
     subst he
     have an:Hid (R=some t):=aj.out.trans ad
     have am:=zh hr
     have HN:=zh hn
     clear ad hr hn
     go_wp2_with fail
     go_ret2
     show PR w x R _ _
     rw[an.out]
     exact⟨C,n,c,rfl,HN.out,am.out,bt ah.out ae⟩
end
section
open Go.RowKit Rs At
theorem mF (s sep:List UInt8)(h1:1<=sep.length):(Lib.split s sep).length<=s.length+1:=by
 have hd:(Lib.splitB ⟨sep.toArray⟩ 0 (Lib.countB ⟨s.toArray⟩ ⟨sep.toArray⟩) ⟨s.toArray⟩).map (·.data.toList)=Lib.split s sep:=Lib.splitB_data _ _ _ _
 have hn:=Lib.splitB_all ⟨sep.toArray⟩ h1 0 (Lib.countB ⟨s.toArray⟩ ⟨sep.toArray⟩) ⟨s.toArray⟩ rfl
 have hc:=Lib.countB_le ⟨sep.toArray⟩ h1 s.length ⟨s.toArray⟩ (Nat.le_refl _)
 rw[<-hd,List.length_map,hn];exact Nat.succ_le_succ hc
theorem jz {α β:Type}{f:α->Option β}:∀ {l:List α} {r:List β},l.mapM f=some r->r.length=l.length/\∀ b∈r,∃ a∈l,f a=some b
 | [],r,h=>by cases h;exact⟨rfl,fun b hb=>by simp at hb⟩
 | a :: l,r,h=>by
  rw[List.mapM_cons] at h
  cases hf:f a with
  | none=>rw[hf] at h;cases h
  | some b =>
   rw[hf] at h
   cases hl:l.mapM f with
   | none=>rw[hl] at h;cases h
   | some r' =>
    rw[hl] at h
    cases h
    obtain⟨h1,h2⟩:=jz hl
    refine⟨by simp[h1],fun x hx=>?_⟩
    rcases List.mem_cons.1 hx with rfl | hx
    ·exact⟨a,by simp,hf⟩
    ·obtain⟨y,hy,aa⟩:=h2 x hx
     exact⟨y,by simp[hy],aa⟩
theorem xx {s:List UInt8}{t:List (List Cond)}(h:termP s=some t):t.length<=s.length+1/\∀ l∈t,l.length<=s.length+1:=by
 unfold termP at h
 split at h
 ·cases h;exact⟨by simp,fun l hl=>by simp at hl⟩
 ·obtain⟨h1,h2⟩:=jz h
  refine⟨by rw[h1];exact mF s _ (by decide),fun l hl=>?_⟩
  obtain⟨p,hp,aa⟩:=h2 l hl
  have ab:=bV _ _ _ p hp
  obtain⟨h3,_⟩:=jz (show (Lib.split p [32,38,32]).mapM condP=some l from aa)
  have:=mF p [32,38,32] (by decide)
  omega
theorem xy {s v:List UInt8}(h:bodyP s=some v):v.length+2<=s.length:=by
 unfold bodyP at h
 split at h
 ·cases h;simp;omega
 ·cases h
theorem uS {s:List UInt8}{t:List (List Cond)}(hs:s.length<=4000)(h:parseT s=some t):t.length<=3999/\∀ l∈t,l.length<=3999:=by
 unfold parseT at h
 split at h
 ·split at h
  ·cases hb:bodyP (Vm.snd 32 s) with
   | none=>rw[hb] at h;cases h
   | some v =>
    rw[hb] at h
    have h1:=xx (show termP v=some t from h)
    have h2:=xy hb
    have h3:(Vm.snd 32 s).length<=s.length:=by unfold Vm.snd;rw[List.length_drop];have:=(List.dropWhile_sublist (. != (32:UInt8)) (l:=s)).length_le;omega
    exact⟨by omega,fun l hl=>by have:=h1.2 l hl;omega⟩
  ·cases h;exact⟨by simp,fun l hl=>by simp at hl;rw[hl];simp⟩
 ·cases h
theorem oR (m:Nat):∀ (t:List (List Cond)),(∀ l∈t,l.length<=m)->vers t<=t.length*m
 | [],_=>by simp[vers]
 | a :: t,h=>by
  have h1:=h a (by simp)
  have h2:=oR m t (fun l hl=>h l (by simp[hl]))
  have e:vers (a :: t)=a.length+vers t:=by simp[vers]
  rw[e,List.length_cons,Nat.succ_mul];omega
def PC (b:Nat) (u:World):Prop:=u.cell? ⟨b,0,none⟩=some (.string ⟨#[]⟩)/\u.cell? ⟨b,1,none⟩=some (.slice none 0 0)/\u.frozen? ⟨b,0,none⟩=false/\u.frozen? ⟨b,1,none⟩=false/\u.cell? ⟨b+1,0,none⟩=some (.int .i64 0)/\u.frozen? ⟨b+1,0,none⟩=false
theorem aaK {w W1 W2 u:World}(h1:w.alloc (.cells #[.string ⟨#[]⟩,.slice none 0 0] 51)=W1)(h2:W1.alloc (.cells #[.int .i64 0] 77)=W2)(hb:Below W2.heap.size W2 u):PC w.heap.size u:=by
 have aa:W1.heap.size=w.heap.size+1:=by rw[<-h1];simp
 have ac:W2.heap.size=w.heap.size+2:=by rw[<-h2];simp[aa]
 have ab:Below (W1.heap.size+1) (W1.alloc (.cells #[.int .i64 0] 77)) u:=by rw[h2];rw[aa];rw[ac] at hb;exact hb
 have ad:Below W1.heap.size W1 u:=aW ab
 obtain⟨q0,q1,z0,z1⟩:=bF h1 ad
 obtain⟨c,f⟩:=bg W1 u _ _ ab
 rw[aa] at c f
 exact⟨q0,q1,z0,z1,c,f⟩
theorem eW {u:World}{b:Nat}{A:Option Addr}{l:List Sp}(h:SRow u A l)(hn:∀ j,2<=j->u.cell? ⟨b,j,none⟩=none):0<l.length->∀ a,A=some a->a.block≠b:=fun h0 a ha hb=>by
 obtain⟨a',e,_,hc⟩:=h h0
 rw[ha] at e;cases e
 obtain⟨_,_,_,c3⟩:=hc 0 h0
 have e3:(a.add (0*4)).add 3=⟨b,a.off+3,none⟩:=by subst hb;simp[Addr.add]
 rw[e3,hn _ (by omega)] at c3
 cases c3
theorem dq {w:World}{A:Option Addr}{l:List Sp}{p:Addr}{v:Value}(h:SRow w A l)(hne:0<l.length->∀ a,A=some a->a.block≠p.block):SRow (w.setCell p v) A l:=fun h0=>by
 obtain⟨a,e,hl,hc⟩:=h h0
 have hb:=hne h0 a e
 refine⟨a,e,by simpa [World.setCell] using hl,fun i hi=>?_⟩
 obtain⟨c0,c1,c2,c3⟩:=hc i hi
 refine⟨?_,?_,?_,?_⟩
 ·rw[World.cell?_setCell_far _ _ _ _ (by rw[add_block,add_block];exact Ne.symm hb)];exact c0
 ·rw[World.cell?_setCell_far _ _ _ _ (by rw[add_block,add_block];exact Ne.symm hb)];exact c1
 ·rw[World.cell?_setCell_far _ _ _ _ (by rw[add_block,add_block];exact Ne.symm hb)];exact c2
 ·rw[World.cell?_setCell_far _ _ _ _ (by rw[add_block,add_block];exact Ne.symm hb)];exact c3
theorem aaL {w W1 W2 u:World}(h1:w.alloc (.cells #[.string ⟨#[]⟩,.slice none 0 0] 51)=W1)(h2:W1.alloc (.cells #[.int .i64 0] 77)=W2)(hb:Below W2.heap.size W2 u) :
  (∀ j,2<=j->u.cell? ⟨w.heap.size,j,none⟩=none)/\(∀ j,2<=j->u.cell? ⟨w.heap.size+1,j,none⟩=none):=by
 have aa:W1.heap.size=w.heap.size+1:=by rw[<-h1];simp
 have ac:W2.heap.size=w.heap.size+2:=by rw[<-h2];simp[aa]
 have ab:Below (W1.heap.size+1) (W1.alloc (.cells #[.int .i64 0] 77)) u:=by rw[h2];rw[aa];rw[ac] at hb;exact hb
 have ad:Below W1.heap.size W1 u:=aW ab
 have e1:u.heap[w.heap.size]?=some (.cells #[.string ⟨#[]⟩,.slice none 0 0] 51 (0,0)):=(ad.block _ (by omega)).trans (by rw[<-h1];exact heap_alloc_new w _)
 have e2:u.heap[W1.heap.size]?=some (.cells #[.int .i64 0] 77 (0,0)):=(ab.block _ (Nat.lt_succ_self _)).trans (heap_alloc_new W1 _)
 rw[aa] at e2
 refine⟨fun j hj=>?_,fun j hj=>?_⟩
 ·simp[World.cell?,e1];omega
 ·simp[World.cell?,e2];omega
def ParseRet (w:World) (x:Int × Atm) (e:Ending) (w':World):Prop:=∃ C m d,e=.returned (.tuple #[.agg #[.string ⟨x.2.name.toArray⟩,.slice C m d],.int .i64 x.1])/\x.2.rng.length=m/\SRow w' C x.2.rng/\Below w.heap.size w w'
theorem bW {w u:World}{k:Int}{X:Int × Atm}(hX:X=(k,zeroA))(hb:Below w.heap.size w u):ParseRet w X (.returned (.tuple #[.agg #[.string ⟨#[]⟩,.slice none 0 0],.int .i64 k])) (u.setCell ⟨w.heap.size+1,0,none⟩ (.int .i64 k)):=by
 subst hX
 exact⟨none,0,0,rfl,rfl,fun h=>absurd h (Nat.lt_irrefl 0),hb.setCell (Nat.le_succ _) _⟩
theorem ns (s:List UInt8)(w:World)(hw:MaxOk w)(hs:s.length<=4000) :
  Calls Tryz.prog 275 #[.string ⟨s.toArray⟩] w (ParseRet w (parseA s)):=by
 have bd:∀ (fn:Fn) (first cap:Array Value) (w:World),(Instr.makeFunc fn first cap).run Tryz.prog w=.ok (.func fn first cap) w:=fun _ _ _ _=>rfl
 obtain⟨X,hX⟩:=ex (parseA s)
 rw[hX]
 rw[mE] at hX
 obtain⟨W1,ak⟩:=ex (w.alloc (.cells #[.string ⟨#[]⟩,.slice none 0 0] 51))
 obtain⟨W2,ap⟩:=ex (W1.alloc (.cells #[.int .i64 0] 77))
 have al:Hid (∀ u,Below W2.heap.size W2 u->PC w.heap.size u):=fun u hb=>aaK ak ap hb
 have aK:Hid (∀ u,Below W2.heap.size W2 u->(∀ j,2<=j->u.cell? ⟨w.heap.size,j,none⟩=none)/\(∀ j,2<=j->u.cell? ⟨w.heap.size+1,j,none⟩=none)):=fun u hb=>aaL ak ap hb
 have be:W1.heap.size=w.heap.size+1:=by rw[<-ak];simp
 have aj:Hid (Below w.heap.size w W2):=(aa ak).trans ((aa ap).mono (aa ak).size)
 have aM:Hid (MaxOk W2):=ab hw aj.out
 have aV:Hid (w.heap.size+2<=W2.heap.size):=by show _<=_;rw[<-ap,<-ak];simp
 have bf:=zh hw
 obtain⟨nm,aF⟩:=ex (Vm.fst 32 s)
 have aN:nm.length<=4000:=by rw[<-aF];unfold Vm.fst;have:=(List.takeWhile_sublist (. != (32:UInt8)) (l:=s)).length_le;omega
 have ay:=ku s W2 aM.out (by omega)
 obtain⟨T,hT⟩:=ex (parseT s)
 have aW:Hid (∀ t,T=some t->t.length<=3999/\∀ l∈t,l.length<=3999):=fun t h=>uS hs (hT.trans h)
 rw[aF,hT] at hX ay
 have HX:=zh hX
 have aX:=zh ay
 have az:=zh aN
 clear hX ay hT aF aN hs hw
 go_enter_defers Tryz.func275,Tryz.ntmps275
 go_wp2_with fail
 clear ak ap
 refine aX.out.mono ?_
 rintro e z1 hh
 cases T with
 | none =>
  obtain⟨he,hb⟩:e=pan 2/\Below W2.heap.size W2 z1:=hh
  subst he
  have ar:Hid (X=(2,zeroA)):=HX.out.symm
  have HB:=zh hb
  obtain⟨q0,q1,_,_,ac,ad⟩:=al.out z1 hb
  clear hb
  go_wp2_with fail
  refine leaves_cons (f:=294) (args:=#[.pointer (some ⟨w.heap.size+1,0,none⟩)]) (by simp) (by simp[go_sem]) ?_
  refine (cD ⟨w.heap.size+1,0,none⟩ 0 _ _ ?_ ?_).mono ?_
  ·simp[go_sem,ac]
  ·simp[go_sem,ad]
  rintro e u' w3 ⟨rfl,rfl,rfl⟩
  have ae:(z1.setCell ⟨w.heap.size+1,0,none⟩ (.int .i64 2)).cell? ⟨w.heap.size,0,none⟩=some (.string ⟨#[]⟩):=by rw[World.cell?_setCell_far _ _ _ _ (by show w.heap.size+1≠w.heap.size;omega)];exact q0
  have af:(z1.setCell ⟨w.heap.size+1,0,none⟩ (.int .i64 2)).cell? ⟨w.heap.size,1,none⟩=some (.slice none 0 0):=by rw[World.cell?_setCell_far _ _ _ _ (by show w.heap.size+1≠w.heap.size;omega)];exact q1
  simp[Leaves,settle,results,Tryz.results275,go_sem,ac,ae,af]
  exact bW ar.out (bt aj.out HB.out)
 | some t =>
  obtain⟨C,n,c,he,hn,hr,hb⟩:∃ C n c,e=.returned (.tuple #[.string ⟨nm.toArray⟩,.slice C n c])/\t.length=n/\TRow z1 C t/\Below W2.heap.size W2 z1:=hh
  subst he
  have ar:Hid (X=readA nm t):=HX.out.symm
  have HB:=zh hb
  have HN:=zh hn
  have aO:=zh hr
  obtain⟨aG,aH⟩:=aW.out t rfl
  have aP:Hid (n<=3999):=by rw[<-hn];exact aG
  have aY:=zh aH
  have aZ:Hid (vers t<=100000000):=Nat.le_trans (oR 3999 t aH) (Nat.le_trans (Nat.mul_le_mul_right _ aG) (by decide))
  clear hb hn hr aG aH
  go_wp2_with fail
  refine (ig nm _ (Nat.le_trans az.out (by decide))).mono ?_
  rintro _ z2 ⟨rfl,rfl⟩
  cases au:nameB nm
  ·have av:Hid (X=(3,zeroA)):=by show _=_;rw[ar.out];unfold readA;rw[au];rfl
   obtain⟨q0,q1,_,_,ac,ad⟩:=al.out z1 HB.out
   clear au
   go_wp2_with fail
   refine (ai _).mono ?_
   rintro _ z3 ⟨rfl,rfl⟩
   go_wp2_with fail
   refine leaves_cons (f:=294) (args:=#[.pointer (some ⟨w.heap.size+1,0,none⟩)]) (by simp) (by simp[go_sem]) ?_
   refine (cD ⟨w.heap.size+1,0,none⟩ 0 _ _ ?_ ?_).mono ?_
   ·simp[go_sem,ac]
   ·simp[go_sem,ad]
   rintro e u' w3 ⟨rfl,rfl,rfl⟩
   have ae:(z1.setCell ⟨w.heap.size+1,0,none⟩ (.int .i64 3)).cell? ⟨w.heap.size,0,none⟩=some (.string ⟨#[]⟩):=by rw[World.cell?_setCell_far _ _ _ _ (by show w.heap.size+1≠w.heap.size;omega)];exact q0
   have af:(z1.setCell ⟨w.heap.size+1,0,none⟩ (.int .i64 3)).cell? ⟨w.heap.size,1,none⟩=some (.slice none 0 0):=by rw[World.cell?_setCell_far _ _ _ _ (by show w.heap.size+1≠w.heap.size;omega)];exact q1
   simp[Leaves,settle,results,Tryz.results275,go_sem,ac,ae,af]
   exact bW av.out (bt aj.out HB.out)
  ·have aA:=il C n c t z1 HN.out aO.out (by have:=aP.out;omega) aZ.out
   obtain⟨v,hv⟩:=ex (vers t)
   have av:Hid (X=if v<=16 then (if (hTerm [] t).1=0 then (if checkA ⟨nm,(hTerm [] t).2.map spOf⟩=0 then (0,⟨nm,(hTerm [] t).2.map spOf⟩) else (checkA ⟨nm,(hTerm [] t).2.map spOf⟩,zeroA)) else ((hTerm [] t).1,zeroA)) else (4,zeroA)):=by show _=_;rw[ar.out];unfold readA;rw[au,hv];rfl
   rw[hv] at aA
   have a0:=zh aA
   clear au aA hv
   go_wp2_with fail
   refine (ah _).mono ?_
   rintro _ z3 ⟨rfl,rfl⟩
   go_wp2_with fail
   refine a0.out.mono ?_
   rintro _ z3 ⟨rfl,rfl⟩
   by_cases aw:v<=16
   ·have d0:decide ((v:Int)<=16)=true:=decide_eq_true (by omega)
    have aB:Hid (X=if (hTerm [] t).1=0 then (if checkA ⟨nm,(hTerm [] t).2.map spOf⟩=0 then (0,⟨nm,(hTerm [] t).2.map spOf⟩) else (checkA ⟨nm,(hTerm [] t).2.map spOf⟩,zeroA)) else ((hTerm [] t).1,zeroA)):=by show _=_;rw[av.out,if_pos aw]
    clear aw
    go_wp2_with fail
    refine (ah _).mono ?_
    rintro _ z4 ⟨rfl,rfl⟩
    go_wp2_with fail
    refine (aQ nm _ (by have:=az.out;omega)).mono ?_
    rintro _ z5 ⟨rfl,aI⟩
    have a3:Hid (Below W2.heap.size W2 z5):=bt HB.out aI
    have aC:Hid (TRow z5 C t):=kk aO.out aI
    clear aI
    go_wp2_with fail
    have a4:Hid (St W2 z5 []):=⟨aM.out,a3.out,fun x hx=>by simp at hx⟩
    have aR:=zh (uN a4.out C n c t HN.out aC.out (by have:=aP.out;omega) (fun l hl=>by have:=aY.out l hl;omega))
    have a5:Hid (Rs.Good (hTerm [] t).2):=kq _ _ gj
    refine aR.out.mono ?_
    clear aR
    rintro e z6 hh
    obtain⟨H,hH⟩:=ex (hTerm [] t)
    rw[hH] at hh
    obtain⟨h1,r⟩:=H
    have aS:Hid (X=if h1=0 then (if checkA ⟨nm,r.map spOf⟩=0 then (0,⟨nm,r.map spOf⟩) else (checkA ⟨nm,r.map spOf⟩,zeroA)) else (h1,zeroA)):=by show _=_;rw[aB.out,hH]
    have a6:Hid (Rs.Good r):=by have h:=a5.out;rw[hH] at h;exact h
    clear hH
    by_cases ax:h1=0
    ·subst ax
     obtain⟨C6,n6,d6,rfl,aq⟩:=hh.1 rfl
     have ag:=zh aq
     clear hh aq
     go_wp2_with fail
     have aD:Hid (Below z6.heap.size z6 (z6.alloc (.cells #[.string ⟨nm.toArray⟩,.slice C6 n6 d6] 51))):=(Below.refl _ _).alloc (Nat.le_refl _) _
     refine (kr nm C6 n6 d6 (r.map spOf) _ (ab (eD ag.out) aD.out) (Nat.le_trans az.out (by decide)) (a7 ag.out 0 rfl).2 (aL (a7 ag.out 0 rfl).1 aD.out) (by rw[<-(a7 ag.out 0 rfl).2,List.length_map];have:=a6.out.2.2;omega)).mono ?_
     rintro _ z7 ⟨rfl,aJ⟩
     have am:Hid (Below z6.heap.size z6 z7):=bt aD.out aJ
     have an:Hid (Below W2.heap.size W2 z7):=ag.out.2.1.trans (am.out.mono ag.out.2.1.size)
     have ao:Hid (SRow z7 C6 (r.map spOf)/\(r.map spOf).length=n6):=⟨aL (a7 ag.out 0 rfl).1 am.out,(a7 ag.out 0 rfl).2⟩
     obtain⟨K,hK⟩:=ex (checkA ⟨nm,r.map spOf⟩)
     have aT:Hid (X=if K=0 then (0,⟨nm,r.map spOf⟩) else (K,zeroA)):=by show _=_;rw[aS.out,hK];first | rfl | rw[if_pos trivial]
     rw[hK]
     have a8:Hid (Bx2 z6.heap.size nm C6 n6 d6 z7):=mA (rK z6 nm C6 n6 d6 51) (by simp) aJ
     obtain⟨q0,q1,f0,f1,ac,ad⟩:=al.out z7 an.out
     obtain⟨k0,k1⟩:=a8.out
     have bg:w.heap.size+1<z6.heap.size:=by
      have h:=ag.out.2.1.size
      have h2:w.heap.size+2<=W2.heap.size:=aV.out
      omega
     clear aJ hK
     by_cases hk:K=0
     ·subst hk
      have aE:Hid (X=(0,⟨nm,r.map spOf⟩)):=aT.out
      rw[dG]
      go_wp2_with fail
      have a9:Hid (SRow (((z7.setCell ⟨w.heap.size,0,none⟩ (.string ⟨nm.toArray⟩)).setCell ⟨w.heap.size,1,none⟩ (.slice C6 n6 d6)).setCell ⟨w.heap.size+1,0,none⟩ (.int .i64 0)) C6 (r.map spOf)):=by
       have hp:=aK.out z7 an.out
       have a1:=eW ao.out.1 hp.1
       have a2:=eW ao.out.1 hp.2
       exact dq (dq (dq ao.out.1 a1) a1) a2
      have ba:Hid (Below w.heap.size w (((z7.setCell ⟨w.heap.size,0,none⟩ (.string ⟨nm.toArray⟩)).setCell ⟨w.heap.size,1,none⟩ (.slice C6 n6 d6)).setCell ⟨w.heap.size+1,0,none⟩ (.int .i64 0))) :=
       (((bt aj.out an.out).setCell (Nat.le_refl _) _).setCell (Nat.le_refl _) _).setCell (Nat.le_succ _) _
      have g0:(((z7.setCell ⟨w.heap.size,0,none⟩ (.string ⟨nm.toArray⟩)).setCell ⟨w.heap.size,1,none⟩ (.slice C6 n6 d6)).setCell ⟨w.heap.size+1,0,none⟩ (.int .i64 0)).cell? ⟨w.heap.size,0,none⟩=some (.string ⟨nm.toArray⟩):=by
       rw[World.cell?_setCell_far _ _ _ _ (by show w.heap.size+1≠w.heap.size;omega)];simp[go_sem,q0]
      have g1:(((z7.setCell ⟨w.heap.size,0,none⟩ (.string ⟨nm.toArray⟩)).setCell ⟨w.heap.size,1,none⟩ (.slice C6 n6 d6)).setCell ⟨w.heap.size+1,0,none⟩ (.int .i64 0)).cell? ⟨w.heap.size,1,none⟩=some (.slice C6 n6 d6):=by
       rw[World.cell?_setCell_far _ _ _ _ (by show w.heap.size+1≠w.heap.size;omega)];simp[go_sem,q1]
      have g2:(((z7.setCell ⟨w.heap.size,0,none⟩ (.string ⟨nm.toArray⟩)).setCell ⟨w.heap.size,1,none⟩ (.slice C6 n6 d6)).setCell ⟨w.heap.size+1,0,none⟩ (.int .i64 0)).cell? ⟨w.heap.size+1,0,none⟩=some (.int .i64 0):=by
       simp[go_sem,ac]
      have g3:(((z7.setCell ⟨w.heap.size,0,none⟩ (.string ⟨nm.toArray⟩)).setCell ⟨w.heap.size,1,none⟩ (.slice C6 n6 d6)).setCell ⟨w.heap.size+1,0,none⟩ (.int .i64 0)).frozen? ⟨w.heap.size+1,0,none⟩=false:=by
       simp[go_sem,ad]
      generalize ((z7.setCell ⟨w.heap.size,0,none⟩ (.string ⟨nm.toArray⟩)).setCell ⟨w.heap.size,1,none⟩ (.slice C6 n6 d6)).setCell ⟨w.heap.size+1,0,none⟩ (.int .i64 0)=V at *
      have k2:(V.setCell ⟨w.heap.size+1,0,none⟩ (.int .i64 0)).cell? ⟨w.heap.size,0,none⟩=some (.string ⟨nm.toArray⟩):=by rw[World.cell?_setCell_far _ _ _ _ (by show w.heap.size+1≠w.heap.size;omega)];exact g0
      have k3:(V.setCell ⟨w.heap.size+1,0,none⟩ (.int .i64 0)).cell? ⟨w.heap.size,1,none⟩=some (.slice C6 n6 d6):=by rw[World.cell?_setCell_far _ _ _ _ (by show w.heap.size+1≠w.heap.size;omega)];exact g1
      have bb:Hid (SRow (V.setCell ⟨w.heap.size+1,0,none⟩ (.int .i64 0)) C6 (r.map spOf)):=dq a9.out (eW ao.out.1 (aK.out z7 an.out).2)
      refine leaves_cons (f:=294) (args:=#[.pointer (some ⟨w.heap.size+1,0,none⟩)]) (by simp) (by simp[go_sem]) ?_
      refine (qL ⟨w.heap.size+1,0,none⟩ 0 _ ?_ ?_).mono ?_
      ·simp[go_sem,g2]
      ·simp[go_sem,g3]
      rintro e u' w3 ⟨rfl,rfl,rfl⟩
      simp[Leaves,settle,results,Tryz.results275,go_sem,g2,k2,k3]
      rw[aE.out]
      exact⟨C6,n6,d6,rfl,ao.out.2,bb.out,ba.out.setCell (Nat.le_succ _) _⟩
     ·rw[bZ hk]
      have aE:Hid (X=(K,zeroA)):=by show _=_;rw[aT.out,if_neg hk]
      clear hk
      go_wp2_with fail
      refine leaves_cons (f:=294) (args:=#[.pointer (some ⟨w.heap.size+1,0,none⟩)]) (by simp) (by simp[go_sem]) ?_
      refine (cD ⟨w.heap.size+1,0,none⟩ 0 _ _ ?_ ?_).mono ?_
      ·simp[go_sem,ac]
      ·simp[go_sem,ad]
      rintro e u' w3 ⟨rfl,rfl,rfl⟩
      have ae:(z7.setCell ⟨w.heap.size+1,0,none⟩ (.int .i64 K)).cell? ⟨w.heap.size,0,none⟩=some (.string ⟨#[]⟩):=by rw[World.cell?_setCell_far _ _ _ _ (by show w.heap.size+1≠w.heap.size;omega)];exact q0
      have af:(z7.setCell ⟨w.heap.size+1,0,none⟩ (.int .i64 K)).cell? ⟨w.heap.size,1,none⟩=some (.slice none 0 0):=by rw[World.cell?_setCell_far _ _ _ _ (by show w.heap.size+1≠w.heap.size;omega)];exact q1
      simp[Leaves,settle,results,Tryz.results275,go_sem,ac,ae,af]
      exact bW aE.out (bt aj.out an.out)
    ·obtain⟨he,aq⟩:=hh.2 ax
     subst he
     have bc:Hid (X=(h1,zeroA)):=by show _=_;rw[aS.out,if_neg ax]
     have aU:Hid (Below W2.heap.size W2 z6):=aq.2.1
     obtain⟨q0,q1,_,_,ac,ad⟩:=al.out z6 aU.out
     clear hh aq ax
     go_wp2_with fail
     refine leaves_cons (f:=294) (args:=#[.pointer (some ⟨w.heap.size+1,0,none⟩)]) (by simp) (by simp[go_sem]) ?_
     refine (cD ⟨w.heap.size+1,0,none⟩ 0 _ _ ?_ ?_).mono ?_
     ·simp[go_sem,ac]
     ·simp[go_sem,ad]
     rintro e u' w3 ⟨rfl,rfl,rfl⟩
     have ae:(z6.setCell ⟨w.heap.size+1,0,none⟩ (.int .i64 h1)).cell? ⟨w.heap.size,0,none⟩=some (.string ⟨#[]⟩):=by rw[World.cell?_setCell_far _ _ _ _ (by show w.heap.size+1≠w.heap.size;omega)];exact q0
     have af:(z6.setCell ⟨w.heap.size+1,0,none⟩ (.int .i64 h1)).cell? ⟨w.heap.size,1,none⟩=some (.slice none 0 0):=by rw[World.cell?_setCell_far _ _ _ _ (by show w.heap.size+1≠w.heap.size;omega)];exact q1
     simp[Leaves,settle,results,Tryz.results275,go_sem,ac,ae,af]
     exact bW bc.out (bt aj.out aU.out)
   ·have d0:decide ((v:Int)<=16)=false:=decide_eq_false (by omega)
    have aB:Hid (X=(4,zeroA)):=by show _=_;rw[av.out,if_neg aw]
    obtain⟨q0,q1,_,_,ac,ad⟩:=al.out z1 HB.out
    clear aw
    go_wp2_with fail
    refine (ai _).mono ?_
    rintro _ z4 ⟨rfl,rfl⟩
    go_wp2_with fail
    refine leaves_cons (f:=294) (args:=#[.pointer (some ⟨w.heap.size+1,0,none⟩)]) (by simp) (by simp[go_sem]) ?_
    refine (cD ⟨w.heap.size+1,0,none⟩ 0 _ _ ?_ ?_).mono ?_
    ·simp[go_sem,ac]
    ·simp[go_sem,ad]
    rintro e u' w3 ⟨rfl,rfl,rfl⟩
    have ae:(z1.setCell ⟨w.heap.size+1,0,none⟩ (.int .i64 4)).cell? ⟨w.heap.size,0,none⟩=some (.string ⟨#[]⟩):=by rw[World.cell?_setCell_far _ _ _ _ (by show w.heap.size+1≠w.heap.size;omega)];exact q0
    have af:(z1.setCell ⟨w.heap.size+1,0,none⟩ (.int .i64 4)).cell? ⟨w.heap.size,1,none⟩=some (.slice none 0 0):=by rw[World.cell?_setCell_far _ _ _ _ (by show w.heap.size+1≠w.heap.size;omega)];exact q1
    simp[Leaves,settle,results,Tryz.results275,go_sem,ac,ae,af]
    exact bW aB.out (bt aj.out HB.out)
end
section
open Go.RowKit Rs At
instance pDecA:DecidableEq (Rm.P Cut):=fun a b=>decidable_of_iff (a.lo=b.lo/\a.hi=b.hi) ⟨fun h=>by cases a;cases b;simp_all,fun h=>by rw[h];exact⟨rfl,rfl⟩⟩
end
section
open Go.RowKit Rs At
attribute [local go_sem ↓] Go.wp_at_zero Go.wp_at_succ
abbrev stA (u:World) (b:Nat) (name:List UInt8) (C:Option Addr) (m d:Nat):World:=(u.setCell ⟨b,0,none⟩ (.string ⟨name.toArray⟩)).setCell ⟨b,1,none⟩ (.slice C m d)
end
section
open Go.RowKit Rs At
variable {w0 u:World} {L:List Ent} {A B:Option Addr} {n m:Nat}
theorem uT {l:List Sp}(h:checkR l=0):l.length<=64:=by
 have:=(j7 h).1.2.2
 rwa [List.length_map] at this
end
section
open Go.RowKit Rs At
theorem qN {s:List UInt8}{a:Atm}(h:parseA s=(0,a)):checkA a=0:=by
 have key:∀ (name:List UInt8) (t:List (List Cond)),readA name t=(0,a)->checkA a=0:=fun name t h=>by
  unfold readA at h
  split at h
  ·split at h
   ·split at h
    ·split at h
     ·rename_i h4
      injection h with _ h2
      rw[<-h2];exact h4
     ·rename_i h4
      injection h with h1 _
      exact absurd h1 h4
    ·rename_i h3
     injection h with h1 _
     exact absurd h1 h3
   ·injection h with h1 _;cases h1
  ·injection h with h1 _;cases h1
 rw[mE] at h
 cases hp:parseT s with
 | none=>rw[hp] at h;injection h with h1 _;cases h1
 | some t=>rw[hp] at h;exact key _ t h
theorem jb {a:Atm}(h:checkA a=0):nameB a.name=true/\checkR a.rng=0/\vers (At.termOf a.rng)<=16:=by
 unfold checkA at h
 split at h
 ·rename_i h1
  split at h
  ·rename_i h2
   split at h
   ·cases h
   ·rename_i h3;exact⟨h1,h2,by omega⟩
  ·rename_i h2;exact absurd h h2
 ·cases h
theorem gl {l:List UInt8}(h:nameB l=true):l.length<=24:=by
 rcases Nat.lt_or_ge 24 l.length with h1 | h1
 ·rw[my h1] at h;cases h
 ·exact h1
theorem aan {l:List Cond}(h:∀ c∈l,(condT c).length<=43):(altT l).length<=l.length*46:=by
 have:=oP [32,38,32] (l.map condT) 43 (fun t ht=>by
  obtain⟨c,hc,rfl⟩:=List.mem_map.1 ht
  exact h c hc)
 rw[List.length_map] at this
 exact this
theorem mG:∀ {t:List (List Cond)},(∀ l∈t,∀ c∈l,(condT c).length<=43)->Lib.lens (t.map altT)<=vers t*46
 | [],_=>by simp[Lib.lens]
 | l :: t,h=>by
  have h1:=aan (h l (by simp))
  have h2:=mG (t:=t) (fun x hx=>h x (by simp[hx]))
  have e1:Lib.lens ((l :: t).map altT)=(altT l).length+Lib.lens (t.map altT):=by simp[Lib.lens]
  have e2:vers (l :: t)=l.length+vers t:=rfl
  rw[e1,e2,Nat.add_mul];omega
theorem xz {t:List (List Cond)}(h:∀ l∈t,∀ c∈l,(condT c).length<=43)(hl:t.length<=64)(hv:vers t<=16):(termT t).length<=928:=by
 unfold termT
 split
 ·decide
 ·cases t with
  | nil=>contradiction
  | cons l t =>
   rw[List.map_cons,Lib.join_length,<-List.map_cons (f:=altT)]
   have:=mG h
   simp only[List.length_map,List.length_cons] at hl ⊢
   show 3*t.length+_<=_
   omega
theorem zo {a:Atm}(h:checkA a=0):(textA a).length<=1000:=by
 obtain⟨h1,h2,h3⟩:=jb h
 have hn:=gl h1
 unfold textA
 split
 ·omega
 ·have hl:(At.termOf a.rng).length<=64:=by show (a.rng.map conds).length<=64;rw[List.length_map];exact uT h2
  have ht:=xz (t:=At.termOf a.rng) (fun l hl c hc=>by
   obtain⟨s,hs,rfl⟩:=List.mem_map.1 hl
   obtain⟨i,hi,he,ho⟩:=xm ((qK h2).2.2 s hs) c hc
   have aa:=zg ho
   have ab:(sgnT i).length<=2:=by
    match i,hi with
    | 0,_ | 1,_ | 2,_ | 3,_ | 4,_ | 5,_=>decide
   unfold condT
   rw[he]
   simp only[List.length_append,List.length_cons]
   omega) hl h3
  rw[List.length_append]
  simp only[List.length_cons,List.length_append,List.length_nil]
  omega
end
end Go.Proofs.YtgnaiidgjmicaaaGreatDoor
