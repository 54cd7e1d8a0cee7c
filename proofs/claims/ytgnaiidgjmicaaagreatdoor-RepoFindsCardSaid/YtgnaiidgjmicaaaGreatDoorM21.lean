/- Part 21 of what the laws lean on. -/
import Derived.Test.YtgnaiidgjmicaaaGreatDoorM20
set_option maxRecDepth 100000
set_option maxHeartbeats 3200000
namespace Go.Proofs.YtgnaiidgjmicaaaGreatDoor
section
open Go.RowKit Go.Maps Sz
attribute [local go_sem ↓] Go.wp_at_zero Go.wp_at_succ
def Sz.ReadRet (w:World) (R:Int × Int × List (List Fld)) (e:Ending) (w':World):Prop :=
 Below w.heap.size w w'/\if R.1=0 then ∃ A c ds,e=.returned (.slice A R.2.2.length c)/\Rg.Row encO 1 w' A ds/\Gr.In encF 3 w' ds R.2.2/\∀ x∈ds,x.2.1<=x.2.2 else e=panAt R.2.1 R.1
def Sz.KeysOk (w:World) (B:Nat) (v2:Value) (last:List Fld):Prop:=last=[]\/∃ m,v2=.map (some m)/\B<=m/\KSet w m (last.map Fld.key)
theorem Sz.b6 {w w':World}{k n:Int}{l:List (List Fld)}(hk:k≠0)(hb:Below w.heap.size w w'):ReadRet w (k,n,l) (panAt n k) w':=⟨hb,by show if k=0 then _ else _;rw[if_neg hk]⟩
theorem Sz.lO (l:List Fld)(k:List UInt8):hasK l k=(l.map Fld.key).contains k:=by
 induction l with
 | nil=>rfl
 | cons f l ih =>
  rw[List.map_cons,List.contains_cons,<-ih]
  show (f.key==k||_)=_
  rw[show (f.key==k)=(k==f.key) by rw[Bool.eq_iff_iff,beq_iff_eq,beq_iff_eq];exact eq_comm];rfl
theorem Sz.xU {k:List UInt8}(h:keyB k=true):k.length<=1000000:=by
 unfold keyB at h
 rw[Bool.and_eq_true,Bool.and_eq_true,decide_eq_true_eq] at h
 omega
theorem uo (s:List UInt8)(w:World)(hw:MaxOk w)(hs:s.length<=65536)(h0:s≠[])(h1:Lib.hasSuffix s [10]=true) :
  Calls Tryz.prog 141 #[.string ⟨s.toArray⟩] w (Sz.ReadRet w (readL 0 (linesL s) [] [])):=by
 obtain⟨R,hR⟩:=ex (readL 0 (linesL s) [] [])
 rw[hR]
 obtain⟨W1,a6⟩:=ex (w.alloc (.cells #[.slice none 0 0,.slice none 0 0,.map none] 229))
 have ay:Hid (Below w.heap.size w W1):=ai a6
 have a7:Hid (∀ B,DrO W1 B w.heap.size (.slice none 0 0) (.slice none 0 0) (.map none) [] [] []):=fun B=>by rw[<-a6];exact xR
 have a8:=zh (mr s W1 (ag hw ay.out) (by omega))
 have bq:Hid (MaxOk W1):=ag hw ay.out
 have HR:=zh hR
 have br:=zh hw
 have dl:decide ((s.length:Int)<=65536)=true:=decide_eq_true (by omega)
 have aq:=zh hs
 have bz:(s==[])=false:=beq_eq_false_iff_ne.2 h0
 have bA:decide (s.length=0)=false:=decide_eq_false (fun e=>h0 (List.length_eq_zero_iff.1 e))
 have bs:=zh h1
 clear h1 h0
 clear hw hR hs
 go_enter Tryz.func141,Tryz.ntmps141
 go_wp2_with fail
 refine (ak _).mono ?_
 rintro _ z ⟨rfl,rfl⟩
 go_wp2_with fail
 refine (Tryz.strings_HasSuffix ⟨s.toArray⟩ ⟨#[10]⟩ _ (by show s.length<=_;have:=aq.out;omega)).mono ?_
 rintro _ z ⟨rfl,hz⟩
 obtain rfl:=hz.symm
 clear hz
 rw[show Lib.hasSuffix (⟨s.toArray⟩:ByteArray).data.toList (⟨#[10]⟩:ByteArray).data.toList=true from bs.out]
 go_wp2_with fail
 refine (ak _).mono ?_
 rintro _ z ⟨rfl,rfl⟩
 go_wp2_with fail
 clear a6
 refine a8.out.mono ?_
 rintro _ u ⟨A,n,c,rfl,hn,bi,aK,hb⟩
 obtain⟨D,hD⟩:=ex w.heap.size
 have HD:=zh hD
 have ba:Hid (DrO u u.heap.size D (.slice none 0 0) (.slice none 0 0) (.map none) [] [] []):=by show DrO _ _ _ _ _ _ _ _ _;rw[<-hD];exact bo (a7.out _) hb
 have HN:=zh hn
 have az:=zh bi
 have aU:=zh aK
 have ar:Hid (Below D w u/\w.heap.size<=u.heap.size):=⟨by rw[<-hD];exact bt ay.out hb,Nat.le_trans ay.out.size hb.size⟩
 have bB:Hid (MaxOk u):=ag bq.out hb
 rw[hD]
 clear hn aK hb dl bi hD a8 a7 ay
 go_wp2_with fail
 go_loopw [22] (fun i wr=>∃ (k:Nat) (acc:List (List Fld)) (last:List Fld) (ds:List Desc) (v0 v1 v2:Value),i=.int .i64 k/\k<=n/\Hid (DrO wr u.heap.size D v0 v1 v2 ds acc last)/\Hid (KeysOk wr u.heap.size v2 last)/\Hid (readL k ((linesL s).drop k) acc last=R)/\Hid (Keeps u.heap.size D u wr/\u.heap.size<=wr.heap.size)/\Hid (ds.length+last.length<=k)) (fun i _=>n-(intOf i).toNat)
 case atStart=>exact⟨0,[],[],[],_,_,_,rfl,Nat.zero_le _,ba,Or.inl rfl,HR,⟨bE (Below.refl _ _),Nat.le_refl _⟩,Nat.zero_le _⟩
 case round =>
  obtain⟨k,acc,last,ds,v0,v1,v2,rfl,hk,aw,bw,bj,ac,aL⟩:=hrel
  by_cases bu:k<n
  ·have aV:k<(linesL s).length:=by rw[HN.out];exact bu
   obtain⟨ad,hA,aM,ae⟩:=Sz.dP aU.out k aV
   subst hA
   have bb:ad.block≠D:=by
    have:=kd ba.out (fun x h=>by cases h) (fun x h=>by cases h) (fun x h=>by cases h) ae
    rwa [Rs.add_block] at this
   have cw:=(oB ac.out.1 (a:=ad.add k) (by rw[Rs.add_block];exact aM) (by rw[Rs.add_block];exact bb)).trans ae
   have bc:Hid ((linesL s)[k].length<=65536):=Nat.le_trans (xQ (List.getElem_mem aV)) aq.out
   have ah:=bj.out
   rw[List.drop_eq_getElem_cons aV] at ah
   have aW:((linesL s).drop (k+1)).length=n-(k+1):=by rw[List.length_drop,HN.out]
   obtain⟨rest,af⟩:=ex ((linesL s).drop (k+1))
   obtain⟨ln,bk⟩:=ex ((linesL s)[k])
   rw[bk] at cw ah bc
   rw[af] at ah aW
   have bd:=zh af
   have aA:=zh aW
   have ik:(k:Int)<(n:Int):=by omega
   have bC:IntKind.i64.wrap ((k:Int)+1)=(k:Int)+1:=IntWalk.i64_in _ (by have:=az.out;have:=aq.out;omega)
   have bD:IntKind.i64.wrap ((n:Int)-1)=(n:Int)-1:=IntWalk.i64_in _ (by have:=az.out;have:=aq.out;omega)
   obtain⟨A1,c1,bl,_,_,_⟩:=Rg.aF fitsF aw.out.2.2.2.2.2.1
   obtain⟨q,hq⟩:=ex last.length
   rw[hq] at bl
   subst bl
   obtain⟨e0,e1,e2,_,_,_⟩:=a9 aw.out
   have HQ:=zh hq
   have aN:Hid (Below D w wr):=ar.out.1.trans (er ac.out.1 (Nat.le_trans (by rw[HD.out];exact Nat.le_refl _) ar.out.2))
   clear ae aM bb af bk aW hq
   by_cases hle:ln=[]
   ·subst hle
    have aa:(if (last.isEmpty||rest.isEmpty) then (2,(k:Int),[]) else readL (k+1) rest (acc++[last]) [])=R:=ah
    by_cases aO:0<q/\k+1<n
    ·have i1:(0:Int)<(q:Int):=by omega
     have i2:(k:Int)<(n:Int)-1:=by omega
     have aX:Hid (readL (k+1) rest (acc++[last]) []=R):=by
      show _=_
      rw[if_neg] at aa
      ·exact aa
      ·cases last with
       | nil=>have:=HQ.out;simp at this;omega
       | cons x l=>cases rest with
        | nil=>have:=aA.out;simp at this;omega
        | cons y r=>simp
     have be:=zh aO
     clear aO ah aa
     go_wp2_with fail
     refine (aG _).mono ?_
     rintro _ z ⟨rfl,rfl⟩
     go_wp2_with fail
     refine (eI aw.out (by have:=aL.out;have:=az.out;have:=aq.out;omega) ac.out.2).mono ?_
     rintro _ z ⟨rfl,aj,an,u0,u1,ax,ab⟩
     have aB:last≠[]:=fun e=>by have:=HQ.out;rw[e] at this;simp at this;have:=be.out;omega
     rw[if_neg aB] at ab
     have aY:=zh ab
     have aP:Hid (Keeps u.heap.size D u z/\u.heap.size<=z.heap.size):=⟨aZ ac.out.1 aj,Nat.le_trans ac.out.2 an⟩
     have a0:Hid (ax.length+([]:List Fld).length<=k+1):=by
      have h1:=ab.2.2.2.1.1
      have h2:=aw.out.2.2.2.1.1
      rw[List.length_append] at h1
      have h3:=aL.out
      have h4:=HQ.out
      have h5:=be.out
      show ax.length+0<=k+1
      simp at h1
      omega
     clear aj an ab aB
     go_wp2_with fail
     go_roundw
     case rel=>exact⟨k+1,acc++[last],[],ax,_,_,_,by go_num,by omega,aY,Or.inl rfl,by show readL _ _ _ _=R;rw[bd.out];exact aX.out,aP,a0⟩
     case measure=>simp[intOf];omega
    ·have al:Hid (R=(2,(k:Int),[])):=by
      show _=_
      rw[<-aa,if_pos]
      cases last with
      | nil=>rfl
      | cons x l=>cases rest with
       | nil=>simp
       | cons y r =>
        have h1:=HQ.out
        have h2:=aA.out
        simp at h1 h2
        omega
     clear ah aa
     by_cases bf:0<q
     ·have i1:(0:Int)<(q:Int):=by omega
      have i2:¬ (k:Int)<(n:Int)-1:=by omega
      clear aO bf
      go_wp2_with fail
      refine (aE _).mono ?_
      rintro _ z ⟨rfl,rfl⟩
      go_wp2_with fail
      exact⟨rfl,by show ReadRet w R _ _;rw[al.out];exact b6 (by decide) (by rw[HD.out];exact aN.out)⟩
     ·have i1:¬ (0:Int)<(q:Int):=by omega
      clear aO bf
      go_wp2_with fail
      refine (aE _).mono ?_
      rintro _ z ⟨rfl,rfl⟩
      go_wp2_with fail
      exact⟨rfl,by show ReadRet w R _ _;rw[al.out];exact b6 (by decide) (by rw[HD.out];exact aN.out)⟩
   ·have aa:(match Sz.fieldP ln (k:Int) with | none=>((2:Int),(k:Int),([]:List (List Fld))) | some f=>if hasK last f.key then (6,(k:Int),[]) else readL (k+1) rest acc (last++[f]))=R:=by
     cases ln with
     | nil=>exact absurd rfl hle
     | cons x t=>exact ah
    have bF:(ln==[])=false:=beq_eq_false_iff_ne.2 hle
    have aQ:=mq ln (k:Int) wr (ag br.out (by rw[HD.out];exact aN.out)) (Nat.le_trans bc.out (by decide))
    have aR:=@Sz.jQ ln (k:Int)
    obtain⟨F,hF⟩:=ex (Sz.fieldP ln (k:Int))
    rw[hF] at aa aQ aR
    have a1:=zh aQ
    cases F with
    | none =>
     have al:Hid (R=(2,(k:Int),[])):=aa.symm
     clear ah aa aQ aR hF hle
     go_wp2_with fail
     refine a1.out.mono ?_
     rintro e z ⟨hb,he⟩
     have aC:Hid (Below D w z):=aN.out.trans (hb.mono (Nat.le_trans (by rw[<-HD.out];exact ar.out.2) ac.out.2))
     have a2:e=panAt k 2:=he
     subst a2
     clear hb he
     go_wp2_with fail
     exact⟨rfl,by show ReadRet w R _ _;rw[al.out];exact b6 (by decide) (by rw[HD.out];exact aC.out)⟩
    | some f =>
     obtain⟨_,ao,bm,_⟩:=aR rfl
     have am:=zh ao
     have bg:=zh (xU bm)
     have bh:Hid ((if hasK last f.key then ((6:Int),(k:Int),([]:List (List Fld))) else readL (k+1) rest acc (last++[f]))=R):=aa
     clear ah aa aQ aR hF hle ao bm
     go_wp2_with fail
     refine a1.out.mono ?_
     rintro e z ⟨hb,he⟩
     have a2:e=.returned (.agg #[.string ⟨f.key.toArray⟩,.string ⟨f.val.toArray⟩,.int .i64 (k:Int)]):=he
     subst a2
     have aS:Hid (Keeps u.heap.size D u z/\u.heap.size<=z.heap.size):=⟨aZ ac.out.1 (bE (hb.mono ac.out.2)),Nat.le_trans ac.out.2 hb.size⟩
     have a3:=bo aw.out hb
     have au:Calls Tryz.prog 177 #[.pointer (some ⟨D,0,none⟩),.agg #[.string ⟨f.key.toArray⟩,.string ⟨f.val.toArray⟩,.int .i64 f.line]] z (Sz.AddRet z u.heap.size D v0 ds acc last f):=by
      have aD:last.length+1<=1000000:=by have:=aL.out;have:=az.out;have:=aq.out;omega
      by_cases hl:last=[]
      ·exact jj f a3 aD bg.out aS.out.2 hl
      ·rcases bw.out with h | ⟨m,h1,h2,h3⟩
       ·exact absurd h hl
       ·refine kb f a3 aD bg.out aS.out.2 hl ⟨m,h1,h2,?_⟩
        obtain⟨_,_,⟨_,_,hh,_⟩,_⟩:=id h3
        exact bV h3 hb (Array.getElem?_eq_some_iff.1 hh).1
     rw[am.out] at au
     have a4:=zh au
     clear hb he a3 au a1
     go_wp2_with fail
     refine a4.out.mono ?_
     rintro e z2 ⟨aj,an,aT⟩
     have aP:Hid (Keeps u.heap.size D u z2/\u.heap.size<=z2.heap.size):=⟨aZ aS.out.1 aj,Nat.le_trans aS.out.2 an⟩
     by_cases av:(last.map Fld.key).contains f.key=true
     ·rw[if_pos av,am.out] at aT
      have al:Hid (R=(6,(k:Int),[])):=by show _=_;rw[<-bh.out,lO,if_pos av]
      have aC:Hid (Below D w z2):=ar.out.1.trans (er aP.out.1 (Nat.le_trans (by rw[HD.out];exact Nat.le_refl _) ar.out.2))
      subst aT
      clear av aj an
      go_wp2_with fail
      exact⟨rfl,by show ReadRet w R _ _;rw[al.out];exact b6 (by decide) (by rw[HD.out];exact aC.out)⟩
     ·rw[if_neg av] at aT
      obtain⟨rfl,u1,m,bn,ab,bp⟩:=aT
      have aX:Hid (readL (k+1) rest acc (last++[f])=R):=by show _=_;rw[<-bh.out,lO,if_neg av]
      have aY:=zh ab
      have a5:Hid (KeysOk z2 u.heap.size (.map (some m)) (last++[f])):=Or.inr ⟨m,rfl,bn,bp⟩
      have a0:Hid (ds.length+(last++[f]).length<=k+1):=by have:=aL.out;show _<=_;rw[List.length_append];show _+(_+1)<=_;omega
      clear av aj an bn ab bp
      go_wp2_with fail
      go_roundw
      case rel=>exact⟨k+1,acc,last++[f],ds,_,_,_,by go_num,by omega,aY,a5,by show readL _ _ _ _=R;rw[bd.out];exact aX.out,aP,a0⟩
      case measure=>simp[intOf];omega
  ·obtain rfl:k=n:=by omega
   have al:Hid (R=(0,0,if last=[] then acc else acc++[last])):=by
    show _=_
    rw[<-bj.out,List.drop_eq_nil_of_le (by rw[HN.out];exact Nat.le_refl _)]
    cases last <;> rfl
   have ik:¬ (k:Int)<(k:Int):=by omega
   go_wp2_with fail
   refine (eI aw.out (by have:=aL.out;have:=az.out;have:=aq.out;omega) ac.out.2).mono ?_
   rintro _ z ⟨rfl,aj,an,u0,u1,ax,ab⟩
   have aC:Hid (Below D w z):=ar.out.1.trans (er (aZ ac.out.1 aj) (Nat.le_trans (by rw[HD.out];exact Nat.le_refl _) ar.out.2))
   obtain⟨A2,c2,bx,ap,_,_⟩:=Rg.aF fitsO ab.2.2.1
   have aH:=ab.2.2.2.1
   have bv:Hid (∀ x∈ax,x.2.1<=x.2.2):=ab.1
   subst bx
   obtain⟨e0,_,_,_,_,_⟩:=a9 ab
   have aI:=zh ap
   have aJ:=zh aH
   clear aj an ab ap aH
   go_wp2_with fail
   go_ret
   show ReadRet w R _ _
   rw[al.out]
   refine⟨by rw[HD.out];exact aC.out,?_⟩
   show if (0:Int)=0 then _ else _
   rw[if_pos rfl]
   exact⟨A2,c2,ax,congrArg (fun x=>Ending.returned (Value.slice A2 x c2)) aJ.out.1,aI.out,aJ.out,bv.out⟩
theorem uq (s:List UInt8)(w:World)(hw:MaxOk w)(hs:s.length<=65536)(h0:s=[]) :
  Calls Tryz.prog 141 #[.string ⟨s.toArray⟩] w (Sz.ReadRet w (readL 0 (linesL s) [] [])):=by
 obtain⟨R,hR⟩:=ex (readL 0 (linesL s) [] [])
 rw[hR]
 obtain⟨W1,a6⟩:=ex (w.alloc (.cells #[.slice none 0 0,.slice none 0 0,.map none] 229))
 have ay:Hid (Below w.heap.size w W1):=ai a6
 have a7:Hid (∀ B,DrO W1 B w.heap.size (.slice none 0 0) (.slice none 0 0) (.map none) [] [] []):=fun B=>by rw[<-a6];exact xR
 have a8:=zh (mr s W1 (ag hw ay.out) (by omega))
 have bq:Hid (MaxOk W1):=ag hw ay.out
 have HR:=zh hR
 have br:=zh hw
 have dl:decide ((s.length:Int)<=65536)=true:=decide_eq_true (by omega)
 have au:=zh hs
 have bx:(s==[])=true:=by rw[h0];rfl
 clear h0
 clear hw hR hs
 go_enter Tryz.func141,Tryz.ntmps141
 go_wp2_with fail
 refine (ak _).mono ?_
 rintro _ z ⟨rfl,rfl⟩
 go_wp2_with fail
 refine (ak _).mono ?_
 rintro _ z ⟨rfl,rfl⟩
 go_wp2_with fail
 clear a6
 refine a8.out.mono ?_
 rintro _ u ⟨A,n,c,rfl,hn,bi,aK,hb⟩
 obtain⟨D,hD⟩:=ex w.heap.size
 have HD:=zh hD
 have ba:Hid (DrO u u.heap.size D (.slice none 0 0) (.slice none 0 0) (.map none) [] [] []):=by show DrO _ _ _ _ _ _ _ _ _;rw[<-hD];exact bo (a7.out _) hb
 have HN:=zh hn
 have az:=zh bi
 have aU:=zh aK
 have aq:Hid (Below D w u/\w.heap.size<=u.heap.size):=⟨by rw[<-hD];exact bt ay.out hb,Nat.le_trans ay.out.size hb.size⟩
 have bz:Hid (MaxOk u):=ag bq.out hb
 rw[hD]
 clear hn aK hb dl bi hD a8 a7 ay
 go_wp2_with fail
 go_loopw [22] (fun i wr=>∃ (k:Nat) (acc:List (List Fld)) (last:List Fld) (ds:List Desc) (v0 v1 v2:Value),i=.int .i64 k/\k<=n/\Hid (DrO wr u.heap.size D v0 v1 v2 ds acc last)/\Hid (KeysOk wr u.heap.size v2 last)/\Hid (readL k ((linesL s).drop k) acc last=R)/\Hid (Keeps u.heap.size D u wr/\u.heap.size<=wr.heap.size)/\Hid (ds.length+last.length<=k)) (fun i _=>n-(intOf i).toNat)
 case atStart=>exact⟨0,[],[],[],_,_,_,rfl,Nat.zero_le _,ba,Or.inl rfl,HR,⟨bE (Below.refl _ _),Nat.le_refl _⟩,Nat.zero_le _⟩
 case round =>
  obtain⟨k,acc,last,ds,v0,v1,v2,rfl,hk,aw,bv,bj,ac,aL⟩:=hrel
  by_cases bs:k<n
  ·have aV:k<(linesL s).length:=by rw[HN.out];exact bs
   obtain⟨ad,hA,aM,ae⟩:=Sz.dP aU.out k aV
   subst hA
   have bb:ad.block≠D:=by
    have:=kd ba.out (fun x h=>by cases h) (fun x h=>by cases h) (fun x h=>by cases h) ae
    rwa [Rs.add_block] at this
   have cw:=(oB ac.out.1 (a:=ad.add k) (by rw[Rs.add_block];exact aM) (by rw[Rs.add_block];exact bb)).trans ae
   have bc:Hid ((linesL s)[k].length<=65536):=Nat.le_trans (xQ (List.getElem_mem aV)) au.out
   have ah:=bj.out
   rw[List.drop_eq_getElem_cons aV] at ah
   have aW:((linesL s).drop (k+1)).length=n-(k+1):=by rw[List.length_drop,HN.out]
   obtain⟨rest,af⟩:=ex ((linesL s).drop (k+1))
   obtain⟨ln,bk⟩:=ex ((linesL s)[k])
   rw[bk] at cw ah bc
   rw[af] at ah aW
   have bd:=zh af
   have aA:=zh aW
   have ik:(k:Int)<(n:Int):=by omega
   have bA:IntKind.i64.wrap ((k:Int)+1)=(k:Int)+1:=IntWalk.i64_in _ (by have:=az.out;have:=au.out;omega)
   have bB:IntKind.i64.wrap ((n:Int)-1)=(n:Int)-1:=IntWalk.i64_in _ (by have:=az.out;have:=au.out;omega)
   obtain⟨A1,c1,bl,_,_,_⟩:=Rg.aF fitsF aw.out.2.2.2.2.2.1
   obtain⟨q,hq⟩:=ex last.length
   rw[hq] at bl
   subst bl
   obtain⟨e0,e1,e2,_,_,_⟩:=a9 aw.out
   have HQ:=zh hq
   have aN:Hid (Below D w wr):=aq.out.1.trans (er ac.out.1 (Nat.le_trans (by rw[HD.out];exact Nat.le_refl _) aq.out.2))
   clear ae aM bb af bk aW hq
   by_cases hle:ln=[]
   ·subst hle
    have aa:(if (last.isEmpty||rest.isEmpty) then (2,(k:Int),[]) else readL (k+1) rest (acc++[last]) [])=R:=ah
    by_cases aO:0<q/\k+1<n
    ·have i1:(0:Int)<(q:Int):=by omega
     have i2:(k:Int)<(n:Int)-1:=by omega
     have aX:Hid (readL (k+1) rest (acc++[last]) []=R):=by
      show _=_
      rw[if_neg] at aa
      ·exact aa
      ·cases last with
       | nil=>have:=HQ.out;simp at this;omega
       | cons x l=>cases rest with
        | nil=>have:=aA.out;simp at this;omega
        | cons y r=>simp
     have be:=zh aO
     clear aO ah aa
     go_wp2_with fail
     refine (aG _).mono ?_
     rintro _ z ⟨rfl,rfl⟩
     go_wp2_with fail
     refine (eI aw.out (by have:=aL.out;have:=az.out;have:=au.out;omega) ac.out.2).mono ?_
     rintro _ z ⟨rfl,aj,an,u0,u1,ax,ab⟩
     have aB:last≠[]:=fun e=>by have:=HQ.out;rw[e] at this;simp at this;have:=be.out;omega
     rw[if_neg aB] at ab
     have aY:=zh ab
     have aP:Hid (Keeps u.heap.size D u z/\u.heap.size<=z.heap.size):=⟨aZ ac.out.1 aj,Nat.le_trans ac.out.2 an⟩
     have a0:Hid (ax.length+([]:List Fld).length<=k+1):=by
      have h1:=ab.2.2.2.1.1
      have h2:=aw.out.2.2.2.1.1
      rw[List.length_append] at h1
      have h3:=aL.out
      have h4:=HQ.out
      have h5:=be.out
      show ax.length+0<=k+1
      simp at h1
      omega
     clear aj an ab aB
     go_wp2_with fail
     go_roundw
     case rel=>exact⟨k+1,acc++[last],[],ax,_,_,_,by go_num,by omega,aY,Or.inl rfl,by show readL _ _ _ _=R;rw[bd.out];exact aX.out,aP,a0⟩
     case measure=>simp[intOf];omega
    ·have al:Hid (R=(2,(k:Int),[])):=by
      show _=_
      rw[<-aa,if_pos]
      cases last with
      | nil=>rfl
      | cons x l=>cases rest with
       | nil=>simp
       | cons y r =>
        have h1:=HQ.out
        have h2:=aA.out
        simp at h1 h2
        omega
     clear ah aa
     by_cases bf:0<q
     ·have i1:(0:Int)<(q:Int):=by omega
      have i2:¬ (k:Int)<(n:Int)-1:=by omega
      clear aO bf
      go_wp2_with fail
      refine (aE _).mono ?_
      rintro _ z ⟨rfl,rfl⟩
      go_wp2_with fail
      exact⟨rfl,by show ReadRet w R _ _;rw[al.out];exact b6 (by decide) (by rw[HD.out];exact aN.out)⟩
     ·have i1:¬ (0:Int)<(q:Int):=by omega
      clear aO bf
      go_wp2_with fail
      refine (aE _).mono ?_
      rintro _ z ⟨rfl,rfl⟩
      go_wp2_with fail
      exact⟨rfl,by show ReadRet w R _ _;rw[al.out];exact b6 (by decide) (by rw[HD.out];exact aN.out)⟩
   ·have aa:(match Sz.fieldP ln (k:Int) with | none=>((2:Int),(k:Int),([]:List (List Fld))) | some f=>if hasK last f.key then (6,(k:Int),[]) else readL (k+1) rest acc (last++[f]))=R:=by
     cases ln with
     | nil=>exact absurd rfl hle
     | cons x t=>exact ah
    have bC:(ln==[])=false:=beq_eq_false_iff_ne.2 hle
    have aQ:=mq ln (k:Int) wr (ag br.out (by rw[HD.out];exact aN.out)) (Nat.le_trans bc.out (by decide))
    have aR:=@Sz.jQ ln (k:Int)
    obtain⟨F,hF⟩:=ex (Sz.fieldP ln (k:Int))
    rw[hF] at aa aQ aR
    have a1:=zh aQ
    cases F with
    | none =>
     have al:Hid (R=(2,(k:Int),[])):=aa.symm
     clear ah aa aQ aR hF hle
     go_wp2_with fail
     refine a1.out.mono ?_
     rintro e z ⟨hb,he⟩
     have aC:Hid (Below D w z):=aN.out.trans (hb.mono (Nat.le_trans (by rw[<-HD.out];exact aq.out.2) ac.out.2))
     have a2:e=panAt k 2:=he
     subst a2
     clear hb he
     go_wp2_with fail
     exact⟨rfl,by show ReadRet w R _ _;rw[al.out];exact b6 (by decide) (by rw[HD.out];exact aC.out)⟩
    | some f =>
     obtain⟨_,ao,bm,_⟩:=aR rfl
     have am:=zh ao
     have bg:=zh (xU bm)
     have bh:Hid ((if hasK last f.key then ((6:Int),(k:Int),([]:List (List Fld))) else readL (k+1) rest acc (last++[f]))=R):=aa
     clear ah aa aQ aR hF hle ao bm
     go_wp2_with fail
     refine a1.out.mono ?_
     rintro e z ⟨hb,he⟩
     have a2:e=.returned (.agg #[.string ⟨f.key.toArray⟩,.string ⟨f.val.toArray⟩,.int .i64 (k:Int)]):=he
     subst a2
     have aS:Hid (Keeps u.heap.size D u z/\u.heap.size<=z.heap.size):=⟨aZ ac.out.1 (bE (hb.mono ac.out.2)),Nat.le_trans ac.out.2 hb.size⟩
     have a3:=bo aw.out hb
     have ar:Calls Tryz.prog 177 #[.pointer (some ⟨D,0,none⟩),.agg #[.string ⟨f.key.toArray⟩,.string ⟨f.val.toArray⟩,.int .i64 f.line]] z (Sz.AddRet z u.heap.size D v0 ds acc last f):=by
      have aD:last.length+1<=1000000:=by have:=aL.out;have:=az.out;have:=au.out;omega
      by_cases hl:last=[]
      ·exact jj f a3 aD bg.out aS.out.2 hl
      ·rcases bv.out with h | ⟨m,h1,h2,h3⟩
       ·exact absurd h hl
       ·refine kb f a3 aD bg.out aS.out.2 hl ⟨m,h1,h2,?_⟩
        obtain⟨_,_,⟨_,_,hh,_⟩,_⟩:=id h3
        exact bV h3 hb (Array.getElem?_eq_some_iff.1 hh).1
     rw[am.out] at ar
     have a4:=zh ar
     clear hb he a3 ar a1
     go_wp2_with fail
     refine a4.out.mono ?_
     rintro e z2 ⟨aj,an,aT⟩
     have aP:Hid (Keeps u.heap.size D u z2/\u.heap.size<=z2.heap.size):=⟨aZ aS.out.1 aj,Nat.le_trans aS.out.2 an⟩
     by_cases av:(last.map Fld.key).contains f.key=true
     ·rw[if_pos av,am.out] at aT
      have al:Hid (R=(6,(k:Int),[])):=by show _=_;rw[<-bh.out,lO,if_pos av]
      have aC:Hid (Below D w z2):=aq.out.1.trans (er aP.out.1 (Nat.le_trans (by rw[HD.out];exact Nat.le_refl _) aq.out.2))
      subst aT
      clear av aj an
      go_wp2_with fail
      exact⟨rfl,by show ReadRet w R _ _;rw[al.out];exact b6 (by decide) (by rw[HD.out];exact aC.out)⟩
     ·rw[if_neg av] at aT
      obtain⟨rfl,u1,m,bn,ab,bp⟩:=aT
      have aX:Hid (readL (k+1) rest acc (last++[f])=R):=by show _=_;rw[<-bh.out,lO,if_neg av]
      have aY:=zh ab
      have a5:Hid (KeysOk z2 u.heap.size (.map (some m)) (last++[f])):=Or.inr ⟨m,rfl,bn,bp⟩
      have a0:Hid (ds.length+(last++[f]).length<=k+1):=by have:=aL.out;show _<=_;rw[List.length_append];show _+(_+1)<=_;omega
      clear av aj an bn ab bp
      go_wp2_with fail
      go_roundw
      case rel=>exact⟨k+1,acc,last++[f],ds,_,_,_,by go_num,by omega,aY,a5,by show readL _ _ _ _=R;rw[bd.out];exact aX.out,aP,a0⟩
      case measure=>simp[intOf];omega
  ·obtain rfl:k=n:=by omega
   have al:Hid (R=(0,0,if last=[] then acc else acc++[last])):=by
    show _=_
    rw[<-bj.out,List.drop_eq_nil_of_le (by rw[HN.out];exact Nat.le_refl _)]
    cases last <;> rfl
   have ik:¬ (k:Int)<(k:Int):=by omega
   go_wp2_with fail
   refine (eI aw.out (by have:=aL.out;have:=az.out;have:=au.out;omega) ac.out.2).mono ?_
   rintro _ z ⟨rfl,aj,an,u0,u1,ax,ab⟩
   have aC:Hid (Below D w z):=aq.out.1.trans (er (aZ ac.out.1 aj) (Nat.le_trans (by rw[HD.out];exact Nat.le_refl _) aq.out.2))
   obtain⟨A2,c2,bw,ap,_,_⟩:=Rg.aF fitsO ab.2.2.1
   have aH:=ab.2.2.2.1
   have bu:Hid (∀ x∈ax,x.2.1<=x.2.2):=ab.1
   subst bw
   obtain⟨e0,_,_,_,_,_⟩:=a9 ab
   have aI:=zh ap
   have aJ:=zh aH
   clear aj an ab ap aH
   go_wp2_with fail
   go_ret
   show ReadRet w R _ _
   rw[al.out]
   refine⟨by rw[HD.out];exact aC.out,?_⟩
   show if (0:Int)=0 then _ else _
   rw[if_pos rfl]
   exact⟨A2,c2,ax,congrArg (fun x=>Ending.returned (Value.slice A2 x c2)) aJ.out.1,aI.out,aJ.out,bu.out⟩
theorem uu (s:List UInt8)(w:World)(hs:65536<s.length) :
  Calls Tryz.prog 141 #[.string ⟨s.toArray⟩] w fun e w'=>e=pan 4/\w=w':=by
 have dl:decide ((s.length:Int)<=65536)=false:=decide_eq_false (by omega)
 clear hs
 go_enter Tryz.func141,Tryz.ntmps141
 go_wp2_with fail
 refine (au _).mono ?_
 rintro _ z ⟨rfl,rfl⟩
 go_wp2_with fail
 exact⟨rfl,rfl,rfl⟩
theorem uv (s:List UInt8)(w:World)(hs:s.length<=65536)(h0:s≠[])(h1:Lib.hasSuffix s [10]=false) :
  Calls Tryz.prog 141 #[.string ⟨s.toArray⟩] w fun e w'=>e=pan 2/\w=w':=by
 have dl:decide ((s.length:Int)<=65536)=true:=decide_eq_true (by omega)
 have ac:(s==[])=false:=beq_eq_false_iff_ne.2 h0
 have aa:=zh h1
 have ab:=zh hs
 clear h1 h0 hs
 go_enter Tryz.func141,Tryz.ntmps141
 go_wp2_with fail
 refine (ak _).mono ?_
 rintro _ z ⟨rfl,rfl⟩
 go_wp2_with fail
 refine (Tryz.strings_HasSuffix ⟨s.toArray⟩ ⟨#[10]⟩ _ (by show s.length<=_;have:=ab.out;omega)).mono ?_
 rintro _ z ⟨rfl,hz⟩
 obtain rfl:=hz.symm
 clear hz
 rw[show Lib.hasSuffix (⟨s.toArray⟩:ByteArray).data.toList (⟨#[10]⟩:ByteArray).data.toList=false from aa.out]
 go_wp2_with fail
 refine (au _).mono ?_
 rintro _ z ⟨rfl,rfl⟩
 go_wp2_with fail
 exact⟨rfl,rfl,rfl⟩
theorem wM (s:List UInt8)(w:World)(hw:MaxOk w) :
  Calls Tryz.prog 141 #[.string ⟨s.toArray⟩] w fun e w'=>if 65536<s.length then e=pan 4/\w=w' else if endB s=true then ReadRet w (readL 0 (linesL s) [] []) e w' else e=pan 2/\w=w':=by
 by_cases hl:65536<s.length
 ·exact (uu s w hl).mono fun _ _ h=>by rw[if_pos hl];exact h
 ·have hs:s.length<=65536:=by omega
  by_cases h0:s=[]
  ·exact (uq s w hw hs h0).mono fun _ _ h=>by rw[if_neg hl,if_pos (by rw[h0];rfl)];exact h
  ·have aa:endB s=Lib.hasSuffix s [10]:=by
    unfold endB
    rw[zz,List.isEmpty_eq_false_iff.2 h0,Bool.false_or]
   cases h1:Lib.hasSuffix s [10]
   ·exact (uv s w hs h0 h1).mono fun _ _ h=>by rw[if_neg hl,if_neg (by rw[aa,h1];decide)];exact h
   ·exact (uo s w hw hs h0 h1).mono fun _ _ h=>by rw[if_neg hl,if_pos (by rw[aa,h1])];exact h
end
section
open Go.RowKit
theorem kY (p q:Addr)(x y n:Int)(w:World)(hc:w.cell? p=some (.int .i64 x))(hz:w.frozen? p=false)(hc2:(w.setCell p (.int .i64 0)).cell? q=some (.int .i64 y))(hz2:(w.setCell p (.int .i64 0)).frozen? q=false) :
  CallsD Tryz.prog 140 #[.pointer (some p),.pointer (some q)] (.panicking [{ v:=.iface 77 (.int .i64 n),recovered:=false }]) w fun e u' w' =>
   e=.returned (.tuple #[])/\u'=.panicking [{ v:=.iface 77 (.int .i64 n),recovered:=true }]/\w'=(w.setCell p (.int .i64 0)).setCell q (.int .i64 n):=by
 refine callsD_of_wpS Tryz.func140 rfl fun c₀ cs hu=>?_
 apply wpS_region
 simp[wpOpsS,go_sem,recoverD,hu,Tryz.ntmps140]
 refine (eC n _).mono ?_
 rintro e w' ⟨rfl,rfl⟩
 simp[go_sem,hc,hz,hc2,hz2,bodyPostS,results,Tryz.results140]
theorem rP (p q:Addr)(x y k n:Int)(w:World)(hc:∀ u,Below w.heap.size w u->u.cell? p=some (.int .i64 x))(hz:∀ u,Below w.heap.size w u->u.frozen? p=false)(hc2:∀ u,Below w.heap.size w u->(u.setCell p (.int .i64 k)).cell? q=some (.int .i64 y))(hz2:∀ u,Below w.heap.size w u->(u.setCell p (.int .i64 k)).frozen? q=false) :
  CallsD Tryz.prog 140 #[.pointer (some p),.pointer (some q)] (.panicking [{ v:=.iface 158 (.agg #[.int .i64 k,.int .i64 n]),recovered:=false }]) w fun e u' w' =>
   e=.returned (.tuple #[])/\u'=.panicking [{ v:=.iface 158 (.agg #[.int .i64 k,.int .i64 n]),recovered:=true }]/\∃ u,Below w.heap.size w u/\w'=(u.setCell p (.int .i64 k)).setCell q (.int .i64 n):=by
 refine callsD_of_wpS Tryz.func140 rfl fun c₀ cs hu=>?_
 apply wpS_region
 simp[wpOpsS,go_sem,recoverD,hu,Tryz.ntmps140]
 refine (bN k n _).mono ?_
 rintro e w' ⟨rfl,hb⟩
 simp[go_sem,hc _ hb,hz _ hb,hc2 _ hb,hz2 _ hb,bodyPostS,results,Tryz.results140]
 exact⟨w',hb,rfl⟩
theorem wN (p q:Addr)(x y:Int)(w:World)(hc:w.cell? p=some (.int .i64 x))(hz:w.frozen? p=false)(hc2:(w.setCell p (.int .i64 0)).cell? q=some (.int .i64 y))(hz2:(w.setCell p (.int .i64 0)).frozen? q=false) :
  CallsD Tryz.prog 140 #[.pointer (some p),.pointer (some q)] .returning w fun e u' w'=>e=.returned (.tuple #[])/\u'=.returning/\w'=(w.setCell p (.int .i64 0)).setCell q (.int .i64 0):=by
 refine callsD_of_wpS Tryz.func140 rfl fun c₀ cs hu=>?_
 apply wpS_region
 simp[wpOpsS,go_sem,recoverD,hu,Tryz.ntmps140]
 refine (cJ _).mono ?_
 rintro e w' ⟨rfl,rfl⟩
 cases c₀
 simp_all [go_sem,bodyPostS,results,Tryz.results140]
end
namespace Sz
def getF (l:List Fld) (k:List UInt8):Option Fld:=l.find? (fun f=>f.key==k)
theorem uw (l:List Fld)(k:List UInt8):(getF l k).isSome=hasK l k:=by
 unfold getF hasK
 induction l with
 | nil=>rfl
 | cons f l ih =>
  rw[List.find?_cons,List.any_cons]
  cases f.key==k with
  | true=>rfl
  | false=>exact ih
def placeOf (keys:List (List UInt8)) (k:List UInt8):Option Nat:=keys.findIdx? (. == k)
def ordP (keys:List (List UInt8)):Nat->Int->List Fld->Int × Int
 | _,_,[]=>(0,0)
 | i,last,f :: l=>match placeOf keys f.key with
  | none=>(i,10)
  | some p=>if last<p then ordP keys (i+1) p l else (i,7)
theorem qQ (n:Nat)(acc:List (List Fld))(last:List Fld):readL n [] acc last=(0,0,if last.isEmpty then acc else acc++[last]):=by unfold readL;rfl
theorem oC (n:Nat)(s:List UInt8)(ls:List (List UInt8))(acc:List (List Fld))(last:List Fld):readL n (s :: ls) acc last=if s.isEmpty then (if last.isEmpty||ls.isEmpty then (2,(n:Int),[]) else readL (n+1) ls (acc++[last]) [])
  else match fieldP s n with
   | none=>(2,(n:Int),[])
   | some f=>if hasK last f.key then (6,(n:Int),[]) else readL (n+1) ls acc (last++[f]):=by
 rw[readL];rfl
end Sz
section
open Go.RowKit Go.Maps Sz
attribute [local go_sem ↓] Go.wp_at_zero Go.wp_at_succ
def Sz.NotAt (b:Nat) (A:Option Addr) (ds:List Desc) (t:List (List Fld)):Prop:=(0<ds.length->∀ a,A=some a->a.block≠b)/\Gr.Free (.slice (some ⟨b,0,none⟩) 0 0) ds t
theorem Sz.dC {w:World}{b:Nat}{x:Int}{T:TypeId}{q:Addr}{v:Value}(hb:w.heap[b]?=some (.cells #[.int .i64 x] T (0,0)))(hq:q.block=b)(hc:w.cell? q=some v):v=.int .i64 x:=by
 unfold World.cell? at hc
 rw[hq,hb] at hc
 dsimp only at hc
 split at hc
 ·cases hc
 ·match h3:q.off with
  | 0=>rw[h3] at hc;exact (Option.some.inj hc).symm
  | k+1=>rw[h3] at hc;simp at hc
theorem Sz.qR {w:World}{A:Option Addr}{ds:List Desc}{t:List (List Fld)}{b:Nat}{x:Int}{T:TypeId}(h1:Rg.Row encO 1 w A ds)(h2:Gr.In encF 3 w ds t)(hb:w.heap[b]?=some (.cells #[.int .i64 x] T (0,0))):NotAt b A ds t:=by
 refine⟨fun h0 a ha e=>?_,fun i d l e1 e2 h0 a ha e=>?_⟩
 ·obtain⟨a2,e2,_,hc⟩:=h1 h0
  rw[ha] at e2;cases e2
  have:=hc 0 h0 0 _ rfl
  rw[if_pos rfl] at this
  have:=dC hb (by rw[Rs.add_block];exact e) this
  cases this
 ·obtain⟨a2,e3,_,hc⟩:=(h2.2 i d l e1 e2).2 h0
  rw[ha] at e3;cases e3
  have:=hc 0 h0 0 _ rfl
  rw[if_pos rfl] at this
  have:=dC hb (by rw[Rs.add_block];exact (Option.some.inj e).symm) this
  cases this
theorem Sz.iB {w:World}{A:Option Addr}{ds:List Desc}{t:List (List Fld)}{b:Nat}(h:Rg.Row encO 1 w A ds/\Gr.In encF 3 w ds t)(hn:NotAt b A ds t)(x:Value):Rg.Row encO 1 (w.setCell ⟨b,0,none⟩ x) A ds/\Gr.In encF 3 (w.setCell ⟨b,0,none⟩ x) ds t :=
 ⟨ee h.1 (cB w ⟨b,0,none⟩ x) (fun h0 a ha e=>hn.1 h0 a ha (Option.some.inj e).symm),eX h.2 (cB w ⟨b,0,none⟩ x) hn.2⟩
def Sz.PRet (w:World) (X:Int × Int × List (List Fld)) (e:Ending) (w':World):Prop :=
 ∃ A c,e=.returned (.tuple #[.slice A X.2.2.length c,.int .i64 X.2.1,.int .i64 X.1])/\Gr.Row encF 3 w' A X.2.2/\Below w.heap.size w w'
def Sz.PRetC (w:World) (X:Int × Int × List (List Fld)) (e:Ending) (w':World):Prop :=
 ∃ A c,e=.returned (.tuple #[.slice A X.2.2.length c,.int .i64 X.2.1,.int .i64 X.1])/\(∃ ds,Rg.Row encO 1 w' A ds/\Gr.In encF 3 w' ds X.2.2/\∀ x∈ds,x.2.1<=x.2.2)/\Below w.heap.size w w'
theorem Sz.pretC {w:World}{X:Int × Int × List (List Fld)}{e:Ending}{w':World}(h:PRetC w X e w'):PRet w X e w':=by
 obtain⟨A,c,h1,⟨ds,h2,h3,_⟩,h4⟩:=h
 exact⟨A,c,h1,⟨ds,h2,h3⟩,h4⟩
theorem Sz.c7 {w u:World}{X:Int × Int × List (List Fld)}{k n:Int}(hX:X=(k,n,[]))(hb:Below w.heap.size w u)(x y:Value):PRetC w X (.returned (.tuple #[.slice none 0 0,.int .i64 n,.int .i64 k])) ((u.setCell ⟨w.heap.size,0,none⟩ x).setCell ⟨w.heap.size+1,0,none⟩ y):=by
 subst hX
 exact⟨none,0,rfl,⟨[],fun h=>absurd h (by decide),⟨rfl,fun i d l h=>by simp at h⟩,fun x hx=>by cases hx⟩,(hb.setCell (Nat.le_refl _) _).setCell (Nat.le_succ _) _⟩
theorem Sz.kZ:∀ (ls:List (List UInt8)) (n:Nat) (acc:List (List Fld)) (last:List Fld) (k m:Int) (r:List (List Fld)),readL n ls acc last=(k,m,r)->k≠0->r=[]
 | [],n,acc,last,k,m,r,h,hk=>by rw[qQ] at h;cases h;exact absurd rfl hk
 | s :: ls,n,acc,last,k,m,r,h,hk=>by
  rw[oC] at h
  split at h
  ·split at h
   ·cases h;rfl
   ·exact kZ ls _ _ _ k m r h hk
  ·cases hf:fieldP s n with
   | none=>rw[hf] at h;cases h;rfl
   | some f =>
    rw[hf] at h;dsimp only at h
    split at h
    ·cases h;rfl
    ·exact kZ ls _ _ _ k m r h hk
def Sz.P2 (b:Nat) (u:World):Prop:=u.heap[b]?=some (.cells #[.int .i64 0] 3 (0,0))/\u.heap[b+1]?=some (.cells #[.int .i64 0] 77 (0,0))
theorem Sz.oD {w W1 W2 u:World}(h1:w.alloc (.cells #[.int .i64 0] 3)=W1)(h2:W1.alloc (.cells #[.int .i64 0] 77)=W2)(hb:Below W2.heap.size W2 u):P2 w.heap.size u:=by
 have aa:W1.heap.size=w.heap.size+1:=by rw[<-h1];simp
 have ab:W2.heap.size=w.heap.size+2:=by rw[<-h2];simp[aa]
 refine⟨(hb.block _ (by omega)).trans ?_,(hb.block _ (by omega)).trans ?_⟩
 ·rw[((ai h2).block _ (by omega)),<-h1];exact heap_alloc_new w _
 ·rw[<-h2,<-aa];exact heap_alloc_new W1 _
theorem Sz.aL {b:Nat}{u:World}(h:P2 b u):u.cell? ⟨b,0,none⟩=some (.int .i64 0)/\u.frozen? ⟨b,0,none⟩=false/\u.cell? ⟨b+1,0,none⟩=some (.int .i64 0)/\u.frozen? ⟨b+1,0,none⟩=false:=by
 obtain⟨h1,h2⟩:=h
 refine⟨?_,?_,?_,?_⟩ <;> simp[World.cell?,World.frozen?,h1,h2]
theorem Sz.aM {b:Nat}{u:World}(h:P2 b u)(x:Value):(u.setCell ⟨b,0,none⟩ x).cell? ⟨b,0,none⟩=some x/\(u.setCell ⟨b,0,none⟩ x).frozen? ⟨b,0,none⟩=false/\(u.setCell ⟨b,0,none⟩ x).cell? ⟨b+1,0,none⟩=some (.int .i64 0)/\(u.setCell ⟨b,0,none⟩ x).frozen? ⟨b+1,0,none⟩=false:=by
 obtain⟨h1,h2,h3,h4⟩:=aL h
 refine⟨by simp[go_sem,h1],by simp[go_sem,h2],?_,by simp[go_sem,h4]⟩
 rw[World.cell?_setCell_far _ _ _ _ (by show b≠b+1;omega)];exact h3
theorem Sz.bO {b:Nat}{u:World}(h:P2 b u)(x y:Value):((u.setCell ⟨b,0,none⟩ x).setCell ⟨b+1,0,none⟩ y).cell? ⟨b,0,none⟩=some x/\((u.setCell ⟨b,0,none⟩ x).setCell ⟨b+1,0,none⟩ y).cell? ⟨b+1,0,none⟩=some y:=by
 obtain⟨h1,h2,h3,h4⟩:=aM h x
 refine⟨?_,by simp[go_sem,h3]⟩
 rw[World.cell?_setCell_far _ _ _ _ (by show b+1≠b;omega)];exact h1
theorem Sz.gR {b:Nat}{u:World}(h:P2 b u):P2 b ((u.setCell ⟨b,0,none⟩ (.int .i64 0)).setCell ⟨b+1,0,none⟩ (.int .i64 0)):=by
 obtain⟨h1,h2⟩:=h
 have g1:(u.setCell ⟨b,0,none⟩ (.int .i64 0)).heap[b]?=some (.cells #[.int .i64 0] 3 (0,0)):=by simp[World.setCell,Array.getElem?_modify,h1]
 have g2:(u.setCell ⟨b,0,none⟩ (.int .i64 0)).heap[b+1]?=some (.cells #[.int .i64 0] 77 (0,0)):=by simp[World.setCell,Array.getElem?_modify,h2]
 refine⟨?_,?_⟩
 ·rw[Below.heap_setCell _ _ _ _ (by show b≠b+1;omega)];exact g1
 ·obtain⟨v,hv⟩:=ex (u.setCell ⟨b,0,none⟩ (.int .i64 0))
  rw[hv] at g2 ⊢
  simp[World.setCell,Array.getElem?_modify,g2]
theorem oE (s:List UInt8)(w:World)(hw:MaxOk w) :
  Calls Tryz.prog 103 #[.string ⟨s.toArray⟩] w (Sz.PRetC w (parseS s)):=by
 have aw:∀ (fn:Fn) (first cap:Array Value) (w:World),(Instr.makeFunc fn first cap).run Tryz.prog w=.ok (.func fn first cap) w:=fun _ _ _ _=>rfl
 obtain⟨X,hX⟩:=ex (parseS s)
 rw[hX]
 unfold parseS at hX
 obtain⟨W1,ad⟩:=ex (w.alloc (.cells #[.int .i64 0] 3))
 obtain⟨W2,af⟩:=ex (W1.alloc (.cells #[.int .i64 0] 77))
 have aa:Hid (∀ u,Below W2.heap.size W2 u->P2 w.heap.size u):=fun u hb=>oD ad af hb
 have ap:W1.heap.size=w.heap.size+1:=by rw[<-ad];simp
 have al:W2.heap.size=w.heap.size+2:=by rw[<-af];simp[ap]
 have ac:Hid (Below w.heap.size w W2):=(ai ad).trans ((ai af).mono (ai ad).size)
 have aq:=zh al
 have ae:=zh (wM s W2 (ag hw ac.out))
 clear hw al
 by_cases hl:65536<s.length
 ·rw[if_pos hl] at hX
  have HX:Hid (X=(4,0,[])):=hX.symm
  have ab:Hid (Calls Tryz.prog 141 #[.string ⟨s.toArray⟩] W2 fun e w'=>e=pan 4/\W2=w'):=ae.out.mono fun _ _ h=>by rw[if_pos hl] at h;exact h
  clear hX ae hl
  go_enter_defers Tryz.func103,Tryz.ntmps103
  go_wp2_with fail
  clear ad af
  refine ab.out.mono ?_
  rintro _ z1 ⟨rfl,rfl⟩
  obtain⟨c0,f0,c1,f1⟩:=aL (aa.out _ (Below.refl _ _))
  obtain⟨d0,g0,d1,g1⟩:=aM (aa.out _ (Below.refl _ _)) (.int .i64 0)
  obtain⟨q0,q1⟩:=bO (aa.out _ (Below.refl _ _)) (.int .i64 0) (.int .i64 4)
  go_wp2_with fail
  refine leaves_cons (f:=140) (args:=#[.pointer (some ⟨w.heap.size,0,none⟩),.pointer (some ⟨w.heap.size+1,0,none⟩)]) (by simp) (by simp[go_sem]) ?_
  refine (kY ⟨w.heap.size,0,none⟩ ⟨w.heap.size+1,0,none⟩ 0 0 4 _ c0 f0 d1 g1).mono ?_
  rintro e u' w3 ⟨rfl,rfl,rfl⟩
  simp[Leaves,settle,results,Tryz.results103,go_sem,q0,q1]
  exact Sz.c7 HX.out (ac.out.trans ((Below.refl _ _).mono ac.out.size)) _ _
 rw[if_neg hl] at hX
 cases he:endB s
 ·rw[if_neg (by rw[he];decide)] at hX
  have HX:Hid (X=(2,0,[])):=hX.symm
  have ab:Hid (Calls Tryz.prog 141 #[.string ⟨s.toArray⟩] W2 fun e w'=>e=pan 2/\W2=w'):=ae.out.mono fun _ _ h=>by rw[if_neg hl,if_neg (by rw[he];decide)] at h;exact h
  clear hX ae hl he
  go_enter_defers Tryz.func103,Tryz.ntmps103
  go_wp2_with fail
  clear ad af
  refine ab.out.mono ?_
  rintro _ z1 ⟨rfl,rfl⟩
  obtain⟨c0,f0,c1,f1⟩:=aL (aa.out _ (Below.refl _ _))
  obtain⟨d0,g0,d1,g1⟩:=aM (aa.out _ (Below.refl _ _)) (.int .i64 0)
  obtain⟨q0,q1⟩:=bO (aa.out _ (Below.refl _ _)) (.int .i64 0) (.int .i64 2)
  go_wp2_with fail
  refine leaves_cons (f:=140) (args:=#[.pointer (some ⟨w.heap.size,0,none⟩),.pointer (some ⟨w.heap.size+1,0,none⟩)]) (by simp) (by simp[go_sem]) ?_
  refine (kY ⟨w.heap.size,0,none⟩ ⟨w.heap.size+1,0,none⟩ 0 0 2 _ c0 f0 d1 g1).mono ?_
  rintro e u' w3 ⟨rfl,rfl,rfl⟩
  simp[Leaves,settle,results,Tryz.results103,go_sem,q0,q1]
  exact Sz.c7 HX.out (ac.out.trans ((Below.refl _ _).mono ac.out.size)) _ _
 rw[if_pos he] at hX
 have ab:Hid (Calls Tryz.prog 141 #[.string ⟨s.toArray⟩] W2 (ReadRet W2 X)):=ae.out.mono fun _ _ h=>by rw[if_neg hl,if_pos he,hX] at h;exact h
 obtain⟨k,n,r⟩:=X
 have aj:Hid (k≠0->r=[]):=kZ _ _ _ _ k n r hX
 have ar:Hid (k=0->n=0):=fun h=>by
  have h2:parseS s=(0,n,r):=by unfold parseS;rw[if_neg hl,if_pos he,hX,h]
  exact (Sz.zw h2).1
 clear hX ae hl he
 go_enter_defers Tryz.func103,Tryz.ntmps103
 go_wp2_with fail
 clear ad af
 refine ab.out.mono ?_
 rintro e z1 ⟨hb,hr⟩
 have HB:=zh hb
 clear hb
 by_cases hk:k=0
 ·subst hk
  obtain⟨A,c,ds,rfl,h1,h2,ao⟩:∃ A c ds,e=.returned (.slice A r.length c)/\Rg.Row encO 1 z1 A ds/\Gr.In encF 3 z1 ds r/\∀ x∈ds,x.2.1<=x.2.2:=by rw[if_pos rfl] at hr;exact hr
  have au:=zh ao
  obtain rfl:=ar.out rfl
  have ah:Hid (NotAt w.heap.size A ds r/\NotAt (w.heap.size+1) A ds r):=⟨qR h1 h2 (aa.out _ HB.out).1,qR h1 h2 (aa.out _ HB.out).2⟩
  have HR:=zh (iB (iB ⟨h1,h2⟩ ah.out.1 (.int .i64 0)) ah.out.2 (.int .i64 0))
  obtain⟨c0,f0,c1,f1⟩:=aL (aa.out _ HB.out)
  obtain⟨d0,g0,d1,g1⟩:=aM (aa.out _ HB.out) (.int .i64 0)
  have ak:=zh (gR (aa.out _ HB.out))
  have av:Hid (Below w.heap.size w ((z1.setCell ⟨w.heap.size,0,none⟩ (.int .i64 0)).setCell ⟨w.heap.size+1,0,none⟩ (.int .i64 0))):=((bt ac.out HB.out).setCell (Nat.le_refl _) _).setCell (Nat.le_succ _) _
  clear hr h1 h2 ao
  go_wp2_with fail
  generalize (z1.setCell ⟨w.heap.size,0,none⟩ (.int .i64 0)).setCell ⟨w.heap.size+1,0,none⟩ (.int .i64 0)=V at *
  obtain⟨k0,m0,k1,m1⟩:=aL ak.out
  obtain⟨l0,o0,l1,o1⟩:=aM ak.out (.int .i64 0)
  obtain⟨q0,q1⟩:=bO ak.out (.int .i64 0) (.int .i64 0)
  have am:=zh (iB (iB HR.out ah.out.1 (.int .i64 0)) ah.out.2 (.int .i64 0))
  refine leaves_cons (f:=140) (args:=#[.pointer (some ⟨w.heap.size,0,none⟩),.pointer (some ⟨w.heap.size+1,0,none⟩)]) (by simp) (by simp[go_sem]) ?_
  refine (wN ⟨w.heap.size,0,none⟩ ⟨w.heap.size+1,0,none⟩ 0 0 _ k0 m0 l1 o1).mono ?_
  rintro e u' w3 ⟨rfl,rfl,rfl⟩
  simp[Leaves,settle,results,Tryz.results103,go_sem,q0,q1]
  exact⟨A,c,rfl,⟨ds,am.out.1,am.out.2,au.out⟩,(av.out.setCell (Nat.le_refl _) _).setCell (Nat.le_succ _) _⟩
 ·obtain rfl:e=panAt n k:=by rw[if_neg hk] at hr;exact hr
  obtain rfl:=aj.out hk
  clear hr hk
  go_wp2_with fail
  refine leaves_cons (f:=140) (args:=#[.pointer (some ⟨w.heap.size,0,none⟩),.pointer (some ⟨w.heap.size+1,0,none⟩)]) (by simp) (by simp[go_sem]) ?_
  refine (rP ⟨w.heap.size,0,none⟩ ⟨w.heap.size+1,0,none⟩ 0 0 n k _ (fun u hb=>(aL (aa.out _ (bt HB.out hb))).1) (fun u hb=>(aL (aa.out _ (bt HB.out hb))).2.1) (fun u hb=>(aM (aa.out _ (bt HB.out hb)) _).2.2.1) (fun u hb=>(aM (aa.out _ (bt HB.out hb)) _).2.2.2)).mono ?_
  rintro e u' w3 ⟨rfl,rfl,u,hb,rfl⟩
  have an:=zh (bt HB.out hb)
  obtain⟨q0,q1⟩:=bO (aa.out _ an.out) (.int .i64 n) (.int .i64 k)
  simp[Leaves,settle,results,Tryz.results103,go_sem,q0,q1]
  exact Sz.c7 rfl (bt ac.out an.out) _ _
theorem oF (s:List UInt8)(w:World)(hw:MaxOk w) :
  Calls Tryz.prog 103 #[.string ⟨s.toArray⟩] w (Sz.PRet w (parseS s)):=(oE s w hw).mono fun _ _ h=>pretC h
theorem Sz.d8 {w:World}{A:Option Addr}{l:List Fld}(h:Rg.Row encF 3 w A l)(k:Nat)(hk:k<l.length) :
  ∃ ad,A=some ad/\ad.block<w.heap.size/\w.cell? (ad.add (k*3))=some (.string ⟨l[k].key.toArray⟩)/\w.cell? ⟨(ad.add (k*3)).block,(ad.add (k*3)).off+1,none⟩=some (.string ⟨l[k].val.toArray⟩)/\w.cell? ⟨(ad.add (k*3)).block,(ad.add (k*3)).off+2,none⟩=some (.int .i64 l[k].line):=by
 obtain⟨ad,x,e,hx,aa,hc⟩:=Rg.cK h k hk
 subst hx
 exact⟨ad,e,aa,hc 0 _ rfl,hc 1 _ rfl,hc 2 _ rfl⟩
def Sz.Short (l:List Fld):Prop:=∀ f∈l,f.key.length<=140737488355328/\f.val.length<=140737488355328
theorem Sz.short_at {l:List Fld}(h:Short l)(k:Nat)(hk:k<l.length):l[k].key.length<=140737488355328/\l[k].val.length<=140737488355328:=h _ (List.getElem_mem hk)
theorem Sz.abd (f:Fld)(l:List Fld)(k:List UInt8):getF (f :: l) k=if (f.key==k)=true then some f else getF l k:=by
 unfold getF;rw[List.find?_cons];cases f.key==k <;> rfl
def Sz.GotRet (w:World) (R:Option Fld) (e:Ending) (w':World):Prop:=e=.returned (.tuple #[.agg #[.string ⟨(R.getD ⟨[],[],0⟩).key.toArray⟩,.string ⟨(R.getD ⟨[],[],0⟩).val.toArray⟩,.int .i64 (R.getD ⟨[],[],0⟩).line],.bool R.isSome])/\Below w.heap.size w w'
theorem rQ (A:Option Addr)(n c:Nat)(l:List Fld)(key:List UInt8)(w:World)(hn:l.length=n)(hr:Rg.Row encF 3 w A l)(hl:n<=100000)(hs:Sz.Short l) :
  Calls Tryz.prog 240 #[.slice A n c,.string ⟨key.toArray⟩] w (Sz.GotRet w (getF l key)):=by
 obtain⟨R,hR⟩:=ex (getF l key)
 rw[hR]
 obtain⟨W1,af⟩:=ex (w.alloc (.cells #[.string ⟨#[]⟩,.string ⟨#[]⟩,.int .i64 0] 168))
 have ab:Hid (Below w.heap.size w W1):=ai af
 have ag:Hid (∀ u,Below W1.heap.size W1 u->u.cell? ⟨w.heap.size,0,none⟩=some (.string ⟨#[]⟩)/\u.cell? ⟨w.heap.size,1,none⟩=some (.string ⟨#[]⟩)/\u.cell? ⟨w.heap.size,2,none⟩=some (.int .i64 0)/\u.frozen? ⟨w.heap.size,0,none⟩=false/\u.frozen? ⟨w.heap.size,1,none⟩=false/\u.frozen? ⟨w.heap.size,2,none⟩=false):=fun u hb=>dL af hb
 have HR:=zh (Rg.aj hr ab.out)
 have HG:=zh hR
 have HN:=zh hn
 have HS:=zh hs
 clear hr hR hn hs
 go_enter Tryz.func240,Tryz.ntmps240
 go_wp2_with fail
 clear af
 go_loopw [10] (fun i wr=>∃ k:Nat,k<=n/\i=.int .i64 k/\Hid (Below W1.heap.size W1 wr)/\Hid (getF (l.drop k) key=R)) (fun i _=>n-(intOf i).toNat)
 case atStart=>exact⟨0,Nat.zero_le _,rfl,Below.refl _ _,HG.out⟩
 case round =>
  obtain⟨k,hk,rfl,HW,HH⟩:=hrel
  by_cases al:k<n
  ·have ac:k<l.length:=by rw[HN.out];exact al
   obtain⟨ad,rfl,_,c0,c1,c2⟩:=d8 (Rg.aj HR.out HW.out) k ac
   have hd:l.drop k=l[k] :: l.drop (k+1):=List.drop_eq_getElem_cons ac
   obtain⟨s1,s2⟩:=short_at HS.out k ac
   have hh:=HH.out
   rw[hd,abd] at hh
   obtain⟨f,hf⟩:=ex (l[k])
   rw[hf] at c0 c1 c2 hh s1 s2
   obtain⟨fk,fv,fl⟩:=f
   dsimp only at c0 c1 c2 hh s1 s2
   obtain⟨V,hV⟩:=ex (wr.alloc (.cells #[.string ⟨fk.toArray⟩,.string ⟨fv.toArray⟩,.int .i64 fl] 168))
   have ah:Hid (Below W1.heap.size W1 V):=HW.out.trans ((ai hV).mono HW.out.size)
   obtain⟨v0,v1,v2,_⟩:=dL hV (Below.refl _ _)
   have S1:=zh s1
   have S2:=zh s2
   clear hd hf s1 s2
   cases hq:fk==key
   ·have HE:Hid (getF (l.drop (k+1)) key=R):=by show _=_;rw[<-hh,if_neg (by rw[hq];decide)]
    clear hh
    go_wp2_with fail
    clear hV
    go_roundw
    case rel=>exact⟨k+1,by omega,by go_num,ah,HE⟩
    case measure=>simp[intOf];omega
   ·have HE:Hid (R=some ⟨fk,fv,fl⟩):=by show _=_;rw[<-hh,if_pos hq]
    clear hh
    go_wp2_with fail
    clear hV
    refine (oA fk fv fl _ S1.out S2.out).mono ?_
    rintro _ u3 ⟨rfl,ak⟩
    have aa:Hid (Below W1.heap.size W1 u3):=bt ah.out ak
    clear ak
    obtain⟨b0,b1,b2,f0,f1,f2⟩:=ag.out _ aa.out
    have ae:Hid (Below w.heap.size w (((u3.setCell ⟨w.heap.size,0,none⟩ (.string ⟨fk.toArray⟩)).setCell ⟨w.heap.size,1,none⟩ (.string ⟨fv.toArray⟩)).setCell ⟨w.heap.size,2,none⟩ (.int .i64 fl))):=(((bt ab.out aa.out).setCell (Nat.le_refl _) _).setCell (Nat.le_refl _) _).setCell (Nat.le_refl _) _
    have g0:(((u3.setCell ⟨w.heap.size,0,none⟩ (.string ⟨fk.toArray⟩)).setCell ⟨w.heap.size,1,none⟩ (.string ⟨fv.toArray⟩)).setCell ⟨w.heap.size,2,none⟩ (.int .i64 fl)).cell? ⟨w.heap.size,0,none⟩=some (.string ⟨fk.toArray⟩):=by simp[go_sem,b0]
    have g1:(((u3.setCell ⟨w.heap.size,0,none⟩ (.string ⟨fk.toArray⟩)).setCell ⟨w.heap.size,1,none⟩ (.string ⟨fv.toArray⟩)).setCell ⟨w.heap.size,2,none⟩ (.int .i64 fl)).cell? ⟨w.heap.size,1,none⟩=some (.string ⟨fv.toArray⟩):=by simp[go_sem,b1]
    have g2:(((u3.setCell ⟨w.heap.size,0,none⟩ (.string ⟨fk.toArray⟩)).setCell ⟨w.heap.size,1,none⟩ (.string ⟨fv.toArray⟩)).setCell ⟨w.heap.size,2,none⟩ (.int .i64 fl)).cell? ⟨w.heap.size,2,none⟩=some (.int .i64 fl):=by simp[go_sem,b2]
    go_wp2_with fail
    generalize (((u3.setCell ⟨w.heap.size,0,none⟩ (.string ⟨fk.toArray⟩)).setCell ⟨w.heap.size,1,none⟩ (.string ⟨fv.toArray⟩)).setCell ⟨w.heap.size,2,none⟩ (.int .i64 fl))=V at *
    refine bodyPost_ret (v:=.tuple #[.agg #[.string ⟨fk.toArray⟩,.string ⟨fv.toArray⟩,.int .i64 fl],.bool true]) ?_ rfl ?_
    ·simp[results,Tryz.results240,go_sem,g0,g1,g2]
    ·show GotRet w R _ _
     rw[HE.out];exact⟨rfl,ae.out⟩
  ·obtain rfl:k=n:=by omega
   have HE:Hid (R=none):=by show _=_;rw[<-HH.out,List.drop_eq_nil_of_le (by rw[HN.out];exact Nat.le_refl _)];rfl
   have aa:=HW
   obtain⟨b0,b1,b2,f0,f1,f2⟩:=ag.out _ aa.out
   have ae:Hid (Below w.heap.size w (((wr.setCell ⟨w.heap.size,0,none⟩ (.string ⟨#[]⟩)).setCell ⟨w.heap.size,1,none⟩ (.string ⟨#[]⟩)).setCell ⟨w.heap.size,2,none⟩ (.int .i64 0))):=(((bt ab.out aa.out).setCell (Nat.le_refl _) _).setCell (Nat.le_refl _) _).setCell (Nat.le_refl _) _
   have g0:(((wr.setCell ⟨w.heap.size,0,none⟩ (.string ⟨#[]⟩)).setCell ⟨w.heap.size,1,none⟩ (.string ⟨#[]⟩)).setCell ⟨w.heap.size,2,none⟩ (.int .i64 0)).cell? ⟨w.heap.size,0,none⟩=some (.string ⟨#[]⟩):=by simp[go_sem,b0]
   have g1:(((wr.setCell ⟨w.heap.size,0,none⟩ (.string ⟨#[]⟩)).setCell ⟨w.heap.size,1,none⟩ (.string ⟨#[]⟩)).setCell ⟨w.heap.size,2,none⟩ (.int .i64 0)).cell? ⟨w.heap.size,1,none⟩=some (.string ⟨#[]⟩):=by simp[go_sem,b1]
   have g2:(((wr.setCell ⟨w.heap.size,0,none⟩ (.string ⟨#[]⟩)).setCell ⟨w.heap.size,1,none⟩ (.string ⟨#[]⟩)).setCell ⟨w.heap.size,2,none⟩ (.int .i64 0)).cell? ⟨w.heap.size,2,none⟩=some (.int .i64 0):=by simp[go_sem,b2]
   go_wp2_with fail
   generalize (((wr.setCell ⟨w.heap.size,0,none⟩ (.string ⟨#[]⟩)).setCell ⟨w.heap.size,1,none⟩ (.string ⟨#[]⟩)).setCell ⟨w.heap.size,2,none⟩ (.int .i64 0))=V at *
   refine bodyPost_ret (v:=.tuple #[.agg #[.string ⟨#[]⟩,.string ⟨#[]⟩,.int .i64 0],.bool false]) ?_ rfl ?_
   ·simp[results,Tryz.results240,go_sem,g0,g1,g2]
   ·show GotRet w R _ _
    rw[HE.out];exact⟨rfl,ae.out⟩
end
end Go.Proofs.YtgnaiidgjmicaaaGreatDoor
