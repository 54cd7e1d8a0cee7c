/- Part 25 of what the laws lean on. -/
import Derived.Test.YtpfkphmldalmmaaGreatDoorL24
set_option maxRecDepth 100000
set_option maxHeartbeats 3200000
namespace Go.Proofs.YtpfkphmldalmmaaGreatDoor
section
open Go.RowKit Go.Maps Sz
attribute [local go_sem ↓] Go.wp_at_zero Go.wp_at_succ
def Sz.ReadRet (w:World) (R:Int × Int × List (List Fld)) (e:Ending) (w':World):Prop :=
 Below w.heap.size w w'/\if R.1=0 then ∃ A c ds,e=.returned (.slice A R.2.2.length c)/\Rg.Row encO 1 w' A ds/\Gr.In encF 3 w' ds R.2.2/\∀ x∈ds,x.2.1<=x.2.2 else e=panAt R.2.1 R.1
def Sz.KeysOk (w:World) (B:Nat) (v2:Value) (last:List Fld):Prop:=last=[]\/∃ m,v2=.map (some m)/\B<=m/\KSet w m (last.map Fld.key)
theorem Sz.b7 {w w':World}{k n:Int}{l:List (List Fld)}(hk:k≠0)(hb:Below w.heap.size w w'):ReadRet w (k,n,l) (panAt n k) w':=⟨hb,by show if k=0 then _ else _;rw[if_neg hk]⟩
theorem Sz.lX (l:List Fld)(k:List UInt8):hasK l k=(l.map Fld.key).contains k:=by
 induction l with
 | nil=>rfl
 | cons f l ih =>
  rw[List.map_cons,List.contains_cons,<-ih]
  show (f.key==k||_)=_
  rw[show (f.key==k)=(k==f.key) by rw[Bool.eq_iff_iff,beq_iff_eq,beq_iff_eq];exact eq_comm];rfl
theorem Sz.xe {k:List UInt8}(h:keyB k=true):k.length<=1000000:=by
 unfold keyB at h
 rw[Bool.and_eq_true,Bool.and_eq_true,decide_eq_true_eq] at h
 omega
theorem tR (s:List UInt8)(w:World)(hw:MaxOk w)(hs:s.length<=65536)(h0:s≠[])(h1:Lib.hasSuffix s [10]=true) :
  Calls Tryz.prog 54 #[.string ⟨s.toArray⟩] w (Sz.ReadRet w (readL 0 (linesL s) [] [])):=by
 obtain⟨R,hR⟩:=ex (readL 0 (linesL s) [] [])
 rw[hR]
 obtain⟨W1,a8⟩:=ex (w.alloc (.cells #[.slice none 0 0,.slice none 0 0,.map none] 157))
 have ay:Hid (Below w.heap.size w W1):=ai a8
 have a9:Hid (∀ B,DrO W1 B w.heap.size (.slice none 0 0) (.slice none 0 0) (.map none) [] [] []):=fun B=>by rw[<-a8];exact xb
 have ba:=zh (mA s W1 (ah hw ay.out) (by omega))
 have bq:Hid (MaxOk W1):=ah hw ay.out
 have HR:=zh hR
 have br:=zh hw
 have dl:decide ((s.length:Int)<=65536)=true:=decide_eq_true (by omega)
 have aq:=zh hs
 have bz:(s==[])=false:=beq_eq_false_iff_ne.2 h0
 have bB:decide (s.length=0)=false:=decide_eq_false (fun e=>h0 (List.length_eq_zero_iff.1 e))
 have bs:=zh h1
 clear h1 h0
 clear hw hR hs
 go_enter Tryz.func54,Tryz.ntmps54
 go_wp2_with fail
 refine (aj _).mono ?_
 rintro _ z ⟨rfl,rfl⟩
 go_wp2_with fail
 refine (Tryz.strings_HasSuffix ⟨s.toArray⟩ ⟨#[10]⟩ _ (by show s.length<=_;have:=aq.out;omega)).mono ?_
 rintro _ z ⟨rfl,hz⟩
 obtain rfl:=hz.symm
 clear hz
 rw[show Lib.hasSuffix (⟨s.toArray⟩:ByteArray).data.toList (⟨#[10]⟩:ByteArray).data.toList=true from bs.out]
 go_wp2_with fail
 refine (aj _).mono ?_
 rintro _ z ⟨rfl,rfl⟩
 go_wp2_with fail
 clear a8
 refine ba.out.mono ?_
 rintro _ u ⟨A,n,c,rfl,hn,bj,aI,hb⟩
 obtain⟨D,hD⟩:=ex w.heap.size
 have HD:=zh hD
 have bb:Hid (DrO u u.heap.size D (.slice none 0 0) (.slice none 0 0) (.map none) [] [] []):=by show DrO _ _ _ _ _ _ _ _ _;rw[<-hD];exact a6 (a9.out _) hb
 have HN:=zh hn
 have az:=zh bj
 have aV:=zh aI
 have ar:Hid (Below D w u/\w.heap.size<=u.heap.size):=⟨by rw[<-hD];exact bt ay.out hb,Nat.le_trans ay.out.size hb.size⟩
 have bC:Hid (MaxOk u):=ah bq.out hb
 rw[hD]
 clear hn aI hb dl bj hD ba a9 ay
 go_wp2_with fail
 go_loopw [22] (fun i wr=>∃ (k:Nat) (acc:List (List Fld)) (last:List Fld) (ds:List Desc) (v0 v1 v2:Value),i=.int .i64 k/\k<=n/\Hid (DrO wr u.heap.size D v0 v1 v2 ds acc last)/\Hid (KeysOk wr u.heap.size v2 last)/\Hid (readL k ((linesL s).drop k) acc last=R)/\Hid (Keeps u.heap.size D u wr/\u.heap.size<=wr.heap.size)/\Hid (ds.length+last.length<=k)) (fun i _=>n-(intOf i).toNat)
 case atStart=>exact⟨0,[],[],[],_,_,_,rfl,Nat.zero_le _,bb,Or.inl rfl,HR,⟨bA (Below.refl _ _),Nat.le_refl _⟩,Nat.zero_le _⟩
 case round =>
  obtain⟨k,acc,last,ds,v0,v1,v2,rfl,hk,aw,bw,bk,ac,aJ⟩:=hrel
  by_cases bu:k<n
  ·have aW:k<(linesL s).length:=by rw[HN.out];exact bu
   obtain⟨ad,hA,aL,ae⟩:=Sz.eF aV.out k aW
   subst hA
   have bc:ad.block≠D:=by
    have:=kf bb.out (fun x h=>by cases h) (fun x h=>by cases h) (fun x h=>by cases h) ae
    rwa [Rs.add_block] at this
   have cw:=(oM ac.out.1 (a:=ad.add k) (by rw[Rs.add_block];exact aL) (by rw[Rs.add_block];exact bc)).trans ae
   have bd:Hid ((linesL s)[k].length<=65536):=Nat.le_trans (xa (List.getElem_mem aW)) aq.out
   have ag:=bk.out
   rw[List.drop_eq_getElem_cons aW] at ag
   have aX:((linesL s).drop (k+1)).length=n-(k+1):=by rw[List.length_drop,HN.out]
   obtain⟨rest,af⟩:=ex ((linesL s).drop (k+1))
   obtain⟨ln,bl⟩:=ex ((linesL s)[k])
   rw[bl] at cw ag bd
   rw[af] at ag aX
   have be:=zh af
   have aA:=zh aX
   have ik:(k:Int)<(n:Int):=by omega
   have bD:IntKind.i64.wrap ((k:Int)+1)=(k:Int)+1:=IntWalk.i64_in _ (by have:=az.out;have:=aq.out;omega)
   have bE:IntKind.i64.wrap ((n:Int)-1)=(n:Int)-1:=IntWalk.i64_in _ (by have:=az.out;have:=aq.out;omega)
   obtain⟨A1,c1,bm,_,_,_⟩:=Rg.aE fitsF aw.out.2.2.2.2.2.1
   obtain⟨q,hq⟩:=ex last.length
   rw[hq] at bm
   subst bm
   obtain⟨e0,e1,e2,_,_,_⟩:=aY aw.out
   have HQ:=zh hq
   have aM:Hid (Below D w wr):=ar.out.1.trans (en ac.out.1 (Nat.le_trans (by rw[HD.out];exact Nat.le_refl _) ar.out.2))
   clear ae aL bc af bl aX hq
   by_cases hle:ln=[]
   ·subst hle
    have aa:(if (last.isEmpty||rest.isEmpty) then (2,(k:Int),[]) else readL (k+1) rest (acc++[last]) [])=R:=ag
    by_cases aN:0<q/\k+1<n
    ·have i1:(0:Int)<(q:Int):=by omega
     have i2:(k:Int)<(n:Int)-1:=by omega
     have aZ:Hid (readL (k+1) rest (acc++[last]) []=R):=by
      show _=_
      rw[if_neg] at aa
      ·exact aa
      ·cases last with
       | nil=>have:=HQ.out;simp at this;omega
       | cons x l=>cases rest with
        | nil=>have:=aA.out;simp at this;omega
        | cons y r=>simp
     have bf:=zh aN
     clear aN ag aa
     go_wp2_with fail
     refine (aS _).mono ?_
     rintro _ z ⟨rfl,rfl⟩
     go_wp2_with fail
     refine (eJ aw.out (by have:=aJ.out;have:=az.out;have:=aq.out;omega) ac.out.2).mono ?_
     rintro _ z ⟨rfl,ak,an,u0,u1,ax,ab⟩
     have aB:last≠[]:=fun e=>by have:=HQ.out;rw[e] at this;simp at this;have:=bf.out;omega
     rw[if_neg aB] at ab
     have a0:=zh ab
     have aO:Hid (Keeps u.heap.size D u z/\u.heap.size<=z.heap.size):=⟨aP ac.out.1 ak,Nat.le_trans ac.out.2 an⟩
     have a1:Hid (ax.length+([]:List Fld).length<=k+1):=by
      have h1:=ab.2.2.2.1.1
      have h2:=aw.out.2.2.2.1.1
      rw[List.length_append] at h1
      have h3:=aJ.out
      have h4:=HQ.out
      have h5:=bf.out
      show ax.length+0<=k+1
      simp at h1
      omega
     clear ak an ab aB
     go_wp2_with fail
     go_roundw
     case rel=>exact⟨k+1,acc++[last],[],ax,_,_,_,by go_num,by omega,a0,Or.inl rfl,by show readL _ _ _ _=R;rw[be.out];exact aZ.out,aO,a1⟩
     case measure=>simp[intOf];omega
    ·have al:Hid (R=(2,(k:Int),[])):=by
      show _=_
      rw[<-aa,if_pos]
      cases last with
      | nil=>rfl
      | cons x l=>cases rest with
       | nil=>simp
       | cons y r =>
        have h1:=HQ.out
        have h2:=aA.out
        simp at h1 h2
        omega
     clear ag aa
     by_cases bg:0<q
     ·have i1:(0:Int)<(q:Int):=by omega
      have i2:¬ (k:Int)<(n:Int)-1:=by omega
      clear aN bg
      go_wp2_with fail
      refine (aK _).mono ?_
      rintro _ z ⟨rfl,rfl⟩
      go_wp2_with fail
      exact⟨rfl,by show ReadRet w R _ _;rw[al.out];exact b7 (by decide) (by rw[HD.out];exact aM.out)⟩
     ·have i1:¬ (0:Int)<(q:Int):=by omega
      clear aN bg
      go_wp2_with fail
      refine (aK _).mono ?_
      rintro _ z ⟨rfl,rfl⟩
      go_wp2_with fail
      exact⟨rfl,by show ReadRet w R _ _;rw[al.out];exact b7 (by decide) (by rw[HD.out];exact aM.out)⟩
   ·have aa:(match Sz.fieldP ln (k:Int) with | none=>((2:Int),(k:Int),([]:List (List Fld))) | some f=>if hasK last f.key then (6,(k:Int),[]) else readL (k+1) rest acc (last++[f]))=R:=by
     cases ln with
     | nil=>exact absurd rfl hle
     | cons x t=>exact ag
    have bF:(ln==[])=false:=beq_eq_false_iff_ne.2 hle
    have aQ:=mz ln (k:Int) wr (ah br.out (by rw[HD.out];exact aM.out)) (Nat.le_trans bd.out (by decide))
    have aR:=@Sz.jI ln (k:Int)
    obtain⟨F,hF⟩:=ex (Sz.fieldP ln (k:Int))
    rw[hF] at aa aQ aR
    have a2:=zh aQ
    cases F with
    | none =>
     have al:Hid (R=(2,(k:Int),[])):=aa.symm
     clear ag aa aQ aR hF hle
     go_wp2_with fail
     refine a2.out.mono ?_
     rintro e z ⟨hb,he⟩
     have aC:Hid (Below D w z):=aM.out.trans (hb.mono (Nat.le_trans (by rw[<-HD.out];exact ar.out.2) ac.out.2))
     have a3:e=panAt k 2:=he
     subst a3
     clear hb he
     go_wp2_with fail
     exact⟨rfl,by show ReadRet w R _ _;rw[al.out];exact b7 (by decide) (by rw[HD.out];exact aC.out)⟩
    | some f =>
     obtain⟨_,ao,bn,_⟩:=aR rfl
     have am:=zh ao
     have bh:=zh (xe bn)
     have bi:Hid ((if hasK last f.key then ((6:Int),(k:Int),([]:List (List Fld))) else readL (k+1) rest acc (last++[f]))=R):=aa
     clear ag aa aQ aR hF hle ao bn
     go_wp2_with fail
     refine a2.out.mono ?_
     rintro e z ⟨hb,he⟩
     have a3:e=.returned (.agg #[.string ⟨f.key.toArray⟩,.string ⟨f.val.toArray⟩,.int .i64 (k:Int)]):=he
     subst a3
     have aT:Hid (Keeps u.heap.size D u z/\u.heap.size<=z.heap.size):=⟨aP ac.out.1 (bA (hb.mono ac.out.2)),Nat.le_trans ac.out.2 hb.size⟩
     have a4:=a6 aw.out hb
     have au:Calls Tryz.prog 97 #[.pointer (some ⟨D,0,none⟩),.agg #[.string ⟨f.key.toArray⟩,.string ⟨f.val.toArray⟩,.int .i64 f.line]] z (Sz.AddRet z u.heap.size D v0 ds acc last f):=by
      have aD:last.length+1<=1000000:=by have:=aJ.out;have:=az.out;have:=aq.out;omega
      by_cases hl:last=[]
      ·exact iW f a4 aD bh.out aT.out.2 hl
      ·rcases bw.out with h | ⟨m,h1,h2,h3⟩
       ·exact absurd h hl
       ·refine ke f a4 aD bh.out aT.out.2 hl ⟨m,h1,h2,?_⟩
        obtain⟨_,_,⟨_,_,hh,_⟩,_⟩:=id h3
        exact bV h3 hb (Array.getElem?_eq_some_iff.1 hh).1
     rw[am.out] at au
     have a5:=zh au
     clear hb he a4 au a2
     go_wp2_with fail
     refine a5.out.mono ?_
     rintro e z2 ⟨ak,an,aU⟩
     have aO:Hid (Keeps u.heap.size D u z2/\u.heap.size<=z2.heap.size):=⟨aP aT.out.1 ak,Nat.le_trans aT.out.2 an⟩
     by_cases av:(last.map Fld.key).contains f.key=true
     ·rw[if_pos av,am.out] at aU
      have al:Hid (R=(6,(k:Int),[])):=by show _=_;rw[<-bi.out,lX,if_pos av]
      have aC:Hid (Below D w z2):=ar.out.1.trans (en aO.out.1 (Nat.le_trans (by rw[HD.out];exact Nat.le_refl _) ar.out.2))
      subst aU
      clear av ak an
      go_wp2_with fail
      exact⟨rfl,by show ReadRet w R _ _;rw[al.out];exact b7 (by decide) (by rw[HD.out];exact aC.out)⟩
     ·rw[if_neg av] at aU
      obtain⟨rfl,u1,m,bo,ab,bp⟩:=aU
      have aZ:Hid (readL (k+1) rest acc (last++[f])=R):=by show _=_;rw[<-bi.out,lX,if_neg av]
      have a0:=zh ab
      have a7:Hid (KeysOk z2 u.heap.size (.map (some m)) (last++[f])):=Or.inr ⟨m,rfl,bo,bp⟩
      have a1:Hid (ds.length+(last++[f]).length<=k+1):=by have:=aJ.out;show _<=_;rw[List.length_append];show _+(_+1)<=_;omega
      clear av ak an bo ab bp
      go_wp2_with fail
      go_roundw
      case rel=>exact⟨k+1,acc,last++[f],ds,_,_,_,by go_num,by omega,a0,a7,by show readL _ _ _ _=R;rw[be.out];exact aZ.out,aO,a1⟩
      case measure=>simp[intOf];omega
  ·obtain rfl:k=n:=by omega
   have al:Hid (R=(0,0,if last=[] then acc else acc++[last])):=by
    show _=_
    rw[<-bk.out,List.drop_eq_nil_of_le (by rw[HN.out];exact Nat.le_refl _)]
    cases last <;> rfl
   have ik:¬ (k:Int)<(k:Int):=by omega
   go_wp2_with fail
   refine (eJ aw.out (by have:=aJ.out;have:=az.out;have:=aq.out;omega) ac.out.2).mono ?_
   rintro _ z ⟨rfl,ak,an,u0,u1,ax,ab⟩
   have aC:Hid (Below D w z):=ar.out.1.trans (en (aP ac.out.1 ak) (Nat.le_trans (by rw[HD.out];exact Nat.le_refl _) ar.out.2))
   obtain⟨A2,c2,bx,ap,_,_⟩:=Rg.aE fitsO ab.2.2.1
   have aF:=ab.2.2.2.1
   have bv:Hid (∀ x∈ax,x.2.1<=x.2.2):=ab.1
   subst bx
   obtain⟨e0,_,_,_,_,_⟩:=aY ab
   have aG:=zh ap
   have aH:=zh aF
   clear ak an ab ap aF
   go_wp2_with fail
   go_ret
   show ReadRet w R _ _
   rw[al.out]
   refine⟨by rw[HD.out];exact aC.out,?_⟩
   show if (0:Int)=0 then _ else _
   rw[if_pos rfl]
   exact⟨A2,c2,ax,congrArg (fun x=>Ending.returned (Value.slice A2 x c2)) aH.out.1,aG.out,aH.out,bv.out⟩
theorem tS (s:List UInt8)(w:World)(hw:MaxOk w)(hs:s.length<=65536)(h0:s=[]) :
  Calls Tryz.prog 54 #[.string ⟨s.toArray⟩] w (Sz.ReadRet w (readL 0 (linesL s) [] [])):=by
 obtain⟨R,hR⟩:=ex (readL 0 (linesL s) [] [])
 rw[hR]
 obtain⟨W1,a8⟩:=ex (w.alloc (.cells #[.slice none 0 0,.slice none 0 0,.map none] 157))
 have ay:Hid (Below w.heap.size w W1):=ai a8
 have a9:Hid (∀ B,DrO W1 B w.heap.size (.slice none 0 0) (.slice none 0 0) (.map none) [] [] []):=fun B=>by rw[<-a8];exact xb
 have ba:=zh (mA s W1 (ah hw ay.out) (by omega))
 have bq:Hid (MaxOk W1):=ah hw ay.out
 have HR:=zh hR
 have br:=zh hw
 have dl:decide ((s.length:Int)<=65536)=true:=decide_eq_true (by omega)
 have au:=zh hs
 have bx:(s==[])=true:=by rw[h0];rfl
 clear h0
 clear hw hR hs
 go_enter Tryz.func54,Tryz.ntmps54
 go_wp2_with fail
 refine (aj _).mono ?_
 rintro _ z ⟨rfl,rfl⟩
 go_wp2_with fail
 refine (aj _).mono ?_
 rintro _ z ⟨rfl,rfl⟩
 go_wp2_with fail
 clear a8
 refine ba.out.mono ?_
 rintro _ u ⟨A,n,c,rfl,hn,bj,aI,hb⟩
 obtain⟨D,hD⟩:=ex w.heap.size
 have HD:=zh hD
 have bb:Hid (DrO u u.heap.size D (.slice none 0 0) (.slice none 0 0) (.map none) [] [] []):=by show DrO _ _ _ _ _ _ _ _ _;rw[<-hD];exact a6 (a9.out _) hb
 have HN:=zh hn
 have az:=zh bj
 have aV:=zh aI
 have aq:Hid (Below D w u/\w.heap.size<=u.heap.size):=⟨by rw[<-hD];exact bt ay.out hb,Nat.le_trans ay.out.size hb.size⟩
 have bz:Hid (MaxOk u):=ah bq.out hb
 rw[hD]
 clear hn aI hb dl bj hD ba a9 ay
 go_wp2_with fail
 go_loopw [22] (fun i wr=>∃ (k:Nat) (acc:List (List Fld)) (last:List Fld) (ds:List Desc) (v0 v1 v2:Value),i=.int .i64 k/\k<=n/\Hid (DrO wr u.heap.size D v0 v1 v2 ds acc last)/\Hid (KeysOk wr u.heap.size v2 last)/\Hid (readL k ((linesL s).drop k) acc last=R)/\Hid (Keeps u.heap.size D u wr/\u.heap.size<=wr.heap.size)/\Hid (ds.length+last.length<=k)) (fun i _=>n-(intOf i).toNat)
 case atStart=>exact⟨0,[],[],[],_,_,_,rfl,Nat.zero_le _,bb,Or.inl rfl,HR,⟨bA (Below.refl _ _),Nat.le_refl _⟩,Nat.zero_le _⟩
 case round =>
  obtain⟨k,acc,last,ds,v0,v1,v2,rfl,hk,aw,bv,bk,ac,aJ⟩:=hrel
  by_cases bs:k<n
  ·have aW:k<(linesL s).length:=by rw[HN.out];exact bs
   obtain⟨ad,hA,aL,ae⟩:=Sz.eF aV.out k aW
   subst hA
   have bc:ad.block≠D:=by
    have:=kf bb.out (fun x h=>by cases h) (fun x h=>by cases h) (fun x h=>by cases h) ae
    rwa [Rs.add_block] at this
   have cw:=(oM ac.out.1 (a:=ad.add k) (by rw[Rs.add_block];exact aL) (by rw[Rs.add_block];exact bc)).trans ae
   have bd:Hid ((linesL s)[k].length<=65536):=Nat.le_trans (xa (List.getElem_mem aW)) au.out
   have ag:=bk.out
   rw[List.drop_eq_getElem_cons aW] at ag
   have aX:((linesL s).drop (k+1)).length=n-(k+1):=by rw[List.length_drop,HN.out]
   obtain⟨rest,af⟩:=ex ((linesL s).drop (k+1))
   obtain⟨ln,bl⟩:=ex ((linesL s)[k])
   rw[bl] at cw ag bd
   rw[af] at ag aX
   have be:=zh af
   have aA:=zh aX
   have ik:(k:Int)<(n:Int):=by omega
   have bB:IntKind.i64.wrap ((k:Int)+1)=(k:Int)+1:=IntWalk.i64_in _ (by have:=az.out;have:=au.out;omega)
   have bC:IntKind.i64.wrap ((n:Int)-1)=(n:Int)-1:=IntWalk.i64_in _ (by have:=az.out;have:=au.out;omega)
   obtain⟨A1,c1,bm,_,_,_⟩:=Rg.aE fitsF aw.out.2.2.2.2.2.1
   obtain⟨q,hq⟩:=ex last.length
   rw[hq] at bm
   subst bm
   obtain⟨e0,e1,e2,_,_,_⟩:=aY aw.out
   have HQ:=zh hq
   have aM:Hid (Below D w wr):=aq.out.1.trans (en ac.out.1 (Nat.le_trans (by rw[HD.out];exact Nat.le_refl _) aq.out.2))
   clear ae aL bc af bl aX hq
   by_cases hle:ln=[]
   ·subst hle
    have aa:(if (last.isEmpty||rest.isEmpty) then (2,(k:Int),[]) else readL (k+1) rest (acc++[last]) [])=R:=ag
    by_cases aN:0<q/\k+1<n
    ·have i1:(0:Int)<(q:Int):=by omega
     have i2:(k:Int)<(n:Int)-1:=by omega
     have aZ:Hid (readL (k+1) rest (acc++[last]) []=R):=by
      show _=_
      rw[if_neg] at aa
      ·exact aa
      ·cases last with
       | nil=>have:=HQ.out;simp at this;omega
       | cons x l=>cases rest with
        | nil=>have:=aA.out;simp at this;omega
        | cons y r=>simp
     have bf:=zh aN
     clear aN ag aa
     go_wp2_with fail
     refine (aS _).mono ?_
     rintro _ z ⟨rfl,rfl⟩
     go_wp2_with fail
     refine (eJ aw.out (by have:=aJ.out;have:=az.out;have:=au.out;omega) ac.out.2).mono ?_
     rintro _ z ⟨rfl,ak,an,u0,u1,ax,ab⟩
     have aB:last≠[]:=fun e=>by have:=HQ.out;rw[e] at this;simp at this;have:=bf.out;omega
     rw[if_neg aB] at ab
     have a0:=zh ab
     have aO:Hid (Keeps u.heap.size D u z/\u.heap.size<=z.heap.size):=⟨aP ac.out.1 ak,Nat.le_trans ac.out.2 an⟩
     have a1:Hid (ax.length+([]:List Fld).length<=k+1):=by
      have h1:=ab.2.2.2.1.1
      have h2:=aw.out.2.2.2.1.1
      rw[List.length_append] at h1
      have h3:=aJ.out
      have h4:=HQ.out
      have h5:=bf.out
      show ax.length+0<=k+1
      simp at h1
      omega
     clear ak an ab aB
     go_wp2_with fail
     go_roundw
     case rel=>exact⟨k+1,acc++[last],[],ax,_,_,_,by go_num,by omega,a0,Or.inl rfl,by show readL _ _ _ _=R;rw[be.out];exact aZ.out,aO,a1⟩
     case measure=>simp[intOf];omega
    ·have al:Hid (R=(2,(k:Int),[])):=by
      show _=_
      rw[<-aa,if_pos]
      cases last with
      | nil=>rfl
      | cons x l=>cases rest with
       | nil=>simp
       | cons y r =>
        have h1:=HQ.out
        have h2:=aA.out
        simp at h1 h2
        omega
     clear ag aa
     by_cases bg:0<q
     ·have i1:(0:Int)<(q:Int):=by omega
      have i2:¬ (k:Int)<(n:Int)-1:=by omega
      clear aN bg
      go_wp2_with fail
      refine (aK _).mono ?_
      rintro _ z ⟨rfl,rfl⟩
      go_wp2_with fail
      exact⟨rfl,by show ReadRet w R _ _;rw[al.out];exact b7 (by decide) (by rw[HD.out];exact aM.out)⟩
     ·have i1:¬ (0:Int)<(q:Int):=by omega
      clear aN bg
      go_wp2_with fail
      refine (aK _).mono ?_
      rintro _ z ⟨rfl,rfl⟩
      go_wp2_with fail
      exact⟨rfl,by show ReadRet w R _ _;rw[al.out];exact b7 (by decide) (by rw[HD.out];exact aM.out)⟩
   ·have aa:(match Sz.fieldP ln (k:Int) with | none=>((2:Int),(k:Int),([]:List (List Fld))) | some f=>if hasK last f.key then (6,(k:Int),[]) else readL (k+1) rest acc (last++[f]))=R:=by
     cases ln with
     | nil=>exact absurd rfl hle
     | cons x t=>exact ag
    have bD:(ln==[])=false:=beq_eq_false_iff_ne.2 hle
    have aQ:=mz ln (k:Int) wr (ah br.out (by rw[HD.out];exact aM.out)) (Nat.le_trans bd.out (by decide))
    have aR:=@Sz.jI ln (k:Int)
    obtain⟨F,hF⟩:=ex (Sz.fieldP ln (k:Int))
    rw[hF] at aa aQ aR
    have a2:=zh aQ
    cases F with
    | none =>
     have al:Hid (R=(2,(k:Int),[])):=aa.symm
     clear ag aa aQ aR hF hle
     go_wp2_with fail
     refine a2.out.mono ?_
     rintro e z ⟨hb,he⟩
     have aC:Hid (Below D w z):=aM.out.trans (hb.mono (Nat.le_trans (by rw[<-HD.out];exact aq.out.2) ac.out.2))
     have a3:e=panAt k 2:=he
     subst a3
     clear hb he
     go_wp2_with fail
     exact⟨rfl,by show ReadRet w R _ _;rw[al.out];exact b7 (by decide) (by rw[HD.out];exact aC.out)⟩
    | some f =>
     obtain⟨_,ao,bn,_⟩:=aR rfl
     have am:=zh ao
     have bh:=zh (xe bn)
     have bi:Hid ((if hasK last f.key then ((6:Int),(k:Int),([]:List (List Fld))) else readL (k+1) rest acc (last++[f]))=R):=aa
     clear ag aa aQ aR hF hle ao bn
     go_wp2_with fail
     refine a2.out.mono ?_
     rintro e z ⟨hb,he⟩
     have a3:e=.returned (.agg #[.string ⟨f.key.toArray⟩,.string ⟨f.val.toArray⟩,.int .i64 (k:Int)]):=he
     subst a3
     have aT:Hid (Keeps u.heap.size D u z/\u.heap.size<=z.heap.size):=⟨aP ac.out.1 (bA (hb.mono ac.out.2)),Nat.le_trans ac.out.2 hb.size⟩
     have a4:=a6 aw.out hb
     have ar:Calls Tryz.prog 97 #[.pointer (some ⟨D,0,none⟩),.agg #[.string ⟨f.key.toArray⟩,.string ⟨f.val.toArray⟩,.int .i64 f.line]] z (Sz.AddRet z u.heap.size D v0 ds acc last f):=by
      have aD:last.length+1<=1000000:=by have:=aJ.out;have:=az.out;have:=au.out;omega
      by_cases hl:last=[]
      ·exact iW f a4 aD bh.out aT.out.2 hl
      ·rcases bv.out with h | ⟨m,h1,h2,h3⟩
       ·exact absurd h hl
       ·refine ke f a4 aD bh.out aT.out.2 hl ⟨m,h1,h2,?_⟩
        obtain⟨_,_,⟨_,_,hh,_⟩,_⟩:=id h3
        exact bV h3 hb (Array.getElem?_eq_some_iff.1 hh).1
     rw[am.out] at ar
     have a5:=zh ar
     clear hb he a4 ar a2
     go_wp2_with fail
     refine a5.out.mono ?_
     rintro e z2 ⟨ak,an,aU⟩
     have aO:Hid (Keeps u.heap.size D u z2/\u.heap.size<=z2.heap.size):=⟨aP aT.out.1 ak,Nat.le_trans aT.out.2 an⟩
     by_cases av:(last.map Fld.key).contains f.key=true
     ·rw[if_pos av,am.out] at aU
      have al:Hid (R=(6,(k:Int),[])):=by show _=_;rw[<-bi.out,lX,if_pos av]
      have aC:Hid (Below D w z2):=aq.out.1.trans (en aO.out.1 (Nat.le_trans (by rw[HD.out];exact Nat.le_refl _) aq.out.2))
      subst aU
      clear av ak an
      go_wp2_with fail
      exact⟨rfl,by show ReadRet w R _ _;rw[al.out];exact b7 (by decide) (by rw[HD.out];exact aC.out)⟩
     ·rw[if_neg av] at aU
      obtain⟨rfl,u1,m,bo,ab,bp⟩:=aU
      have aZ:Hid (readL (k+1) rest acc (last++[f])=R):=by show _=_;rw[<-bi.out,lX,if_neg av]
      have a0:=zh ab
      have a7:Hid (KeysOk z2 u.heap.size (.map (some m)) (last++[f])):=Or.inr ⟨m,rfl,bo,bp⟩
      have a1:Hid (ds.length+(last++[f]).length<=k+1):=by have:=aJ.out;show _<=_;rw[List.length_append];show _+(_+1)<=_;omega
      clear av ak an bo ab bp
      go_wp2_with fail
      go_roundw
      case rel=>exact⟨k+1,acc,last++[f],ds,_,_,_,by go_num,by omega,a0,a7,by show readL _ _ _ _=R;rw[be.out];exact aZ.out,aO,a1⟩
      case measure=>simp[intOf];omega
  ·obtain rfl:k=n:=by omega
   have al:Hid (R=(0,0,if last=[] then acc else acc++[last])):=by
    show _=_
    rw[<-bk.out,List.drop_eq_nil_of_le (by rw[HN.out];exact Nat.le_refl _)]
    cases last <;> rfl
   have ik:¬ (k:Int)<(k:Int):=by omega
   go_wp2_with fail
   refine (eJ aw.out (by have:=aJ.out;have:=az.out;have:=au.out;omega) ac.out.2).mono ?_
   rintro _ z ⟨rfl,ak,an,u0,u1,ax,ab⟩
   have aC:Hid (Below D w z):=aq.out.1.trans (en (aP ac.out.1 ak) (Nat.le_trans (by rw[HD.out];exact Nat.le_refl _) aq.out.2))
   obtain⟨A2,c2,bw,ap,_,_⟩:=Rg.aE fitsO ab.2.2.1
   have aF:=ab.2.2.2.1
   have bu:Hid (∀ x∈ax,x.2.1<=x.2.2):=ab.1
   subst bw
   obtain⟨e0,_,_,_,_,_⟩:=aY ab
   have aG:=zh ap
   have aH:=zh aF
   clear ak an ab ap aF
   go_wp2_with fail
   go_ret
   show ReadRet w R _ _
   rw[al.out]
   refine⟨by rw[HD.out];exact aC.out,?_⟩
   show if (0:Int)=0 then _ else _
   rw[if_pos rfl]
   exact⟨A2,c2,ax,congrArg (fun x=>Ending.returned (Value.slice A2 x c2)) aH.out.1,aG.out,aH.out,bu.out⟩
theorem tT (s:List UInt8)(w:World)(hs:65536<s.length) :
  Calls Tryz.prog 54 #[.string ⟨s.toArray⟩] w fun e w'=>e=pan 4/\w=w':=by
 have dl:decide ((s.length:Int)<=65536)=false:=decide_eq_false (by omega)
 clear hs
 go_enter Tryz.func54,Tryz.ntmps54
 go_wp2_with fail
 refine (ao _).mono ?_
 rintro _ z ⟨rfl,rfl⟩
 go_wp2_with fail
 exact⟨rfl,rfl,rfl⟩
theorem tU (s:List UInt8)(w:World)(hs:s.length<=65536)(h0:s≠[])(h1:Lib.hasSuffix s [10]=false) :
  Calls Tryz.prog 54 #[.string ⟨s.toArray⟩] w fun e w'=>e=pan 2/\w=w':=by
 have dl:decide ((s.length:Int)<=65536)=true:=decide_eq_true (by omega)
 have ac:(s==[])=false:=beq_eq_false_iff_ne.2 h0
 have aa:=zh h1
 have ab:=zh hs
 clear h1 h0 hs
 go_enter Tryz.func54,Tryz.ntmps54
 go_wp2_with fail
 refine (aj _).mono ?_
 rintro _ z ⟨rfl,rfl⟩
 go_wp2_with fail
 refine (Tryz.strings_HasSuffix ⟨s.toArray⟩ ⟨#[10]⟩ _ (by show s.length<=_;have:=ab.out;omega)).mono ?_
 rintro _ z ⟨rfl,hz⟩
 obtain rfl:=hz.symm
 clear hz
 rw[show Lib.hasSuffix (⟨s.toArray⟩:ByteArray).data.toList (⟨#[10]⟩:ByteArray).data.toList=false from aa.out]
 go_wp2_with fail
 refine (ao _).mono ?_
 rintro _ z ⟨rfl,rfl⟩
 go_wp2_with fail
 exact⟨rfl,rfl,rfl⟩
theorem vH (s:List UInt8)(w:World)(hw:MaxOk w) :
  Calls Tryz.prog 54 #[.string ⟨s.toArray⟩] w fun e w'=>if 65536<s.length then e=pan 4/\w=w' else if endB s=true then ReadRet w (readL 0 (linesL s) [] []) e w' else e=pan 2/\w=w':=by
 by_cases hl:65536<s.length
 ·exact (tT s w hl).mono fun _ _ h=>by rw[if_pos hl];exact h
 ·have hs:s.length<=65536:=by omega
  by_cases h0:s=[]
  ·exact (tS s w hw hs h0).mono fun _ _ h=>by rw[if_neg hl,if_pos (by rw[h0];rfl)];exact h
  ·have aa:endB s=Lib.hasSuffix s [10]:=by
    unfold endB
    rw[yo,List.isEmpty_eq_false_iff.2 h0,Bool.false_or]
   cases h1:Lib.hasSuffix s [10]
   ·exact (tU s w hs h0 h1).mono fun _ _ h=>by rw[if_neg hl,if_neg (by rw[aa,h1];decide)];exact h
   ·exact (tR s w hw hs h0 h1).mono fun _ _ h=>by rw[if_neg hl,if_pos (by rw[aa,h1])];exact h
end
section
open Go.RowKit
theorem lj (p q:Addr)(x y n:Int)(w:World)(hc:w.cell? p=some (.int .i64 x))(hz:w.frozen? p=false)(hc2:(w.setCell p (.int .i64 0)).cell? q=some (.int .i64 y))(hz2:(w.setCell p (.int .i64 0)).frozen? q=false) :
  CallsD Tryz.prog 53 #[.pointer (some p),.pointer (some q)] (.panicking [{ v:=.iface 36 (.int .i64 n),recovered:=false }]) w fun e u' w' =>
   e=.returned (.tuple #[])/\u'=.panicking [{ v:=.iface 36 (.int .i64 n),recovered:=true }]/\w'=(w.setCell p (.int .i64 0)).setCell q (.int .i64 n):=by
 refine callsD_of_wpS Tryz.func53 rfl fun c₀ cs hu=>?_
 apply wpS_region
 simp[wpOpsS,go_sem,recoverD,hu,Tryz.ntmps53]
 refine (kp n _).mono ?_
 rintro e w' ⟨rfl,rfl⟩
 simp[go_sem,hc,hz,hc2,hz2,bodyPostS,results,Tryz.results53]
theorem rA (p q:Addr)(x y k n:Int)(w:World)(hc:∀ u,Below w.heap.size w u->u.cell? p=some (.int .i64 x))(hz:∀ u,Below w.heap.size w u->u.frozen? p=false)(hc2:∀ u,Below w.heap.size w u->(u.setCell p (.int .i64 k)).cell? q=some (.int .i64 y))(hz2:∀ u,Below w.heap.size w u->(u.setCell p (.int .i64 k)).frozen? q=false) :
  CallsD Tryz.prog 53 #[.pointer (some p),.pointer (some q)] (.panicking [{ v:=.iface 142 (.agg #[.int .i64 k,.int .i64 n]),recovered:=false }]) w fun e u' w' =>
   e=.returned (.tuple #[])/\u'=.panicking [{ v:=.iface 142 (.agg #[.int .i64 k,.int .i64 n]),recovered:=true }]/\∃ u,Below w.heap.size w u/\w'=(u.setCell p (.int .i64 k)).setCell q (.int .i64 n):=by
 refine callsD_of_wpS Tryz.func53 rfl fun c₀ cs hu=>?_
 apply wpS_region
 simp[wpOpsS,go_sem,recoverD,hu,Tryz.ntmps53]
 refine (eI k n _).mono ?_
 rintro e w' ⟨rfl,hb⟩
 simp[go_sem,hc _ hb,hz _ hb,hc2 _ hb,hz2 _ hb,bodyPostS,results,Tryz.results53]
 exact⟨w',hb,rfl⟩
theorem vI (p q:Addr)(x y:Int)(w:World)(hc:w.cell? p=some (.int .i64 x))(hz:w.frozen? p=false)(hc2:(w.setCell p (.int .i64 0)).cell? q=some (.int .i64 y))(hz2:(w.setCell p (.int .i64 0)).frozen? q=false) :
  CallsD Tryz.prog 53 #[.pointer (some p),.pointer (some q)] .returning w fun e u' w'=>e=.returned (.tuple #[])/\u'=.returning/\w'=(w.setCell p (.int .i64 0)).setCell q (.int .i64 0):=by
 refine callsD_of_wpS Tryz.func53 rfl fun c₀ cs hu=>?_
 apply wpS_region
 simp[wpOpsS,go_sem,recoverD,hu,Tryz.ntmps53]
 refine (ez _).mono ?_
 rintro e w' ⟨rfl,rfl⟩
 cases c₀
 simp_all [go_sem,bodyPostS,results,Tryz.results53]
end
namespace Sz
def getF (l:List Fld) (k:List UInt8):Option Fld:=l.find? (fun f=>f.key==k)
theorem tV (l:List Fld)(k:List UInt8):(getF l k).isSome=hasK l k:=by
 unfold getF hasK
 induction l with
 | nil=>rfl
 | cons f l ih =>
  rw[List.find?_cons,List.any_cons]
  cases f.key==k with
  | true=>rfl
  | false=>exact ih
def placeOf (keys:List (List UInt8)) (k:List UInt8):Option Nat:=keys.findIdx? (. == k)
def ordP (keys:List (List UInt8)):Nat->Int->List Fld->Int × Int
 | _,_,[]=>(0,0)
 | i,last,f :: l=>match placeOf keys f.key with
  | none=>(i,10)
  | some p=>if last<p then ordP keys (i+1) p l else (i,7)
theorem aan (n:Nat)(acc:List (List Fld))(last:List Fld):readL n [] acc last=(0,0,if last.isEmpty then acc else acc++[last]):=by unfold readL;rfl
theorem yp (n:Nat)(s:List UInt8)(ls:List (List UInt8))(acc:List (List Fld))(last:List Fld):readL n (s :: ls) acc last=if s.isEmpty then (if last.isEmpty||ls.isEmpty then (2,(n:Int),[]) else readL (n+1) ls (acc++[last]) [])
  else match fieldP s n with
   | none=>(2,(n:Int),[])
   | some f=>if hasK last f.key then (6,(n:Int),[]) else readL (n+1) ls acc (last++[f]):=by
 rw[readL];rfl
end Sz
section
open Go.RowKit Go.Maps Sz
attribute [local go_sem ↓] Go.wp_at_zero Go.wp_at_succ
def Sz.NotAt (b:Nat) (A:Option Addr) (ds:List Desc) (t:List (List Fld)):Prop:=(0<ds.length->∀ a,A=some a->a.block≠b)/\Gr.Free (.slice (some ⟨b,0,none⟩) 0 0) ds t
theorem Sz.gI {w:World}{b:Nat}{x:Int}{T:TypeId}{q:Addr}{v:Value}(hb:w.heap[b]?=some (.cells #[.int .i64 x] T (0,0)))(hq:q.block=b)(hc:w.cell? q=some v):v=.int .i64 x:=by
 unfold World.cell? at hc
 rw[hq,hb] at hc
 dsimp only at hc
 split at hc
 ·cases hc
 ·match h3:q.off with
  | 0=>rw[h3] at hc;exact (Option.some.inj hc).symm
  | k+1=>rw[h3] at hc;simp at hc
theorem Sz.qG {w:World}{A:Option Addr}{ds:List Desc}{t:List (List Fld)}{b:Nat}{x:Int}{T:TypeId}(h1:Rg.Row encO 1 w A ds)(h2:Gr.In encF 3 w ds t)(hb:w.heap[b]?=some (.cells #[.int .i64 x] T (0,0))):NotAt b A ds t:=by
 refine⟨fun h0 a ha e=>?_,fun i d l e1 e2 h0 a ha e=>?_⟩
 ·obtain⟨a2,e2,_,hc⟩:=h1 h0
  rw[ha] at e2;cases e2
  have:=hc 0 h0 0 _ rfl
  rw[if_pos rfl] at this
  have:=gI hb (by rw[Rs.add_block];exact e) this
  cases this
 ·obtain⟨a2,e3,_,hc⟩:=(h2.2 i d l e1 e2).2 h0
  rw[ha] at e3;cases e3
  have:=hc 0 h0 0 _ rfl
  rw[if_pos rfl] at this
  have:=gI hb (by rw[Rs.add_block];exact (Option.some.inj e).symm) this
  cases this
theorem Sz.il {w:World}{A:Option Addr}{ds:List Desc}{t:List (List Fld)}{b:Nat}(h:Rg.Row encO 1 w A ds/\Gr.In encF 3 w ds t)(hn:NotAt b A ds t)(x:Value):Rg.Row encO 1 (w.setCell ⟨b,0,none⟩ x) A ds/\Gr.In encF 3 (w.setCell ⟨b,0,none⟩ x) ds t :=
 ⟨dY h.1 (cp w ⟨b,0,none⟩ x) (fun h0 a ha e=>hn.1 h0 a ha (Option.some.inj e).symm),eU h.2 (cp w ⟨b,0,none⟩ x) hn.2⟩
def Sz.PRetC (w:World) (X:Int × Int × List (List Fld)) (e:Ending) (w':World):Prop :=
 ∃ A c,e=.returned (.tuple #[.slice A X.2.2.length c,.int .i64 X.2.1,.int .i64 X.1])/\(∃ ds,Rg.Row encO 1 w' A ds/\Gr.In encF 3 w' ds X.2.2/\∀ x∈ds,x.2.1<=x.2.2)/\Below w.heap.size w w'
theorem Sz.cT {w u:World}{X:Int × Int × List (List Fld)}{k n:Int}(hX:X=(k,n,[]))(hb:Below w.heap.size w u)(x y:Value):PRetC w X (.returned (.tuple #[.slice none 0 0,.int .i64 n,.int .i64 k])) ((u.setCell ⟨w.heap.size,0,none⟩ x).setCell ⟨w.heap.size+1,0,none⟩ y):=by
 subst hX
 exact⟨none,0,rfl,⟨[],fun h=>absurd h (by decide),⟨rfl,fun i d l h=>by simp at h⟩,fun x hx=>by cases hx⟩,(hb.setCell (Nat.le_refl _) _).setCell (Nat.le_succ _) _⟩
theorem Sz.lk:∀ (ls:List (List UInt8)) (n:Nat) (acc:List (List Fld)) (last:List Fld) (k m:Int) (r:List (List Fld)),readL n ls acc last=(k,m,r)->k≠0->r=[]
 | [],n,acc,last,k,m,r,h,hk=>by rw[aan] at h;cases h;exact absurd rfl hk
 | s :: ls,n,acc,last,k,m,r,h,hk=>by
  rw[yp] at h
  split at h
  ·split at h
   ·cases h;rfl
   ·exact lk ls _ _ _ k m r h hk
  ·cases hf:fieldP s n with
   | none=>rw[hf] at h;cases h;rfl
   | some f =>
    rw[hf] at h;dsimp only at h
    split at h
    ·cases h;rfl
    ·exact lk ls _ _ _ k m r h hk
def Sz.P2 (b:Nat) (u:World):Prop:=u.heap[b]?=some (.cells #[.int .i64 0] 3 (0,0))/\u.heap[b+1]?=some (.cells #[.int .i64 0] 36 (0,0))
theorem Sz.yq {w W1 W2 u:World}(h1:w.alloc (.cells #[.int .i64 0] 3)=W1)(h2:W1.alloc (.cells #[.int .i64 0] 36)=W2)(hb:Below W2.heap.size W2 u):P2 w.heap.size u:=by
 have aa:W1.heap.size=w.heap.size+1:=by rw[<-h1];simp
 have ab:W2.heap.size=w.heap.size+2:=by rw[<-h2];simp[aa]
 refine⟨(hb.block _ (by omega)).trans ?_,(hb.block _ (by omega)).trans ?_⟩
 ·rw[((ai h2).block _ (by omega)),<-h1];exact heap_alloc_new w _
 ·rw[<-h2,<-aa];exact heap_alloc_new W1 _
theorem Sz.bl {b:Nat}{u:World}(h:P2 b u):u.cell? ⟨b,0,none⟩=some (.int .i64 0)/\u.frozen? ⟨b,0,none⟩=false/\u.cell? ⟨b+1,0,none⟩=some (.int .i64 0)/\u.frozen? ⟨b+1,0,none⟩=false:=by
 obtain⟨h1,h2⟩:=h
 refine⟨?_,?_,?_,?_⟩ <;> simp[World.cell?,World.frozen?,h1,h2]
theorem Sz.bm {b:Nat}{u:World}(h:P2 b u)(x:Value):(u.setCell ⟨b,0,none⟩ x).cell? ⟨b,0,none⟩=some x/\(u.setCell ⟨b,0,none⟩ x).frozen? ⟨b,0,none⟩=false/\(u.setCell ⟨b,0,none⟩ x).cell? ⟨b+1,0,none⟩=some (.int .i64 0)/\(u.setCell ⟨b,0,none⟩ x).frozen? ⟨b+1,0,none⟩=false:=by
 obtain⟨h1,h2,h3,h4⟩:=bl h
 refine⟨by simp[go_sem,h1],by simp[go_sem,h2],?_,by simp[go_sem,h4]⟩
 rw[World.cell?_setCell_far _ _ _ _ (by show b≠b+1;omega)];exact h3
theorem Sz.eo {b:Nat}{u:World}(h:P2 b u)(x y:Value):((u.setCell ⟨b,0,none⟩ x).setCell ⟨b+1,0,none⟩ y).cell? ⟨b,0,none⟩=some x/\((u.setCell ⟨b,0,none⟩ x).setCell ⟨b+1,0,none⟩ y).cell? ⟨b+1,0,none⟩=some y:=by
 obtain⟨h1,h2,h3,h4⟩:=bm h x
 refine⟨?_,by simp[go_sem,h3]⟩
 rw[World.cell?_setCell_far _ _ _ _ (by show b+1≠b;omega)];exact h1
theorem Sz.m9 {b:Nat}{u:World}(h:P2 b u):P2 b ((u.setCell ⟨b,0,none⟩ (.int .i64 0)).setCell ⟨b+1,0,none⟩ (.int .i64 0)):=by
 obtain⟨h1,h2⟩:=h
 have g1:(u.setCell ⟨b,0,none⟩ (.int .i64 0)).heap[b]?=some (.cells #[.int .i64 0] 3 (0,0)):=by simp[World.setCell,Array.getElem?_modify,h1]
 have g2:(u.setCell ⟨b,0,none⟩ (.int .i64 0)).heap[b+1]?=some (.cells #[.int .i64 0] 36 (0,0)):=by simp[World.setCell,Array.getElem?_modify,h2]
 refine⟨?_,?_⟩
 ·rw[Below.heap_setCell _ _ _ _ (by show b≠b+1;omega)];exact g1
 ·obtain⟨v,hv⟩:=ex (u.setCell ⟨b,0,none⟩ (.int .i64 0))
  rw[hv] at g2 ⊢
  simp[World.setCell,Array.getElem?_modify,g2]
theorem oN (s:List UInt8)(w:World)(hw:MaxOk w) :
  Calls Tryz.prog 17 #[.string ⟨s.toArray⟩] w (Sz.PRetC w (parseS s)):=by
 have aw:∀ (fn:Fn) (first cap:Array Value) (w:World),(Instr.makeFunc fn first cap).run Tryz.prog w=.ok (.func fn first cap) w:=fun _ _ _ _=>rfl
 obtain⟨X,hX⟩:=ex (parseS s)
 rw[hX]
 unfold parseS at hX
 obtain⟨W1,ad⟩:=ex (w.alloc (.cells #[.int .i64 0] 3))
 obtain⟨W2,af⟩:=ex (W1.alloc (.cells #[.int .i64 0] 36))
 have aa:Hid (∀ u,Below W2.heap.size W2 u->P2 w.heap.size u):=fun u hb=>yq ad af hb
 have ap:W1.heap.size=w.heap.size+1:=by rw[<-ad];simp
 have al:W2.heap.size=w.heap.size+2:=by rw[<-af];simp[ap]
 have ac:Hid (Below w.heap.size w W2):=(ai ad).trans ((ai af).mono (ai ad).size)
 have aq:=zh al
 have ae:=zh (vH s W2 (ah hw ac.out))
 clear hw al
 by_cases hl:65536<s.length
 ·rw[if_pos hl] at hX
  have HX:Hid (X=(4,0,[])):=hX.symm
  have ab:Hid (Calls Tryz.prog 54 #[.string ⟨s.toArray⟩] W2 fun e w'=>e=pan 4/\W2=w'):=ae.out.mono fun _ _ h=>by rw[if_pos hl] at h;exact h
  clear hX ae hl
  go_enter_defers Tryz.func17,Tryz.ntmps17
  go_wp2_with fail
  clear ad af
  refine ab.out.mono ?_
  rintro _ z1 ⟨rfl,rfl⟩
  obtain⟨c0,f0,c1,f1⟩:=bl (aa.out _ (Below.refl _ _))
  obtain⟨d0,g0,d1,g1⟩:=bm (aa.out _ (Below.refl _ _)) (.int .i64 0)
  obtain⟨q0,q1⟩:=eo (aa.out _ (Below.refl _ _)) (.int .i64 0) (.int .i64 4)
  go_wp2_with fail
  refine leaves_cons (f:=53) (args:=#[.pointer (some ⟨w.heap.size,0,none⟩),.pointer (some ⟨w.heap.size+1,0,none⟩)]) (by simp) (by simp[go_sem]) ?_
  refine (lj ⟨w.heap.size,0,none⟩ ⟨w.heap.size+1,0,none⟩ 0 0 4 _ c0 f0 d1 g1).mono ?_
  rintro e u' w3 ⟨rfl,rfl,rfl⟩
  simp[Leaves,settle,results,Tryz.results17,go_sem,q0,q1]
  exact Sz.cT HX.out (ac.out.trans ((Below.refl _ _).mono ac.out.size)) _ _
 rw[if_neg hl] at hX
 cases he:endB s
 ·rw[if_neg (by rw[he];decide)] at hX
  have HX:Hid (X=(2,0,[])):=hX.symm
  have ab:Hid (Calls Tryz.prog 54 #[.string ⟨s.toArray⟩] W2 fun e w'=>e=pan 2/\W2=w'):=ae.out.mono fun _ _ h=>by rw[if_neg hl,if_neg (by rw[he];decide)] at h;exact h
  clear hX ae hl he
  go_enter_defers Tryz.func17,Tryz.ntmps17
  go_wp2_with fail
  clear ad af
  refine ab.out.mono ?_
  rintro _ z1 ⟨rfl,rfl⟩
  obtain⟨c0,f0,c1,f1⟩:=bl (aa.out _ (Below.refl _ _))
  obtain⟨d0,g0,d1,g1⟩:=bm (aa.out _ (Below.refl _ _)) (.int .i64 0)
  obtain⟨q0,q1⟩:=eo (aa.out _ (Below.refl _ _)) (.int .i64 0) (.int .i64 2)
  go_wp2_with fail
  refine leaves_cons (f:=53) (args:=#[.pointer (some ⟨w.heap.size,0,none⟩),.pointer (some ⟨w.heap.size+1,0,none⟩)]) (by simp) (by simp[go_sem]) ?_
  refine (lj ⟨w.heap.size,0,none⟩ ⟨w.heap.size+1,0,none⟩ 0 0 2 _ c0 f0 d1 g1).mono ?_
  rintro e u' w3 ⟨rfl,rfl,rfl⟩
  simp[Leaves,settle,results,Tryz.results17,go_sem,q0,q1]
  exact Sz.cT HX.out (ac.out.trans ((Below.refl _ _).mono ac.out.size)) _ _
 rw[if_pos he] at hX
 have ab:Hid (Calls Tryz.prog 54 #[.string ⟨s.toArray⟩] W2 (ReadRet W2 X)):=ae.out.mono fun _ _ h=>by rw[if_neg hl,if_pos he,hX] at h;exact h
 obtain⟨k,n,r⟩:=X
 have aj:Hid (k≠0->r=[]):=lk _ _ _ _ k n r hX
 have ar:Hid (k=0->n=0):=fun h=>by
  have h2:parseS s=(0,n,r):=by unfold parseS;rw[if_neg hl,if_pos he,hX,h]
  exact (Sz.eE h2).1
 clear hX ae hl he
 go_enter_defers Tryz.func17,Tryz.ntmps17
 go_wp2_with fail
 clear ad af
 refine ab.out.mono ?_
 rintro e z1 ⟨hb,hr⟩
 have HB:=zh hb
 clear hb
 by_cases hk:k=0
 ·subst hk
  obtain⟨A,c,ds,rfl,h1,h2,ao⟩:∃ A c ds,e=.returned (.slice A r.length c)/\Rg.Row encO 1 z1 A ds/\Gr.In encF 3 z1 ds r/\∀ x∈ds,x.2.1<=x.2.2:=by rw[if_pos rfl] at hr;exact hr
  have au:=zh ao
  obtain rfl:=ar.out rfl
  have ag:Hid (NotAt w.heap.size A ds r/\NotAt (w.heap.size+1) A ds r):=⟨qG h1 h2 (aa.out _ HB.out).1,qG h1 h2 (aa.out _ HB.out).2⟩
  have HR:=zh (il (il ⟨h1,h2⟩ ag.out.1 (.int .i64 0)) ag.out.2 (.int .i64 0))
  obtain⟨c0,f0,c1,f1⟩:=bl (aa.out _ HB.out)
  obtain⟨d0,g0,d1,g1⟩:=bm (aa.out _ HB.out) (.int .i64 0)
  have ak:=zh (m9 (aa.out _ HB.out))
  have av:Hid (Below w.heap.size w ((z1.setCell ⟨w.heap.size,0,none⟩ (.int .i64 0)).setCell ⟨w.heap.size+1,0,none⟩ (.int .i64 0))):=((bt ac.out HB.out).setCell (Nat.le_refl _) _).setCell (Nat.le_succ _) _
  clear hr h1 h2 ao
  go_wp2_with fail
  generalize (z1.setCell ⟨w.heap.size,0,none⟩ (.int .i64 0)).setCell ⟨w.heap.size+1,0,none⟩ (.int .i64 0)=V at *
  obtain⟨k0,m0,k1,m1⟩:=bl ak.out
  obtain⟨l0,o0,l1,o1⟩:=bm ak.out (.int .i64 0)
  obtain⟨q0,q1⟩:=eo ak.out (.int .i64 0) (.int .i64 0)
  have am:=zh (il (il HR.out ag.out.1 (.int .i64 0)) ag.out.2 (.int .i64 0))
  refine leaves_cons (f:=53) (args:=#[.pointer (some ⟨w.heap.size,0,none⟩),.pointer (some ⟨w.heap.size+1,0,none⟩)]) (by simp) (by simp[go_sem]) ?_
  refine (vI ⟨w.heap.size,0,none⟩ ⟨w.heap.size+1,0,none⟩ 0 0 _ k0 m0 l1 o1).mono ?_
  rintro e u' w3 ⟨rfl,rfl,rfl⟩
  simp[Leaves,settle,results,Tryz.results17,go_sem,q0,q1]
  exact⟨A,c,rfl,⟨ds,am.out.1,am.out.2,au.out⟩,(av.out.setCell (Nat.le_refl _) _).setCell (Nat.le_succ _) _⟩
 ·obtain rfl:e=panAt n k:=by rw[if_neg hk] at hr;exact hr
  obtain rfl:=aj.out hk
  clear hr hk
  go_wp2_with fail
  refine leaves_cons (f:=53) (args:=#[.pointer (some ⟨w.heap.size,0,none⟩),.pointer (some ⟨w.heap.size+1,0,none⟩)]) (by simp) (by simp[go_sem]) ?_
  refine (rA ⟨w.heap.size,0,none⟩ ⟨w.heap.size+1,0,none⟩ 0 0 n k _ (fun u hb=>(bl (aa.out _ (bt HB.out hb))).1) (fun u hb=>(bl (aa.out _ (bt HB.out hb))).2.1) (fun u hb=>(bm (aa.out _ (bt HB.out hb)) _).2.2.1) (fun u hb=>(bm (aa.out _ (bt HB.out hb)) _).2.2.2)).mono ?_
  rintro e u' w3 ⟨rfl,rfl,u,hb,rfl⟩
  have an:=zh (bt HB.out hb)
  obtain⟨q0,q1⟩:=eo (aa.out _ an.out) (.int .i64 n) (.int .i64 k)
  simp[Leaves,settle,results,Tryz.results17,go_sem,q0,q1]
  exact Sz.cT rfl (bt ac.out an.out) _ _
end
end Go.Proofs.YtpfkphmldalmmaaGreatDoor
