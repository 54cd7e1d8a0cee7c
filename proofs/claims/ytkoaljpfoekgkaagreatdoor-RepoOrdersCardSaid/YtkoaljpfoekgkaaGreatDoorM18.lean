/- Part 18 of what the laws lean on. -/
import Derived.Test.YtkoaljpfoekgkaaGreatDoorM17
set_option maxRecDepth 100000
set_option maxHeartbeats 3200000
namespace Go.Proofs.YtkoaljpfoekgkaaGreatDoor
section
open Go.RowKit Go.Maps Sz
attribute [local go_sem ↓] Go.wp_at_zero Go.wp_at_succ
def Sz.ReadRet (w:World) (R:Int × Int × List (List Fld)) (e:Ending) (w':World):Prop :=
 Below w.heap.size w w'/\if R.1=0 then ∃ A c ds,e=.returned (.slice A R.2.2.length c)/\Rg.Row encO 1 w' A ds/\Gr.In encF 3 w' ds R.2.2/\∀ x∈ds,x.2.1<=x.2.2 else e=panAt R.2.1 R.1
def Sz.KeysOk (w:World) (B:Nat) (v2:Value) (last:List Fld):Prop:=last=[]\/∃ m,v2=.map (some m)/\B<=m/\KSet w m (last.map Fld.key)
theorem Sz.bK {w w':World}{k n:Int}{l:List (List Fld)}(hk:k≠0)(hb:Below w.heap.size w w'):ReadRet w (k,n,l) (panAt n k) w':=⟨hb,by show if k=0 then _ else _;rw[if_neg hk]⟩
theorem Sz.jS (l:List Fld)(k:List UInt8):hasK l k=(l.map Fld.key).contains k:=by
 induction l with
 | nil=>rfl
 | cons f l ih =>
  rw[List.map_cons,List.contains_cons,<-ih]
  show (f.key==k||_)=_
  rw[show (f.key==k)=(k==f.key) by rw[Bool.eq_iff_iff,beq_iff_eq,beq_iff_eq];exact eq_comm];rfl
theorem Sz.uR {k:List UInt8}(h:keyB k=true):k.length<=1000000:=by
 unfold keyB at h
 rw[Bool.and_eq_true,Bool.and_eq_true,decide_eq_true_eq] at h
 omega
theorem rp (s:List UInt8)(w:World)(hw:MaxOk w)(hs:s.length<=65536)(h0:s≠[])(h1:Lib.hasSuffix s [10]=true) :
  Calls Tryz.prog 83 #[.string ⟨s.toArray⟩] w (Sz.ReadRet w (readL 0 (linesL s) [] [])):=by
 obtain⟨R,hR⟩:=ex (readL 0 (linesL s) [] [])
 rw[hR]
 obtain⟨W1,a8⟩:=ex (w.alloc (.cells #[.slice none 0 0,.slice none 0 0,.map none] 173))
 have aB:Hid (Below w.heap.size w W1):=ab a8
 have a9:Hid (∀ B,DrO W1 B w.heap.size (.slice none 0 0) (.slice none 0 0) (.map none) [] [] []):=fun B=>by rw[<-a8];exact uO
 have ba:=zh (kl s W1 (aa hw aB.out) (by omega))
 have br:Hid (MaxOk W1):=aa hw aB.out
 have HR:=zh hR
 have bs:=zh hw
 have dl:decide ((s.length:Int)<=65536)=true:=decide_eq_true (by omega)
 have ar:=zh hs
 have bA:(s==[])=false:=beq_eq_false_iff_ne.2 h0
 have bB:decide (s.length=0)=false:=decide_eq_false (fun e=>h0 (List.length_eq_zero_iff.1 e))
 have bu:=zh h1
 clear h1 h0
 clear hw hR hs
 go_enter Tryz.func83,Tryz.ntmps83
 go_wp2_with fail
 refine (ag _).mono ?_
 rintro _ z ⟨rfl,rfl⟩
 go_wp2_with fail
 refine (Tryz.strings_HasSuffix ⟨s.toArray⟩ ⟨#[10]⟩ _ (by show s.length<=_;have:=ar.out;omega)).mono ?_
 rintro _ z ⟨rfl,hz⟩
 obtain rfl:=hz.symm
 clear hz
 rw[show Lib.hasSuffix (⟨s.toArray⟩:ByteArray).data.toList (⟨#[10]⟩:ByteArray).data.toList=true from bu.out]
 go_wp2_with fail
 refine (ag _).mono ?_
 rintro _ z ⟨rfl,rfl⟩
 go_wp2_with fail
 clear a8
 refine ba.out.mono ?_
 rintro _ u ⟨A,n,c,rfl,hn,bk,aK,hb⟩
 obtain⟨D,hD⟩:=ex w.heap.size
 have HD:=zh hD
 have bc:Hid (DrO u u.heap.size D (.slice none 0 0) (.slice none 0 0) (.map none) [] [] []):=by show DrO _ _ _ _ _ _ _ _ _;rw[<-hD];exact aW (a9.out _) hb
 have HN:=zh hn
 have aC:=zh bk
 have aX:=zh aK
 have au:Hid (Below D w u/\w.heap.size<=u.heap.size):=⟨by rw[<-hD];exact bt aB.out hb,Nat.le_trans aB.out.size hb.size⟩
 have bC:Hid (MaxOk u):=aa br.out hb
 rw[hD]
 clear hn aK hb dl bk hD ba a9 aB
 go_wp2_with fail
 go_loopw [22] (fun i wr=>∃ (k:Nat) (acc:List (List Fld)) (last:List Fld) (ds:List Desc) (v0 v1 v2:Value),i=.int .i64 k/\k<=n/\Hid (DrO wr u.heap.size D v0 v1 v2 ds acc last)/\Hid (KeysOk wr u.heap.size v2 last)/\Hid (readL k ((linesL s).drop k) acc last=R)/\Hid (Keeps u.heap.size D u wr/\u.heap.size<=wr.heap.size)/\Hid (ds.length+last.length<=k)) (fun i _=>n-(intOf i).toNat)
 case atStart=>exact⟨0,[],[],[],_,_,_,rfl,Nat.zero_le _,bc,Or.inl rfl,HR,⟨bb (Below.refl _ _),Nat.le_refl _⟩,Nat.zero_le _⟩
 case round =>
  obtain⟨k,acc,last,ds,v0,v1,v2,rfl,hk,ay,bx,bl,af,aL⟩:=hrel
  by_cases bv:k<n
  ·have aY:k<(linesL s).length:=by rw[HN.out];exact bv
   obtain⟨ad,hA,aN,ah⟩:=Sz.cU aX.out k aY
   subst hA
   have bd:ad.block≠D:=by
    have:=iP bc.out (fun x h=>by cases h) (fun x h=>by cases h) (fun x h=>by cases h) ah
    rwa [Rs.add_block] at this
   have cw:=(mf af.out.1 (a:=ad.add k) (by rw[Rs.add_block];exact aN) (by rw[Rs.add_block];exact bd)).trans ah
   have be:Hid ((linesL s)[k].length<=65536):=Nat.le_trans (uN (List.getElem_mem aY)) ar.out
   have aj:=bl.out
   rw[List.drop_eq_getElem_cons aY] at aj
   have aZ:((linesL s).drop (k+1)).length=n-(k+1):=by rw[List.length_drop,HN.out]
   obtain⟨rest,ai⟩:=ex ((linesL s).drop (k+1))
   obtain⟨ln,bm⟩:=ex ((linesL s)[k])
   rw[bm] at cw aj be
   rw[ai] at aj aZ
   have bf:=zh ai
   have aD:=zh aZ
   have ik:(k:Int)<(n:Int):=by omega
   have bD:IntKind.i64.wrap ((k:Int)+1)=(k:Int)+1:=IntWalk.i64_in _ (by have:=aC.out;have:=ar.out;omega)
   have bE:IntKind.i64.wrap ((n:Int)-1)=(n:Int)-1:=IntWalk.i64_in _ (by have:=aC.out;have:=ar.out;omega)
   obtain⟨A1,c1,bn,_,_,_⟩:=Rg.aA fitsF ay.out.2.2.2.2.2.1
   obtain⟨q,hq⟩:=ex last.length
   rw[hq] at bn
   subst bn
   obtain⟨e0,e1,e2,_,_,_⟩:=aR ay.out
   have HQ:=zh hq
   have aO:Hid (Below D w wr):=au.out.1.trans (dk af.out.1 (Nat.le_trans (by rw[HD.out];exact Nat.le_refl _) au.out.2))
   clear ah aN bd ai bm aZ hq
   by_cases hle:ln=[]
   ·subst hle
    have ac:(if (last.isEmpty||rest.isEmpty) then (2,(k:Int),[]) else readL (k+1) rest (acc++[last]) [])=R:=aj
    by_cases aP:0<q/\k+1<n
    ·have i1:(0:Int)<(q:Int):=by omega
     have i2:(k:Int)<(n:Int)-1:=by omega
     have a0:Hid (readL (k+1) rest (acc++[last]) []=R):=by
      show _=_
      rw[if_neg] at ac
      ·exact ac
      ·cases last with
       | nil=>have:=HQ.out;simp at this;omega
       | cons x l=>cases rest with
        | nil=>have:=aD.out;simp at this;omega
        | cons y r=>simp
     have bg:=zh aP
     clear aP aj ac
     go_wp2_with fail
     refine (ax _).mono ?_
     rintro _ z ⟨rfl,rfl⟩
     go_wp2_with fail
     refine (dw ay.out (by have:=aL.out;have:=aC.out;have:=ar.out;omega) af.out.2).mono ?_
     rintro _ z ⟨rfl,ak,ao,u0,u1,az,ae⟩
     have aE:last≠[]:=fun e=>by have:=HQ.out;rw[e] at this;simp at this;have:=bg.out;omega
     rw[if_neg aE] at ae
     have a1:=zh ae
     have aQ:Hid (Keeps u.heap.size D u z/\u.heap.size<=z.heap.size):=⟨aM af.out.1 ak,Nat.le_trans af.out.2 ao⟩
     have a2:Hid (az.length+([]:List Fld).length<=k+1):=by
      have h1:=ae.2.2.2.1.1
      have h2:=ay.out.2.2.2.1.1
      rw[List.length_append] at h1
      have h3:=aL.out
      have h4:=HQ.out
      have h5:=bg.out
      show az.length+0<=k+1
      simp at h1
      omega
     clear ak ao ae aE
     go_wp2_with fail
     go_roundw
     case rel=>exact⟨k+1,acc++[last],[],az,_,_,_,by go_num,by omega,a1,Or.inl rfl,by show readL _ _ _ _=R;rw[bf.out];exact a0.out,aQ,a2⟩
     case measure=>simp[intOf];omega
    ·have al:Hid (R=(2,(k:Int),[])):=by
      show _=_
      rw[<-ac,if_pos]
      cases last with
      | nil=>rfl
      | cons x l=>cases rest with
       | nil=>simp
       | cons y r =>
        have h1:=HQ.out
        have h2:=aD.out
        simp at h1 h2
        omega
     clear aj ac
     by_cases bh:0<q
     ·have i1:(0:Int)<(q:Int):=by omega
      have i2:¬ (k:Int)<(n:Int)-1:=by omega
      clear aP bh
      go_wp2_with fail
      refine (an _).mono ?_
      rintro _ z ⟨rfl,rfl⟩
      go_wp2_with fail
      exact⟨rfl,by show ReadRet w R _ _;rw[al.out];exact bK (by decide) (by rw[HD.out];exact aO.out)⟩
     ·have i1:¬ (0:Int)<(q:Int):=by omega
      clear aP bh
      go_wp2_with fail
      refine (an _).mono ?_
      rintro _ z ⟨rfl,rfl⟩
      go_wp2_with fail
      exact⟨rfl,by show ReadRet w R _ _;rw[al.out];exact bK (by decide) (by rw[HD.out];exact aO.out)⟩
   ·have ac:(match Sz.fieldP ln (k:Int) with | none=>((2:Int),(k:Int),([]:List (List Fld))) | some f=>if hasK last f.key then (6,(k:Int),[]) else readL (k+1) rest acc (last++[f]))=R:=by
     cases ln with
     | nil=>exact absurd rfl hle
     | cons x t=>exact aj
    have bF:(ln==[])=false:=beq_eq_false_iff_ne.2 hle
    have aS:=kk ln (k:Int) wr (aa bs.out (by rw[HD.out];exact aO.out)) (Nat.le_trans be.out (by decide))
    have aT:=@Sz.ir ln (k:Int)
    obtain⟨F,hF⟩:=ex (Sz.fieldP ln (k:Int))
    rw[hF] at ac aS aT
    have a3:=zh aS
    cases F with
    | none =>
     have al:Hid (R=(2,(k:Int),[])):=ac.symm
     clear aj ac aS aT hF hle
     go_wp2_with fail
     refine a3.out.mono ?_
     rintro e z ⟨hb,he⟩
     have aF:Hid (Below D w z):=aO.out.trans (hb.mono (Nat.le_trans (by rw[<-HD.out];exact au.out.2) af.out.2))
     have a4:e=panAt k 2:=he
     subst a4
     clear hb he
     go_wp2_with fail
     exact⟨rfl,by show ReadRet w R _ _;rw[al.out];exact bK (by decide) (by rw[HD.out];exact aF.out)⟩
    | some f =>
     obtain⟨_,ap,bo,_⟩:=aT rfl
     have am:=zh ap
     have bi:=zh (uR bo)
     have bj:Hid ((if hasK last f.key then ((6:Int),(k:Int),([]:List (List Fld))) else readL (k+1) rest acc (last++[f]))=R):=ac
     clear aj ac aS aT hF hle ap bo
     go_wp2_with fail
     refine a3.out.mono ?_
     rintro e z ⟨hb,he⟩
     have a4:e=.returned (.agg #[.string ⟨f.key.toArray⟩,.string ⟨f.val.toArray⟩,.int .i64 (k:Int)]):=he
     subst a4
     have aU:Hid (Keeps u.heap.size D u z/\u.heap.size<=z.heap.size):=⟨aM af.out.1 (bb (hb.mono af.out.2)),Nat.le_trans af.out.2 hb.size⟩
     have a5:=aW ay.out hb
     have av:Calls Tryz.prog 115 #[.pointer (some ⟨D,0,none⟩),.agg #[.string ⟨f.key.toArray⟩,.string ⟨f.val.toArray⟩,.int .i64 f.line]] z (Sz.AddRet z u.heap.size D v0 ds acc last f):=by
      have aG:last.length+1<=1000000:=by have:=aL.out;have:=aC.out;have:=ar.out;omega
      by_cases hl:last=[]
      ·exact gN f a5 aG bi.out aU.out.2 hl
      ·rcases bx.out with h | ⟨m,h1,h2,h3⟩
       ·exact absurd h hl
       ·refine iO f a5 aG bi.out aU.out.2 hl ⟨m,h1,h2,?_⟩
        obtain⟨_,_,⟨_,_,hh,_⟩,_⟩:=id h3
        exact bG h3 hb (Array.getElem?_eq_some_iff.1 hh).1
     rw[am.out] at av
     have a6:=zh av
     clear hb he a5 av a3
     go_wp2_with fail
     refine a6.out.mono ?_
     rintro e z2 ⟨ak,ao,aV⟩
     have aQ:Hid (Keeps u.heap.size D u z2/\u.heap.size<=z2.heap.size):=⟨aM aU.out.1 ak,Nat.le_trans aU.out.2 ao⟩
     by_cases aw:(last.map Fld.key).contains f.key=true
     ·rw[if_pos aw,am.out] at aV
      have al:Hid (R=(6,(k:Int),[])):=by show _=_;rw[<-bj.out,jS,if_pos aw]
      have aF:Hid (Below D w z2):=au.out.1.trans (dk aQ.out.1 (Nat.le_trans (by rw[HD.out];exact Nat.le_refl _) au.out.2))
      subst aV
      clear aw ak ao
      go_wp2_with fail
      exact⟨rfl,by show ReadRet w R _ _;rw[al.out];exact bK (by decide) (by rw[HD.out];exact aF.out)⟩
     ·rw[if_neg aw] at aV
      obtain⟨rfl,u1,m,bp,ae,bq⟩:=aV
      have a0:Hid (readL (k+1) rest acc (last++[f])=R):=by show _=_;rw[<-bj.out,jS,if_neg aw]
      have a1:=zh ae
      have a7:Hid (KeysOk z2 u.heap.size (.map (some m)) (last++[f])):=Or.inr ⟨m,rfl,bp,bq⟩
      have a2:Hid (ds.length+(last++[f]).length<=k+1):=by have:=aL.out;show _<=_;rw[List.length_append];show _+(_+1)<=_;omega
      clear aw ak ao bp ae bq
      go_wp2_with fail
      go_roundw
      case rel=>exact⟨k+1,acc,last++[f],ds,_,_,_,by go_num,by omega,a1,a7,by show readL _ _ _ _=R;rw[bf.out];exact a0.out,aQ,a2⟩
      case measure=>simp[intOf];omega
  ·obtain rfl:k=n:=by omega
   have al:Hid (R=(0,0,if last=[] then acc else acc++[last])):=by
    show _=_
    rw[<-bl.out,List.drop_eq_nil_of_le (by rw[HN.out];exact Nat.le_refl _)]
    cases last <;> rfl
   have ik:¬ (k:Int)<(k:Int):=by omega
   go_wp2_with fail
   refine (dw ay.out (by have:=aL.out;have:=aC.out;have:=ar.out;omega) af.out.2).mono ?_
   rintro _ z ⟨rfl,ak,ao,u0,u1,az,ae⟩
   have aF:Hid (Below D w z):=au.out.1.trans (dk (aM af.out.1 ak) (Nat.le_trans (by rw[HD.out];exact Nat.le_refl _) au.out.2))
   obtain⟨A2,c2,bz,aq,_,_⟩:=Rg.aA fitsO ae.2.2.1
   have aH:=ae.2.2.2.1
   have bw:Hid (∀ x∈az,x.2.1<=x.2.2):=ae.1
   subst bz
   obtain⟨e0,_,_,_,_,_⟩:=aR ae
   have aI:=zh aq
   have aJ:=zh aH
   clear ak ao ae aq aH
   go_wp2_with fail
   go_ret
   show ReadRet w R _ _
   rw[al.out]
   refine⟨by rw[HD.out];exact aF.out,?_⟩
   show if (0:Int)=0 then _ else _
   rw[if_pos rfl]
   exact⟨A2,c2,az,congrArg (fun x=>Ending.returned (Value.slice A2 x c2)) aJ.out.1,aI.out,aJ.out,bw.out⟩
theorem rq (s:List UInt8)(w:World)(hw:MaxOk w)(hs:s.length<=65536)(h0:s=[]) :
  Calls Tryz.prog 83 #[.string ⟨s.toArray⟩] w (Sz.ReadRet w (readL 0 (linesL s) [] [])):=by
 obtain⟨R,hR⟩:=ex (readL 0 (linesL s) [] [])
 rw[hR]
 obtain⟨W1,a8⟩:=ex (w.alloc (.cells #[.slice none 0 0,.slice none 0 0,.map none] 173))
 have aB:Hid (Below w.heap.size w W1):=ab a8
 have a9:Hid (∀ B,DrO W1 B w.heap.size (.slice none 0 0) (.slice none 0 0) (.map none) [] [] []):=fun B=>by rw[<-a8];exact uO
 have ba:=zh (kl s W1 (aa hw aB.out) (by omega))
 have br:Hid (MaxOk W1):=aa hw aB.out
 have HR:=zh hR
 have bs:=zh hw
 have dl:decide ((s.length:Int)<=65536)=true:=decide_eq_true (by omega)
 have av:=zh hs
 have bz:(s==[])=true:=by rw[h0];rfl
 clear h0
 clear hw hR hs
 go_enter Tryz.func83,Tryz.ntmps83
 go_wp2_with fail
 refine (ag _).mono ?_
 rintro _ z ⟨rfl,rfl⟩
 go_wp2_with fail
 refine (ag _).mono ?_
 rintro _ z ⟨rfl,rfl⟩
 go_wp2_with fail
 clear a8
 refine ba.out.mono ?_
 rintro _ u ⟨A,n,c,rfl,hn,bk,aK,hb⟩
 obtain⟨D,hD⟩:=ex w.heap.size
 have HD:=zh hD
 have bc:Hid (DrO u u.heap.size D (.slice none 0 0) (.slice none 0 0) (.map none) [] [] []):=by show DrO _ _ _ _ _ _ _ _ _;rw[<-hD];exact aW (a9.out _) hb
 have HN:=zh hn
 have aC:=zh bk
 have aX:=zh aK
 have ar:Hid (Below D w u/\w.heap.size<=u.heap.size):=⟨by rw[<-hD];exact bt aB.out hb,Nat.le_trans aB.out.size hb.size⟩
 have bA:Hid (MaxOk u):=aa br.out hb
 rw[hD]
 clear hn aK hb dl bk hD ba a9 aB
 go_wp2_with fail
 go_loopw [22] (fun i wr=>∃ (k:Nat) (acc:List (List Fld)) (last:List Fld) (ds:List Desc) (v0 v1 v2:Value),i=.int .i64 k/\k<=n/\Hid (DrO wr u.heap.size D v0 v1 v2 ds acc last)/\Hid (KeysOk wr u.heap.size v2 last)/\Hid (readL k ((linesL s).drop k) acc last=R)/\Hid (Keeps u.heap.size D u wr/\u.heap.size<=wr.heap.size)/\Hid (ds.length+last.length<=k)) (fun i _=>n-(intOf i).toNat)
 case atStart=>exact⟨0,[],[],[],_,_,_,rfl,Nat.zero_le _,bc,Or.inl rfl,HR,⟨bb (Below.refl _ _),Nat.le_refl _⟩,Nat.zero_le _⟩
 case round =>
  obtain⟨k,acc,last,ds,v0,v1,v2,rfl,hk,ay,bw,bl,af,aL⟩:=hrel
  by_cases bu:k<n
  ·have aY:k<(linesL s).length:=by rw[HN.out];exact bu
   obtain⟨ad,hA,aN,ah⟩:=Sz.cU aX.out k aY
   subst hA
   have bd:ad.block≠D:=by
    have:=iP bc.out (fun x h=>by cases h) (fun x h=>by cases h) (fun x h=>by cases h) ah
    rwa [Rs.add_block] at this
   have cw:=(mf af.out.1 (a:=ad.add k) (by rw[Rs.add_block];exact aN) (by rw[Rs.add_block];exact bd)).trans ah
   have be:Hid ((linesL s)[k].length<=65536):=Nat.le_trans (uN (List.getElem_mem aY)) av.out
   have aj:=bl.out
   rw[List.drop_eq_getElem_cons aY] at aj
   have aZ:((linesL s).drop (k+1)).length=n-(k+1):=by rw[List.length_drop,HN.out]
   obtain⟨rest,ai⟩:=ex ((linesL s).drop (k+1))
   obtain⟨ln,bm⟩:=ex ((linesL s)[k])
   rw[bm] at cw aj be
   rw[ai] at aj aZ
   have bf:=zh ai
   have aD:=zh aZ
   have ik:(k:Int)<(n:Int):=by omega
   have bB:IntKind.i64.wrap ((k:Int)+1)=(k:Int)+1:=IntWalk.i64_in _ (by have:=aC.out;have:=av.out;omega)
   have bC:IntKind.i64.wrap ((n:Int)-1)=(n:Int)-1:=IntWalk.i64_in _ (by have:=aC.out;have:=av.out;omega)
   obtain⟨A1,c1,bn,_,_,_⟩:=Rg.aA fitsF ay.out.2.2.2.2.2.1
   obtain⟨q,hq⟩:=ex last.length
   rw[hq] at bn
   subst bn
   obtain⟨e0,e1,e2,_,_,_⟩:=aR ay.out
   have HQ:=zh hq
   have aO:Hid (Below D w wr):=ar.out.1.trans (dk af.out.1 (Nat.le_trans (by rw[HD.out];exact Nat.le_refl _) ar.out.2))
   clear ah aN bd ai bm aZ hq
   by_cases hle:ln=[]
   ·subst hle
    have ac:(if (last.isEmpty||rest.isEmpty) then (2,(k:Int),[]) else readL (k+1) rest (acc++[last]) [])=R:=aj
    by_cases aP:0<q/\k+1<n
    ·have i1:(0:Int)<(q:Int):=by omega
     have i2:(k:Int)<(n:Int)-1:=by omega
     have a0:Hid (readL (k+1) rest (acc++[last]) []=R):=by
      show _=_
      rw[if_neg] at ac
      ·exact ac
      ·cases last with
       | nil=>have:=HQ.out;simp at this;omega
       | cons x l=>cases rest with
        | nil=>have:=aD.out;simp at this;omega
        | cons y r=>simp
     have bg:=zh aP
     clear aP aj ac
     go_wp2_with fail
     refine (ax _).mono ?_
     rintro _ z ⟨rfl,rfl⟩
     go_wp2_with fail
     refine (dw ay.out (by have:=aL.out;have:=aC.out;have:=av.out;omega) af.out.2).mono ?_
     rintro _ z ⟨rfl,ak,ao,u0,u1,az,ae⟩
     have aE:last≠[]:=fun e=>by have:=HQ.out;rw[e] at this;simp at this;have:=bg.out;omega
     rw[if_neg aE] at ae
     have a1:=zh ae
     have aQ:Hid (Keeps u.heap.size D u z/\u.heap.size<=z.heap.size):=⟨aM af.out.1 ak,Nat.le_trans af.out.2 ao⟩
     have a2:Hid (az.length+([]:List Fld).length<=k+1):=by
      have h1:=ae.2.2.2.1.1
      have h2:=ay.out.2.2.2.1.1
      rw[List.length_append] at h1
      have h3:=aL.out
      have h4:=HQ.out
      have h5:=bg.out
      show az.length+0<=k+1
      simp at h1
      omega
     clear ak ao ae aE
     go_wp2_with fail
     go_roundw
     case rel=>exact⟨k+1,acc++[last],[],az,_,_,_,by go_num,by omega,a1,Or.inl rfl,by show readL _ _ _ _=R;rw[bf.out];exact a0.out,aQ,a2⟩
     case measure=>simp[intOf];omega
    ·have al:Hid (R=(2,(k:Int),[])):=by
      show _=_
      rw[<-ac,if_pos]
      cases last with
      | nil=>rfl
      | cons x l=>cases rest with
       | nil=>simp
       | cons y r =>
        have h1:=HQ.out
        have h2:=aD.out
        simp at h1 h2
        omega
     clear aj ac
     by_cases bh:0<q
     ·have i1:(0:Int)<(q:Int):=by omega
      have i2:¬ (k:Int)<(n:Int)-1:=by omega
      clear aP bh
      go_wp2_with fail
      refine (an _).mono ?_
      rintro _ z ⟨rfl,rfl⟩
      go_wp2_with fail
      exact⟨rfl,by show ReadRet w R _ _;rw[al.out];exact bK (by decide) (by rw[HD.out];exact aO.out)⟩
     ·have i1:¬ (0:Int)<(q:Int):=by omega
      clear aP bh
      go_wp2_with fail
      refine (an _).mono ?_
      rintro _ z ⟨rfl,rfl⟩
      go_wp2_with fail
      exact⟨rfl,by show ReadRet w R _ _;rw[al.out];exact bK (by decide) (by rw[HD.out];exact aO.out)⟩
   ·have ac:(match Sz.fieldP ln (k:Int) with | none=>((2:Int),(k:Int),([]:List (List Fld))) | some f=>if hasK last f.key then (6,(k:Int),[]) else readL (k+1) rest acc (last++[f]))=R:=by
     cases ln with
     | nil=>exact absurd rfl hle
     | cons x t=>exact aj
    have bD:(ln==[])=false:=beq_eq_false_iff_ne.2 hle
    have aS:=kk ln (k:Int) wr (aa bs.out (by rw[HD.out];exact aO.out)) (Nat.le_trans be.out (by decide))
    have aT:=@Sz.ir ln (k:Int)
    obtain⟨F,hF⟩:=ex (Sz.fieldP ln (k:Int))
    rw[hF] at ac aS aT
    have a3:=zh aS
    cases F with
    | none =>
     have al:Hid (R=(2,(k:Int),[])):=ac.symm
     clear aj ac aS aT hF hle
     go_wp2_with fail
     refine a3.out.mono ?_
     rintro e z ⟨hb,he⟩
     have aF:Hid (Below D w z):=aO.out.trans (hb.mono (Nat.le_trans (by rw[<-HD.out];exact ar.out.2) af.out.2))
     have a4:e=panAt k 2:=he
     subst a4
     clear hb he
     go_wp2_with fail
     exact⟨rfl,by show ReadRet w R _ _;rw[al.out];exact bK (by decide) (by rw[HD.out];exact aF.out)⟩
    | some f =>
     obtain⟨_,ap,bo,_⟩:=aT rfl
     have am:=zh ap
     have bi:=zh (uR bo)
     have bj:Hid ((if hasK last f.key then ((6:Int),(k:Int),([]:List (List Fld))) else readL (k+1) rest acc (last++[f]))=R):=ac
     clear aj ac aS aT hF hle ap bo
     go_wp2_with fail
     refine a3.out.mono ?_
     rintro e z ⟨hb,he⟩
     have a4:e=.returned (.agg #[.string ⟨f.key.toArray⟩,.string ⟨f.val.toArray⟩,.int .i64 (k:Int)]):=he
     subst a4
     have aU:Hid (Keeps u.heap.size D u z/\u.heap.size<=z.heap.size):=⟨aM af.out.1 (bb (hb.mono af.out.2)),Nat.le_trans af.out.2 hb.size⟩
     have a5:=aW ay.out hb
     have au:Calls Tryz.prog 115 #[.pointer (some ⟨D,0,none⟩),.agg #[.string ⟨f.key.toArray⟩,.string ⟨f.val.toArray⟩,.int .i64 f.line]] z (Sz.AddRet z u.heap.size D v0 ds acc last f):=by
      have aG:last.length+1<=1000000:=by have:=aL.out;have:=aC.out;have:=av.out;omega
      by_cases hl:last=[]
      ·exact gN f a5 aG bi.out aU.out.2 hl
      ·rcases bw.out with h | ⟨m,h1,h2,h3⟩
       ·exact absurd h hl
       ·refine iO f a5 aG bi.out aU.out.2 hl ⟨m,h1,h2,?_⟩
        obtain⟨_,_,⟨_,_,hh,_⟩,_⟩:=id h3
        exact bG h3 hb (Array.getElem?_eq_some_iff.1 hh).1
     rw[am.out] at au
     have a6:=zh au
     clear hb he a5 au a3
     go_wp2_with fail
     refine a6.out.mono ?_
     rintro e z2 ⟨ak,ao,aV⟩
     have aQ:Hid (Keeps u.heap.size D u z2/\u.heap.size<=z2.heap.size):=⟨aM aU.out.1 ak,Nat.le_trans aU.out.2 ao⟩
     by_cases aw:(last.map Fld.key).contains f.key=true
     ·rw[if_pos aw,am.out] at aV
      have al:Hid (R=(6,(k:Int),[])):=by show _=_;rw[<-bj.out,jS,if_pos aw]
      have aF:Hid (Below D w z2):=ar.out.1.trans (dk aQ.out.1 (Nat.le_trans (by rw[HD.out];exact Nat.le_refl _) ar.out.2))
      subst aV
      clear aw ak ao
      go_wp2_with fail
      exact⟨rfl,by show ReadRet w R _ _;rw[al.out];exact bK (by decide) (by rw[HD.out];exact aF.out)⟩
     ·rw[if_neg aw] at aV
      obtain⟨rfl,u1,m,bp,ae,bq⟩:=aV
      have a0:Hid (readL (k+1) rest acc (last++[f])=R):=by show _=_;rw[<-bj.out,jS,if_neg aw]
      have a1:=zh ae
      have a7:Hid (KeysOk z2 u.heap.size (.map (some m)) (last++[f])):=Or.inr ⟨m,rfl,bp,bq⟩
      have a2:Hid (ds.length+(last++[f]).length<=k+1):=by have:=aL.out;show _<=_;rw[List.length_append];show _+(_+1)<=_;omega
      clear aw ak ao bp ae bq
      go_wp2_with fail
      go_roundw
      case rel=>exact⟨k+1,acc,last++[f],ds,_,_,_,by go_num,by omega,a1,a7,by show readL _ _ _ _=R;rw[bf.out];exact a0.out,aQ,a2⟩
      case measure=>simp[intOf];omega
  ·obtain rfl:k=n:=by omega
   have al:Hid (R=(0,0,if last=[] then acc else acc++[last])):=by
    show _=_
    rw[<-bl.out,List.drop_eq_nil_of_le (by rw[HN.out];exact Nat.le_refl _)]
    cases last <;> rfl
   have ik:¬ (k:Int)<(k:Int):=by omega
   go_wp2_with fail
   refine (dw ay.out (by have:=aL.out;have:=aC.out;have:=av.out;omega) af.out.2).mono ?_
   rintro _ z ⟨rfl,ak,ao,u0,u1,az,ae⟩
   have aF:Hid (Below D w z):=ar.out.1.trans (dk (aM af.out.1 ak) (Nat.le_trans (by rw[HD.out];exact Nat.le_refl _) ar.out.2))
   obtain⟨A2,c2,bx,aq,_,_⟩:=Rg.aA fitsO ae.2.2.1
   have aH:=ae.2.2.2.1
   have bv:Hid (∀ x∈az,x.2.1<=x.2.2):=ae.1
   subst bx
   obtain⟨e0,_,_,_,_,_⟩:=aR ae
   have aI:=zh aq
   have aJ:=zh aH
   clear ak ao ae aq aH
   go_wp2_with fail
   go_ret
   show ReadRet w R _ _
   rw[al.out]
   refine⟨by rw[HD.out];exact aF.out,?_⟩
   show if (0:Int)=0 then _ else _
   rw[if_pos rfl]
   exact⟨A2,c2,az,congrArg (fun x=>Ending.returned (Value.slice A2 x c2)) aJ.out.1,aI.out,aJ.out,bv.out⟩
theorem rr (s:List UInt8)(w:World)(hs:65536<s.length) :
  Calls Tryz.prog 83 #[.string ⟨s.toArray⟩] w fun e w'=>e=pan 4/\w=w':=by
 have dl:decide ((s.length:Int)<=65536)=false:=decide_eq_false (by omega)
 clear hs
 go_enter Tryz.func83,Tryz.ntmps83
 go_wp2_with fail
 refine (ai _).mono ?_
 rintro _ z ⟨rfl,rfl⟩
 go_wp2_with fail
 exact⟨rfl,rfl,rfl⟩
theorem ru (s:List UInt8)(w:World)(hs:s.length<=65536)(h0:s≠[])(h1:Lib.hasSuffix s [10]=false) :
  Calls Tryz.prog 83 #[.string ⟨s.toArray⟩] w fun e w'=>e=pan 2/\w=w':=by
 have dl:decide ((s.length:Int)<=65536)=true:=decide_eq_true (by omega)
 have ac:(s==[])=false:=beq_eq_false_iff_ne.2 h0
 have aa:=zh h1
 have ab:=zh hs
 clear h1 h0 hs
 go_enter Tryz.func83,Tryz.ntmps83
 go_wp2_with fail
 refine (ag _).mono ?_
 rintro _ z ⟨rfl,rfl⟩
 go_wp2_with fail
 refine (Tryz.strings_HasSuffix ⟨s.toArray⟩ ⟨#[10]⟩ _ (by show s.length<=_;have:=ab.out;omega)).mono ?_
 rintro _ z ⟨rfl,hz⟩
 obtain rfl:=hz.symm
 clear hz
 rw[show Lib.hasSuffix (⟨s.toArray⟩:ByteArray).data.toList (⟨#[10]⟩:ByteArray).data.toList=false from aa.out]
 go_wp2_with fail
 refine (ai _).mono ?_
 rintro _ z ⟨rfl,rfl⟩
 go_wp2_with fail
 exact⟨rfl,rfl,rfl⟩
theorem tK (s:List UInt8)(w:World)(hw:MaxOk w) :
  Calls Tryz.prog 83 #[.string ⟨s.toArray⟩] w fun e w'=>if 65536<s.length then e=pan 4/\w=w' else if endB s=true then ReadRet w (readL 0 (linesL s) [] []) e w' else e=pan 2/\w=w':=by
 by_cases hl:65536<s.length
 ·exact (rr s w hl).mono fun _ _ h=>by rw[if_pos hl];exact h
 ·have hs:s.length<=65536:=by omega
  by_cases h0:s=[]
  ·exact (rq s w hw hs h0).mono fun _ _ h=>by rw[if_neg hl,if_pos (by rw[h0];rfl)];exact h
  ·have aa:endB s=Lib.hasSuffix s [10]:=by
    unfold endB
    rw[wo,List.isEmpty_eq_false_iff.2 h0,Bool.false_or]
   cases h1:Lib.hasSuffix s [10]
   ·exact (ru s w hs h0 h1).mono fun _ _ h=>by rw[if_neg hl,if_neg (by rw[aa,h1];decide)];exact h
   ·exact (rp s w hw hs h0 h1).mono fun _ _ h=>by rw[if_neg hl,if_pos (by rw[aa,h1])];exact h
end
section
open Go.RowKit
theorem jt (p q:Addr)(x y n:Int)(w:World)(hc:w.cell? p=some (.int .i64 x))(hz:w.frozen? p=false)(hc2:(w.setCell p (.int .i64 0)).cell? q=some (.int .i64 y))(hz2:(w.setCell p (.int .i64 0)).frozen? q=false) :
  CallsD Tryz.prog 82 #[.pointer (some p),.pointer (some q)] (.panicking [{ v:=.iface 29 (.int .i64 n),recovered:=false }]) w fun e u' w' =>
   e=.returned (.tuple #[])/\u'=.panicking [{ v:=.iface 29 (.int .i64 n),recovered:=true }]/\w'=(w.setCell p (.int .i64 0)).setCell q (.int .i64 n):=by
 refine callsD_of_wpS Tryz.func82 rfl fun c₀ cs hu=>?_
 apply wpS_region
 simp[wpOpsS,go_sem,recoverD,hu,Tryz.ntmps82]
 refine (dt n _).mono ?_
 rintro e w' ⟨rfl,rfl⟩
 simp[go_sem,hc,hz,hc2,hz2,bodyPostS,results,Tryz.results82]
theorem o6 (p q:Addr)(x y k n:Int)(w:World)(hc:∀ u,Below w.heap.size w u->u.cell? p=some (.int .i64 x))(hz:∀ u,Below w.heap.size w u->u.frozen? p=false)(hc2:∀ u,Below w.heap.size w u->(u.setCell p (.int .i64 k)).cell? q=some (.int .i64 y))(hz2:∀ u,Below w.heap.size w u->(u.setCell p (.int .i64 k)).frozen? q=false) :
  CallsD Tryz.prog 82 #[.pointer (some p),.pointer (some q)] (.panicking [{ v:=.iface 98 (.agg #[.int .i64 k,.int .i64 n]),recovered:=false }]) w fun e u' w' =>
   e=.returned (.tuple #[])/\u'=.panicking [{ v:=.iface 98 (.agg #[.int .i64 k,.int .i64 n]),recovered:=true }]/\∃ u,Below w.heap.size w u/\w'=(u.setCell p (.int .i64 k)).setCell q (.int .i64 n):=by
 refine callsD_of_wpS Tryz.func82 rfl fun c₀ cs hu=>?_
 apply wpS_region
 simp[wpOpsS,go_sem,recoverD,hu,Tryz.ntmps82]
 refine (bq k n _).mono ?_
 rintro e w' ⟨rfl,hb⟩
 simp[go_sem,hc _ hb,hz _ hb,hc2 _ hb,hz2 _ hb,bodyPostS,results,Tryz.results82]
 exact⟨w',hb,rfl⟩
theorem tL (p q:Addr)(x y:Int)(w:World)(hc:w.cell? p=some (.int .i64 x))(hz:w.frozen? p=false)(hc2:(w.setCell p (.int .i64 0)).cell? q=some (.int .i64 y))(hz2:(w.setCell p (.int .i64 0)).frozen? q=false) :
  CallsD Tryz.prog 82 #[.pointer (some p),.pointer (some q)] .returning w fun e u' w'=>e=.returned (.tuple #[])/\u'=.returning/\w'=(w.setCell p (.int .i64 0)).setCell q (.int .i64 0):=by
 refine callsD_of_wpS Tryz.func82 rfl fun c₀ cs hu=>?_
 apply wpS_region
 simp[wpOpsS,go_sem,recoverD,hu,Tryz.ntmps82]
 refine (bT _).mono ?_
 rintro e w' ⟨rfl,rfl⟩
 cases c₀
 simp_all [go_sem,bodyPostS,results,Tryz.results82]
end
namespace Sz
theorem ry:∀ (i:Nat) (s:List UInt8) (c:UInt8),(s.take i).all Vm.ltr=true->s[i]?=some c->Vm.ltr c=false->(s.takeWhile Vm.ltr).length=i
 | 0,[],c,_,h,_=>by cases h
 | 0,b :: s,c,_,h,hc=>by
  cases h
  rw[List.takeWhile_cons,if_neg (by rw[hc];decide)];rfl
 | i+1,[],c,_,h,_=>by cases h
 | i+1,b :: s,c,ha,h,hc=>by
  rw[List.take_succ_cons,List.all_cons,Bool.and_eq_true] at ha
  rw[List.takeWhile_cons,if_pos ha.1,List.length_cons,ry i s c ha.2 h hc]
theorem kQ {s:List UInt8}{k:Nat}:Lib.occAt s mark k=true↔(s[k]?=some 58/\s[k+1]?=some 32):=by
 unfold Lib.occAt
 rw[List.isPrefixOf_iff_prefix]
 constructor
 ·rintro⟨t,ht⟩
  have h0:(s.drop k)[0]?=some 58:=by rw[<-ht];rfl
  have h1:(s.drop k)[1]?=some 32:=by rw[<-ht];rfl
  rw[List.getElem?_drop] at h0 h1
  exact⟨h0,h1⟩
 ·rintro⟨h0,h1⟩
  obtain⟨hk,e0⟩:=List.getElem?_eq_some_iff.1 h0
  obtain⟨aa,e1⟩:=List.getElem?_eq_some_iff.1 h1
  refine⟨s.drop (k+2),?_⟩
  rw[List.drop_eq_getElem_cons hk,List.drop_eq_getElem_cons aa,e0,e1];rfl
theorem gA (s:List UInt8)(p:UInt8->Bool):s.take (s.takeWhile p).length=s.takeWhile p:=by
 induction s with
 | nil=>rfl
 | cons b s ih =>
  rw[List.takeWhile_cons]
  split
  ·rw[List.length_cons,List.take_succ_cons,ih]
  ·rfl
theorem yq (s:List UInt8)(p:UInt8->Bool):(s.takeWhile p).all p=true:=by
 rw[List.all_eq_true];intro x hx
 induction s with
 | nil=>cases hx
 | cons b s ih =>
  rw[List.takeWhile_cons] at hx
  split at hx
  ·rename_i hb
   rcases List.mem_cons.1 hx with rfl | hx
   ·exact hb
   ·exact ih hx
  ·cases hx
def kLen (s:List UInt8):Nat:=(s.takeWhile Vm.ltr).length
theorem acs {s:List UInt8}{i:Nat}(hi:i<s.length)(h:i<kLen s):Vm.ltr s[i]=true:=by
 have h1:=yq s Vm.ltr
 rw[<-gA,List.all_eq_true] at h1
 refine h1 _ ?_
 have e:s[i]=(s.take (kLen s))[i]'(by rw[List.length_take];omega):=by rw[List.getElem_take]
 rw[e];exact List.getElem_mem _
theorem wv (s:List UInt8)(n:Int):fieldP s n=if 1<=kLen s/\kLen s<=16/\s[kLen s]?=some 58/\s[kLen s+1]?=some 32/\valB (s.drop (kLen s+2))=true then some ⟨s.take (kLen s),s.drop (kLen s+2),n⟩ else none:=by
 have key:∀ i:Nat,Lib.index s mark=i->(0<=Lib.index s mark/\keyB (s.take (Lib.index s mark).toNat)=true/\valB (s.drop ((Lib.index s mark).toNat+2))=true)->kLen s=i/\1<=i/\i<=16/\s[i]?=some 58/\s[i+1]?=some 32/\valB (s.drop (i+2))=true:=by
  rintro i hi ⟨_,h1,h2⟩
  rw[hi] at h1 h2
  have ho:Lib.occAt s mark i=true:=by
   rcases Lib.index_spec s mark with⟨h1,_⟩ | ⟨j,h1,_,h3,_⟩
   ·omega
   ·have:j=i:=by omega
    exact this ▸ h3
  obtain⟨o0,o1⟩:=kQ.1 ho
  have ad:i<s.length:=(List.getElem?_eq_some_iff.1 o0).1
  have aa:keyB (s.take i)=true:=h1
  unfold keyB at aa
  rw[Bool.and_eq_true,Bool.and_eq_true,decide_eq_true_eq,List.length_take] at aa
  obtain⟨a1,a2,a3⟩:=aa
  have hk:kLen s=i:=ry i s 58 a1 o0 (by decide)
  have ae:i≠0:=fun e=>by subst e;simp at a2
  exact⟨hk,by omega,by omega,o0,o1,h2⟩
 unfold fieldP
 split
 ·rename_i hc
  obtain⟨i,hi⟩:∃ i:Nat,Lib.index s mark=i:=⟨(Lib.index s mark).toNat,by omega⟩
  obtain⟨h1,h2,h3,h4,h5,h6⟩:=key i hi hc
  rw[h1,if_pos ⟨h2,h3,h4,h5,h6⟩,hi];rfl
 ·rename_i hc
  rw[if_neg]
  rintro⟨h2,h3,h4,h5,h6⟩
  refine hc ?_
  have ac:=(List.getElem?_eq_some_iff.1 h4).1
  have hi:Lib.index s mark=kLen s:=by
   refine Lib.index_first (by omega) (kQ.2 ⟨h4,h5⟩) fun j hj=>?_
   cases ho:Lib.occAt s mark j with
   | false=>rfl
   | true =>
    have ab:j<s.length:=by omega
    have:=(kQ.1 ho).1
    rw[List.getElem?_eq_getElem ab] at this
    have h7:=acs ab hj
    rw[Option.some.inj this] at h7
    exact absurd h7 (by decide)
  rw[hi]
  refine⟨by omega,?_,h6⟩
  show keyB (s.take (kLen s))=true
  unfold keyB
  rw[Bool.and_eq_true,Bool.and_eq_true,decide_eq_true_eq,List.length_take]
  refine⟨by unfold kLen;rw[gA];exact yq _ _,?_,by omega⟩
  cases s with
  | nil=>simp at ac
  | cons b s =>
   obtain⟨j,hj⟩:∃ j,kLen (b :: s)=j+1:=⟨kLen (b :: s)-1,by omega⟩
   rw[hj];rfl
def getF (l:List Fld) (k:List UInt8):Option Fld:=l.find? (fun f=>f.key==k)
theorem rz (l:List Fld)(k:List UInt8):(getF l k).isSome=hasK l k:=by
 unfold getF hasK
 induction l with
 | nil=>rfl
 | cons f l ih =>
  rw[List.find?_cons,List.any_cons]
  cases f.key==k with
  | true=>rfl
  | false=>exact ih
def placeOf (keys:List (List UInt8)) (k:List UInt8):Option Nat:=keys.findIdx? (. == k)
def ordP (keys:List (List UInt8)):Nat->Int->List Fld->Int × Int
 | _,_,[]=>(0,0)
 | i,last,f :: l=>match placeOf keys f.key with
  | none=>(i,10)
  | some p=>if last<p then ordP keys (i+1) p l else (i,7)
theorem ju (n:Nat)(acc:List (List Fld))(last:List Fld):readL n [] acc last=(0,0,if last.isEmpty then acc else acc++[last]):=by unfold readL;rfl
theorem eF (n:Nat)(s:List UInt8)(ls:List (List UInt8))(acc:List (List Fld))(last:List Fld):readL n (s :: ls) acc last=if s.isEmpty then (if last.isEmpty||ls.isEmpty then (2,(n:Int),[]) else readL (n+1) ls (acc++[last]) [])
  else match fieldP s n with
   | none=>(2,(n:Int),[])
   | some f=>if hasK last f.key then (6,(n:Int),[]) else readL (n+1) ls acc (last++[f]):=by
 rw[readL];rfl
end Sz
section
open Go.RowKit Go.Maps Sz
attribute [local go_sem ↓] Go.wp_at_zero Go.wp_at_succ
def Sz.NotAt (b:Nat) (A:Option Addr) (ds:List Desc) (t:List (List Fld)):Prop:=(0<ds.length->∀ a,A=some a->a.block≠b)/\Gr.Free (.slice (some ⟨b,0,none⟩) 0 0) ds t
theorem Sz.cL {w:World}{b:Nat}{x:Int}{T:TypeId}{q:Addr}{v:Value}(hb:w.heap[b]?=some (.cells #[.int .i64 x] T (0,0)))(hq:q.block=b)(hc:w.cell? q=some v):v=.int .i64 x:=by
 unfold World.cell? at hc
 rw[hq,hb] at hc
 dsimp only at hc
 split at hc
 ·cases hc
 ·match h3:q.off with
  | 0=>rw[h3] at hc;exact (Option.some.inj hc).symm
  | k+1=>rw[h3] at hc;simp at hc
theorem Sz.oh {w:World}{A:Option Addr}{ds:List Desc}{t:List (List Fld)}{b:Nat}{x:Int}{T:TypeId}(h1:Rg.Row encO 1 w A ds)(h2:Gr.In encF 3 w ds t)(hb:w.heap[b]?=some (.cells #[.int .i64 x] T (0,0))):NotAt b A ds t:=by
 refine⟨fun h0 a ha e=>?_,fun i d l e1 e2 h0 a ha e=>?_⟩
 ·obtain⟨a2,e2,_,hc⟩:=h1 h0
  rw[ha] at e2;cases e2
  have:=hc 0 h0 0 _ rfl
  rw[if_pos rfl] at this
  have:=cL hb (by rw[Rs.add_block];exact e) this
  cases this
 ·obtain⟨a2,e3,_,hc⟩:=(h2.2 i d l e1 e2).2 h0
  rw[ha] at e3;cases e3
  have:=hc 0 h0 0 _ rfl
  rw[if_pos rfl] at this
  have:=cL hb (by rw[Rs.add_block];exact (Option.some.inj e).symm) this
  cases this
theorem Sz.fT {w:World}{A:Option Addr}{ds:List Desc}{t:List (List Fld)}{b:Nat}(h:Rg.Row encO 1 w A ds/\Gr.In encF 3 w ds t)(hn:NotAt b A ds t)(x:Value):Rg.Row encO 1 (w.setCell ⟨b,0,none⟩ x) A ds/\Gr.In encF 3 (w.setCell ⟨b,0,none⟩ x) ds t :=
 ⟨db h.1 (b6 w ⟨b,0,none⟩ x) (fun h0 a ha e=>hn.1 h0 a ha (Option.some.inj e).symm),dK h.2 (b6 w ⟨b,0,none⟩ x) hn.2⟩
def Sz.PRet (w:World) (X:Int × Int × List (List Fld)) (e:Ending) (w':World):Prop :=
 ∃ A c,e=.returned (.tuple #[.slice A X.2.2.length c,.int .i64 X.2.1,.int .i64 X.1])/\Gr.Row encF 3 w' A X.2.2/\Below w.heap.size w w'
def Sz.PRetC (w:World) (X:Int × Int × List (List Fld)) (e:Ending) (w':World):Prop :=
 ∃ A c,e=.returned (.tuple #[.slice A X.2.2.length c,.int .i64 X.2.1,.int .i64 X.1])/\(∃ ds,Rg.Row encO 1 w' A ds/\Gr.In encF 3 w' ds X.2.2/\∀ x∈ds,x.2.1<=x.2.2)/\Below w.heap.size w w'
theorem Sz.pretC {w:World}{X:Int × Int × List (List Fld)}{e:Ending}{w':World}(h:PRetC w X e w'):PRet w X e w':=by
 obtain⟨A,c,h1,⟨ds,h2,h3,_⟩,h4⟩:=h
 exact⟨A,c,h1,⟨ds,h2,h3⟩,h4⟩
theorem Sz.cq {w u:World}{X:Int × Int × List (List Fld)}{k n:Int}(hX:X=(k,n,[]))(hb:Below w.heap.size w u)(x y:Value):PRetC w X (.returned (.tuple #[.slice none 0 0,.int .i64 n,.int .i64 k])) ((u.setCell ⟨w.heap.size,0,none⟩ x).setCell ⟨w.heap.size+1,0,none⟩ y):=by
 subst hX
 exact⟨none,0,rfl,⟨[],fun h=>absurd h (by decide),⟨rfl,fun i d l h=>by simp at h⟩,fun x hx=>by cases hx⟩,(hb.setCell (Nat.le_refl _) _).setCell (Nat.le_succ _) _⟩
theorem Sz.jv:∀ (ls:List (List UInt8)) (n:Nat) (acc:List (List Fld)) (last:List Fld) (k m:Int) (r:List (List Fld)),readL n ls acc last=(k,m,r)->k≠0->r=[]
 | [],n,acc,last,k,m,r,h,hk=>by rw[ju] at h;cases h;exact absurd rfl hk
 | s :: ls,n,acc,last,k,m,r,h,hk=>by
  rw[eF] at h
  split at h
  ·split at h
   ·cases h;rfl
   ·exact jv ls _ _ _ k m r h hk
  ·cases hf:fieldP s n with
   | none=>rw[hf] at h;cases h;rfl
   | some f =>
    rw[hf] at h;dsimp only at h
    split at h
    ·cases h;rfl
    ·exact jv ls _ _ _ k m r h hk
def Sz.P2 (b:Nat) (u:World):Prop:=u.heap[b]?=some (.cells #[.int .i64 0] 3 (0,0))/\u.heap[b+1]?=some (.cells #[.int .i64 0] 29 (0,0))
theorem Sz.mg {w W1 W2 u:World}(h1:w.alloc (.cells #[.int .i64 0] 3)=W1)(h2:W1.alloc (.cells #[.int .i64 0] 29)=W2)(hb:Below W2.heap.size W2 u):P2 w.heap.size u:=by
 have aa:W1.heap.size=w.heap.size+1:=by rw[<-h1];simp
 have ac:W2.heap.size=w.heap.size+2:=by rw[<-h2];simp[aa]
 refine⟨(hb.block _ (by omega)).trans ?_,(hb.block _ (by omega)).trans ?_⟩
 ·rw[((ab h2).block _ (by omega)),<-h1];exact heap_alloc_new w _
 ·rw[<-h2,<-aa];exact heap_alloc_new W1 _
theorem Sz.aD {b:Nat}{u:World}(h:P2 b u):u.cell? ⟨b,0,none⟩=some (.int .i64 0)/\u.frozen? ⟨b,0,none⟩=false/\u.cell? ⟨b+1,0,none⟩=some (.int .i64 0)/\u.frozen? ⟨b+1,0,none⟩=false:=by
 obtain⟨h1,h2⟩:=h
 refine⟨?_,?_,?_,?_⟩ <;> simp[World.cell?,World.frozen?,h1,h2]
theorem Sz.aE {b:Nat}{u:World}(h:P2 b u)(x:Value):(u.setCell ⟨b,0,none⟩ x).cell? ⟨b,0,none⟩=some x/\(u.setCell ⟨b,0,none⟩ x).frozen? ⟨b,0,none⟩=false/\(u.setCell ⟨b,0,none⟩ x).cell? ⟨b+1,0,none⟩=some (.int .i64 0)/\(u.setCell ⟨b,0,none⟩ x).frozen? ⟨b+1,0,none⟩=false:=by
 obtain⟨h1,h2,h3,h4⟩:=aD h
 refine⟨by simp[go_sem,h1],by simp[go_sem,h2],?_,by simp[go_sem,h4]⟩
 rw[World.cell?_setCell_far _ _ _ _ (by show b≠b+1;omega)];exact h3
theorem Sz.br {b:Nat}{u:World}(h:P2 b u)(x y:Value):((u.setCell ⟨b,0,none⟩ x).setCell ⟨b+1,0,none⟩ y).cell? ⟨b,0,none⟩=some x/\((u.setCell ⟨b,0,none⟩ x).setCell ⟨b+1,0,none⟩ y).cell? ⟨b+1,0,none⟩=some y:=by
 obtain⟨h1,h2,h3,h4⟩:=aE h x
 refine⟨?_,by simp[go_sem,h3]⟩
 rw[World.cell?_setCell_far _ _ _ _ (by show b+1≠b;omega)];exact h1
theorem Sz.fo {b:Nat}{u:World}(h:P2 b u):P2 b ((u.setCell ⟨b,0,none⟩ (.int .i64 0)).setCell ⟨b+1,0,none⟩ (.int .i64 0)):=by
 obtain⟨h1,h2⟩:=h
 have g1:(u.setCell ⟨b,0,none⟩ (.int .i64 0)).heap[b]?=some (.cells #[.int .i64 0] 3 (0,0)):=by simp[World.setCell,Array.getElem?_modify,h1]
 have g2:(u.setCell ⟨b,0,none⟩ (.int .i64 0)).heap[b+1]?=some (.cells #[.int .i64 0] 29 (0,0)):=by simp[World.setCell,Array.getElem?_modify,h2]
 refine⟨?_,?_⟩
 ·rw[Below.heap_setCell _ _ _ _ (by show b≠b+1;omega)];exact g1
 ·obtain⟨v,hv⟩:=ex (u.setCell ⟨b,0,none⟩ (.int .i64 0))
  rw[hv] at g2 ⊢
  simp[World.setCell,Array.getElem?_modify,g2]
theorem mh (s:List UInt8)(w:World)(hw:MaxOk w) :
  Calls Tryz.prog 52 #[.string ⟨s.toArray⟩] w (Sz.PRetC w (parseS s)):=by
 have aw:∀ (fn:Fn) (first cap:Array Value) (w:World),(Instr.makeFunc fn first cap).run Tryz.prog w=.ok (.func fn first cap) w:=fun _ _ _ _=>rfl
 obtain⟨X,hX⟩:=ex (parseS s)
 rw[hX]
 unfold parseS at hX
 obtain⟨W1,af⟩:=ex (w.alloc (.cells #[.int .i64 0] 3))
 obtain⟨W2,ah⟩:=ex (W1.alloc (.cells #[.int .i64 0] 29))
 have ac:Hid (∀ u,Below W2.heap.size W2 u->P2 w.heap.size u):=fun u hb=>mg af ah hb
 have ap:W1.heap.size=w.heap.size+1:=by rw[<-af];simp
 have al:W2.heap.size=w.heap.size+2:=by rw[<-ah];simp[ap]
 have ae:Hid (Below w.heap.size w W2):=(ab af).trans ((ab ah).mono (ab af).size)
 have aq:=zh al
 have ag:=zh (tK s W2 (aa hw ae.out))
 clear hw al
 by_cases hl:65536<s.length
 ·rw[if_pos hl] at hX
  have HX:Hid (X=(4,0,[])):=hX.symm
  have ad:Hid (Calls Tryz.prog 83 #[.string ⟨s.toArray⟩] W2 fun e w'=>e=pan 4/\W2=w'):=ag.out.mono fun _ _ h=>by rw[if_pos hl] at h;exact h
  clear hX ag hl
  go_enter_defers Tryz.func52,Tryz.ntmps52
  go_wp2_with fail
  clear af ah
  refine ad.out.mono ?_
  rintro _ z1 ⟨rfl,rfl⟩
  obtain⟨c0,f0,c1,f1⟩:=aD (ac.out _ (Below.refl _ _))
  obtain⟨d0,g0,d1,g1⟩:=aE (ac.out _ (Below.refl _ _)) (.int .i64 0)
  obtain⟨q0,q1⟩:=br (ac.out _ (Below.refl _ _)) (.int .i64 0) (.int .i64 4)
  go_wp2_with fail
  refine leaves_cons (f:=82) (args:=#[.pointer (some ⟨w.heap.size,0,none⟩),.pointer (some ⟨w.heap.size+1,0,none⟩)]) (by simp) (by simp[go_sem]) ?_
  refine (jt ⟨w.heap.size,0,none⟩ ⟨w.heap.size+1,0,none⟩ 0 0 4 _ c0 f0 d1 g1).mono ?_
  rintro e u' w3 ⟨rfl,rfl,rfl⟩
  simp[Leaves,settle,results,Tryz.results52,go_sem,q0,q1]
  exact Sz.cq HX.out (ae.out.trans ((Below.refl _ _).mono ae.out.size)) _ _
 rw[if_neg hl] at hX
 cases he:endB s
 ·rw[if_neg (by rw[he];decide)] at hX
  have HX:Hid (X=(2,0,[])):=hX.symm
  have ad:Hid (Calls Tryz.prog 83 #[.string ⟨s.toArray⟩] W2 fun e w'=>e=pan 2/\W2=w'):=ag.out.mono fun _ _ h=>by rw[if_neg hl,if_neg (by rw[he];decide)] at h;exact h
  clear hX ag hl he
  go_enter_defers Tryz.func52,Tryz.ntmps52
  go_wp2_with fail
  clear af ah
  refine ad.out.mono ?_
  rintro _ z1 ⟨rfl,rfl⟩
  obtain⟨c0,f0,c1,f1⟩:=aD (ac.out _ (Below.refl _ _))
  obtain⟨d0,g0,d1,g1⟩:=aE (ac.out _ (Below.refl _ _)) (.int .i64 0)
  obtain⟨q0,q1⟩:=br (ac.out _ (Below.refl _ _)) (.int .i64 0) (.int .i64 2)
  go_wp2_with fail
  refine leaves_cons (f:=82) (args:=#[.pointer (some ⟨w.heap.size,0,none⟩),.pointer (some ⟨w.heap.size+1,0,none⟩)]) (by simp) (by simp[go_sem]) ?_
  refine (jt ⟨w.heap.size,0,none⟩ ⟨w.heap.size+1,0,none⟩ 0 0 2 _ c0 f0 d1 g1).mono ?_
  rintro e u' w3 ⟨rfl,rfl,rfl⟩
  simp[Leaves,settle,results,Tryz.results52,go_sem,q0,q1]
  exact Sz.cq HX.out (ae.out.trans ((Below.refl _ _).mono ae.out.size)) _ _
 rw[if_pos he] at hX
 have ad:Hid (Calls Tryz.prog 83 #[.string ⟨s.toArray⟩] W2 (ReadRet W2 X)):=ag.out.mono fun _ _ h=>by rw[if_neg hl,if_pos he,hX] at h;exact h
 obtain⟨k,n,r⟩:=X
 have aj:Hid (k≠0->r=[]):=jv _ _ _ _ k n r hX
 have ar:Hid (k=0->n=0):=fun h=>by
  have h2:parseS s=(0,n,r):=by unfold parseS;rw[if_neg hl,if_pos he,hX,h]
  exact (Sz.wi h2).1
 clear hX ag hl he
 go_enter_defers Tryz.func52,Tryz.ntmps52
 go_wp2_with fail
 clear af ah
 refine ad.out.mono ?_
 rintro e z1 ⟨hb,hr⟩
 have HB:=zh hb
 clear hb
 by_cases hk:k=0
 ·subst hk
  obtain⟨A,c,ds,rfl,h1,h2,ao⟩:∃ A c ds,e=.returned (.slice A r.length c)/\Rg.Row encO 1 z1 A ds/\Gr.In encF 3 z1 ds r/\∀ x∈ds,x.2.1<=x.2.2:=by rw[if_pos rfl] at hr;exact hr
  have au:=zh ao
  obtain rfl:=ar.out rfl
  have ai:Hid (NotAt w.heap.size A ds r/\NotAt (w.heap.size+1) A ds r):=⟨oh h1 h2 (ac.out _ HB.out).1,oh h1 h2 (ac.out _ HB.out).2⟩
  have HR:=zh (fT (fT ⟨h1,h2⟩ ai.out.1 (.int .i64 0)) ai.out.2 (.int .i64 0))
  obtain⟨c0,f0,c1,f1⟩:=aD (ac.out _ HB.out)
  obtain⟨d0,g0,d1,g1⟩:=aE (ac.out _ HB.out) (.int .i64 0)
  have ak:=zh (fo (ac.out _ HB.out))
  have av:Hid (Below w.heap.size w ((z1.setCell ⟨w.heap.size,0,none⟩ (.int .i64 0)).setCell ⟨w.heap.size+1,0,none⟩ (.int .i64 0))):=((bt ae.out HB.out).setCell (Nat.le_refl _) _).setCell (Nat.le_succ _) _
  clear hr h1 h2 ao
  go_wp2_with fail
  generalize (z1.setCell ⟨w.heap.size,0,none⟩ (.int .i64 0)).setCell ⟨w.heap.size+1,0,none⟩ (.int .i64 0)=V at *
  obtain⟨k0,m0,k1,m1⟩:=aD ak.out
  obtain⟨l0,o0,l1,o1⟩:=aE ak.out (.int .i64 0)
  obtain⟨q0,q1⟩:=br ak.out (.int .i64 0) (.int .i64 0)
  have am:=zh (fT (fT HR.out ai.out.1 (.int .i64 0)) ai.out.2 (.int .i64 0))
  refine leaves_cons (f:=82) (args:=#[.pointer (some ⟨w.heap.size,0,none⟩),.pointer (some ⟨w.heap.size+1,0,none⟩)]) (by simp) (by simp[go_sem]) ?_
  refine (tL ⟨w.heap.size,0,none⟩ ⟨w.heap.size+1,0,none⟩ 0 0 _ k0 m0 l1 o1).mono ?_
  rintro e u' w3 ⟨rfl,rfl,rfl⟩
  simp[Leaves,settle,results,Tryz.results52,go_sem,q0,q1]
  exact⟨A,c,rfl,⟨ds,am.out.1,am.out.2,au.out⟩,(av.out.setCell (Nat.le_refl _) _).setCell (Nat.le_succ _) _⟩
 ·obtain rfl:e=panAt n k:=by rw[if_neg hk] at hr;exact hr
  obtain rfl:=aj.out hk
  clear hr hk
  go_wp2_with fail
  refine leaves_cons (f:=82) (args:=#[.pointer (some ⟨w.heap.size,0,none⟩),.pointer (some ⟨w.heap.size+1,0,none⟩)]) (by simp) (by simp[go_sem]) ?_
  refine (o6 ⟨w.heap.size,0,none⟩ ⟨w.heap.size+1,0,none⟩ 0 0 n k _ (fun u hb=>(aD (ac.out _ (bt HB.out hb))).1) (fun u hb=>(aD (ac.out _ (bt HB.out hb))).2.1) (fun u hb=>(aE (ac.out _ (bt HB.out hb)) _).2.2.1) (fun u hb=>(aE (ac.out _ (bt HB.out hb)) _).2.2.2)).mono ?_
  rintro e u' w3 ⟨rfl,rfl,u,hb,rfl⟩
  have an:=zh (bt HB.out hb)
  obtain⟨q0,q1⟩:=br (ac.out _ an.out) (.int .i64 n) (.int .i64 k)
  simp[Leaves,settle,results,Tryz.results52,go_sem,q0,q1]
  exact Sz.cq rfl (bt ae.out an.out) _ _
theorem mi (s:List UInt8)(w:World)(hw:MaxOk w) :
  Calls Tryz.prog 52 #[.string ⟨s.toArray⟩] w (Sz.PRet w (parseS s)):=(mh s w hw).mono fun _ _ h=>pretC h
end
end Go.Proofs.YtkoaljpfoekgkaaGreatDoor
