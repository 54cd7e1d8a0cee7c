/- Part 23 of what the laws lean on. -/
import Derived.Test.YtkoaljpfoekgkaaGreatDoorM22
set_option maxRecDepth 100000
set_option maxHeartbeats 6400000
namespace Go.Proofs.YtkoaljpfoekgkaaGreatDoor
section
open Go.RowKit Go.Maps Sz
attribute [local go_sem ↓] Go.wp_at_zero Go.wp_at_succ
def Sz.FBk (b:Nat) (k v:List UInt8) (n:Int) (u:World):Prop:=u.heap[b]?=some (.cells #[.string ⟨k.toArray⟩,.string ⟨v.toArray⟩,.int .i64 n] 108 (0,0))
theorem Sz.vd {w W1:World}{k v:List UInt8}{n:Int}(h:w.alloc (.cells #[.string ⟨k.toArray⟩,.string ⟨v.toArray⟩,.int .i64 n] 108)=W1):FBk w.heap.size k v n W1:=by
 subst h;exact heap_alloc_new w _
theorem Sz.b8 {b:Nat}{k v:List UInt8}{n:Int}{u:World}(h:FBk b k v n u):u.cell? ⟨b,0,none⟩=some (.string ⟨k.toArray⟩)/\u.cell? ⟨b,1,none⟩=some (.string ⟨v.toArray⟩)/\u.cell? ⟨b,2,none⟩=some (.int .i64 n):=by
 unfold FBk at h
 refine⟨?_,?_,?_⟩ <;> simp[World.cell?,h]
theorem Sz.dP {b c:Nat}{k v:List UInt8}{n:Int}{u u':World}(h:FBk b k v n u)(hk:Lib.OthersKept 5 (some c) u u')(hne:c<b):FBk b k v n u' :=
 hk b _ h (by simp;omega) (fun cs fz e=>by
  have:=(Obj.cells.inj e).2.1
  exact absurd this (by decide))
theorem Sz.jC (l:List Fld)(i:Nat)(hi:i<l.length):stanzaT (l.take (i+1))=stanzaT (l.take i)++fieldT l[i]:=by
 rw[List.take_succ_eq_append_getElem hi,jn]
theorem Sz.mx (l:List Fld)(i:Nat):(stanzaT (l.take i)).length<=(stanzaT l).length:=by
 have h:stanzaT l=stanzaT (l.take i)++stanzaT (l.drop i):=by
  unfold stanzaT;rw[<-List.flatMap_append,List.take_append_drop]
 rw[h,List.length_append];omega
theorem Sz.wE (t:List (List Fld))(k:Nat)(hk:k<t.length):textS (t.take (k+1))=textS (t.take k)++(if k=0 then [] else [10])++stanzaT t[k]:=by
 rw[List.take_succ_eq_append_getElem hk,bF]
 by_cases h:k=0
 ·subst h;rw[if_pos rfl];rfl
 ·rw[if_neg h,if_neg]
  simp;exact⟨h,fun e=>by subst e;simp at hk⟩
theorem Sz.jD (a:List (List Fld)):∀ n (b:List (List Fld)),b.length=n->(textS a).length<=(textS (a++b)).length
 | 0,b,h=>by rw[List.length_eq_zero_iff.1 h,List.append_nil];exact Nat.le_refl _
 | n+1,b,h=>by
  rcases List.eq_nil_or_concat b with rfl | ⟨c,x,rfl⟩
  ·simp at h
  ·rw[List.concat_eq_append] at h ⊢
   have hc:c.length=n:=by simp at h;exact h
   have ih:=jD a n c hc
   rw[<-List.append_assoc,bF,List.length_append]
   split
   ·rename_i he
    have:a++c=[]:=by simpa using he
    rw[this] at ih
    have h0:(textS ([]:List (List Fld))).length=0:=rfl
    omega
   ·rw[List.length_append];omega
theorem Sz.aa9 (t:List (List Fld))(k:Nat):(textS (t.take k)).length<=(textS t).length:=by
 have:=jD (t.take k) _ (t.drop k) rfl
 rwa [List.take_append_drop] at this
theorem Sz.ve {w:World}{A:Option Addr}{t:List (List Fld)}(h:Gr.Row encF 3 w A t)(k:Nat)(hk:k<t.length):∃ ad C n c,A=some ad/\t[k].length=n/\Rg.Row encF 3 w C t[k]/\∀ u,Below w.heap.size w u->u.cell? (ad.add k)=some (.slice C n c):=by
 obtain⟨ds,h1,h2,h3⟩:=h
 have aa:k<ds.length:=by omega
 obtain⟨ad,e,_,_⟩:=h1 (by omega)
 obtain⟨q1,q2⟩:=h3 k ds[k] t[k] (List.getElem?_eq_getElem aa) (List.getElem?_eq_getElem hk)
 refine⟨ad,ds[k].1,ds[k].2.1,ds[k].2.2,e,q1.symm,q2,fun u hb=>?_⟩
 obtain⟨ab,x,e',hx,_,hc⟩:=Rg.bO (Rg.ah h1 hb) k aa
 rw[e] at e';cases e'
 have:=hc 0 _ rfl
 rw[if_pos rfl,Nat.mul_one] at this
 rw[hx];exact this
theorem my (A:Option Addr)(n c:Nat)(t:List (List Fld))(w:World)(hn:t.length=n)(hr:Gr.Row encF 3 w A t)(hl:n<=1000000)(hls:∀ l∈t,l.length<=1000000)(ht:(textS t).length<=1000000) :
  Calls Tryz.prog 36 #[.slice A n c] w fun e w'=>e=.returned (.string ⟨(textS t).toArray⟩)/\Below w.heap.size w w':=by
 obtain⟨R,hR⟩:=ex (textS t)
 rw[hR] at ht
 rw[hR]
 have aP:=zh hR
 obtain⟨W1,aL⟩:=ex (w.alloc (.cells #[.pointer none,.slice none 0 0] 117))
 have aQ:Hid (Bld w [] W1):=acG aL
 have HR:=zh hr
 have HN:=zh hn
 have HL:=zh hls
 have HT:=zh ht
 have aR:Hid (∀ k,(textS (t.take k)).length<=R.length):=fun k=>by rw[<-hR];exact aa9 t k
 clear hr hn hls ht hR
 go_enter Tryz.func36,Tryz.ntmps36
 go_wp2_with fail
 clear aL
 go_loopw [10] (fun i wr=>∃ k:Nat,k<=n/\i=.int .i64 k/\Hid (Bld w (textS (t.take k)) wr)) (fun i _=>n-(intOf i).toNat)
 case atStart=>exact⟨0,Nat.zero_le _,rfl,aQ.out⟩
 case round =>
  obtain⟨k,hk,rfl,HW⟩:=hrel
  by_cases aS:k<n
  ·have az:k<t.length:=by rw[HN.out];exact aS
   obtain⟨ad,C,m,d,rfl,hm,an,ag⟩:=ve HR.out k az
   have hc:=ag _ HW.out.2
   have ai:=wE t k az
   have hle:=aR.out (k+1)
   have aA:=HL.out _ (List.getElem_mem az)
   obtain⟨l,aM⟩:=ex (t[k])
   rw[aM] at hm an ai aA
   rw[ai,List.length_append,List.length_append] at hle
   obtain⟨T1,aN⟩:=ex (textS (t.take k))
   rw[aN] at ai hle HW
   have ap:=zh an
   have HM:=zh hm
   have aV:m<=1000000:=by rw[<-hm];exact aA
   clear ag aM hm an aA aN
   by_cases ao:k=0
   ·have d0:decide (0<k)=false:=decide_eq_false (by omega)
    have aB:Hid (Bld w T1 wr):=HW.out
    have ax:Hid (textS (t.take (k+1))=T1++stanzaT l):=by show _=_;rw[ai,if_pos ao,List.append_nil]
    have aC:Hid (T1.length+(stanzaT l).length<=R.length):=by show _<=_;rw[if_pos ao] at hle;have h0:([]:List UInt8).length=0:=rfl;omega
    clear ai hle ao
    go_wp2_with fail
    go_loopw [20] (fun j wr=>∃ i:Nat,i<=m/\j=.int .i64 i/\Hid (Bld w (T1++stanzaT (l.take i)) wr)) (fun j _=>m-(intOf j).toNat)
    case atStart=>exact⟨0,Nat.zero_le _,rfl,by show Bld w (T1++[]) _;rw[List.append_nil];exact aB.out⟩
    case round =>
     obtain⟨i,hi,rfl,HI⟩:=hrel
     by_cases aj:i<m
     ·have aq:i<l.length:=by rw[HM.out];exact aj
      obtain⟨ae,rfl,_,c0,c1,c2⟩:=c8 (Rg.ah ap.out HI.out.2) i aq
      have ac:=jC l i aq
      have ak:=mx l (i+1)
      obtain⟨f,hf⟩:=ex (l[i])
      rw[hf] at c0 c1 c2 ac
      obtain⟨fk,fv,fl⟩:=f
      have al:fieldT ⟨fk,fv,fl⟩=fk++[58,32]++fv++[10]:=rfl
      rw[ac,al] at ak
      have ar:Hid (T1++stanzaT (l.take (i+1))=T1++stanzaT (l.take i)++fk++[58,32]++fv++[10]):=by show _=_;rw[ac,al];simp only[List.append_assoc]
      obtain⟨S,hS⟩:=ex (T1++stanzaT (l.take i))
      rw[hS] at ar HI
      have af:Hid (S.length+fk.length+2+fv.length+1<=1000000):=by
       have h1:=aC.out;have h2:=HT.out
       show _<=_
       rw[<-hS];simp only[List.length_append,List.length_cons,List.length_nil] at ak ⊢;omega
      dsimp only at c0 c1 c2
      obtain⟨V,hV⟩:=ex (wr.alloc (.cells #[.string ⟨fk.toArray⟩,.string ⟨fv.toArray⟩,.int .i64 fl] 108))
      have au:Hid (FBk wr.heap.size fk fv fl V):=vd hV
      have aD:Hid (Bld w S V):=oG HI.out (ab hV)
      have am:Hid (w.heap.size<wr.heap.size):=yU HI.out
      obtain⟨v0,v1,v2⟩:=b8 au.out
      have x1:=zh (bS aD.out fk (by have:=af.out;omega))
      clear ac ak hf al hS
      go_wp2_with fail
      clear hV v0 v1 v2
      refine x1.out.mono ?_
      rintro _ y1 ⟨rfl,hb,aa⟩
      have aE:=zh hb
      have av:=zh (dP au.out aa am.out)
      obtain⟨v0,v1,v2⟩:=b8 av.out
      clear hb aa
      clear x1
      go_wp2_with fail
      clear v0 v1 v2
      refine (bS aE.out [58,32] (by have:=af.out;simp only[List.length_append,List.length_cons,List.length_nil];omega)).mono ?_
      rintro _ y2 ⟨rfl,hb,aa⟩
      have aF:=zh hb
      have aw:=zh (dP av.out aa am.out)
      obtain⟨v0,v1,v2⟩:=b8 aw.out
      clear hb aa
      go_wp2_with fail
      clear v0 v1 v2
      refine (bS aF.out fv (by have:=af.out;simp only[List.length_append,List.length_cons,List.length_nil];omega)).mono ?_
      rintro _ y3 ⟨rfl,hb,aa⟩
      have aG:=zh hb
      have aH:=zh (dP aw.out aa am.out)
      obtain⟨v0,v1,v2⟩:=b8 aH.out
      clear hb aa
      go_wp2_with fail
      clear v0 v1 v2
      refine (bS aG.out [10] (by have:=af.out;simp only[List.length_append,List.length_cons,List.length_nil];omega)).mono ?_
      rintro _ y4 ⟨rfl,hb,aa⟩
      have aI:=zh hb
      clear hb aa
      go_wp2_with fail
      go_roundw
      case rel=>exact⟨i+1,by omega,by go_num,by show Bld w _ _;rw[ar.out];exact aI.out⟩
      case measure=>simp[intOf];omega
     ·obtain rfl:i=m:=by omega
      have HE:Hid (Bld w (textS (t.take (k+1))) wr):=by
       have h:=HI.out
       rw[List.take_of_length_le (by rw[HM.out];exact Nat.le_refl _),<-ax.out] at h
       exact h
      go_wp2_with fail
      go_roundw
      case rel=>exact⟨k+1,by omega,by go_num,HE⟩
      case measure=>simp[intOf];omega
   ·have d0:decide (0<k)=true:=decide_eq_true (by omega)
    have ax:Hid (textS (t.take (k+1))=(T1++[10])++stanzaT l):=by show _=_;rw[ai,if_neg ao]
    have ay:(T1++[10]).length+(stanzaT l).length<=R.length:=by rw[if_neg ao] at hle;rw[List.length_append];exact hle
    have aK:T1.length+([10]:List UInt8).length<=10000000:=by have:=HT.out;rw[List.length_append] at ay;omega
    have aT:=zh aK
    obtain⟨T2,aJ⟩:=ex (T1++[10])
    rw[aJ] at ax ay
    have aC:Hid (T2.length+(stanzaT l).length<=R.length):=ay
    clear ai hle ao ay aK
    go_wp2_with fail
    refine (bS HW.out [10] aT.out).mono ?_
    rintro _ u1 ⟨rfl,hb,_⟩
    rw[aJ] at hb
    have aB:=zh hb
    clear hb aJ
    go_wp2_with fail
    go_loopw [20] (fun j wr=>∃ i:Nat,i<=m/\j=.int .i64 i/\Hid (Bld w (T2++stanzaT (l.take i)) wr)) (fun j _=>m-(intOf j).toNat)
    case atStart=>exact⟨0,Nat.zero_le _,rfl,by show Bld w (T2++[]) _;rw[List.append_nil];exact aB.out⟩
    case round =>
     obtain⟨i,hi,rfl,HI⟩:=hrel
     by_cases aj:i<m
     ·have aq:i<l.length:=by rw[HM.out];exact aj
      obtain⟨ae,rfl,_,c0,c1,c2⟩:=c8 (Rg.ah ap.out HI.out.2) i aq
      have ac:=jC l i aq
      have ak:=mx l (i+1)
      obtain⟨f,hf⟩:=ex (l[i])
      rw[hf] at c0 c1 c2 ac
      obtain⟨fk,fv,fl⟩:=f
      have al:fieldT ⟨fk,fv,fl⟩=fk++[58,32]++fv++[10]:=rfl
      rw[ac,al] at ak
      have ar:Hid (T2++stanzaT (l.take (i+1))=T2++stanzaT (l.take i)++fk++[58,32]++fv++[10]):=by show _=_;rw[ac,al];simp only[List.append_assoc]
      obtain⟨S,hS⟩:=ex (T2++stanzaT (l.take i))
      rw[hS] at ar HI
      have af:Hid (S.length+fk.length+2+fv.length+1<=1000000):=by
       have h1:=aC.out;have h2:=HT.out
       show _<=_
       rw[<-hS];simp only[List.length_append,List.length_cons,List.length_nil] at ak ⊢;omega
      dsimp only at c0 c1 c2
      obtain⟨V,hV⟩:=ex (wr.alloc (.cells #[.string ⟨fk.toArray⟩,.string ⟨fv.toArray⟩,.int .i64 fl] 108))
      have au:Hid (FBk wr.heap.size fk fv fl V):=vd hV
      have aD:Hid (Bld w S V):=oG HI.out (ab hV)
      have am:Hid (w.heap.size<wr.heap.size):=yU HI.out
      obtain⟨v0,v1,v2⟩:=b8 au.out
      have x1:=zh (bS aD.out fk (by have:=af.out;omega))
      clear ac ak hf al hS
      go_wp2_with fail
      clear hV v0 v1 v2
      refine x1.out.mono ?_
      rintro _ y1 ⟨rfl,hb,aa⟩
      have aE:=zh hb
      have av:=zh (dP au.out aa am.out)
      obtain⟨v0,v1,v2⟩:=b8 av.out
      clear hb aa
      clear x1
      go_wp2_with fail
      clear v0 v1 v2
      refine (bS aE.out [58,32] (by have:=af.out;simp only[List.length_append,List.length_cons,List.length_nil];omega)).mono ?_
      rintro _ y2 ⟨rfl,hb,aa⟩
      have aF:=zh hb
      have aw:=zh (dP av.out aa am.out)
      obtain⟨v0,v1,v2⟩:=b8 aw.out
      clear hb aa
      go_wp2_with fail
      clear v0 v1 v2
      refine (bS aF.out fv (by have:=af.out;simp only[List.length_append,List.length_cons,List.length_nil];omega)).mono ?_
      rintro _ y3 ⟨rfl,hb,aa⟩
      have aG:=zh hb
      have aH:=zh (dP aw.out aa am.out)
      obtain⟨v0,v1,v2⟩:=b8 aH.out
      clear hb aa
      go_wp2_with fail
      clear v0 v1 v2
      refine (bS aG.out [10] (by have:=af.out;simp only[List.length_append,List.length_cons,List.length_nil];omega)).mono ?_
      rintro _ y4 ⟨rfl,hb,aa⟩
      have aI:=zh hb
      clear hb aa
      go_wp2_with fail
      go_roundw
      case rel=>exact⟨i+1,by omega,by go_num,by show Bld w _ _;rw[ar.out];exact aI.out⟩
      case measure=>simp[intOf];omega
     ·obtain rfl:i=m:=by omega
      have HE:Hid (Bld w (textS (t.take (k+1))) wr):=by
       have h:=HI.out
       rw[List.take_of_length_le (by rw[HM.out];exact Nat.le_refl _),<-ax.out] at h
       exact h
      go_wp2_with fail
      go_roundw
      case rel=>exact⟨k+1,by omega,by go_num,HE⟩
      case measure=>simp[intOf];omega
  ·obtain rfl:k=n:=by omega
   have HE:Hid (Bld w R wr):=by
    have h:=HW.out
    rw[List.take_of_length_le (by rw[HN.out];exact Nat.le_refl _),aP.out] at h
    exact h
   go_wp2_with fail
   refine (wD HE.out).mono ?_
   rintro _ u2 ⟨rfl,aO⟩
   have aU:=zh aO
   clear aO
   go_wp2_with fail
   go_ret
   exact⟨rfl,aU.out.2⟩
theorem Sz.aba {u:World}(A:Option Addr)(n c:Nat)(l:List Fld)(B:Option Addr)(m d:Nat)(ks:List (List UInt8))(hn:l.length=n)(hr:Rg.Row encF 3 u A l)(hl:n<=100000)(hs:Short l)(hm:ks.length=m)(hk:Rg.Row encT 1 u B ks)(hml:m<=100000)(hks:ShortT ks){i e0:Int}(hX:ordP ks 0 (-1) l=(i,e0)) :
  Calls Tryz.prog 153 #[.slice A n c,.slice B m d] u fun e w'=>e=.returned (.tuple #[.int .i64 i,.int .i64 e0])/\Below u.heap.size u w' :=
 (mw A n c l B m d ks u hn hr hl hs hm hk hml hks).mono fun e w' ⟨he,hb⟩=>by
  rw[hX] at he
  exact⟨he,hb⟩
theorem Sz.yV {l:List (List UInt8)}(h:l.all (fun k=>decide (k.length<=140737488355328))=true):ShortT l:=fun k hk=>by
 have:=List.all_eq_true.1 h k hk
 rwa [decide_eq_true_eq] at this
theorem Rg.jV {α:Type}{enc:α->List Value}{K:Nat}(hf:Rg.Fits enc K)(w:World)(T:TypeId)(l:List α)(cs:Array Value)(h:cs.toList=Rg.flat enc l){b:Nat}(hb:w.heap.size=b):Rg.Row enc K (w.alloc (.cells cs T)) (some ⟨b,0,none⟩) l:=by
 subst hb
 intro _
 refine⟨_,rfl,by simp,fun i hi j v hv=>?_⟩
 have hj:j<K:=by rw[<-hf.len l[i]];exact (List.getElem?_eq_some_iff.1 hv).1
 rw[<-Rg.jK]
 exact Rg.ay w T l cs h _ _ ((Rg.flat_get hf l i hi j hj).trans hv)
end
section
open Go.RowKit Rs At Pg
namespace Pg
theorem iE {B B':Nat}{u:World}{p:Pk}{D C G:Option Addr}(h:PRows B u p D C G)(hB:B'<=B):PRows B' u p D C G :=
 ⟨⟨iD h.1.1 hB,fun a ha=>Nat.le_trans hB (h.1.2 a ha)⟩,⟨h.2.1.1,fun a ha=>Nat.le_trans hB (h.2.1.2 a ha)⟩,⟨h.2.2.1,fun a ha=>Nat.le_trans hB (h.2.2.2 a ha)⟩⟩
abbrev zeroC:Array Value:=#[.string ⟨#[]⟩,.string ⟨#[]⟩,.slice none 0 0,.slice none 0 0,.slice none 0 0,.float .f64 0]
theorem oH (B:Nat)(u:World):PRows B u zeroP none none none :=
 ⟨⟨⟨[],fun h=>absurd h (by decide),⟨rfl,fun i a d h=>by simp at h⟩,fun i a h=>by simp at h⟩,fun a h=>by cases h⟩,⟨⟨[],fun h=>absurd h (by decide),⟨rfl,fun i a d h=>by simp at h⟩⟩,fun a h=>by cases h⟩,⟨fun h=>absurd h (by decide),fun a h=>by cases h⟩⟩
theorem abb {T:TypeId}{w W:World}(h:w.alloc (.cells zeroC T)=W):PBlk T w.heap.size (w.heap.size+1) zeroP W :=
 ⟨none,0,none,0,none,0,by rw[<-h];exact heap_alloc_new w _,oH _ _⟩
abbrev stP (u:World) (b:Nat) (p:Pk) (D C G:Option Addr) (dc cc gc:Nat):World :=
 (((((u.setCell ⟨b,0,none⟩ (.string ⟨p.name.toArray⟩)).setCell ⟨b,1,none⟩ (.string ⟨p.ver.toArray⟩)).setCell ⟨b,2,none⟩ (.slice D p.deps.length dc)).setCell ⟨b,3,none⟩ (.slice C p.confl.length cc)).setCell ⟨b,4,none⟩ (.slice G p.prov.length gc)).setCell ⟨b,5,none⟩ (.float .f64 p.wt)
theorem kT {u:World}{b:Nat}{T:TypeId}(h:u.heap[b]?=some (.cells zeroC T (0,0)))(p:Pk)(D C G:Option Addr)(dc cc gc:Nat):(stP u b p D C G dc cc gc).heap[b]?=some (.cells (pCells p D C G dc cc gc) T (0,0)):=by
 unfold stP
 exact (bo (bo (bo (bo (bo (bo h)))))).trans rfl
theorem gQ (u:World)(b:Nat)(p:Pk)(D C G:Option Addr)(dc cc gc:Nat):But (some b) u (stP u b p D C G dc cc gc) :=
 eh (eh (eh (eh (eh (aY u ⟨b,0,none⟩ _) (aY _ ⟨b,1,none⟩ _)) (aY _ ⟨b,2,none⟩ _)) (aY _ ⟨b,3,none⟩ _)) (aY _ ⟨b,4,none⟩ _)) (aY _ ⟨b,5,none⟩ _)
theorem iF {T:TypeId}{b:Nat}{u:World}(h:u.heap[b]?=some (.cells zeroC T (0,0))):∀ j x,u.cell? ⟨b,j,none⟩=some x->NoB x:=dO (p:=zeroP) (D:=none) (C:=none) (G:=none) (dc:=0) (cc:=0) (gc:=0) h
theorem jE {B:Nat}{w u:World}{b:Nat}(h:Below B w u)(hb:B<=b)(p:Pk)(D C G:Option Addr)(dc cc gc:Nat):Below B w (stP u b p D C G dc cc gc) :=
 (((((h.setCell (p:=⟨b,0,none⟩) hb _).setCell (p:=⟨b,1,none⟩) hb _).setCell (p:=⟨b,2,none⟩) hb _).setCell (p:=⟨b,3,none⟩) hb _).setCell (p:=⟨b,4,none⟩) hb _).setCell (p:=⟨b,5,none⟩) hb _
theorem b9 {u:World}{b:Nat}{T:TypeId}{x0 x1 x2 x3 x4 x5:Value}(h:u.heap[b]?=some (.cells #[x0,x1,x2,x3,x4,x5] T (0,0))):u.cell? ⟨b,0,none⟩=some x0/\u.cell? ⟨b,1,none⟩=some x1/\u.cell? ⟨b,2,none⟩=some x2/\u.cell? ⟨b,3,none⟩=some x3/\u.cell? ⟨b,4,none⟩=some x4/\u.cell? ⟨b,5,none⟩=some x5:=by
 refine⟨?_,?_,?_,?_,?_,?_⟩ <;> simp[World.cell?,h]
theorem aS {u:World}{b:Nat}{T:TypeId}{cs:Array Value}(h:u.heap[b]?=some (.cells cs T (0,0)))(j:Nat):u.frozen? ⟨b,j,none⟩=false:=by
 simp[World.frozen?,h]
end Pg
def Pg.ReadRet (w:World) (R:Except (Int × Int) Pk) (e:Ending) (w':World):Prop:=Below w.heap.size w w'/\match R with
 | .ok p=>∃ D dc C cc G gc,e=.returned (.agg (pCells p D C G dc cc gc))/\PRows w.heap.size w' p D C G
 | .error x=>e=panAt x.1 x.2
theorem Pg.abc {u:World}{b:Nat}(h:u.heap[b]?=some (.cells zeroC 39 (0,0)))(p:Pk)(D C G:Option Addr)(dc cc gc:Nat){tmps:Array Value}(ht:tmps.getD 2 undef=.pointer (some ⟨b,0,none⟩)) :
  (results Tryz.f118 tmps).run Tryz.prog (stP u b p D C G dc cc gc)=.ok (.agg (pCells p D C G dc cc gc)) (stP u b p D C G dc cc gc):=by
 obtain⟨g0,g1,g2,g3,g4,g5⟩:=b9 (kT h p D C G dc cc gc)
 have hr:Tryz.f118.results=#[.cell 2 39]:=Tryz.results118
 simp only[results,hr]
 generalize stP u b p D C G dc cc gc=V at *
 simp only[Array.getD_eq_getD_getElem?] at ht ⊢
 simp[go_sem,ht,g0,g1,g2,g3,g4,g5]
attribute [local go_sem ↓] Go.wp_at_zero Go.wp_at_succ
attribute [local go_sem] Pg.av
theorem tR (A:Option Addr)(n c:Nat)(l:List Sz.Fld)(w:World)(hk:KOk w)(hn:l.length=n)(hr:Rg.Row Sz.encF 3 w A l)(hl:n<=1000)(hs:Sz.Short l)(hv:∀ f∈l,ValFit f.key f.val) :
  Calls Tryz.prog 118 #[.slice A n c] w (Pg.ReadRet w (readP l)):=by
 obtain⟨R,hR⟩:=ex (readP l)
 rw[hR]
 unfold readP at hR
 obtain⟨W1,ap⟩:=ex (w.alloc (.cells zeroC 39))
 have aM:Hid (Below w.heap.size w W1):=ab ap
 have HZ:Hid (∀ u,Below W1.heap.size W1 u->u.heap[w.heap.size]?=some (.cells zeroC 39 (0,0))):=fun u hb=>(hb.block _ (by rw[<-ap];simp)).trans (by rw[<-ap];exact heap_alloc_new w _)
 obtain⟨b1,au⟩:=ex W1.heap.size
 obtain⟨W2,aD⟩:=ex (W1.alloc (.cells #[.string ⟨#[80,97,99,107,97,103,101]⟩,.string ⟨#[86,101,114,115,105,111,110]⟩,.string ⟨#[68,101,112,101,110,100,115]⟩,.string ⟨#[67,111,110,102,108,105,99,116,115]⟩,.string ⟨#[80,114,111,118,105,100,101,115]⟩,.string ⟨#[87,101,105,103,104,116]⟩] 9))
 have ak:Hid (Below W1.heap.size W1 W2):=ab aD
 have aE:Hid (Below w.heap.size w W2):=bt aM.out ak.out
 have aF:Rg.Row encT 1 W2 (some ⟨b1,0,none⟩) keys6:=by rw[<-aD];exact Rg.jV fitsT W1 9 keys6 _ rfl au
 obtain⟨X,hX⟩:=ex (Sz.ordP keys6 0 (-1) l)
 rw[hX] at hR
 obtain⟨i0,e0⟩:=X
 dsimp only at hR
 have HO:=zh (Sz.aba (u:=W2) A n c l (some ⟨b1,0,none⟩) 6 6 keys6 hn (Rg.ah hr aE.out) (Nat.le_trans hl (by decide)) hs rfl aF (by decide) (Sz.yV (by decide +kernel)) hX)
 have HS:=zh hs
 have HV:=zh hv
 have HN:=zh hn
 have av:=zh hr
 have HL:=zh hl
 have HK:=zh hk
 have HR:=zh hR
 have aW:Hid (w.heap.size<b1):=by rw[<-au,<-ap];show _<_;simp
 have aN:=zh au
 clear hR hs hv hn hr hl hk hX aF
 go_enter Tryz.func118,Tryz.ntmps118
 go_wp2_with fail
 clear ap aD au
 refine HO.out.mono ?_
 rintro _ u1 ⟨rfl,hb⟩
 have aG:Hid (Below W1.heap.size W1 u1):=bt ak.out hb
 have ac:Hid (Below w.heap.size w u1):=bt aE.out hb
 clear hb HO
 by_cases he:e0=0
 case neg =>
  have HF:Hid (R=.error (i0,e0)):=by show _=_;rw[<-HR.out,if_neg he]
  have d0:(e0==0)=false:=beq_eq_false_iff_ne.2 he
  clear he
  go_wp2_with fail
  refine (an _).mono ?_
  rintro _ u2 ⟨rfl,rfl⟩
  go_wp2_with fail
  exact⟨rfl,ac.out,by rw[HF.out]⟩
 subst he
 have al:Hid ((if ((Sz.getF l kPkg).isSome&&(Sz.getF l kVer).isSome)=true then readR 0 zeroP l else .error (0,10))=R):=by show _=_;rw[<-HR.out];rfl
 have aw:Hid (∀ u,Below w.heap.size w u->Calls Tryz.prog 154 #[.slice A n c,.string ⟨#[80,97,99,107,97,103,101]⟩] u fun e w'=>e=.returned (.bool (Sz.getF l kPkg).isSome)/\Below u.heap.size u w'):=fun u hb=>ml A n c l kPkg u HN.out (Rg.ah av.out hb) (Nat.le_trans HL.out (by decide)) HS.out
 have ay:Hid (∀ u,Below w.heap.size w u->Calls Tryz.prog 154 #[.slice A n c,.string ⟨#[86,101,114,115,105,111,110]⟩] u fun e w'=>e=.returned (.bool (Sz.getF l kVer).isSome)/\Below u.heap.size u w'):=fun u hb=>ml A n c l kVer u HN.out (Rg.ah av.out hb) (Nat.le_trans HL.out (by decide)) HS.out
 obtain⟨x,hx⟩:=ex ((Sz.getF l kPkg).isSome)
 obtain⟨y,hy⟩:=ex ((Sz.getF l kVer).isSome)
 rw[hx,hy] at al
 rw[hx] at aw
 rw[hy] at ay
 clear hx hy HR
 go_wp2_with fail
 refine (ax _).mono ?_
 rintro _ u2 ⟨rfl,rfl⟩
 go_wp2_with fail
 refine (aw.out _ ac.out).mono ?_
 rintro _ u2 ⟨rfl,hb⟩
 have aH:Hid (Below W1.heap.size W1 u2):=bt aG.out hb
 have ae:Hid (Below w.heap.size w u2):=bt ac.out hb
 clear hb aw aG ac
 cases x
 ·have HF:Hid (R=.error (0,10)):=al.out.symm
  go_wp2_with fail
  refine (an _).mono ?_
  rintro _ u3 ⟨rfl,rfl⟩
  go_wp2_with fail
  exact⟨rfl,ae.out,by rw[HF.out]⟩
 go_wp2_with fail
 refine (ay.out _ ae.out).mono ?_
 rintro _ u3 ⟨rfl,hb⟩
 have aq:Hid (Below W1.heap.size W1 u3):=bt aH.out hb
 have aa:Hid (Below w.heap.size w u3):=bt ae.out hb
 clear hb ay aH ae
 cases y
 ·have HF:Hid (R=.error (0,10)):=al.out.symm
  go_wp2_with fail
  refine (an _).mono ?_
  rintro _ u3 ⟨rfl,rfl⟩
  go_wp2_with fail
  exact⟨rfl,aa.out,by rw[HF.out]⟩
 have aO:Hid (readR 0 zeroP l=R):=al.out
 clear al
 go_wp2_with fail
 refine (ax _).mono ?_
 rintro _ u4 ⟨rfl,rfl⟩
 obtain⟨b,hb⟩:=ex u3.heap.size
 obtain⟨U,hU⟩:=ex (u3.alloc (.cells zeroC 39))
 have aP:Hid (PBlk 39 b (b+1) zeroP U):=by rw[<-hb];exact abb hU
 have aA:Hid (Below W1.heap.size W1 U/\Below w.heap.size w U):=⟨aq.out.trans ((ab hU).mono aq.out.size),aa.out.trans ((ab hU).mono aa.out.size)⟩
 have ag:Hid (W1.heap.size<=b/\w.heap.size<=b/\U.heap.size=b+1):=⟨by rw[<-hb];exact aq.out.size,by rw[<-hb];exact aa.out.size,by rw[<-hU,<-hb];simp⟩
 clear aq aa
 go_wp2_with fail
 clear hU hb
 go_loopw [28] (fun i wr=>∃ (k:Nat) (p:Pk),k<=n/\i=.int .i64 k/\Hid (PBlk 39 b (b+1) p wr)/\Hid (Below b U wr/\b+1<=wr.heap.size)/\Hid (readR k p (l.drop k)=R)) (fun i _=>n-(intOf i).toNat)
 case atStart=>exact⟨0,zeroP,Nat.zero_le _,rfl,aP,⟨Below.refl _ _,Nat.le_of_eq ag.out.2.2.symm⟩,by show readR _ _ (l.drop 0)=R;rw[List.drop_zero,aO.out]⟩
 case round =>
  obtain⟨k,p,hk,rfl,HP,ai,HE⟩:=hrel
  have aB:Hid (Below w.heap.size w wr):=aA.out.2.trans (ai.out.1.mono ag.out.2.1)
  have aX:=HL.out
  by_cases aI:k<n
  ·have aJ:=zh aI
   have aC:k<l.length:=by rw[HN.out];exact aI
   obtain⟨ad,rfl,_,q0,q1,q2⟩:=Sz.c8 (Rg.ah av.out aB.out) k aC
   have am:=HV.out _ (List.getElem_mem aC)
   have he:=HE.out
   rw[List.drop_eq_getElem_cons aC] at he
   obtain⟨f,hf⟩:=ex (l[k])
   rw[hf] at am he q0 q1 q2
   obtain⟨fk,fv,fl⟩:=f
   dsimp only at am q0 q1 q2
   obtain⟨V,hV⟩:=ex (wr.alloc (.cells #[.string ⟨fk.toArray⟩,.string ⟨fv.toArray⟩,.int .i64 fl] 108))
   have ar:Hid (Below wr.heap.size wr V):=ab hV
   have aK:=zh (bR HP.out ar.out)
   have ao:Hid (Below b U V/\b+1<=V.heap.size):=⟨ai.out.1.trans (ar.out.mono (Nat.le_trans (Nat.le_succ _) ai.out.2)),Nat.le_trans ai.out.2 ar.out.size⟩
   obtain⟨v0,v1,v2,_⟩:=Sz.yS (Sz.acF hV)
   have HT:=zh (tP b (b+1) fk fv k p V (az HK.out (bt aB.out ar.out)) aK.out (Nat.lt_succ_self b) ao.out.2 am)
   obtain⟨E,hE⟩:=ex (takeR p fk fv)
   rw[hE] at HT
   cases E with
   | error e =>
    have HF:Hid (R=.error ((k:Int),e)):=by show _=_;rw[<-he];exact dV hE
    clear he hf am hE
    go_wp2_with fail
    refine HT.out.mono ?_
    rintro r u5 ⟨aj,rfl⟩
    have aQ:Hid (Below w.heap.size w u5):=aA.out.2.trans ((ao.out.1.trans aj).mono ag.out.2.1)
    clear aj
    go_wp2_with fail
    exact⟨rfl,aQ.out,by rw[HF.out]⟩
   | ok q =>
    have aR:Hid (readR (k+1) q (l.drop (k+1))=R):=by show _=_;rw[<-he];exact (dM (f:=⟨fk,fv,fl⟩) hE).symm
    clear he hf am hE
    go_wp2_with fail
    refine HT.out.mono ?_
    rintro r u5 ⟨aj,rfl,aL⟩
    have aT:=zh aL
    have aU:Hid (Below b U u5/\b+1<=u5.heap.size):=⟨ao.out.1.trans aj,Nat.le_trans ao.out.2 aj.size⟩
    clear aj aL HT HP aK ai ao hV v0 v1 v2 q0 q1 q2
    go_wp2_with fail
    go_roundw
    case rel=>exact⟨k+1,q,(by have:=aJ.out;omega),by go_num,aT,aU,aR⟩
    case measure=>have:=aJ.out;simp[intOf];omega
  ·obtain rfl:k=n:=by omega
   have HF:Hid (R=.ok p):=by show _=_;rw[<-HE.out,List.drop_eq_nil_of_le (by rw[HN.out];exact Nat.le_refl _)];rfl
   obtain⟨D,dc,C,cc,G,gc,h1,h2⟩:=HP.out
   obtain⟨g0,g1,g2,g3,g4,g5⟩:=b9 h1
   have aV:=zh h2
   have af:Hid (wr.heap[w.heap.size]?=some (.cells zeroC 39 (0,0))):=HZ.out _ (aA.out.1.trans (ai.out.1.mono ag.out.1))
   obtain⟨k0,k1,k2,k3,k4,k5⟩:=b9 af.out
   have z0:=aS af.out 0
   have z1:=aS af.out 1
   have z2:=aS af.out 2
   have z3:=aS af.out 3
   have z4:=aS af.out 4
   have z5:=aS af.out 5
   clear h1 h2
   go_wp2_with fail
   (try simp only[Exit.inBlock,Exit.then])
   refine bodyPost_ret (abc af.out p D C G dc cc gc rfl) rfl ?_
   refine⟨jE aB.out (Nat.le_refl _) p D C G dc cc gc,?_⟩
   rw[HF.out]
   exact⟨D,dc,C,cc,G,gc,rfl,iE (bj aV.out (gQ wr w.heap.size p D C G dc cc gc) (Nat.lt_succ_of_le ag.out.2.1) (iF af.out)) (Nat.le_succ_of_le ag.out.2.1)⟩
end
section
open Go.RowKit Rs At Pg
attribute [local go_sem ↓] Go.wp_at_zero Go.wp_at_succ
attribute [local go_sem] Pg.av
theorem rR (p q:Addr)(x y k n:Int)(w:World)(hc:∀ u,Below w.heap.size w u->u.cell? p=some (.int .i64 x))(hz:∀ u,Below w.heap.size w u->u.frozen? p=false)(hc2:∀ u,Below w.heap.size w u->(u.setCell p (.int .i64 k)).cell? q=some (.int .i64 y))(hz2:∀ u,Below w.heap.size w u->(u.setCell p (.int .i64 k)).frozen? q=false) :
  CallsD Tryz.prog 117 #[.pointer (some p),.pointer (some q)] (.panicking [{ v:=.iface 98 (.agg #[.int .i64 k,.int .i64 n]),recovered:=false }]) w fun e u' w' =>
   e=.returned (.tuple #[])/\u'=.panicking [{ v:=.iface 98 (.agg #[.int .i64 k,.int .i64 n]),recovered:=true }]/\∃ u,Below w.heap.size w u/\w'=(u.setCell p (.int .i64 k)).setCell q (.int .i64 n):=by
 refine callsD_of_wpS Tryz.func117 rfl fun c₀ cs hu=>?_
 apply wpS_region
 simp[wpOpsS,go_sem,recoverD,hu,Tryz.ntmps117]
 refine (bq k n _).mono ?_
 rintro e w' ⟨rfl,hb⟩
 simp[go_sem,hc _ hb,hz _ hb,hc2 _ hb,hz2 _ hb,bodyPostS,results,Tryz.results117]
 exact⟨w',hb,rfl⟩
theorem wF (p q:Addr)(x y:Int)(w:World)(hc:w.cell? p=some (.int .i64 x))(hz:w.frozen? p=false)(hc2:(w.setCell p (.int .i64 0)).cell? q=some (.int .i64 y))(hz2:(w.setCell p (.int .i64 0)).frozen? q=false) :
  CallsD Tryz.prog 117 #[.pointer (some p),.pointer (some q)] .returning w fun e u' w'=>e=.returned (.tuple #[])/\u'=.returning/\w'=(w.setCell p (.int .i64 0)).setCell q (.int .i64 0):=by
 refine callsD_of_wpS Tryz.func117 rfl fun c₀ cs hu=>?_
 apply wpS_region
 simp[wpOpsS,go_sem,recoverD,hu,Tryz.ntmps117]
 refine (bT _).mono ?_
 rintro e w' ⟨rfl,rfl⟩
 cases c₀
 simp_all [go_sem,bodyPostS,results,Tryz.results117]
def Pg.FromRet (w:World) (X:Int × Int × Pk) (e:Ending) (w':World):Prop:=Below w.heap.size w w'/\∃ D dc C cc G gc,e=.returned (.tuple #[.agg (pCells X.2.2 D C G dc cc gc),.int .i64 X.2.1,.int .i64 X.1])/\PRows w.heap.size w' X.2.2 D C G
def Pg.P3 (b:Nat) (u:World):Prop:=u.heap[b]?=some (.cells zeroC 39 (0,0))/\Sz.P2 (b+1) u
theorem Pg.adO {w W0 W1 W2 u:World}(h0:w.alloc (.cells zeroC 39)=W0)(h1:W0.alloc (.cells #[.int .i64 0] 3)=W1)(h2:W1.alloc (.cells #[.int .i64 0] 29)=W2)(hb:Below W2.heap.size W2 u):P3 w.heap.size u:=by
 have aa:W0.heap.size=w.heap.size+1:=by rw[<-h0];simp
 have ac:W1.heap.size=w.heap.size+2:=by rw[<-h1];simp[aa]
 have ad:W2.heap.size=w.heap.size+3:=by rw[<-h2];simp[ac]
 refine⟨?_,by rw[<-aa];exact Sz.mg h1 h2 hb⟩
 rw[hb.block _ (by omega),(ab h2).block _ (by omega),(ab h1).block _ (by omega),<-h0]
 exact heap_alloc_new w _
theorem Pg.yW {u:World}{b j k:Nat}{x:Value}(h:u.heap[b]?=some (.cells zeroC 39 (0,0)))(hne:k≠b):(u.setCell ⟨k,j,none⟩ x).heap[b]?=some (.cells zeroC 39 (0,0)) :=
 (Below.heap_setCell u ⟨k,j,none⟩ x b (fun e=>hne e.symm)).trans h
theorem Pg.acH {u v:World}{b:Nat}(h:Sz.P2 b u)(h1:v.heap[b]?=u.heap[b]?)(h2:v.heap[b+1]?=u.heap[b+1]?):Sz.P2 b v:=⟨h1.trans h.1,h2.trans h.2⟩
theorem Pg.vf (u:World)(b k:Nat)(p:Pk)(D C G:Option Addr)(dc cc gc:Nat)(hk:k<u.heap.size)(hne:k≠b):(stP u b p D C G dc cc gc).heap[k]?=u.heap[k]? :=
 (gQ u b p D C G dc cc gc).2 k hk (fun e=>hne (Option.some.inj e).symm)
theorem Pg.vg {u:World}{b:Nat}{x:Int}{T:TypeId}(h:u.heap[b]?=some (.cells #[.int .i64 x] T (0,0))):∀ j y,u.cell? ⟨b,j,none⟩=some y->NoB y:=fun j y hy z e=>by
 subst e
 have:=Sz.cL h rfl hy
 cases this
theorem Pg.vh {u:World}{b c:Nat}{cs:Array Value}{T:TypeId}{x y:Value}(h:u.heap[b]?=some (.cells cs T (0,0)))(h1:c≠b)(h2:c+1≠b):((u.setCell ⟨c,0,none⟩ x).setCell ⟨c+1,0,none⟩ y).heap[b]?=some (.cells cs T (0,0)) :=
 (Below.heap_setCell _ ⟨c+1,0,none⟩ y b (fun e=>h2 e.symm)).trans ((Below.heap_setCell u ⟨c,0,none⟩ x b (fun e=>h1 e.symm)).trans h)
theorem Pg.rS {B b:Nat}{u:World}{p:Pk}{D C G:Option Addr}{x y:Int}(h:PRows B u p D C G)(h2:Sz.P2 b u)(hlt:b+1<B):PRows B ((u.setCell ⟨b,0,none⟩ (.int .i64 x)).setCell ⟨b+1,0,none⟩ (.int .i64 y)) p D C G:=by
 have r1:=bj h (aY u ⟨b,0,none⟩ (.int .i64 x)) (Nat.lt_of_succ_lt hlt) (vg h2.1)
 have e2:(u.setCell ⟨b,0,none⟩ (.int .i64 x)).heap[b+1]?=some (.cells #[.int .i64 0] 29 (0,0)):=(Below.heap_setCell u ⟨b,0,none⟩ _ (b+1) (by show b+1≠b;omega)).trans h2.2
 exact bj r1 (aY _ ⟨b+1,0,none⟩ (.int .i64 y)) hlt (vg e2)
theorem tS (A:Option Addr)(n c:Nat)(l:List Sz.Fld)(w:World)(hk:KOk w)(hn:l.length=n)(hr:Rg.Row Sz.encF 3 w A l)(hl:n<=1000)(hs:Sz.Short l)(hv:∀ f∈l,ValFit f.key f.val) :
  Calls Tryz.prog 84 #[.slice A n c] w (Pg.FromRet w (fromP l)):=by
 have aC:∀ (fn:Fn) (first cap:Array Value) (w:World),(Instr.makeFunc fn first cap).run Tryz.prog w=.ok (.func fn first cap) w:=fun _ _ _ _=>rfl
 obtain⟨X,hX⟩:=ex (fromP l)
 rw[hX]
 unfold fromP at hX
 obtain⟨W0,ag⟩:=ex (w.alloc (.cells zeroC 39))
 obtain⟨W1,ai⟩:=ex (W0.alloc (.cells #[.int .i64 0] 3))
 obtain⟨W2,ak⟩:=ex (W1.alloc (.cells #[.int .i64 0] 29))
 have ae:Hid (∀ u,Below W2.heap.size W2 u->P3 w.heap.size u):=fun u hb=>adO ag ai ak hb
 have au:W0.heap.size=w.heap.size+1:=by rw[<-ag];simp
 have av:W1.heap.size=w.heap.size+1+1:=by rw[<-ai];simp[au]
 have an:W2.heap.size=w.heap.size+3:=by rw[<-ak];simp[av]
 have aa:=zh an
 have aj:Hid (Below w.heap.size w W2):=(ab ag).trans (((ab ai).trans ((ab ak).mono (ab ai).size)).mono (ab ag).size)
 have al:=zh (tR A n c l W2 (az hk aj.out) hn (Rg.ah hr aj.out) hl hs hv)
 obtain⟨R,hR⟩:=ex (readP l)
 rw[hR] at al hX
 clear hk hn hr hl hs hv hR an
 go_enter_defers Tryz.func84,Tryz.ntmps84
 go_wp2_with fail
 clear ag ai ak
 refine al.out.mono ?_
 rintro e z1 ⟨hb,hr⟩
 have HB:=zh hb
 clear hb al
 cases R with
 | ok p =>
  obtain⟨D,dc,C,cc,G,gc,rfl,ac⟩:∃ D dc C cc G gc,e=.returned (.agg (pCells p D C G dc cc gc))/\PRows W2.heap.size z1 p D C G:=hr
  have HX:Hid (X=(0,0,p)):=hX.symm
  have h3:=ae.out _ HB.out
  have ao:Hid (w.heap.size+3<=z1.heap.size):=by have:=HB.out.size;rw[aa.out] at this;exact this
  have af:Hid (Sz.P2 (w.heap.size+1) (stP z1 w.heap.size p D C G dc cc gc)):=acH h3.2 (vf _ _ _ _ _ _ _ _ _ _ (by have:=ao.out;omega) (by omega)) (vf _ _ _ _ _ _ _ _ _ _ (by have:=ao.out;omega) (by omega))
  obtain⟨k0,k1,k2,k3,k4,k5⟩:=b9 h3.1
  have z0:=aS h3.1 0
  have aF:=aS h3.1 1
  have z2:=aS h3.1 2
  have z3:=aS h3.1 3
  have z4:=aS h3.1 4
  have z5:=aS h3.1 5
  have aG:=zh h3.1
  have aH:=zh ac
  have HS:Hid (PRows w.heap.size (stP z1 w.heap.size p D C G dc cc gc) p D C G):=iE (bj ac (gQ z1 w.heap.size p D C G dc cc gc) (by rw[aa.out];omega) (iF h3.1)) (by rw[aa.out];omega)
  have ap:Hid (PRows W2.heap.size (stP z1 w.heap.size p D C G dc cc gc) p D C G):=bj ac (gQ z1 w.heap.size p D C G dc cc gc) (by rw[aa.out];omega) (iF h3.1)
  have aq:Hid (Below w.heap.size w (stP z1 w.heap.size p D C G dc cc gc)):=jE (bt aj.out HB.out) (Nat.le_refl _) p D C G dc cc gc
  have ar:=zh (kT h3.1 p D C G dc cc gc)
  obtain⟨V,hV⟩:=ex (stP z1 w.heap.size p D C G dc cc gc)
  rw[hV] at af HS ap aq ar
  obtain⟨c0,f0,c1,f1⟩:=Sz.aD af.out
  obtain⟨d0,g0,d1,g1⟩:=Sz.aE af.out (.int .i64 0)
  have ad:=zh (Sz.fo af.out)
  unfold stP at hV
  clear h3 ac hX
  go_wp2_with fail
  have aw:Hid (((V.setCell ⟨w.heap.size+1,0,none⟩ (.int .i64 0)).setCell ⟨w.heap.size+1+1,0,none⟩ (.int .i64 0)).heap[w.heap.size]?=some (.cells (pCells p D C G dc cc gc) 39 (0,0))):=vh (c:=w.heap.size+1) ar.out (by omega) (by omega)
  have ax:=zh (rS (x:=0) (y:=0) ap.out af.out (show w.heap.size+1+1<W2.heap.size by rw[aa.out];omega))
  have ay:Hid (Below w.heap.size w ((V.setCell ⟨w.heap.size+1,0,none⟩ (.int .i64 0)).setCell ⟨w.heap.size+1+1,0,none⟩ (.int .i64 0))):=(aq.out.setCell (by show w.heap.size<=w.heap.size+1;omega) _).setCell (by show w.heap.size<=w.heap.size+1+1;omega) _
  generalize (V.setCell ⟨w.heap.size+1,0,none⟩ (.int .i64 0)).setCell ⟨w.heap.size+1+1,0,none⟩ (.int .i64 0)=V2 at *
  obtain⟨k0,m0,k1,m1⟩:=Sz.aD ad.out
  obtain⟨l0,o0,l1,o1⟩:=Sz.aE ad.out (.int .i64 0)
  obtain⟨q0,q1⟩:=Sz.br ad.out (.int .i64 0) (.int .i64 0)
  have aA:=zh (vh (c:=w.heap.size+1) (x:=.int .i64 0) (y:=.int .i64 0) aw.out (by omega) (by omega))
  have aB:=zh (rS (x:=0) (y:=0) ax.out ad.out (show w.heap.size+1+1<W2.heap.size by rw[aa.out];omega))
  obtain⟨s0,s1,s2,s3,s4,s5⟩:=b9 aA.out
  refine leaves_cons (f:=117) (args:=#[.pointer (some ⟨w.heap.size+1,0,none⟩),.pointer (some ⟨w.heap.size+1+1,0,none⟩)]) (by simp) (by simp[go_sem]) ?_
  refine (wF ⟨w.heap.size+1,0,none⟩ ⟨w.heap.size+1+1,0,none⟩ 0 0 _ k0 m0 l1 o1).mono ?_
  rintro e u' w3 ⟨rfl,rfl,rfl⟩
  simp[Leaves,settle,results,Tryz.results84,go_sem,q0,q1,s0,s1,s2,s3,s4,s5]
  rw[HX.out]
  exact⟨(ay.out.setCell (by show w.heap.size<=w.heap.size+1;omega) _).setCell (by show w.heap.size<=w.heap.size+1+1;omega) _,D,dc,C,cc,G,gc,rfl,iE aB.out (by rw[aa.out];omega)⟩
 | error x =>
  obtain⟨i0,k⟩:=x
  obtain rfl:e=panAt i0 k:=hr
  have HX:Hid (X=(k,i0,zeroP)):=hX.symm
  clear hX
  go_wp2_with fail
  refine leaves_cons (f:=117) (args:=#[.pointer (some ⟨w.heap.size+1,0,none⟩),.pointer (some ⟨w.heap.size+1+1,0,none⟩)]) (by simp) (by simp[go_sem]) ?_
  refine (rR ⟨w.heap.size+1,0,none⟩ ⟨w.heap.size+1+1,0,none⟩ 0 0 i0 k _ (fun u hb=>(Sz.aD (ae.out _ (bt HB.out hb)).2).1) (fun u hb=>(Sz.aD (ae.out _ (bt HB.out hb)).2).2.1) (fun u hb=>(Sz.aE (ae.out _ (bt HB.out hb)).2 _).2.2.1) (fun u hb=>(Sz.aE (ae.out _ (bt HB.out hb)).2 _).2.2.2)).mono ?_
  rintro e u' w3 ⟨rfl,rfl,u,hb,rfl⟩
  have am:=zh (bt HB.out hb)
  obtain⟨q0,q1⟩:=Sz.br (ae.out _ am.out).2 (.int .i64 i0) (.int .i64 k)
  obtain⟨k0,k1,k2,k3,k4,k5⟩:=b9 (yW (j:=0) (x:=.int .i64 k) (yW (j:=0) (x:=.int .i64 i0) (ae.out _ am.out).1 (show w.heap.size+1≠w.heap.size by omega)) (show w.heap.size+1+1≠w.heap.size by omega))
  simp[Leaves,settle,results,Tryz.results84,go_sem,q0,q1,k0,k1,k2,k3,k4,k5]
  rw[HX.out]
  exact⟨((bt aj.out am.out).setCell (by show w.heap.size<=w.heap.size+1;omega) _).setCell (by show w.heap.size<=w.heap.size+1+1;omega) _,none,0,none,0,none,0,rfl,oH _ _⟩
end
section
open Go.RowKit Rs At Pg
namespace Pg
def ToSt (V:World) (v:Value) (fs:List Sz.Fld) (u:World):Prop:=Rg.Own Sz.encF 3 u V.heap.size 108 v fs/\Below V.heap.size V u
theorem iG {V u u2 W5:World}{v v5:Value}{fs:List Sz.Fld}{f:Sz.Fld}{o:Obj}(h:ToSt V v fs u)(hb:Below u.heap.size u u2)(ho:Rg.Own Sz.encF 3 W5 V.heap.size 108 v5 (fs++[f]))(hg:(u2.alloc o).grownBy W5 v.ownBlock):ToSt V v5 (fs++[f]) W5:=by
 have aa:Below u.heap.size u (u2.alloc o):=hb.alloc hb.size _
 have ab:V.heap.size<=u.heap.size:=h.2.size
 exact⟨ho,(h.2.trans (aa.mono ab)).trans (Rg.au (Rg.own_below h.1 aa) (Nat.le_trans ab aa.size) hg)⟩
theorem acI {u:World}{f g:Sz.Fld}{B:Nat}{T:TypeId}(hB:B<=u.heap.size):Rg.Own Sz.encF 3 (u.alloc (.cells #[.string ⟨f.key.toArray⟩,.string ⟨f.val.toArray⟩,.int .i64 f.line,.string ⟨g.key.toArray⟩,.string ⟨g.val.toArray⟩,.int .i64 g.line] T)) B T (.slice (some ⟨u.heap.size,0,none⟩) 2 2) [f,g] :=
 ⟨rfl,.inr ⟨u.heap.size,2,_,rfl,hB,heap_alloc_new u _,Nat.le_refl _,by decide,rfl,rfl⟩⟩
end Pg
attribute [local go_sem ↓] Go.wp_at_zero Go.wp_at_succ
theorem yX (p:Pk)(D C G:Option Addr)(dn dc cn cc gn gc:Nat)(w:World)(hk:KOk w)(hd:Pg.DRow w D p.deps)(hdn:p.deps.length=dn)(hc:ARow w C p.confl)(hcn:p.confl.length=cn)(hg:GRow w G p.prov)(hgn:p.prov.length=gn)(ht:PTxt p) :
  Calls Tryz.prog 65 #[.agg #[.string ⟨p.name.toArray⟩,.string ⟨p.ver.toArray⟩,.slice D dn dc,.slice C cn cc,.slice G gn gc,.float .f64 p.wt]] w fun e w'=>∃ A n c,e=.returned (.slice A n c)/\(toPk p).length=n/\Rg.Row Sz.encF 3 w' A (toPk p)/\Below w.heap.size w w':=by
 obtain⟨t1,t2,t3,t4,t5,t6,t7,t8,t9,aU,aV,aW⟩:=ht
 obtain⟨V,hV⟩:=ex (w.alloc (.cells #[.string ⟨p.name.toArray⟩,.string ⟨p.ver.toArray⟩,.slice D dn dc,.slice C cn cc,.slice G gn gc,.float .f64 p.wt] 39))
 have HB:Hid (Below w.heap.size w V):=ab hV
 obtain⟨b,hb⟩:=ex w.heap.size
 have ad:=zh (fun W (h:Below V.heap.size V W)=>ak hV h)
 rw[hb] at ad
 have HK:=zh (fun W (h:Below V.heap.size V W)=>az (az hk HB.out) h)
 have HM:=zh (fun W (h:Below V.heap.size V W)=>aa (aa hk.1 HB.out) h)
 have aM:Hid (∀ W,Below V.heap.size V W->Calls Tryz.prog 97 #[.slice D dn dc,.func (.func 98) #[] #[],.string ⟨#[59,32]⟩] W fun e w'=>e=.returned (.string ⟨(depsT p).toArray⟩)/\Below W.heap.size W w'):=fun W h=>rI semi D dn dc p.deps W (HM.out W h) hdn (aX (aX hd HB.out) h) (by rw[<-hdn];exact t3) t4 t5
 have aP:Hid (∀ W,Below V.heap.size V W->Calls Tryz.prog 99 #[.slice C cn cc,.func (.func 100) #[] #[],.string ⟨#[59,32]⟩] W fun e w'=>e=.returned (.string ⟨(conflT p).toArray⟩)/\Below W.heap.size W w'):=fun W h=>iQ semi C cn cc p.confl W (HM.out W h) hcn (aB (aB hc HB.out) h) (by rw[<-hcn];exact t6) t7 t8
 have aQ:Hid (∀ W,Below V.heap.size V W->Calls Tryz.prog 101 #[.slice G gn gc,.func (.func 102) #[] #[],.string ⟨#[59,32]⟩] W fun e w'=>e=.returned (.string ⟨(provT p).toArray⟩)/\Below W.heap.size W w'):=fun W h=>o9 semi G gn gc p.prov W (HM.out W h) hgn (Rg.ah (Rg.ah hg HB.out) h) (by rw[<-hgn];exact t9) aU aV
 have ax:Hid (∀ W,Below V.heap.size V W->Calls Tryz.prog 103 #[.float .f64 p.wt] W fun e w'=>e=.returned (.string ⟨(Wm.textW p.wt).toArray⟩)/\Below W.heap.size W w'):=fun W h=>adl p.wt aW W (HK.out W h)
 obtain⟨nm,au⟩:=ex p.name
 obtain⟨vr,av⟩:=ex p.ver
 obtain⟨fw,aw⟩:=ex p.wt
 have HN:Hid (nm.length<=281474976710656/\vr.length<=281474976710656):=by rw[<-au,<-av];exact⟨Nat.le_trans t1 (by decide),Nat.le_trans t2 (by decide)⟩
 have H0:Hid (to0 p=[⟨kPkg,nm,0⟩,⟨kVer,vr,0⟩]):=by rw[<-au,<-av];rfl
 have aC:Hid (dn=0↔p.deps=[]):=by rw[<-hdn];exact List.length_eq_zero_iff
 have aD:Hid (cn=0↔p.confl=[]):=by rw[<-hcn];exact List.length_eq_zero_iff
 have aE:Hid (gn=0↔p.prov=[]):=by rw[<-hgn];exact List.length_eq_zero_iff
 rw[au,av,aw] at ad hV
 rw[au,av,aw]
 rw[aw] at ax
 have aR:Hid (p.wt=fw):=aw
 obtain⟨y0,y1,y2,y3,y4,y5⟩:=ad.out _ (Below.refl _ _)
 have aS:Hid (w.heap.size<=V.heap.size):=HB.out.size
 obtain⟨TD,aH⟩:=ex (depsT p)
 obtain⟨TC,aI⟩:=ex (conflT p)
 obtain⟨TG,aJ⟩:=ex (provT p)
 obtain⟨TW,aK⟩:=ex (Wm.textW fw)
 rw[aH] at aM
 rw[aI] at aP
 rw[aJ] at aQ
 rw[aK] at ax
 have E1:Hid (to1 p=if dn=0 then to0 p else to0 p++[⟨kDep,TD,0⟩]):=by
  show _=_
  unfold to1;rw[aH]
  by_cases h:dn=0
  ·rw[if_pos h,if_pos (aC.out.1 h)]
  ·rw[if_neg h,if_neg (fun e=>h (aC.out.2 e))]
 have E2:Hid (to2 p=if cn=0 then to1 p else to1 p++[⟨kCon,TC,0⟩]):=by
  show _=_
  unfold to2;rw[aI]
  by_cases h:cn=0
  ·rw[if_pos h,if_pos (aD.out.1 h)]
  ·rw[if_neg h,if_neg (fun e=>h (aD.out.2 e))]
 have E3:Hid (to3 p=if gn=0 then to2 p else to2 p++[⟨kPro,TG,0⟩]):=by
  show _=_
  unfold to3;rw[aJ]
  by_cases h:gn=0
  ·rw[if_pos h,if_pos (aE.out.1 h)]
  ·rw[if_neg h,if_neg (fun e=>h (aE.out.2 e))]
 have E4:Hid (toPk p=if TW=[48] then to3 p else to3 p++[⟨kWei,TW,0⟩]):=by
  show _=_
  unfold toPk;rw[aR.out,aK]
 have a0:=zh hb
 clear hk hd hdn hc hcn hg hgn t1 t2 t3 t4 t5 t6 t7 t8 t9 aU aV aW au av aw aH aI aJ aK aC aD aE aR
 go_enter Tryz.func65,Tryz.ntmps65
 go_upto_region 1 with fail
 clear hV
 go_cut [3] (fun v wx=>Hid (ToSt V v (to0 p) wx))
 case first =>
  have aF:Hid (Below V.heap.size V V.drew):=(Below.refl _ _).drew
  go_region_held3 (fun w'=>w'.cell? ⟨b,0,none⟩=some (.string ⟨nm.toArray⟩)/\w'.cell? ⟨b,1,none⟩=some (.string ⟨vr.toArray⟩))
   (first
    | exact⟨(ad.out _ aF.out).1,(ad.out _ aF.out).2.1⟩
    | exact⟨(ad.out _ aG.out).1,(ad.out _ aG.out).2.1⟩
    | exact⟨(ad.out _ aj.out).1,(ad.out _ aj.out).2.1⟩
    | exact⟨(ad.out _ (aj.out.alloc aj.out.size _)).1,(ad.out _ (aj.out.alloc aj.out.size _)).2.1⟩)
   (first
    | (go_at_call 41;refine (aN vr _ HN.out.2).mono ?_;rintro _ u4 ⟨rfl,aY⟩;have aj:=zh (bt aG.out aY);clear aY)
    | (go_at_call 41;refine (aN nm _ HN.out.1).mono ?_;rintro _ u3 ⟨rfl,aZ⟩;have aG:=zh (bt aF.out aZ);clear aZ))
  go_wp2_with fail
  go_meet
  case rel =>
   show ToSt _ _ _ _
   rw[H0.out]
   exact⟨acI aj.out.size,aj.out.alloc aj.out.size _⟩
 case rest =>
 have al:Hid (ToSt V u3 (to0 p) wc):=hcut
 clear hcut y0 y1 y2 y3 y4 y5
 obtain⟨A0,c0,rfl,_,_,_⟩:=Rg.aA Sz.fitsF al.out.1
 obtain⟨y0,y1,y2,y3,y4,y5⟩:=ad.out _ al.out.2
 go_upto_if 17 with fail
 go_cut [3] (fun v wx=>Hid (ToSt V v (to1 p) wx))
 case first =>
  by_cases h0:dn=0
  ·have HF:Hid (to1 p=to0 p):=by show _=_;rw[E1.out,if_pos h0]
   subst h0
   go_wp2_with fail
   go_meet
   case rel=>show ToSt _ _ _ _;rw[HF.out];exact al.out
  ·have HF:Hid (to1 p=to0 p++[⟨kDep,TD,0⟩]):=by show _=_;rw[E1.out,if_neg h0]
   have ar:0<dn:=by omega
   clear h0
   go_wp2_with fail
   refine (aM.out _ al.out.2).mono ?_
   rintro _ u1 ⟨rfl,ae⟩
   have ac:=zh ae
   clear ae
   have ap:Hid ((to0 p).length+1<=1000000):=by have:=acw p;show _<=_;omega
   go_wp2_with (at_builtin;refine Rg.aO Sz.sliceF rfl (.tmp 18) (.tmp 23) rfl V.heap.size _ (to0 p) [⟨kDep,TD,0⟩] rfl (Rg.own_below al.out.1 (ac.out.alloc ac.out.size _)) _ _ rfl (Rg.ay u1 _ _ _ (by rfl)) (Nat.zero_lt_succ _) ap.out ?b2 ?_)
   case b2=>have:=al.out.2.size;have:=ac.out.size;simp;omega
   intro v5 W5 af ag aq
   have am:Hid (ToSt V v5 (to1 p) W5):=by show ToSt _ _ _ _;rw[HF.out];exact iG al.out ac.out af ag
   clear af ag aq
   go_wp2_with fail
   go_meet
   case rel=>exact am
 case rest =>
 have an:Hid (ToSt V u3 (to1 p) wc):=hcut
 clear hcut al y0 y1 y2 y3 y4 y5
 obtain⟨A1,c1,rfl,_,_,_⟩:=Rg.aA Sz.fitsF an.out.1
 obtain⟨y0,y1,y2,y3,y4,y5⟩:=ad.out _ an.out.2
 go_upto_if 28 with fail
 go_cut [3] (fun v wx=>Hid (ToSt V v (to2 p) wx))
 case first =>
  by_cases h0:cn=0
  ·have HF:Hid (to2 p=to1 p):=by show _=_;rw[E2.out,if_pos h0]
   subst h0
   go_wp2_with fail
   go_meet
   case rel=>show ToSt _ _ _ _;rw[HF.out];exact an.out
  ·have HF:Hid (to2 p=to1 p++[⟨kCon,TC,0⟩]):=by show _=_;rw[E2.out,if_neg h0]
   have ar:0<cn:=by omega
   clear h0
   go_wp2_with fail
   refine (aP.out _ an.out.2).mono ?_
   rintro _ u1 ⟨rfl,ae⟩
   have ac:=zh ae
   clear ae
   have ap:Hid ((to1 p).length+1<=1000000):=by have:=uT p;show _<=_;omega
   go_wp2_with (at_builtin;refine Rg.aO Sz.sliceF rfl (.tmp 29) (.tmp 34) rfl V.heap.size _ (to1 p) [⟨kCon,TC,0⟩] rfl (Rg.own_below an.out.1 (ac.out.alloc ac.out.size _)) _ _ rfl (Rg.ay u1 _ _ _ (by rfl)) (Nat.zero_lt_succ _) ap.out ?b2 ?_)
   case b2=>have:=an.out.2.size;have:=ac.out.size;simp;omega
   intro v5 W5 af ag aq
   have am:Hid (ToSt V v5 (to2 p) W5):=by show ToSt _ _ _ _;rw[HF.out];exact iG an.out ac.out af ag
   clear af ag aq
   go_wp2_with fail
   go_meet
   case rel=>exact am
 case rest =>
 have ao:Hid (ToSt V u3 (to2 p) wc):=hcut
 clear hcut an y0 y1 y2 y3 y4 y5
 obtain⟨A2,c2,rfl,_,_,_⟩:=Rg.aA Sz.fitsF ao.out.1
 obtain⟨y0,y1,y2,y3,y4,y5⟩:=ad.out _ ao.out.2
 go_upto_if 39 with fail
 go_cut [3] (fun v wx=>Hid (ToSt V v (to3 p) wx))
 case first =>
  by_cases h0:gn=0
  ·have HF:Hid (to3 p=to2 p):=by show _=_;rw[E3.out,if_pos h0]
   subst h0
   go_wp2_with fail
   go_meet
   case rel=>show ToSt _ _ _ _;rw[HF.out];exact ao.out
  ·have HF:Hid (to3 p=to2 p++[⟨kPro,TG,0⟩]):=by show _=_;rw[E3.out,if_neg h0]
   have ar:0<gn:=by omega
   clear h0
   go_wp2_with fail
   refine (aQ.out _ ao.out.2).mono ?_
   rintro _ u1 ⟨rfl,ae⟩
   have ac:=zh ae
   clear ae
   have ap:Hid ((to2 p).length+1<=1000000):=by have:=uU p;show _<=_;omega
   go_wp2_with (at_builtin;refine Rg.aO Sz.sliceF rfl (.tmp 40) (.tmp 45) rfl V.heap.size _ (to2 p) [⟨kPro,TG,0⟩] rfl (Rg.own_below ao.out.1 (ac.out.alloc ac.out.size _)) _ _ rfl (Rg.ay u1 _ _ _ (by rfl)) (Nat.zero_lt_succ _) ap.out ?b2 ?_)
   case b2=>have:=ao.out.2.size;have:=ac.out.size;simp;omega
   intro v5 W5 af ag aq
   have am:Hid (ToSt V v5 (to3 p) W5):=by show ToSt _ _ _ _;rw[HF.out];exact iG ao.out ac.out af ag
   clear af ag aq
   go_wp2_with fail
   go_meet
   case rel=>exact am
 case rest =>
 have ai:Hid (ToSt V u3 (to3 p) wc):=hcut
 clear hcut ao y0 y1 y2 y3 y4 y5
 obtain⟨A3,c3,rfl,_,_,_⟩:=Rg.aA Sz.fitsF ai.out.1
 obtain⟨y0,y1,y2,y3,y4,y5⟩:=ad.out _ ai.out.2
 by_cases h0:TW=[48]
 ·have HF:Hid (toPk p=to3 p):=by show _=_;rw[E4.out,if_pos h0]
  have d0:(TW==[48])=true:=beq_iff_eq.2 h0
  have d1:(TW != [48])=false:=by rw[bne,d0];rfl
  clear h0
  go_wp2_with fail
  refine (ax.out _ ai.out.2).mono ?_
  rintro _ u1 ⟨rfl,ae⟩
  have aT:Hid (ToSt V (.slice A3 (to3 p).length c3) (to3 p) u1):=⟨Rg.own_below ai.out.1 ae,ai.out.2.trans (ae.mono ai.out.2.size)⟩
  clear ae
  go_wp2_with fail
  go_ret
  rw[HF.out]
  obtain⟨A4,c4,e4,aL,_,_⟩:=Rg.aA Sz.fitsF aT.out.1
  cases e4
  exact⟨_,_,_,rfl,rfl,aL,HB.out.trans (aT.out.2.mono aS.out)⟩
 ·have HF:Hid (toPk p=to3 p++[⟨kWei,TW,0⟩]):=by show _=_;rw[E4.out,if_neg h0]
  have d0:(TW==[48])=false:=beq_eq_false_iff_ne.2 h0
  have d1:(TW != [48])=true:=by rw[bne,d0];rfl
  clear h0
  go_wp2_with fail
  refine (ax.out _ ai.out.2).mono ?_
  rintro _ u1 ⟨rfl,ae⟩
  have ac:=zh ae
  clear ae
  have ap:Hid ((to3 p).length+1<=1000000):=by have:=uV p;show _<=_;omega
  go_wp2_with (at_builtin;refine Rg.aO Sz.sliceF rfl (.tmp 52) (.tmp 55) rfl V.heap.size _ (to3 p) [⟨kWei,TW,0⟩] rfl (Rg.own_below ai.out.1 (ac.out.alloc ac.out.size _)) _ _ rfl (Rg.ay u1 _ _ _ (by rfl)) (Nat.zero_lt_succ _) ap.out ?b2 ?_)
  case b2=>have:=ai.out.2.size;have:=ac.out.size;simp;omega
  intro v5 W5 af ag aq
  have am:Hid (ToSt V v5 (toPk p) W5):=by show ToSt _ _ _ _;rw[HF.out];exact iG ai.out ac.out af ag
  clear af ag aq
  go_wp2_with fail
  go_ret
  obtain⟨A4,c4,rfl,aL,_,_⟩:=Rg.aA Sz.fitsF am.out.1
  exact⟨_,_,_,rfl,rfl,aL,HB.out.trans (am.out.2.mono aS.out)⟩
end
end Go.Proofs.YtkoaljpfoekgkaaGreatDoor
