/- Part 24 of what the laws lean on. -/
import Derived.Test.YtgnaiidgjmicaaaGreatDoorM23
set_option maxRecDepth 100000
set_option maxHeartbeats 6400000
namespace Go.Proofs.YtgnaiidgjmicaaaGreatDoor
section
open Go.RowKit Rs At Pg
attribute [local go_sem ↓] Go.wp_at_zero Go.wp_at_succ
theorem Pg.ado (t:List UInt8):(Lib.cut t [32,61,32]).1.length<=t.length:=by
 unfold Lib.cut
 split
 ·show (t.take _).length<=_
  rw[List.length_take];omega
 ·exact Nat.le_refl _
theorem rV (t:List UInt8)(i:Int)(w:World)(hw:MaxOk w)(ht:t.length<=1000) :
  Calls Tryz.prog 248 #[.agg #[.string ⟨t.toArray⟩,.int .i64 i]] w fun r w'=>Below w.heap.size w w'/\match gvR t with
   | .ok a=>r=.returned (.agg #[.string ⟨a.name.toArray⟩,.string ⟨a.ver.toArray⟩])
   | .error k=>r=panAt i k :=
 (rR t i w hw (by omega) (Nat.le_trans (Nat.le_trans (ado t) ht) (by decide))).mono fun r w' ⟨h1,h2⟩=>by
  refine⟨h2,?_⟩
  rw[abi] at h1
  cases h:gvR t with
  | ok a=>rw[h] at h1;exact h1
  | error k=>rw[h] at h1;exact h1
theorem Pg.sliceG:Rg.SliceT Tryz.prog encG 2 66 135:=⟨fitsG,by decide,by kernel_rfl,Rg.b8 (z:=.agg #[.string ByteArray.empty,.string ByteArray.empty]) (b:=32) (by kernel_rfl) (by rfl) (by decide)⟩
theorem Pg.uP {w:World}{B:Nat}{T:TypeId}{v:Value}{l:List Gv}(h:Rg.Own encG 2 w B T v l):∃ A c,v=.slice A l.length c/\GRow w A l/\∀ a,A=some a->B<=a.block:=by
 obtain⟨A,c,hv,hr,_,_⟩:=Rg.aF fitsG h
 exact⟨A,c,hv,hr,fun a ha=>by subst ha;exact (Rg.bw h a.block (by rw[hv];rfl)).1⟩
theorem pN (t sep:List UInt8)(i:Int)(most:Nat)(w:World)(hw:MaxOk w)(ht:Fit sep t)(h1:1<=sep.length)(hmo:most<=100) :
  Calls Tryz.prog 247 #[.agg #[.string ⟨t.toArray⟩,.int .i64 i],.string ⟨sep.toArray⟩,.int .i64 most,.func (.func 248) #[] #[]] w (Pg.PartsRet GRow w i (partsR gvR sep most t)):=by
 obtain⟨R,hR⟩:=ex (partsR gvR sep most t)
 rw[hR]
 unfold partsR at hR
 obtain⟨V,hV⟩:=ex (w.alloc (.cells #[.string ⟨t.toArray⟩,.int .i64 i] 256))
 have HB:Hid (Below w.heap.size w V):=ai hV
 have HP:=zh (fun W (h:Below V.heap.size V W)=>aD hV h)
 have HM:=zh (fun W (h:Below V.heap.size V W)=>ag (ag hw HB.out) h)
 have HC:Hid (Calls Tryz.prog 274 #[.string ⟨t.toArray⟩,.string ⟨sep.toArray⟩,.int .i64 ((most:Int)+1)] V fun e w'=>∃ A m c,e=.returned (.slice A m c)/\(Lib.splitN t sep (most+1)).length=m/\m<=1000/\Rg.Row encT 1 w' A (Lib.splitN t sep (most+1))/\Below V.heap.size V w') :=
  jW t sep (most+1) V (HM.out _ (Below.refl _ _)) (Nat.le_trans ht.1 (by decide)) h1 (by omega) (by omega)
 have ap:∀ p∈Lib.split t sep,p.length<=1000:=ht.2
 obtain⟨f1,f2⟩:=jT (s:=t) (sep:=sep) (fun e=>by rw[e] at h1;simp at h1) most
 obtain⟨ps,aE⟩:=ex (Lib.split t sep)
 obtain⟨qs,aF⟩:=ex (Lib.splitN t sep (most+1))
 rw[aE] at hR f1 f2 ap
 rw[aF] at f1 f2 HC
 have iw:IntKind.i64.wrap ((most:Int)+1)=(most:Int)+1:=IntWalk.i64_in _ (by omega)
 obtain⟨c0,c1⟩:=HP.out _ (Below.refl _ _)
 have HR:=zh hR
 have aq:=zh f1
 have ax:=zh f2
 have aK:=zh ap
 clear hw hR ap f1 f2 aE aF
 go_enter Tryz.func247,Tryz.ntmps247
 go_wp2_with fail
 clear hV
 refine HC.out.mono ?_
 rintro _ z1 ⟨A,n,c,rfl,hn,aT,ak,aG⟩
 have HN:=zh hn
 have ac:=zh ak
 have al:=zh aG
 clear hn ak aG HC c0 c1 iw
 obtain⟨c0,c1⟩:=HP.out _ al.out
 by_cases ae:n<=most
 case neg =>
  have ar:Hid (R=.error 4):=by
   show _=_
   rw[<-HR.out,if_neg]
   intro hh
   have:=aq.out hh
   rw[this] at HN
   have:=HN.out
   omega
  have d0:decide (n<=most)=false:=decide_eq_false ae
  clear ae
  go_wp2_with fail
  refine (aW t i false 4 _).mono ?_
  rintro _ u ⟨rfl,hb⟩
  have HU:Hid (Below w.heap.size w u):=HB.out.trans ((bt al.out hb).mono HB.out.size)
  clear hb
  go_wp2_with fail
  exact⟨rfl,HU.out,by rw[ar.out]⟩
 have aL:qs=ps:=by
  rcases Nat.lt_or_ge most ps.length with h | h
  ·have:=ax.out h
   have:=HN.out
   omega
  ·exact aq.out h
 subst aL
 have ar:Hid (rdL gvR [] qs=R):=by
  show _=_
  rw[<-HR.out,if_pos (by rw[HN.out];exact ae)]
 have d0:decide (n<=most)=true:=decide_eq_true ae
 clear ae aq ax HR
 go_wp2_with fail
 refine (aW t i true 4 _).mono ?_
 rintro _ z2 ⟨rfl,hb⟩
 have au:Hid (Below V.heap.size V z2):=bt al.out hb
 have af:=zh (Rg.aj ac.out hb)
 clear hb ac d0 c0 c1 al
 go_wp2_with fail
 go_loopw [10,27] (fun v i wr=>∃ (k:Nat) (acc:List Gv),k<=n/\i=.int .i64 k/\Hid (Rg.Own encG 2 wr z2.heap.size 135 v acc)/\Hid (Below z2.heap.size z2 wr/\z2.heap.size<=wr.heap.size)/\Hid (acc.length=k)/\Hid (rdL gvR acc (qs.drop k)=R)) (fun _ i _=>n-(intOf i).toNat)
 case atStart=>exact⟨0,[],Nat.zero_le _,rfl,Rg.aB _ _ _,⟨Below.refl _ _,Nat.le_refl _⟩,rfl,by show rdL _ _ (qs.drop 0)=R;rw[List.drop_zero,ar.out]⟩
 case round =>
  obtain⟨k,acc,hk,rfl,HO,ab,HA,HE⟩:=hrel
  have ah:Hid (Below V.heap.size V wr):=au.out.trans (ab.out.1.mono au.out.size)
  by_cases ay:k<n
  ·have aC:=zh ay
   have av:k<qs.length:=by rw[HN.out];exact ay
   obtain⟨ad,rfl,_,q0⟩:=dP (Rg.aj af.out ab.out.1) k av
   have am:=aK.out _ (List.getElem_mem av)
   have he:=HE.out
   rw[List.drop_eq_getElem_cons av] at he
   obtain⟨p,hp⟩:=ex (qs[k])
   rw[hp] at am he q0
   have aM:Hid (acc.length+1<=1000000):=by have h1:=HA.out;show _<=_;omega
   have an:=zh (rV p i wr (HM.out _ ah.out) am)
   obtain⟨c0,c1⟩:=HP.out _ ah.out
   obtain⟨E,hE⟩:=ex (gvR p)
   rw[hE] at an
   cases E with
   | error e =>
    have aw:Hid (R=.error e):=by show _=_;rw[<-he];exact eu hE
    clear he hp am hE
    go_wp2_with fail
    refine an.out.mono ?_
    rintro e z3 ⟨hb,rfl⟩
    have aa:Hid (Below w.heap.size w z3):=HB.out.trans ((bt ah.out hb).mono HB.out.size)
    clear hb
    go_wp2_with fail
    exact⟨rfl,aa.out,by rw[aw.out]⟩
   | ok a =>
    have aO:Hid (rdL gvR (acc++[a]) (qs.drop (k+1))=R):=by show _=_;rw[<-he];exact (jk hE).symm
    clear he hp am hE
    go_wp2_with fail
    refine an.out.mono ?_
    rintro e z3 ⟨hb,rfl⟩
    have aa:=zh hb
    clear hb c0 c1 q0 an
    go_wp2_with (at_builtin;refine Rg.aN sliceG rfl (.tmp 31) (.tmp 38) rfl z2.heap.size _ acc [a] rfl (Rg.own_below HO.out (aa.out.alloc aa.out.size _)) _ _ rfl (Rg.az z3 _ _ _ (by rfl)) (Nat.zero_lt_succ _) aM.out ?b2 ?_)
    case b2=>have:=ab.out.2;have:=aa.out.size;simp;omega
    intro v5 W5 aH aI aS
    have ao:Below wr.heap.size wr (z3.alloc (.cells #[.string ⟨a.name.toArray⟩,.string ⟨a.ver.toArray⟩] 135)):=aa.out.alloc aa.out.size _
    have aP:Hid (Rg.Own encG 2 W5 z2.heap.size 135 v5 (acc++[a])):=aH
    have aQ:Hid (Below z2.heap.size z2 W5/\z2.heap.size<=W5.heap.size):=by
     have h2:=ab.out.1.trans ((ao.mono ab.out.2).trans (Rg.aA (Rg.own_below HO.out ao) (Nat.le_trans ab.out.2 ao.size) aI))
     exact⟨h2,h2.size⟩
    clear aH aI aS ao HO aa ab ah
    go_wp2_with fail
    go_roundw
    case rel=>exact⟨k+1,acc++[a],(by have:=aC.out;omega),by go_num,aP,aQ,by show (acc++[a]).length=_;rw[List.length_append,HA.out];rfl,aO⟩
    case measure=>have:=aC.out;simp[intOf];omega
  ·obtain rfl:k=n:=by omega
   have aw:Hid (R=.ok acc):=by show _=_;rw[<-HE.out,List.drop_eq_nil_of_le (by rw[HN.out];exact Nat.le_refl _)];rfl
   obtain⟨C,d,rfl,aJ,hf⟩:=uP HO.out
   have aR:=zh aJ
   have HF:=zh hf
   clear aJ hf
   go_wp2_with fail
   go_ret
   refine⟨bt HB.out ah.out,?_⟩
   rw[aw.out]
   exact⟨C,_,d,rfl,rfl,aR.out,fun a ha=>Nat.le_trans (Nat.le_trans HB.out.size au.out.size) (HF.out a ha)⟩
def Pg.DFresh (B:Nat) (ds:List Desc):Prop:=∀ (i:Nat) (d:Desc),ds[i]?=some d->∀ a,d.1=some a->B<=a.block
def Pg.DRowF (B:Nat) (w:World) (A:Option Addr) (t:List (List Atm)):Prop:=∃ ds,Rg.Row encO 1 w A ds/\DIn w ds t/\DFresh B ds
theorem Pg.gg {B B':Nat}{w:World}{A:Option Addr}{t:List (List Atm)}(h:Pg.DRowF B w A t)(hB:B'<=B):Pg.DRowF B' w A t:=by
 obtain⟨ds,h1,h2,h3⟩:=h
 exact⟨ds,h1,h2,fun i d e a ha=>Nat.le_trans hB (h3 i d e a ha)⟩
def Pg.DOwnF (w:World) (B:Nat) (T:TypeId) (v:Value) (ds:List Desc) (t:List (List Atm)):Prop:=Rg.Own encO 1 w B T v ds/\DIn w ds t/\DFresh B ds/\Pure IsSl w v
theorem Pg.uQ (w:World)(B:Nat)(T:TypeId):DOwnF w B T (.slice none 0 0) [] []:=⟨Rg.aB _ _ _,⟨rfl,fun i a d h=>by simp at h⟩,fun i a h=>by simp at h,pure_nil _ _⟩
theorem Pg.bW {w w':World}{B:Nat}{T:TypeId}{v:Value}{ds:List Desc}{t:List (List Atm)}(h:DOwnF w B T v ds t)(hb:Below w.heap.size w w'):DOwnF w' B T v ds t:=⟨Rg.own_below h.1 hb,ix h.2.1 hb,h.2.2.1,c8 h.2.2.2 h.1 hb⟩
theorem Pg.rh {w w':World}{v:Value}{A:Option Addr}{l:List Atm}(h:ARow w A l)(hp:Pure IsSl w v)(hb:But v.ownBlock w w'):ARow w' A l:=by
 refine d9 h hb ?_ fun g hg j x hx=>afS (hp g hg j x hx)
 cases hv:v.ownBlock with
 | none=>exact fun _ a _ e=>by cases e
 | some g=>exact aeU h (hp g hv)
theorem Pg.uR {w w':World}{B:Nat}{T:TypeId}{v v':Value}{ds:List Desc}{t:List (List Atm)}{C:Option Addr}{m c:Nat}{l:List Atm}(h:DOwnF w B T v ds t)(hr:ARow w C l)(hm:l.length=m)(hf:∀ a,C=some a->B<=a.block)(ho:Rg.Own encO 1 w' B T v' (ds++[(C,m,c)]))(hp:Pure IsSl w' v')(hg:w.grownBy w' v.ownBlock):DOwnF w' B T v' (ds++[(C,m,c)]) (t++[l]):=by
 have hb:But v.ownBlock w w':=dD hg
 refine⟨ho,⟨by rw[List.length_append,List.length_append,h.2.1.1];rfl,fun i x y e1 e2=>?_⟩,fun i x e1=>?_,hp⟩
 ·rcases aU e1 with⟨q1,q2⟩ | ⟨q1,q2⟩
  ·rcases aU e2 with⟨_,p2⟩ | ⟨p1,_⟩
   ·exact⟨(h.2.1.2 i x y q2 p2).1,rh (h.2.1.2 i x y q2 p2).2 h.2.2.2 hb⟩
   ·have:=h.2.1.1;omega
  ·rcases aU e2 with⟨p1,_⟩ | ⟨_,p2⟩
   ·have:=h.2.1.1;omega
   ·subst q2 p2;exact⟨hm.symm,rh hr h.2.2.2 hb⟩
 ·rcases aU e1 with⟨q1,q2⟩ | ⟨q1,q2⟩
  ·exact h.2.2.1 i x q2
  ·subst q2;exact hf
theorem Pg.down_row {w:World}{B:Nat}{T:TypeId}{v:Value}{ds:List Desc}{t:List (List Atm)}(h:DOwnF w B T v ds t):∃ A c,v=.slice A t.length c/\Pg.DRowF B w A t/\∀ a,A=some a->B<=a.block:=by
 obtain⟨A,c,hv,hr,_,_⟩:=Rg.aF fitsO h.1
 rw[h.2.1.1] at hv
 exact⟨A,c,hv,⟨ds,hr,h.2.1,h.2.2.1⟩,fun a ha=>by subst ha;exact (Rg.bw h.1 a.block (by rw[hv];rfl)).1⟩
theorem Pg.sliceD6:Rg.SliceT Tryz.prog encO 1 64 81:=⟨fitsO,by decide,by kernel_rfl,Rg.b8 (z:=.slice none 0 0) (b:=24) (by kernel_rfl) (by rfl) (by decide)⟩
theorem Pg.uS:∀ i,Tryz.prog.info? 81=some i->∀ z,i.zero=some z->∀ u∈z.cells,IsSl u:=lP (z0:=.slice none 0 0) (by kernel_rfl) (fun u hu=>by simp[Value.cells] at hu;exact⟨_,_,_,hu⟩)
theorem Pg.pO:∀ x:Desc,∀ u∈encO x,IsSl u:=fun _ _ hu=>⟨_,_,_,List.mem_singleton.1 hu⟩
theorem uT (t:List UInt8)(i:Int)(w:World)(hw:MaxOk w)(ht:Fit orT t) :
  Calls Tryz.prog 244 #[.agg #[.string ⟨t.toArray⟩,.int .i64 i]] w (Pg.PartsRet ARow w i (depR t)):=by
 obtain⟨E,hE⟩:=ex (depR t)
 rw[hE]
 obtain⟨V,hV⟩:=ex (w.alloc (.cells #[.string ⟨t.toArray⟩,.int .i64 i] 256))
 have HB:Hid (Below w.heap.size w V):=ai hV
 obtain⟨c0,c1⟩:=aD hV (Below.refl _ _)
 have HC:Hid (Calls Tryz.prog 245 #[.agg #[.string ⟨t.toArray⟩,.int .i64 i],.string ⟨#[32,111,114,32]⟩,.int .i64 8,.func (.func 246) #[] #[]] V (Pg.PartsRet ARow V i E)):=by
  have h:=jl t orT i 8 V (ag hw HB.out) ht (by decide) (by decide)
  rw[show partsR atomR orT 8 t=E from hE] at h
  exact h
 clear hw ht hE
 go_enter Tryz.func244,Tryz.ntmps244
 go_wp2_with fail
 clear hV
 refine HC.out.mono ?_
 rintro r u ⟨hb,hr⟩
 have HU:Hid (Below w.heap.size w u):=bt HB.out hb
 clear hb HC c0 c1
 cases E with
 | error k =>
  obtain rfl:r=panAt i k:=hr
  go_wp2_with fail
  exact⟨rfl,HU.out,rfl⟩
 | ok l =>
  obtain⟨A,n,c,rfl,hn,aa,hf⟩:=hr
  have HN:=zh hn
  have HR:=zh aa
  have HF:Hid (∀ a,A=some a->w.heap.size<=a.block):=fun a ha=>Nat.le_trans HB.out.size (hf a ha)
  clear hn aa hf
  go_wp2_with fail
  go_ret
  exact⟨HU.out,A,n,c,rfl,HN.out,HR.out,HF.out⟩
theorem rW (t sep:List UInt8)(i:Int)(most:Nat)(w:World)(hw:MaxOk w)(ht:t.length<=200000/\∀ p∈Lib.split t sep,Fit orT p)(h1:1<=sep.length)(hmo:most<=100) :
  Calls Tryz.prog 243 #[.agg #[.string ⟨t.toArray⟩,.int .i64 i],.string ⟨sep.toArray⟩,.int .i64 most,.func (.func 244) #[] #[]] w (Pg.PartsRet (fun u A l=>Pg.DRowF w.heap.size u A l) w i (partsR depR sep most t)):=by
 obtain⟨R,hR⟩:=ex (partsR depR sep most t)
 rw[hR]
 unfold partsR at hR
 obtain⟨V,hV⟩:=ex (w.alloc (.cells #[.string ⟨t.toArray⟩,.int .i64 i] 256))
 have HB:Hid (Below w.heap.size w V):=ai hV
 have HP:=zh (fun W (h:Below V.heap.size V W)=>aD hV h)
 have HM:=zh (fun W (h:Below V.heap.size V W)=>ag (ag hw HB.out) h)
 have HC:Hid (Calls Tryz.prog 274 #[.string ⟨t.toArray⟩,.string ⟨sep.toArray⟩,.int .i64 ((most:Int)+1)] V fun e w'=>∃ A m c,e=.returned (.slice A m c)/\(Lib.splitN t sep (most+1)).length=m/\m<=1000/\Rg.Row encT 1 w' A (Lib.splitN t sep (most+1))/\Below V.heap.size V w') :=
  jW t sep (most+1) V (HM.out _ (Below.refl _ _)) (Nat.le_trans ht.1 (by decide)) h1 (by omega) (by omega)
 have ar:∀ p∈Lib.split t sep,Fit orT p:=ht.2
 obtain⟨f1,f2⟩:=jT (s:=t) (sep:=sep) (fun e=>by rw[e] at h1;simp at h1) most
 obtain⟨ps,aF⟩:=ex (Lib.split t sep)
 obtain⟨qs,aG⟩:=ex (Lib.splitN t sep (most+1))
 rw[aF] at hR f1 f2 ar
 rw[aG] at f1 f2 HC
 have iw:IntKind.i64.wrap ((most:Int)+1)=(most:Int)+1:=IntWalk.i64_in _ (by omega)
 obtain⟨c0,c1⟩:=HP.out _ (Below.refl _ _)
 have HR:=zh hR
 have au:=zh f1
 have aB:=zh f2
 have aM:=zh ar
 clear hw hR ar f1 f2 aF aG
 go_enter Tryz.func243,Tryz.ntmps243
 go_wp2_with fail
 clear hV
 refine HC.out.mono ?_
 rintro _ z1 ⟨A,n,c,rfl,hn,aX,am,aH⟩
 have HN:=zh hn
 have ac:=zh am
 have an:=zh aH
 clear hn am aH HC c0 c1 iw
 obtain⟨c0,c1⟩:=HP.out _ an.out
 by_cases ae:n<=most
 case neg =>
  have av:Hid (R=.error 4):=by
   show _=_
   rw[<-HR.out,if_neg]
   intro hh
   have:=au.out hh
   rw[this] at HN
   have:=HN.out
   omega
  have d0:decide (n<=most)=false:=decide_eq_false ae
  clear ae
  go_wp2_with fail
  refine (aW t i false 4 _).mono ?_
  rintro _ u ⟨rfl,hb⟩
  have HU:Hid (Below w.heap.size w u):=HB.out.trans ((bt an.out hb).mono HB.out.size)
  clear hb
  go_wp2_with fail
  exact⟨rfl,HU.out,by rw[av.out]⟩
 have aN:qs=ps:=by
  rcases Nat.lt_or_ge most ps.length with h | h
  ·have:=aB.out h
   have:=HN.out
   omega
  ·exact au.out h
 subst aN
 have av:Hid (rdL depR [] qs=R):=by
  show _=_
  rw[<-HR.out,if_pos (by rw[HN.out];exact ae)]
 have d0:decide (n<=most)=true:=decide_eq_true ae
 clear ae au aB HR
 go_wp2_with fail
 refine (aW t i true 4 _).mono ?_
 rintro _ z2 ⟨rfl,hb⟩
 have ao:Hid (Below V.heap.size V z2):=bt an.out hb
 have af:=zh (Rg.aj ac.out hb)
 clear hb ac d0 c0 c1 an
 go_wp2_with fail
 go_loopw [10,27] (fun v i wr=>∃ (k:Nat) (acc:List (List Atm)) (ds:List Desc),k<=n/\i=.int .i64 k/\Hid (DOwnF wr z2.heap.size 81 v ds acc)/\Hid (Below z2.heap.size z2 wr/\z2.heap.size<=wr.heap.size)/\Hid (acc.length=k)/\Hid (rdL depR acc (qs.drop k)=R)) (fun _ i _=>n-(intOf i).toNat)
 case atStart=>exact⟨0,[],[],Nat.zero_le _,rfl,uQ _ _ _,⟨Below.refl _ _,Nat.le_refl _⟩,rfl,by show rdL _ _ (qs.drop 0)=R;rw[List.drop_zero,av.out]⟩
 case round =>
  obtain⟨k,acc,ds,hk,rfl,HO,ab,HA,HE⟩:=hrel
  have ah:Hid (Below V.heap.size V wr):=ao.out.trans (ab.out.1.mono ao.out.size)
  by_cases aC:k<n
  ·have aE:=zh aC
   have aw:k<qs.length:=by rw[HN.out];exact aC
   obtain⟨ad,rfl,_,q0⟩:=dP (Rg.aj af.out ab.out.1) k aw
   have ap:=aM.out _ (List.getElem_mem aw)
   have he:=HE.out
   rw[List.drop_eq_getElem_cons aw] at he
   obtain⟨p,hp⟩:=ex (qs[k])
   rw[hp] at ap he q0
   have aO:Hid (ds.length+1<=1000000):=by have h1:=HA.out;have h2:=HO.out.2.1.1;show _<=_;omega
   have aq:=zh (uT p i wr (HM.out _ ah.out) ap)
   obtain⟨c0,c1⟩:=HP.out _ ah.out
   obtain⟨E,hE⟩:=ex (depR p)
   rw[hE] at aq
   cases E with
   | error e =>
    have ak:Hid (R=.error e):=by show _=_;rw[<-he];exact eu hE
    clear he hp ap hE
    go_wp2_with fail
    refine aq.out.mono ?_
    rintro e z3 ⟨hb,rfl⟩
    have aa:Hid (Below w.heap.size w z3):=HB.out.trans ((bt ah.out hb).mono HB.out.size)
    clear hb
    go_wp2_with fail
    exact⟨rfl,aa.out,by rw[ak.out]⟩
   | ok a =>
    have aP:Hid (rdL depR (acc++[a]) (qs.drop (k+1))=R):=by show _=_;rw[<-he];exact (jk hE).symm
    clear he hp ap hE
    go_wp2_with fail
    refine aq.out.mono ?_
    rintro e z3 ⟨hb,C,m,d,rfl,hm,hr,aI⟩
    have aa:=zh hb
    have aQ:=zh hm
    have ak:=zh hr
    have aR:Hid (∀ a,C=some a->z2.heap.size<=a.block):=fun a ha=>Nat.le_trans ab.out.2 (aI a ha)
    clear hb hm hr aI c0 c1 q0 aq
    go_wp2_with (at_builtin;refine Pg.dq sliceD6 uS pO rfl (.tmp 31) (.tmp 38) rfl z2.heap.size _ ds [(C,m,d)] rfl (bW HO.out (aa.out.alloc aa.out.size _)).1 (bW HO.out (aa.out.alloc aa.out.size _)).2.2.2 _ _ rfl (Rg.az z3 _ [(C,m,d)] _ (by rfl)) (Nat.zero_lt_succ _) aO.out ?b2 ?_)
    case b2=>have:=ab.out.2;have:=aa.out.size;simp;omega
    intro v5 W5 aJ aK ax aV
    have al:Below wr.heap.size wr (z3.alloc (.cells #[.slice C m d] 81)):=aa.out.alloc aa.out.size _
    have aS:=zh (uR (bW HO.out al) (ay ak.out ((Below.refl _ _).alloc (Nat.le_refl _) _)) aQ.out aR.out aJ aK ax)
    have aT:Hid (Below z2.heap.size z2 W5/\z2.heap.size<=W5.heap.size):=by
     have h2:=ab.out.1.trans ((al.mono ab.out.2).trans (Rg.aA (bW HO.out al).1 (Nat.le_trans ab.out.2 al.size) ax))
     exact⟨h2,h2.size⟩
    clear aJ aK ax aV al HO aa ab ah
    go_wp2_with fail
    go_roundw
    case rel=>exact⟨k+1,acc++[a],_,(by have:=aE.out;omega),by go_num,aS,aT,by show (acc++[a]).length=_;rw[List.length_append,HA.out];rfl,aP⟩
    case measure=>have:=aE.out;simp[intOf];omega
  ·obtain rfl:k=n:=by omega
   have ak:Hid (R=.ok acc):=by show _=_;rw[<-HE.out,List.drop_eq_nil_of_le (by rw[HN.out];exact Nat.le_refl _)];rfl
   obtain⟨C,d,rfl,aL,hf⟩:=down_row HO.out
   have aU:=zh aL
   have HF:=zh hf
   clear aL hf
   go_wp2_with fail
   go_ret
   refine⟨bt HB.out ah.out,?_⟩
   rw[ak.out]
   exact⟨C,_,d,rfl,rfl,gg aU.out (Nat.le_trans HB.out.size ao.out.size),fun a ha=>Nat.le_trans (Nat.le_trans HB.out.size ao.out.size) (HF.out a ha)⟩
end
section
open Go.RowKit
theorem adp (l:List UInt8):l=if Wm.sgnd l then 45 :: Wm.mgn l else Wm.mgn l:=by
 unfold Wm.mgn Wm.sgnd
 cases l with
 | nil=>rfl
 | cons c t =>
  by_cases hc:c=45
  ·subst hc;simp
  ·simp[hc]
theorem oI (l:List UInt8):Vm.has 112 l=Vm.has 112 (Wm.mgn l)/\Wm.mgn (Vm.fst 112 l)=Vm.fst 112 (Wm.mgn l)/\Wm.sgnd (Vm.fst 112 l)=Wm.sgnd l/\Vm.snd 112 l=Vm.snd 112 (Wm.mgn l):=by
 have hl:=adp l
 cases hs:Wm.sgnd l
 ·have hm:Wm.mgn l=l:=by unfold Wm.mgn;rw[hs];rfl
  rw[hm]
  have hf:Wm.sgnd (Vm.fst 112 l)=false:=by
   unfold Vm.fst Wm.sgnd at *
   cases l with
   | nil=>rfl
   | cons c t =>
    rw[List.takeWhile_cons]
    cases c != 112
    ·rfl
    ·exact hs
  refine⟨rfl,?_,hf,rfl⟩
  unfold Wm.mgn;rw[hf];rfl
 ·rw[hs] at hl
  simp only[if_true] at hl
  generalize Wm.mgn l=t at *
  subst hl
  have h1:Vm.fst 112 (45 :: t)=45 :: Vm.fst 112 t:=by unfold Vm.fst;rw[List.takeWhile_cons];rfl
  refine⟨?_,?_,?_,?_⟩
  ·unfold Vm.has;simp
  ·rw[h1];rfl
  ·rw[h1];rfl
  ·unfold Vm.snd;rw[List.dropWhile_cons];rfl
def refRange (m n:Nat) (neg:Bool):Bool:=decide (m<=9007199254740991)&&(decide (n<=5000)&&(decide (-1074<=Wm.sg neg n)&&decide ((m.log2:Int)+1+Wm.sg neg n<=1024)))
theorem mx (l:List UInt8):refRange (Vm.num (Wm.mgn (Vm.fst 112 l))) (Vm.num (Wm.mgn (Vm.snd 112 l))) (Wm.sgnd (Vm.snd 112 l))=Wm.rangeOk (Wm.nmb (Vm.fst 112 l)) (Wm.nmb (Vm.snd 112 l)):=by
 generalize Vm.fst 112 l=a
 generalize Vm.snd 112 l=b
 have aa:Wm.sg (Wm.sgnd b) (Vm.num (Wm.mgn b))=if Wm.sgnd b then -(Vm.num (Wm.mgn b):Int) else Vm.num (Wm.mgn b):=by unfold Wm.sg;cases Wm.sgnd b <;> simp
 unfold refRange
 rw[aa]
 unfold Wm.nmb
 generalize Vm.num (Wm.mgn a)=m at *
 generalize Vm.num (Wm.mgn b)=n at *
 by_cases hm:m<=9007199254740991
 ·rw[decide_eq_true hm,Bool.true_and]
  have hF:∀ g:Bool,(if g=true then (if m<=9223372036854775808 then -(m:Int) else -9223372036854775808) else (if m<9223372036854775808 then (m:Int) else 9223372036854775807))=if g then -(m:Int) else m:=by
   intro g;cases g <;> simp only[Bool.false_eq_true,if_false,if_true] <;> rw[if_pos (by omega)]
  rw[hF]
  rw[Wm.mo (by split <;> omega) (by split <;> omega)]
  have ab:(if Wm.sgnd a=true then -(m:Int) else m).natAbs=m:=by split <;> omega
  rw[ab]
  rw[Bool.eq_iff_iff]
  simp only[Bool.and_eq_true,decide_eq_true_eq]
  cases Wm.sgnd b
  ·simp only[Bool.false_eq_true,if_false]
   split <;> omega
  ·simp only[if_true]
   split <;> omega
 ·rw[decide_eq_false hm,Bool.false_and]
  symm
  cases Wm.sgnd a
  ·simp only[Bool.false_eq_true,if_false]
   exact Wm.ox (by split <;> omega)
  ·simp only[if_true]
   exact Wm.ow (by split <;> omega)
end
section
open Go.RowKit
namespace Wm
theorem sub_zero {r:Nat}(h:0<r)(hi:r<9218868437227405312):Ieee.double.sub 0 r=some (word true r):=by
 obtain⟨a1,a2,a3⟩:=bA false (r:=r) (by omega)
 have ab:rung r=r:=a1
 have ac:neg r=false:=a2
 have e0:Ieee.double.read 0=.number false 0 (-1074):=by
  have:=bY 0 (by decide) (by decide)
  exact this
 have e1:=bY r a3 (by rw[ab];exact hi)
 rw[ab,ac] at e1
 unfold Ieee.Format.sub
 rw[e0,e1]
 have aa:min (-1074:Int) (-1074+(upOf r:Int)) = -1074:=by omega
 have hm:=en h
 unfold Ieee.Datum.opposite Ieee.Datum.sum
 simp only[aa,kQ]
 have t1:((-1074:Int) - -1074).toNat=0:=rfl
 have t2:((-1074:Int)+(upOf r:Int) - -1074).toNat=upOf r:=by omega
 rw[t1,t2]
 have hp:0<magOf r*2 ^ upOf r:=Nat.mul_pos hm (Nat.two_pow_pos _)
 have ad:(if false=true then (-1:Int) else 1)*((0*2 ^ 0:Nat):Int)+(if (!false)=true then (-1:Int) else 1)*((magOf r*2 ^ upOf r:Nat):Int) = -((magOf r*2 ^ upOf r:Nat):Int):=by simp
 rw[ad]
 generalize hM:magOf r*2 ^ upOf r=M at *
 rw[if_neg (by omega),decide_eq_true (by omega),Int.natAbs_neg,Int.natAbs_natCast]
 show some (Ieee.double.nearest true M (-1074))=_
 rw[<-hM]
 have hu:upOf r<=2045:=by unfold upOf;split <;> omega
 have ae:=bZ hm (eW r)
 rw[dW true (magOf r) (upOf r) (-1074) hm (eW r) (by omega) (by omega),iR h]
end Wm
end
section
open Go.RowKit
theorem refVal (l:List UInt8)(h:formOk l=true)(hr:Wm.rangeOk (Wm.nmb (Vm.fst 112 l)) (Wm.nmb (Vm.snd 112 l))=true) :
  Wm.prodVal (Wm.nmb (Vm.fst 112 l)) (Wm.nmb (Vm.snd 112 l))=Wm.word (Wm.sgnd l) (Wm.rungOf (Vm.num (Vm.fst 112 (Wm.mgn l))) (Wm.sg (Wm.sgnd (Vm.snd 112 l)) (Vm.num (Wm.mgn (Vm.snd 112 l)))))/\Vm.num (Vm.fst 112 (Wm.mgn l)) % 2=1:=by
 obtain⟨q1,q2,q3,q4⟩:=oI l
 rw[<-q2,<-q3]
 have hf:=h
 unfold formOk at hf
 simp only[Bool.and_eq_true] at hf
 obtain⟨_,h2,_,h4⟩:=hf
 have aa:=aa8 _ h2 h4
 have ab:=mx l
 rw[hr] at ab
 unfold refRange at ab
 simp only[Bool.and_eq_true,decide_eq_true_eq] at ab
 obtain⟨r1,r2,_⟩:=ab
 generalize Vm.fst 112 l=a at *
 generalize Vm.snd 112 l=b at *
 have hF:Wm.nmb a=if Wm.sgnd a then -(Vm.num (Wm.mgn a):Int) else Vm.num (Wm.mgn a):=by
  unfold Wm.nmb;cases Wm.sgnd a <;> simp only[Bool.false_eq_true,if_false,if_true] <;> rw[if_pos (by omega)]
 have hP:Wm.nmb b=Wm.sg (Wm.sgnd b) (Vm.num (Wm.mgn b)):=by
  unfold Wm.nmb Wm.sg;cases Wm.sgnd b <;> simp only[Bool.false_eq_true,if_false,if_true] <;> rw[if_pos (by omega)] <;> omega
 rw[hP]
 rw[hF] at aa ⊢
 unfold Wm.prodVal
 generalize Vm.num (Wm.mgn a)=m at *
 cases Wm.sgnd a
 ·simp only[Bool.false_eq_true,if_false] at aa ⊢
  rw[decide_eq_false (by omega),Int.natAbs_natCast]
  exact⟨rfl,by omega⟩
 ·simp only[if_true] at aa ⊢
  rw[decide_eq_true (by omega),Int.natAbs_neg,Int.natAbs_natCast]
  exact⟨rfl,by omega⟩
theorem adq (l:List UInt8)(hn:l≠[110,97,110]):outW l<Wm.W/\Wm.nan (outW l)=false:=by
 have ac:(0:Nat)<Wm.W/\Wm.nan 0=false:=⟨by decide,by decide⟩
 rcases qO l with rfl | rfl | rfl | rfl | rfl | ⟨_,_,_,_,_,he,hv⟩
 ·exact⟨by decide +kernel,by decide +kernel⟩
 ·exact⟨by decide +kernel,by decide +kernel⟩
 ·exact absurd rfl hn
 ·exact⟨by decide +kernel,by decide +kernel⟩
 ·exact⟨by decide +kernel,by decide +kernel⟩
 ·unfold outW
  by_cases h:errW l=0
  ·rw[if_pos h,hv]
   rw[he] at h
   unfold prodOf
   rw[if_pos h]
   unfold prodErr at h
   cases hf:formOk l
   ·rw[hf] at h;simp at h
   ·rw[hf] at h
    simp only[if_true] at h
    cases hr:Wm.rangeOk (Wm.nmb (Vm.fst 112 l)) (Wm.nmb (Vm.snd 112 l))
    ·rw[hr] at h;simp at h
    ·obtain⟨v1,v2⟩:=refVal l hf hr
     rw[v1]
     have ab:=mx l
     rw[hr] at ab
     unfold refRange at ab
     simp only[Bool.and_eq_true,decide_eq_true_eq] at ab
     obtain⟨r1,r2,r3,r4⟩:=ab
     obtain⟨q1,q2,q3,q4⟩:=oI l
     rw[q2] at r1 r4
     have hb:=Wm.kR (k:=Vm.num (Vm.fst 112 (Wm.mgn l))) (e:=Wm.sg (Wm.sgnd (Vm.snd 112 l)) (Vm.num (Wm.mgn (Vm.snd 112 l)))) (by omega) (by omega) (by omega)
     have aa:Fin (Wm.rungOf (Vm.num (Vm.fst 112 (Wm.mgn l))) (Wm.sg (Wm.sgnd (Vm.snd 112 l)) (Vm.num (Wm.mgn (Vm.snd 112 l))))):=hb
     exact⟨(bI aa _).1,(bI aa _).2.1⟩
  ·rw[if_neg h];exact ac
theorem ae2 (l:List UInt8):outW l<Wm.W:=by
 by_cases hn:l=[110,97,110]
 ·subst hn;decide +kernel
 ·exact (adq l hn).1
end
section
open Go.RowKit Rs At Pg
namespace Pg
def AFr (B:Nat) (A:Option Addr):Prop:=∀ a,A=some a->B<=a.block
def PRows (B:Nat) (u:World) (p:Pk) (D C G:Option Addr):Prop:=(Pg.DRowF B u D p.deps/\AFr B D)/\(ARow u C p.confl/\AFr B C)/\(GRow u G p.prov/\AFr B G)
abbrev pCells (p:Pk) (D C G:Option Addr) (dc cc gc:Nat):Array Value:=#[.string ⟨p.name.toArray⟩,.string ⟨p.ver.toArray⟩,.slice D p.deps.length dc,.slice C p.confl.length cc,.slice G p.prov.length gc,.float .f64 p.wt]
def PBlk (T:TypeId) (b B:Nat) (p:Pk) (u:World):Prop:=∃ D dc C cc G gc,u.heap[b]?=some (.cells (pCells p D C G dc cc gc) T (0,0))/\PRows B u p D C G
theorem lg {B b:Nat}{A:Option Addr}{α:Type}{l:List α}(h:AFr B A)(hb:b<B):0<l.length->∀ a,A=some a->some b≠some a.block:=fun _ a ha e=>by
 have:=h a ha
 have:=Option.some.inj e
 omega
theorem lh {B b:Nat}{w u:World}{A:Option Addr}{t:List (List Atm)}(h:Pg.DRowF B w A t)(hA:AFr B A)(hb:But (some b) w u)(hlt:b<B)(hg:∀ j x,w.cell? ⟨b,j,none⟩=some x->NoB x):Pg.DRowF B u A t:=by
 obtain⟨ds,h1,h2,h3⟩:=h
 refine⟨ds,cq h1 hb (lg hA hlt),⟨h2.1,fun i d l e1 e2=>⟨(h2.2 i d l e1 e2).1,d9 (h2.2 i d l e1 e2).2 hb (lg (fun a ha=>h3 i d e1 a ha) hlt) (fun g hg2=>by cases hg2;exact hg)⟩⟩,h3⟩
theorem bG {B b:Nat}{w u:World}{p:Pk}{D C G:Option Addr}(h:PRows B w p D C G)(hb:But (some b) w u)(hlt:b<B)(hg:∀ j x,w.cell? ⟨b,j,none⟩=some x->NoB x):PRows B u p D C G :=
 ⟨⟨lh h.1.1 h.1.2 hb hlt hg,h.1.2⟩,⟨d9 h.2.1.1 hb (lg h.2.1.2 hlt) (fun g hg2=>by cases hg2;exact hg),h.2.1.2⟩,⟨cq h.2.2.1 hb (lg h.2.2.2 hlt),h.2.2.2⟩⟩
theorem wP {B:Nat}{w u:World}{A:Option Addr}{t:List (List Atm)}(h:Pg.DRowF B w A t)(hb:Below w.heap.size w u):Pg.DRowF B u A t:=by
 obtain⟨ds,h1,h2,h3⟩:=h
 exact⟨ds,Rg.aj h1 hb,ix h2 hb,h3⟩
theorem my {B:Nat}{w u:World}{p:Pk}{D C G:Option Addr}(h:PRows B w p D C G)(hb:Below w.heap.size w u):PRows B u p D C G :=
 ⟨⟨wP h.1.1 hb,h.1.2⟩,⟨ay h.2.1.1 hb,h.2.1.2⟩,⟨Rg.aj h.2.2.1 hb,h.2.2.2⟩⟩
theorem block_lt {u:World}{b:Nat}{o:Obj}(h:u.heap[b]?=some o):b<u.heap.size:=(Array.getElem?_eq_some_iff.1 h).1
theorem cD {T:TypeId}{b B:Nat}{p:Pk}{u u':World}(h:PBlk T b B p u)(hb:Below u.heap.size u u'):PBlk T b B p u':=by
 obtain⟨D,dc,C,cc,G,gc,h1,h2⟩:=h
 exact⟨D,dc,C,cc,G,gc,(hb.block _ (block_lt h1)).trans h1,my h2 hb⟩
theorem ae3 {T:TypeId}{b B:Nat}{p:Pk}{u:World}(h:PBlk T b B p u):b<u.heap.size:=by
 obtain⟨D,dc,C,cc,G,gc,h1,_⟩:=h
 exact block_lt h1
theorem ev {T:TypeId}{b B:Nat}{p:Pk}{u:World}(h:PBlk T b B p u):∃ x0 x1 x2 x3 x4 x5,(u.cell? ⟨b,0,none⟩=some x0/\u.frozen? ⟨b,0,none⟩=false)/\(u.cell? ⟨b,1,none⟩=some x1/\u.frozen? ⟨b,1,none⟩=false)/\(u.cell? ⟨b,2,none⟩=some x2/\u.frozen? ⟨b,2,none⟩=false)/\(u.cell? ⟨b,3,none⟩=some x3/\u.frozen? ⟨b,3,none⟩=false)/\(u.cell? ⟨b,4,none⟩=some x4/\u.frozen? ⟨b,4,none⟩=false)/\(u.cell? ⟨b,5,none⟩=some x5/\u.frozen? ⟨b,5,none⟩=false):=by
 obtain⟨D,dc,C,cc,G,gc,h1,_⟩:=h
 have c:∀ j v,(pCells p D C G dc cc gc)[j]?=some v->u.cell? ⟨b,j,none⟩=some v:=fun j v hv=>(cell_of_row u b j _ T (0,0) h1).trans hv
 have z:∀ j,u.frozen? ⟨b,j,none⟩=false:=fun j=>by simp[World.frozen?,h1]
 exact⟨_,_,_,_,_,_,⟨c 0 _ rfl,z 0⟩,⟨c 1 _ rfl,z 1⟩,⟨c 2 _ rfl,z 2⟩,⟨c 3 _ rfl,z 3⟩,⟨c 4 _ rfl,z 4⟩,c 5 _ rfl,z 5⟩
theorem eZ {T:TypeId}{b:Nat}{p:Pk}{u:World}{D C G:Option Addr}{dc cc gc:Nat}(h:u.heap[b]?=some (.cells (pCells p D C G dc cc gc) T (0,0))):∀ j x,u.cell? ⟨b,j,none⟩=some x->NoB x:=fun j x hx y e=>by
 rw[cell_of_row u b j _ T (0,0) h] at hx
 subst e
 have hm:=Array.mem_of_getElem? hx
 simp[pCells] at hm
theorem aX {u:World}{b j:Nat}{cs:Array Value}{T:TypeId}{x:Value}(h:u.heap[b]?=some (.cells cs T (0,0))):(u.setCell ⟨b,j,none⟩ x).heap[b]?=some (.cells (cs.setIfInBounds j x) T (0,0)):=by
 simp[World.setCell,Array.getElem?_modify,h]
theorem abr {T:TypeId}{b B:Nat}{p:Pk}{u:World}(h:PBlk T b B p u)(hlt:b<B)(x:List UInt8):PBlk T b B { p with name:=x } (u.setCell ⟨b,0,none⟩ (.string ⟨x.toArray⟩)):=by
 obtain⟨D,dc,C,cc,G,gc,h1,h2⟩:=h
 exact⟨D,dc,C,cc,G,gc,(aX h1).trans rfl,bG (p:=p) h2 (aP u ⟨b,0,none⟩ _) hlt (eZ h1)⟩
theorem adr {T:TypeId}{b B:Nat}{p:Pk}{u:World}(h:PBlk T b B p u)(hlt:b<B)(x:List UInt8):PBlk T b B { p with ver:=x } (u.setCell ⟨b,1,none⟩ (.string ⟨x.toArray⟩)):=by
 obtain⟨D,dc,C,cc,G,gc,h1,h2⟩:=h
 exact⟨D,dc,C,cc,G,gc,(aX h1).trans rfl,bG (p:=p) h2 (aP u ⟨b,1,none⟩ _) hlt (eZ h1)⟩
theorem ae4 {T:TypeId}{b B:Nat}{p:Pk}{u:World}(h:PBlk T b B p u)(hlt:b<B)(x:Nat):PBlk T b B { p with wt:=x } (u.setCell ⟨b,5,none⟩ (.float .f64 x)):=by
 obtain⟨D,dc,C,cc,G,gc,h1,h2⟩:=h
 exact⟨D,dc,C,cc,G,gc,(aX h1).trans rfl,bG (p:=p) h2 (aP u ⟨b,5,none⟩ _) hlt (eZ h1)⟩
theorem abt {T:TypeId}{b B:Nat}{p:Pk}{u:World}(h:PBlk T b B p u)(hlt:b<B){A:Option Addr}{c:Nat}{l:List (List Atm)}(hr:Pg.DRowF B u A l)(hA:AFr B A):PBlk T b B { p with deps:=l } (u.setCell ⟨b,2,none⟩ (.slice A l.length c)):=by
 obtain⟨D,dc,C,cc,G,gc,h1,h2⟩:=h
 exact⟨A,c,C,cc,G,gc,(aX h1).trans rfl,bG (p:={ p with deps:=l }) ⟨⟨hr,hA⟩,h2.2⟩ (aP u ⟨b,2,none⟩ _) hlt (eZ h1)⟩
theorem zB {T:TypeId}{b B:Nat}{p:Pk}{u:World}(h:PBlk T b B p u)(hlt:b<B){A:Option Addr}{c:Nat}{l:List Atm}(hr:ARow u A l)(hA:AFr B A):PBlk T b B { p with confl:=l } (u.setCell ⟨b,3,none⟩ (.slice A l.length c)):=by
 obtain⟨D,dc,C,cc,G,gc,h1,h2⟩:=h
 exact⟨D,dc,A,c,G,gc,(aX h1).trans rfl,bG (p:={ p with confl:=l }) ⟨h2.1,⟨hr,hA⟩,h2.2.2⟩ (aP u ⟨b,3,none⟩ _) hlt (eZ h1)⟩
theorem abu {T:TypeId}{b B:Nat}{p:Pk}{u:World}(h:PBlk T b B p u)(hlt:b<B){A:Option Addr}{c:Nat}{l:List Gv}(hr:GRow u A l)(hA:AFr B A):PBlk T b B { p with prov:=l } (u.setCell ⟨b,4,none⟩ (.slice A l.length c)):=by
 obtain⟨D,dc,C,cc,G,gc,h1,h2⟩:=h
 exact⟨D,dc,C,cc,A,c,(aX h1).trans rfl,bG (p:={ p with prov:=l }) ⟨h2.1,h2.2.1,⟨hr,hA⟩⟩ (aP u ⟨b,4,none⟩ _) hlt (eZ h1)⟩
end Pg
theorem Pg.av {P:Program}{w:World}{a:Addr}{k:FloatKind}{f:Nat}{m:Mode}:(store a (.float k f) m).run P w=stored P w a (.float k f) m:=run_store P w a _ m rfl
def Pg.TakeRet (b B:Nat) (w:World) (i:Int) (R:Except Int Pk) (e:Ending) (w':World):Prop:=Below b w w'/\match R with
 | .ok q=>e=.returned (.tuple #[])/\PBlk 68 b B q w'
 | .error k=>e=panAt i k
attribute [local go_sem ↓] Go.wp_at_zero Go.wp_at_succ
attribute [local go_sem] Pg.av
theorem wQ (b B:Nat)(key t:List UInt8)(i:Int)(p:Pk)(w:World)(hk:KOk w)(hp:Pg.PBlk 68 b B p w)(hlt:b<B)(hB:B<=w.heap.size)(ht:ValFit key t) :
  Calls Tryz.prog 210 #[.pointer (some ⟨b,0,none⟩),.string ⟨key.toArray⟩,.agg #[.string ⟨t.toArray⟩,.int .i64 i]] w (Pg.TakeRet b B w i (takeR p key t)):=by
 obtain⟨R,hR⟩:=ex (takeR p key t)
 rw[hR]
 unfold takeR at hR
 obtain⟨V,hV⟩:=ex (w.alloc (.cells #[.string ⟨t.toArray⟩,.int .i64 i] 256))
 have HB:Hid (Below w.heap.size w V):=ai hV
 have HW:Hid (b<w.heap.size):=ae3 hp
 have ac:Hid (Below b w V):=HB.out.mono (Nat.le_of_lt HW.out)
 have HK:Hid (KOk V):=aH hk HB.out
 have HM:Hid (MaxOk V):=ag hk.1 HB.out
 have af:=zh (cD hp HB.out)
 have aj:Hid (B<=V.heap.size):=Nat.le_trans hB HB.out.size
 have ad:Hid (b<=V.heap.size):=Nat.le_of_lt (Nat.lt_of_lt_of_le hlt aj.out)
 have ah:=zh hlt
 have HT:=zh ht
 obtain⟨c0,c1⟩:=aD hV (Below.refl _ _)
 clear hk hp hlt hB ht
 by_cases h0:key=kPkg
 ·rw[if_pos h0] at hR
  have ae:=zh (HT.out.2.2.2 (by rw[h0];decide) (by rw[h0];decide) (by rw[h0];decide))
  have d0:(key==[80,97,99,107,97,103,101])=true:=beq_iff_eq.2 h0
  clear h0
  have HC:=zh (j9 t i V (by have:=ae.out;omega))
  obtain⟨y,hy⟩:=ex (nameB t)
  rw[hy] at HC hR
  have HR:=zh hR
  clear hR hy
  go_enter Tryz.func210,Tryz.ntmps210
  go_wp2_with fail
  clear hV
  refine HC.out.mono ?_
  rintro _ u ⟨rfl,hb⟩
  have HU:=zh hb
  clear hb HC c0 c1
  cases y
  ·have HF:Hid (R=.error 3):=HR.out.symm
   go_wp2_with fail
   exact⟨rfl,ac.out.trans (HU.out.mono ad.out),by rw[HF.out]⟩
  ·have HF:Hid (R=.ok { p with name:=t }):=HR.out.symm
   have aa:=zh (cD af.out HU.out)
   obtain⟨x0,x1,x2,x3,x4,x5,⟨e0,z0⟩,⟨e1,z1⟩,⟨e2,z2⟩,⟨e3,z3⟩,⟨e4,z4⟩,⟨e5,z5⟩⟩:=ev aa.out
   go_wp2_with fail
   go_end0
   refine⟨(ac.out.trans (HU.out.mono ad.out)).setCell (Nat.le_refl _) _,?_⟩
   rw[HF.out]
   exact⟨rfl,abr aa.out ah.out t⟩
 rw[if_neg h0] at hR
 have d0:(key==[80,97,99,107,97,103,101])=false:=beq_eq_false_iff_ne.2 h0
 clear h0
 by_cases h1:key=kVer
 ·rw[if_pos h1] at hR
  have d1:(key==[86,101,114,115,105,111,110])=true:=beq_iff_eq.2 h1
  clear h1
  have HC:=zh (gP t i V HM.out)
  obtain⟨y,hy⟩:=ex (Vm.check t)
  obtain⟨cv,am⟩:=ex (canonOf t)
  rw[hy,am] at HC hR
  have HR:=zh hR
  clear hR hy am
  go_enter Tryz.func210,Tryz.ntmps210
  go_wp2_with fail
  clear hV
  refine HC.out.mono ?_
  rintro _ u ⟨rfl,hb⟩
  have HU:=zh hb
  clear hb HC c0 c1
  by_cases hy:y=0
  case neg =>
   have HF:Hid (R=.error y):=by show _=_;rw[<-HR.out,if_neg hy]
   rw[if_neg hy]
   clear hy
   go_wp2_with fail
   exact⟨rfl,ac.out.trans (HU.out.mono ad.out),by rw[HF.out]⟩
  have HF:Hid (R=.ok { p with ver:=cv }):=by show _=_;rw[<-HR.out,if_pos hy]
  rw[if_pos hy]
  clear hy
  have aa:=zh (cD af.out HU.out)
  obtain⟨x0,x1,x2,x3,x4,x5,⟨e0,z0⟩,⟨e1,z1⟩,⟨e2,z2⟩,⟨e3,z3⟩,⟨e4,z4⟩,⟨e5,z5⟩⟩:=ev aa.out
  go_wp2_with fail
  go_end0
  refine⟨(ac.out.trans (HU.out.mono ad.out)).setCell (Nat.le_refl _) _,?_⟩
  rw[HF.out]
  exact⟨rfl,adr aa.out ah.out cv⟩
 rw[if_neg h1] at hR
 have d1:(key==[86,101,114,115,105,111,110])=false:=beq_eq_false_iff_ne.2 h1
 clear h1
 by_cases h2:key=kDep
 ·rw[if_pos h2] at hR
  have ae:=zh (HT.out.1 h2)
  have d2:(key==[68,101,112,101,110,100,115])=true:=beq_iff_eq.2 h2
  clear h2
  have HC:Hid (Calls Tryz.prog 243 #[.agg #[.string ⟨t.toArray⟩,.int .i64 i],.string ⟨#[59,32]⟩,.int .i64 16,.func (.func 244) #[] #[]] V (Pg.PartsRet (fun u A l=>Pg.DRowF V.heap.size u A l) V i (partsR depR semi 16 t))):=rW t semi i 16 V HM.out ae.out (by decide) (by decide)
  obtain⟨E,hE⟩:=ex (partsR depR semi 16 t)
  rw[hE] at HC hR
  have HR:=zh hR
  clear hR hE
  go_enter Tryz.func210,Tryz.ntmps210
  go_wp2_with fail
  clear hV
  refine HC.out.mono ?_
  rintro r u ⟨hb,hr⟩
  have HU:=zh hb
  clear hb HC c0 c1
  cases E with
  | error k =>
   have HF:Hid (R=.error k):=HR.out.symm
   obtain rfl:r=panAt i k:=hr
   go_wp2_with fail
   exact⟨rfl,ac.out.trans (HU.out.mono ad.out),by rw[HF.out]⟩
  | ok l =>
   have HF:Hid (R=.ok { p with deps:=l }):=HR.out.symm
   obtain⟨A,n,c,rfl,hn,ab,hf⟩:=hr
   subst hn
   have ak:=zh (gg ab aj.out)
   have al:Hid (AFr B A):=fun a ha=>Nat.le_trans aj.out (hf a ha)
   clear ab hf
   have aa:=zh (cD af.out HU.out)
   obtain⟨x0,x1,x2,x3,x4,x5,⟨e0,z0⟩,⟨e1,z1⟩,⟨e2,z2⟩,⟨e3,z3⟩,⟨e4,z4⟩,⟨e5,z5⟩⟩:=ev aa.out
   go_wp2_with fail
   go_end0
   refine⟨(ac.out.trans (HU.out.mono ad.out)).setCell (Nat.le_refl _) _,?_⟩
   rw[HF.out]
   exact⟨rfl,abt aa.out ah.out ak.out al.out⟩
 rw[if_neg h2] at hR
 have d2:(key==[68,101,112,101,110,100,115])=false:=beq_eq_false_iff_ne.2 h2
 clear h2
 by_cases h3:key=kCon
 ·rw[if_pos h3] at hR
  have ae:=zh (HT.out.2.1 h3)
  have d3:(key==[67,111,110,102,108,105,99,116,115])=true:=beq_iff_eq.2 h3
  clear h3
  have HC:Hid (Calls Tryz.prog 245 #[.agg #[.string ⟨t.toArray⟩,.int .i64 i],.string ⟨#[59,32]⟩,.int .i64 16,.func (.func 246) #[] #[]] V (Pg.PartsRet (ARow) V i (partsR atomR semi 16 t))):=jl t semi i 16 V HM.out ae.out (by decide) (by decide)
  obtain⟨E,hE⟩:=ex (partsR atomR semi 16 t)
  rw[hE] at HC hR
  have HR:=zh hR
  clear hR hE
  go_enter Tryz.func210,Tryz.ntmps210
  go_wp2_with fail
  clear hV
  refine HC.out.mono ?_
  rintro r u ⟨hb,hr⟩
  have HU:=zh hb
  clear hb HC c0 c1
  cases E with
  | error k =>
   have HF:Hid (R=.error k):=HR.out.symm
   obtain rfl:r=panAt i k:=hr
   go_wp2_with fail
   exact⟨rfl,ac.out.trans (HU.out.mono ad.out),by rw[HF.out]⟩
  | ok l =>
   have HF:Hid (R=.ok { p with confl:=l }):=HR.out.symm
   obtain⟨A,n,c,rfl,hn,ab,hf⟩:=hr
   subst hn
   have ak:=zh (ab)
   have al:Hid (AFr B A):=fun a ha=>Nat.le_trans aj.out (hf a ha)
   clear ab hf
   have aa:=zh (cD af.out HU.out)
   obtain⟨x0,x1,x2,x3,x4,x5,⟨e0,z0⟩,⟨e1,z1⟩,⟨e2,z2⟩,⟨e3,z3⟩,⟨e4,z4⟩,⟨e5,z5⟩⟩:=ev aa.out
   go_wp2_with fail
   go_end0
   refine⟨(ac.out.trans (HU.out.mono ad.out)).setCell (Nat.le_refl _) _,?_⟩
   rw[HF.out]
   exact⟨rfl,zB aa.out ah.out ak.out al.out⟩
 rw[if_neg h3] at hR
 have d3:(key==[67,111,110,102,108,105,99,116,115])=false:=beq_eq_false_iff_ne.2 h3
 clear h3
 by_cases h4:key=kPro
 ·rw[if_pos h4] at hR
  have ae:=zh (HT.out.2.2.1 h4)
  have d4:(key==[80,114,111,118,105,100,101,115])=true:=beq_iff_eq.2 h4
  clear h4
  have HC:Hid (Calls Tryz.prog 247 #[.agg #[.string ⟨t.toArray⟩,.int .i64 i],.string ⟨#[59,32]⟩,.int .i64 16,.func (.func 248) #[] #[]] V (Pg.PartsRet (GRow) V i (partsR gvR semi 16 t))):=pN t semi i 16 V HM.out ae.out (by decide) (by decide)
  obtain⟨E,hE⟩:=ex (partsR gvR semi 16 t)
  rw[hE] at HC hR
  have HR:=zh hR
  clear hR hE
  go_enter Tryz.func210,Tryz.ntmps210
  go_wp2_with fail
  clear hV
  refine HC.out.mono ?_
  rintro r u ⟨hb,hr⟩
  have HU:=zh hb
  clear hb HC c0 c1
  cases E with
  | error k =>
   have HF:Hid (R=.error k):=HR.out.symm
   obtain rfl:r=panAt i k:=hr
   go_wp2_with fail
   exact⟨rfl,ac.out.trans (HU.out.mono ad.out),by rw[HF.out]⟩
  | ok l =>
   have HF:Hid (R=.ok { p with prov:=l }):=HR.out.symm
   obtain⟨A,n,c,rfl,hn,ab,hf⟩:=hr
   subst hn
   have ak:=zh (ab)
   have al:Hid (AFr B A):=fun a ha=>Nat.le_trans aj.out (hf a ha)
   clear ab hf
   have aa:=zh (cD af.out HU.out)
   obtain⟨x0,x1,x2,x3,x4,x5,⟨e0,z0⟩,⟨e1,z1⟩,⟨e2,z2⟩,⟨e3,z3⟩,⟨e4,z4⟩,⟨e5,z5⟩⟩:=ev aa.out
   go_wp2_with fail
   go_end0
   refine⟨(ac.out.trans (HU.out.mono ad.out)).setCell (Nat.le_refl _) _,?_⟩
   rw[HF.out]
   exact⟨rfl,abu aa.out ah.out ak.out al.out⟩
 rw[if_neg h4] at hR
 have d4:(key==[80,114,111,118,105,100,101,115])=false:=beq_eq_false_iff_ne.2 h4
 clear h4
 by_cases h5:key=kWei
 ·rw[if_pos h5] at hR
  have ae:=zh (HT.out.2.2.2 (by rw[h5];decide) (by rw[h5];decide) (by rw[h5];decide))
  have d5:(key==[87,101,105,103,104,116])=true:=beq_iff_eq.2 h5
  clear h5
  have HC:Hid (Calls Tryz.prog 249 #[.agg #[.string ⟨t.toArray⟩,.int .i64 i]] V fun r w'=>Below V.heap.size V w'/\match wtR t with | .ok f=>r=.returned (.float .f64 f) | .error k=>r=panAt i k):=(oG t i V ae.out HK.out (ae2 t)).mono fun r w' ⟨h1,h2⟩=>by
   refine⟨h2,?_⟩
   unfold wtR
   by_cases a0:errW t=0
   ·rw[if_pos a0] at h1 ⊢
    by_cases a1:chkW (outW t)=0
    ·rw[if_pos a1] at h1 ⊢;exact h1
    ·rw[if_neg a1] at h1 ⊢;exact h1
   ·rw[if_neg a0] at h1 ⊢;exact h1
  obtain⟨E,hE⟩:=ex (wtR t)
  rw[hE] at HC hR
  have HR:=zh hR
  clear hR hE
  go_enter Tryz.func210,Tryz.ntmps210
  go_wp2_with fail
  clear hV
  refine HC.out.mono ?_
  rintro r u ⟨hb,hr⟩
  have HU:=zh hb
  clear hb HC c0 c1
  cases E with
  | error k =>
   have HF:Hid (R=.error k):=HR.out.symm
   obtain rfl:r=panAt i k:=hr
   go_wp2_with fail
   exact⟨rfl,ac.out.trans (HU.out.mono ad.out),by rw[HF.out]⟩
  | ok f =>
   have HF:Hid (R=.ok { p with wt:=f }):=HR.out.symm
   obtain rfl:r=.returned (.float .f64 f):=hr
   have aa:=zh (cD af.out HU.out)
   obtain⟨x0,x1,x2,x3,x4,x5,⟨e0,z0⟩,⟨e1,z1⟩,⟨e2,z2⟩,⟨e3,z3⟩,⟨e4,z4⟩,⟨e5,z5⟩⟩:=ev aa.out
   go_wp2_with fail
   go_end0
   refine⟨(ac.out.trans (HU.out.mono ad.out)).setCell (Nat.le_refl _) _,?_⟩
   rw[HF.out]
   exact⟨rfl,ae4 aa.out ah.out f⟩
 rw[if_neg h5] at hR
 have d5:(key==[87,101,105,103,104,116])=false:=beq_eq_false_iff_ne.2 h5
 clear h5
 have HF:Hid (R=.ok p):=hR.symm
 clear hR
 go_enter Tryz.func210,Tryz.ntmps210
 go_wp2_with fail
 go_end0
 refine⟨ac.out,?_⟩
 rw[HF.out]
 exact⟨rfl,af.out⟩
end
namespace Sz
open Go.RowKit Go.Maps
theorem zeroI (w:World):(zeroValue 3).run Tryz.prog w=.ok (.int .i64 0) w:=by kernel_rfl
def KMap (w:World) (b:Nat) (ks:List (List UInt8)):Prop:=∃ (n:Nat) (D:DataW Unit),w.ownsMap Tryz.prog 9 (plainElem Tryz.prog 3) b n D/\n<=ks.length/\∀ k:List UInt8,k.length<=140737488355328->Maps.has D (.string k)=(placeOf ks k).isSome/\∀ p:Nat,placeOf ks k=some p->D.atKey (.string k) (.lit (.int .i64 0))=.lit (.int .i64 p)
theorem oJ (ks:List (List UInt8))(x k:List UInt8):placeOf (ks++[x]) k=match placeOf ks k with | some p=>some p | none=>if x=k then some ks.length else none:=by
 unfold placeOf
 rw[List.findIdx?_append]
 cases h:ks.findIdx? (. == k) with
 | some p=>simp
 | none=>by_cases e:x=k <;> simp[e,List.findIdx?_cons]
theorem ads {ks:List (List UInt8)}{k:List UInt8}{p:Nat}(h:placeOf ks k=some p):p<ks.length:=by
 unfold placeOf at h
 obtain⟨h1,_⟩:=List.findIdx?_eq_some_iff_getElem.1 h
 exact h1
theorem abv (w:World):KMap (w.alloc (.map #[] 0)) w.heap.size []:=⟨0,_,World.ownsMap_made w _ _ _,Nat.le_refl _,fun _k _=>⟨rfl,fun p h=>by cases h⟩⟩
theorem ri {w:World}{b:Nat}{ks:List (List UInt8)}(h:KMap w b ks){k:List UInt8}(hk:k.length<=140737488355328) :
  (Instr.lookup 154 (.map (some b)) (.string ⟨k.toArray⟩) true).run Tryz.prog w=.ok (.tuple #[.int .i64 ((placeOf ks k).getD 0:Nat),.bool (placeOf ks k).isSome]) w:=by
 obtain⟨n,D,ab,_,hh⟩:=h
 obtain⟨v,ps,ac,hv⟩:=ab.look_ok keyLaw Tryz.underlying154 (zeroI w) (plainElem_int Tryz.underlying3 (by decide)) (iy hk)
 obtain⟨c,rfl,hc,_⟩:=plainElem_int_inv Tryz.underlying3 hv
 obtain⟨h1,h2⟩:=hh k hk
 have aa:D.atKey (.string k) (.lit (.int .i64 0))=.lit (.int .i64 c):=congrArg Prod.fst hc
 rw[ac,h1]
 cases hp:placeOf ks k with
 | some p =>
  rw[h2 p hp] at aa
  have e:=(Lit.int.inj (DataW.lit.inj aa)).2
  rw[<-e];rfl
 | none =>
  rw[hp] at h1
  rw[Maps.atKey_of_not_has h1] at aa
  have e:=(Lit.int.inj (DataW.lit.inj aa)).2
  rw[<-e];rfl
theorem adt {w:World}{b:Nat}{ks:List (List UInt8)}(h:KMap w b ks){k:List UInt8}(hk:k.length<=140737488355328)(hl:ks.length<=1000000)(hn:placeOf ks k=none) :
  ∃ w',(Instr.mapUpdate 154 (.map (some b)) (.string ⟨k.toArray⟩) (.int .i64 ks.length)).run Tryz.prog w=.ok () w'/\KMap w' b (ks++[k])/\w.mapTurned w' b:=by
 obtain⟨n,D,aa,ad,hh⟩:=h
 obtain⟨w',ac,ab,ht⟩:=aa.store keyLaw Tryz.underlying154 (by unfold maxLen;omega) (iy hk) (val:=.int .i64 ks.length) (plainElem_int Tryz.underlying3 (by
  have h1:IntKind.i64.min = -9223372036854775808:=rfl
  have h2:IntKind.i64.max=9223372036854775807:=rfl
  unfold Lit.wf
  rw[Bool.and_eq_true,decide_eq_true_eq,decide_eq_true_eq,h1,h2];omega))
 refine⟨w',ac,⟨n+1,_,ab,by rw[List.length_append];simp;omega,fun x hx=>?_⟩,ht⟩
 rw[oJ]
 by_cases e:x=k
 ·subst e
  rw[Maps.has_put_same aa.isMap (by trivial),hn,if_pos rfl]
  refine⟨rfl,fun p hp=>?_⟩
  rw[Maps.atKey_put_same aa.isMap (by trivial),Option.some.inj hp]
 ·rw[Maps.has_put_other (by intro h;exact e (Lit.string.inj h)),(hh x hx).1]
  have ek:¬ k=x:=fun h=>e h.symm
  rw[if_neg ek]
  refine⟨by cases placeOf ks x <;> rfl,fun p hp=>?_⟩
  rw[Maps.atKey_put_other (by intro h;exact e (Lit.string.inj h))]
  refine (hh x hx).2 p ?_
  cases hq:placeOf ks x with
  | none=>rw[hq] at hp;exact hp
  | some q=>rw[hq] at hp;exact hp
theorem abw {w:World}{b:Nat}{ks:List (List UInt8)}(h:KMap w b ks){k:List UInt8}{q:Nat}(hn:placeOf ks k=some q):KMap w b (ks++[k]):=by
 obtain⟨n,D,aa,ab,hh⟩:=h
 refine⟨n,D,aa,by rw[List.length_append];simp;omega,fun x hx=>?_⟩
 obtain⟨h1,h2⟩:=hh x hx
 rw[oJ,h1]
 cases hp:placeOf ks x with
 | some p=>exact⟨rfl,fun p' hp'=>h2 p' (by rw[hp];exact hp')⟩
 | none =>
  have ek:¬ k=x:=fun e=>by subst e;rw[hn] at hp;cases hp
  dsimp only
  rw[if_neg ek]
  exact⟨rfl,fun p' hp'=>by cases hp'⟩
theorem zC {w w':World}{b B:Nat}{ks:List (List UInt8)}(h:KMap w b ks)(hb:Below B w w')(hlt:b<B):KMap w' b ks:=by
 obtain⟨n,D,⟨es,clock,hh,r⟩,h2⟩:=h
 exact⟨n,D,⟨es,clock,(hb.block b hlt).trans hh,r⟩,h2⟩
end Sz
end Go.Proofs.YtgnaiidgjmicaaaGreatDoor
