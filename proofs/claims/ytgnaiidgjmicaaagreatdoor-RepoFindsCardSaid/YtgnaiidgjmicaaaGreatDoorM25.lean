/- Part 25 of what the laws lean on. -/
import Derived.Test.YtgnaiidgjmicaaaGreatDoorM24
import Derived.Test.YtgnaiidgjmicaaaGreatDoorM90
set_option maxRecDepth 100000
set_option maxHeartbeats 6400000
namespace Go.Proofs.YtgnaiidgjmicaaaGreatDoor
section
open Go.RowKit Go.Maps Sz
attribute [local go_sem ↓] Go.wp_at_zero Go.wp_at_succ
def Sz.ShortT (l:List (List UInt8)):Prop:=∀ k∈l,k.length<=140737488355328
theorem oK (A:Option Addr)(n c:Nat)(l:List (List UInt8))(w:World)(hn:l.length=n)(hr:Rg.Row encT 1 w A l)(hl:n<=100000)(hs:Sz.ShortT l) :
  Calls Tryz.prog 271 #[.slice A n c] w fun e w'=>e=.returned (.map (some w.heap.size))/\KMap w' w.heap.size l/\w.heap.size<w'.heap.size/\Below w.heap.size w w':=by
 obtain⟨W1,ac⟩:=ex (w.alloc (.map #[] 0))
 have ak:Hid (Below w.heap.size w W1):=ai ac
 have al:Hid (KMap W1 w.heap.size []):=by show KMap _ _ _;rw[<-ac];exact abv w
 have am:Hid (w.heap.size<W1.heap.size):=by show _<_;rw[<-ac];simp
 have an:(Instr.makeMap 154 none).run Tryz.prog w=.ok (.map (some w.heap.size)) W1:=by rw[<-ac];rfl
 have HR:=zh hr
 have HN:=zh hn
 have HS:=zh hs
 clear hr hn hs
 go_enter Tryz.func271,Tryz.ntmps271
 go_wp2_with fail
 clear ac an
 go_loopw [11] (fun i wr=>∃ k:Nat,k<=n/\i=.int .i64 k/\Hid (Below w.heap.size w wr/\w.heap.size<wr.heap.size)/\Hid (KMap wr w.heap.size (l.take k))) (fun i _=>n-(intOf i).toNat)
 case atStart=>exact⟨0,Nat.zero_le _,rfl,⟨ak.out,am.out⟩,al.out⟩
 case round =>
  obtain⟨k,hk,rfl,HW,HH⟩:=hrel
  by_cases ao:k<n
  ·have af:k<l.length:=by rw[HN.out];exact ao
   obtain⟨ad,rfl,_,c0⟩:=Sz.dP (Rg.aj HR.out HW.out.1) k af
   have ht:l.take (k+1)=l.take k++[l[k]]:=List.take_succ_eq_append_getElem af
   have ab:l[k].length<=140737488355328:=HS.out _ (List.getElem_mem af)
   obtain⟨x,hx⟩:=ex (l[k])
   rw[hx] at c0 ht ab
   have ae:=ri HH.out ab
   have hlen:(l.take k).length=k:=by rw[List.length_take];omega
   cases hp:placeOf (l.take k) x with
   | some p =>
    rw[hp] at ae
    have HE:Hid (KMap wr w.heap.size (l.take (k+1))):=by show KMap _ _ _;rw[ht];exact abw HH.out hp
    have HK:=zh hk
    clear ht hx hp hlen ab
    dsimp only[Option.getD,Option.isSome] at ae
    go_wp2_with fail
    go_roundw
    case rel=>exact⟨k+1,by omega,by go_num,HW,HE⟩
    case measure=>simp[intOf];omega
   | none =>
    rw[hp] at ae
    obtain⟨w2,ag,ah,aa⟩:=adt HH.out ab (by omega) hp
    rw[hlen] at ag
    rw[<-ht] at ah
    have HE:=zh ah
    have ap:Hid (Below w.heap.size w w2/\w.heap.size<w2.heap.size):=by
     have hg:=aa.grown
     exact⟨HW.out.1.grown hg (Nat.le_of_lt HW.out.2) (fun j hj=>by have:=Option.some.inj hj;omega),Nat.lt_of_lt_of_le HW.out.2 hg.size⟩
    clear ht hx hp hlen ab ah aa
    dsimp only[Option.getD,Option.isSome] at ae
    go_wp2_with fail
    go_roundw
    case rel=>exact⟨k+1,by omega,by go_num,ap,HE⟩
    case measure=>simp[intOf];omega
  ·obtain rfl:k=n:=by omega
   have HE:Hid (KMap wr w.heap.size l):=by
    have h:=HH.out
    rw[List.take_of_length_le (by rw[HN.out];exact Nat.le_refl _)] at h
    exact h
   go_wp2_with fail
   go_ret
   exact⟨rfl,HE.out,HW.out.2,HW.out.1⟩
theorem Sz.rj (ks:List (List UInt8))(i:Nat)(x:Int)(f:Fld)(l:List Fld):ordP ks i x (f :: l)=match placeOf ks f.key with
  | none=>((i:Int),10)
  | some p=>if x<p then ordP ks (i+1) p l else ((i:Int),7):=by rw[ordP];rfl
def Sz.OrdRet (w:World) (X:Int × Int) (e:Ending) (w':World):Prop:=Below w.heap.size w w'/\if X.2=0 then e=.returned (.tuple #[]) else e=panAt X.1 X.2
theorem m7 (A:Option Addr)(n c:Nat)(l:List Fld)(B:Option Addr)(m d:Nat)(ks:List (List UInt8))(w:World)(hn:l.length=n)(hr:Rg.Row encF 3 w A l)(hl:n<=100000)(hs:Sz.Short l)(hm:ks.length=m)(hk:Rg.Row encT 1 w B ks)(hml:m<=100000)(hks:Sz.ShortT ks) :
  Calls Tryz.prog 239 #[.slice A n c,.slice B m d] w (Sz.OrdRet w (ordP ks 0 (-1) l)):=by
 obtain⟨R,hR⟩:=ex (ordP ks 0 (-1) l)
 rw[hR]
 have HG:=zh hR
 have af:=zh (oK B m d ks w hm hk hml hks)
 have HR:=zh hr
 have HN:=zh hn
 have HS:=zh hs
 have HM:Hid (ks.length<=100000):=by show _<=_;rw[hm];exact hml
 clear hR hr hn hs hm hk hks hml
 go_enter Tryz.func239,Tryz.ntmps239
 go_wp2_with fail
 refine af.out.mono ?_
 rintro _ u ⟨rfl,ak,al,hb⟩
 have am:=zh ak
 have an:=zh al
 have HB:=zh hb
 clear ak al hb af
 go_wp2_with fail
 go_loopw [5,14] (fun v i wr=>∃ (k:Nat) (x:Int),k<=n/\i=.int .i64 k/\v=.int .i64 x/\-1<=x/\x<=1000000/\Hid (Below u.heap.size u wr)/\Hid (ordP ks k x (l.drop k)=R)) (fun _ i _=>n-(intOf i).toNat)
 case atStart=>exact⟨0,-1,Nat.zero_le _,rfl,rfl,by decide,by decide,Below.refl _ _,HG.out⟩
 case round =>
  obtain⟨k,x,hk,rfl,rfl,aq,ar,HW,HH⟩:=hrel
  by_cases ao:k<n
  ·have ac:k<l.length:=by rw[HN.out];exact ao
   obtain⟨ad,rfl,_,c0,c1,c2⟩:=d8 (Rg.aj HR.out (bt HB.out HW.out)) k ac
   have hd:l.drop k=l[k] :: l.drop (k+1):=List.drop_eq_getElem_cons ac
   obtain⟨s1,_⟩:=short_at HS.out k ac
   have hh:=HH.out
   rw[hd,rj] at hh
   obtain⟨f,hf⟩:=ex (l[k])
   rw[hf] at c0 c1 c2 hh s1
   obtain⟨fk,fv,fl⟩:=f
   dsimp only at c0 c1 c2 hh s1
   obtain⟨V,hV⟩:=ex (wr.alloc (.cells #[.string ⟨fk.toArray⟩,.string ⟨fv.toArray⟩,.int .i64 fl] 168))
   have ae:Hid (Below u.heap.size u V):=HW.out.trans ((ai hV).mono HW.out.size)
   obtain⟨v0,v1,v2,_⟩:=dL hV (Below.refl _ _)
   have aa:=ri (zC am.out ae.out an.out) s1
   have ag:Hid (Below w.heap.size w V):=bt HB.out ae.out
   clear hd hf s1
   cases hp:placeOf ks fk with
   | none =>
    rw[hp] at aa hh
    dsimp only[Option.getD,Option.isSome] at aa hh
    have HE:Hid (R=((k:Int),10)):=hh.symm
    clear hh hp
    go_wp2_with fail
    clear hV
    refine (aE _).mono ?_
    rintro _ z ⟨rfl,rfl⟩
    go_wp2_with fail
    exact⟨rfl,by show OrdRet w R _ _;rw[HE.out];exact⟨ag.out,rfl⟩⟩
   | some p =>
    have ah:=ads hp
    have ap:p<=100000:=Nat.le_trans (Nat.le_of_lt ah) HM.out
    rw[hp] at aa hh
    dsimp only[Option.getD,Option.isSome] at aa hh
    clear hp ah
    by_cases ab:x<p
    ·have d0:decide (x<(p:Int))=true:=decide_eq_true ab
     have HE:Hid (ordP ks (k+1) p (l.drop (k+1))=R):=by rw[if_pos ab] at hh;exact hh
     clear hh
     go_wp2_with fail
     clear hV
     refine (aG _).mono ?_
     rintro _ z ⟨rfl,rfl⟩
     go_wp2_with fail
     refine (aG _).mono ?_
     rintro _ z ⟨rfl,rfl⟩
     go_wp2_with fail
     go_roundw
     case rel=>exact⟨k+1,p,by omega,by go_num,rfl,by omega,by omega,ae,HE⟩
     case measure=>simp[intOf];omega
    ·have d0:decide (x<(p:Int))=false:=decide_eq_false ab
     have HE:Hid (R=((k:Int),7)):=by rw[if_neg ab] at hh;exact hh.symm
     clear hh
     go_wp2_with fail
     clear hV
     refine (aG _).mono ?_
     rintro _ z ⟨rfl,rfl⟩
     go_wp2_with fail
     refine (aE _).mono ?_
     rintro _ z ⟨rfl,rfl⟩
     go_wp2_with fail
     exact⟨rfl,by show OrdRet w R _ _;rw[HE.out];exact⟨ag.out,rfl⟩⟩
  ·obtain rfl:k=n:=by omega
   have HE:Hid (R=(0,0)):=by show _=_;rw[<-HH.out,List.drop_eq_nil_of_le (by rw[HN.out];exact Nat.le_refl _)];rfl
   go_wp2_with fail
   go_end0
   show OrdRet w R _ _
   rw[HE.out]
   exact⟨bt HB.out HW.out,rfl⟩
theorem rZ (p q:Addr)(x y k n:Int)(w:World)(hc:∀ u,Below w.heap.size w u->u.cell? p=some (.int .i64 x))(hz:∀ u,Below w.heap.size w u->u.frozen? p=false)(hc2:∀ u,Below w.heap.size w u->(u.setCell p (.int .i64 k)).cell? q=some (.int .i64 y))(hz2:∀ u,Below w.heap.size w u->(u.setCell p (.int .i64 k)).frozen? q=false) :
  CallsD Tryz.prog 238 #[.pointer (some p),.pointer (some q)] (.panicking [{ v:=.iface 158 (.agg #[.int .i64 k,.int .i64 n]),recovered:=false }]) w fun e u' w' =>
   e=.returned (.tuple #[])/\u'=.panicking [{ v:=.iface 158 (.agg #[.int .i64 k,.int .i64 n]),recovered:=true }]/\∃ u,Below w.heap.size w u/\w'=(u.setCell p (.int .i64 k)).setCell q (.int .i64 n):=by
 refine callsD_of_wpS Tryz.func238 rfl fun c₀ cs hu=>?_
 apply wpS_region
 simp[wpOpsS,go_sem,recoverD,hu,Tryz.ntmps238]
 refine (bN k n _).mono ?_
 rintro e w' ⟨rfl,hb⟩
 simp[go_sem,hc _ hb,hz _ hb,hc2 _ hb,hz2 _ hb,bodyPostS,results,Tryz.results238]
 exact⟨w',hb,rfl⟩
theorem wR (p q:Addr)(x y:Int)(w:World)(hc:w.cell? p=some (.int .i64 x))(hz:w.frozen? p=false)(hc2:(w.setCell p (.int .i64 0)).cell? q=some (.int .i64 y))(hz2:(w.setCell p (.int .i64 0)).frozen? q=false) :
  CallsD Tryz.prog 238 #[.pointer (some p),.pointer (some q)] .returning w fun e u' w'=>e=.returned (.tuple #[])/\u'=.returning/\w'=(w.setCell p (.int .i64 0)).setCell q (.int .i64 0):=by
 refine callsD_of_wpS Tryz.func238 rfl fun c₀ cs hu=>?_
 apply wpS_region
 simp[wpOpsS,go_sem,recoverD,hu,Tryz.ntmps238]
 refine (cJ _).mono ?_
 rintro e w' ⟨rfl,rfl⟩
 cases c₀
 simp_all [go_sem,bodyPostS,results,Tryz.results238]
theorem Sz.rk (ks:List (List UInt8)):∀ (l:List Fld) (i:Nat) (x:Int),(ordP ks i x l).2=0->(ordP ks i x l).1=0
 | [],i,x,_=>rfl
 | f :: l,i,x,h=>by
  rw[rj] at h ⊢
  cases hp:placeOf ks f.key with
  | none=>rw[hp] at h;cases h
  | some p =>
   rw[hp] at h
   dsimp only at h ⊢
   by_cases hx:x<p
   ·rw[if_pos hx] at h ⊢;exact rk ks l _ _ h
   ·rw[if_neg hx] at h;cases h
def Sz.OrderRet (w:World) (X:Int × Int) (e:Ending) (w':World):Prop:=e=.returned (.tuple #[.int .i64 X.1,.int .i64 X.2])/\Below w.heap.size w w'
theorem oL (A:Option Addr)(n c:Nat)(l:List Fld)(B:Option Addr)(m d:Nat)(ks:List (List UInt8))(w:World)(hn:l.length=n)(hr:Rg.Row encF 3 w A l)(hl:n<=100000)(hs:Sz.Short l)(hm:ks.length=m)(hk:Rg.Row encT 1 w B ks)(hml:m<=100000)(hks:Sz.ShortT ks) :
  Calls Tryz.prog 208 #[.slice A n c,.slice B m d] w (Sz.OrderRet w (ordP ks 0 (-1) l)):=by
 have al:∀ (fn:Fn) (first cap:Array Value) (w:World),(Instr.makeFunc fn first cap).run Tryz.prog w=.ok (.func fn first cap) w:=fun _ _ _ _=>rfl
 obtain⟨W1,ab⟩:=ex (w.alloc (.cells #[.int .i64 0] 3))
 obtain⟨W2,af⟩:=ex (W1.alloc (.cells #[.int .i64 0] 77))
 have aa:Hid (∀ u,Below W2.heap.size W2 u->P2 w.heap.size u):=fun u hb=>oD ab af hb
 have am:W1.heap.size=w.heap.size+1:=by rw[<-ab];simp
 have ac:Hid (Below w.heap.size w W2):=(ai ab).trans ((ai af).mono (ai ab).size)
 have ad:=zh (m7 A n c l B m d ks W2 hn (Rg.aj hr ac.out) hl hs hm (Rg.aj hk ac.out) hml hks)
 obtain⟨X,hX⟩:=ex (ordP ks 0 (-1) l)
 rw[hX]
 have ag:Hid (X.2=0->X.1=0):=by rw[<-hX];exact rk ks l 0 (-1)
 rw[hX] at ad
 clear hX hn hr hl hs hm hk hml hks
 go_enter_defers Tryz.func208,Tryz.ntmps208
 go_wp2_with fail
 clear ab af
 refine ad.out.mono ?_
 rintro e z1 ⟨hb,hr⟩
 have HB:=zh hb
 clear hb ad
 obtain⟨n,k⟩:=X
 dsimp only at hr ag
 by_cases hk:k=0
 ·subst hk
  obtain rfl:=ag.out rfl
  obtain rfl:e=.returned (.tuple #[]):=by rw[if_pos rfl] at hr;exact hr
  obtain⟨c0,f0,c1,f1⟩:=aL (aa.out _ HB.out)
  obtain⟨d0,g0,d1,g1⟩:=aM (aa.out _ HB.out) (.int .i64 0)
  have ae:=zh (gR (aa.out _ HB.out))
  have ak:Hid (Below w.heap.size w ((z1.setCell ⟨w.heap.size,0,none⟩ (.int .i64 0)).setCell ⟨w.heap.size+1,0,none⟩ (.int .i64 0))):=((bt ac.out HB.out).setCell (Nat.le_refl _) _).setCell (Nat.le_succ _) _
  clear hr
  go_wp2_with fail
  generalize (z1.setCell ⟨w.heap.size,0,none⟩ (.int .i64 0)).setCell ⟨w.heap.size+1,0,none⟩ (.int .i64 0)=V at *
  obtain⟨k0,m0,k1,m1⟩:=aL ae.out
  obtain⟨l0,o0,l1,o1⟩:=aM ae.out (.int .i64 0)
  obtain⟨q0,q1⟩:=bO ae.out (.int .i64 0) (.int .i64 0)
  refine leaves_cons (f:=238) (args:=#[.pointer (some ⟨w.heap.size,0,none⟩),.pointer (some ⟨w.heap.size+1,0,none⟩)]) (by simp) (by simp[go_sem]) ?_
  refine (wR ⟨w.heap.size,0,none⟩ ⟨w.heap.size+1,0,none⟩ 0 0 _ k0 m0 l1 o1).mono ?_
  rintro e u' w3 ⟨rfl,rfl,rfl⟩
  simp[Leaves,settle,results,Tryz.results208,go_sem,q0,q1]
  exact⟨rfl,(ak.out.setCell (Nat.le_refl _) _).setCell (Nat.le_succ _) _⟩
 ·obtain rfl:e=panAt n k:=by rw[if_neg hk] at hr;exact hr
  clear hr hk
  go_wp2_with fail
  refine leaves_cons (f:=238) (args:=#[.pointer (some ⟨w.heap.size,0,none⟩),.pointer (some ⟨w.heap.size+1,0,none⟩)]) (by simp) (by simp[go_sem]) ?_
  refine (rZ ⟨w.heap.size,0,none⟩ ⟨w.heap.size+1,0,none⟩ 0 0 n k _ (fun u hb=>(aL (aa.out _ (bt HB.out hb))).1) (fun u hb=>(aL (aa.out _ (bt HB.out hb))).2.1) (fun u hb=>(aM (aa.out _ (bt HB.out hb)) _).2.2.1) (fun u hb=>(aM (aa.out _ (bt HB.out hb)) _).2.2.2)).mono ?_
  rintro e u' w3 ⟨rfl,rfl,u,hb,rfl⟩
  have ah:=zh (bt HB.out hb)
  obtain⟨q0,q1⟩:=bO (aa.out _ ah.out) (.int .i64 n) (.int .i64 k)
  simp[Leaves,settle,results,Tryz.results208,go_sem,q0,q1]
  exact⟨rfl,((bt ac.out ah.out).setCell (Nat.le_refl _) _).setCell (Nat.le_succ _) _⟩
theorem Sz.abx {w u:World}{B:Nat}(h:Below B w u)(n:Nat):Below B w (u.drewN n):=below_drewN h n
end
section
open Go.RowKit Go.Maps Sz
attribute [local go_sem ↓] Go.wp_at_zero Go.wp_at_succ
variable {TO TF:TypeId}
def Sz.Tri (b:Nat) (k v:List UInt8) (n:Int) (T:TypeId) (u:World):Prop:=u.heap[b]?=some (.cells #[.string ⟨k.toArray⟩,.string ⟨v.toArray⟩,.int .i64 n] T (0,0))
theorem Sz.ae5 {w W1:World}{k v:List UInt8}{n:Int}{T:TypeId}(h:w.alloc (.cells #[.string ⟨k.toArray⟩,.string ⟨v.toArray⟩,.int .i64 n] T)=W1):Tri w.heap.size k v n T W1:=by
 subst h;exact heap_alloc_new w _
theorem Sz.aby {b:Nat}{k v:List UInt8}{n:Int}{T:TypeId}{u:World}(h:Tri b k v n T u):u.cell? ⟨b,0,none⟩=some (.string ⟨k.toArray⟩)/\u.cell? ⟨b,1,none⟩=some (.string ⟨v.toArray⟩)/\u.cell? ⟨b,2,none⟩=some (.int .i64 n)/\u.frozen? ⟨b,0,none⟩=false/\u.frozen? ⟨b,1,none⟩=false/\u.frozen? ⟨b,2,none⟩=false:=by
 unfold Tri at h
 refine⟨?_,?_,?_,?_,?_,?_⟩ <;> simp[World.cell?,World.frozen?,h]
end
end Go.Proofs.YtgnaiidgjmicaaaGreatDoor
namespace Go.Proofs
open Go.Shelf
def Tryz.mz:Go.Shelf.Ren:=⟨fun | 166=>110 | 240=>148 | 276=>189 | n=>n,fun | 0=>0 | 3=>3 | 4=>4 | 5=>5 | 9=>9 | 20=>20 | 37=>61 | 70=>171 | 72=>173 | 75=>175 | 80=>80 | 164=>237 | n=>n,fun | n=>n⟩
theorem Tryz.lays166:Go.Proofs.Lays.n166 Tryz.prog Tryz.mz:=YtgnaiidgjmicaaaGreatDoor.zl
theorem Tryz.lW:Builder.Extra Tryz.prog Tryz.mz where
 sizeBuilder:=by kernel_rfl
 liesBuilder:=by kernel_rfl
 t5:=Tryz.underlying5
 a5:=Tryz.isAgg5
 z5:=Tryz.sizeOf5
 v5:=Tryz.zeroValue5
 infoByte:=by kernel_rfl
 cellsByte:=by kernel_rfl
 sizeByte:=by kernel_rfl
 neB5:=by decide
open Go.RowKit in
theorem Tryz.Builder_WriteString_kc (B b:Nat)(bs:List Value)(s:ByteArray)(w:World)(h:Lib.IsBuilderF 173 5 B b bs w)(hlen:bs.length+s.size<=140737488355328)(hBw:B<=w.heap.size) :
  Calls Tryz.prog 110 #[.pointer (some ⟨b,0,none⟩),.string s] w fun e w'=>e=.returned (.tuple #[.int .i64 s.size,.nilIface])/\(Lib.BuilderAtF 173 5 B b (.pointer (some ⟨b,0,none⟩)) (bs++Lib.strCells s) w'/\Below B w w'/\Lib.OthersKept 5 (some b) w w')/\∀ v0,w.cell? ⟨b,1,none⟩=some v0->∃ v1,w'.cell? ⟨b,1,none⟩=some v1/\v0.capOf<=v1.capOf:=Any.Builder_WriteString_kc Tryz.lays166 Tryz.lW B b bs s w h hlen hBw
end Go.Proofs
namespace Go.Proofs.YtgnaiidgjmicaaaGreatDoor
section
open Go.RowKit Sz
def Sz.Bld (w:World) (t:List UInt8) (u:World):Prop:=Lib.IsBuilderF 173 5 w.heap.size w.heap.size (Lib.byteCells t) u/\Below w.heap.size w u
theorem Sz.ae6 {w W1:World}(h:w.alloc (.cells #[.pointer none,.slice none 0 0] 173)=W1):Bld w [] W1:=by
 subst h
 exact⟨Lib.IsBuilderF.of (Lib.fresh_isBuilder _ _ w),(Below.refl _ _).alloc (Nat.le_refl _) _⟩
theorem Sz.r5 (t s:List UInt8):Lib.byteCells t++Lib.strCells ⟨s.toArray⟩=Lib.byteCells (t++s):=by
 unfold Lib.byteCells Lib.strCells
 simp
theorem Sz.abz {u u':World}{B b:Nat}{p:Value}{bs:List Value}(h:Lib.BuilderAtF 173 5 B b p bs u)(hb:Below u.heap.size u u'):Lib.BuilderAtF 173 5 B b p bs u':=by
 have ab:=h.lt
 obtain⟨hB,v,hk,aa,ac⟩:=h
 refine⟨hB,v,(hb.block _ ab).trans hk,aa.kept (row:=none) ⟨hb.os,hb.tape,hb.output,hb.size,fun k hk _=>hb.block k hk⟩ ?_,ac⟩
 cases v.ownBlock with
 | none=>exact Or.inl rfl
 | some x=>exact Or.inr (by simp)
theorem Sz.rl {w u u':World}{t:List UInt8}(h:Bld w t u)(hb:Below u.heap.size u u'):Bld w t u' :=
 ⟨h.1.elim (fun x=>.inl (abz x hb)) (fun x=>.inr (abz x hb)),h.2.trans (hb.mono h.2.size)⟩
theorem Sz.abA {w u:World}{t:List UInt8}(h:Bld w t u):w.heap.size<u.heap.size:=h.1.elim (fun x=>x.lt) (fun x=>x.lt)
theorem Sz.cE {w u:World}{t:List UInt8}(h:Bld w t u)(s:List UInt8)(hl:t.length+s.length<=10000000) :
  Calls Tryz.prog 110 #[.pointer (some ⟨w.heap.size,0,none⟩),.string ⟨s.toArray⟩] u fun e u'=>e=.returned (.tuple #[.int .i64 s.length,.nilIface])/\Bld w (t++s) u'/\Lib.OthersKept 5 (some w.heap.size) u u':=by
 refine (Tryz.Builder_WriteString_kc w.heap.size w.heap.size (Lib.byteCells t) ⟨s.toArray⟩ u h.1 (by
  have:(Lib.byteCells t).length=t.length:=by unfold Lib.byteCells;simp
  rw[this];show t.length+s.toArray.size<=_;rw[List.size_toArray];omega) h.2.size).mono ?_
 rintro e u' ⟨rfl,⟨hb,hB,hk⟩,_⟩
 refine⟨by show _=Ending.returned (.tuple #[.int .i64 s.toArray.size,.nilIface]);rfl,⟨?_,h.2.trans hB⟩,hk⟩
 rw[<-r5]
 exact .inr hb
theorem Sz.zD {w u:World}{t:List UInt8}(h:Bld w t u) :
  Calls Tryz.prog 111 #[.pointer (some ⟨w.heap.size,0,none⟩)] u fun e u'=>e=.returned (.string ⟨t.toArray⟩)/\Bld w t u':=by
 refine (Tryz.Builder_String_any_k w.heap.size w.heap.size t u h.1 h.2.size).mono ?_
 rintro e u' ⟨rfl,hb,hB,_⟩
 exact⟨rfl,hb,h.2.trans hB⟩
end
section
open Go.RowKit Go.Maps Sz
attribute [local go_sem ↓] Go.wp_at_zero Go.wp_at_succ
def Sz.FBk (b:Nat) (k v:List UInt8) (n:Int) (u:World):Prop:=u.heap[b]?=some (.cells #[.string ⟨k.toArray⟩,.string ⟨v.toArray⟩,.int .i64 n] 168 (0,0))
theorem Sz.yn {w W1:World}{k v:List UInt8}{n:Int}(h:w.alloc (.cells #[.string ⟨k.toArray⟩,.string ⟨v.toArray⟩,.int .i64 n] 168)=W1):FBk w.heap.size k v n W1:=by
 subst h;exact heap_alloc_new w _
theorem Sz.cS {b:Nat}{k v:List UInt8}{n:Int}{u:World}(h:FBk b k v n u):u.cell? ⟨b,0,none⟩=some (.string ⟨k.toArray⟩)/\u.cell? ⟨b,1,none⟩=some (.string ⟨v.toArray⟩)/\u.cell? ⟨b,2,none⟩=some (.int .i64 n):=by
 unfold FBk at h
 refine⟨?_,?_,?_⟩ <;> simp[World.cell?,h]
theorem Sz.e8 {b c:Nat}{k v:List UInt8}{n:Int}{u u':World}(h:FBk b k v n u)(hk:Lib.OthersKept 5 (some c) u u')(hne:c<b):FBk b k v n u' :=
 hk b _ h (by simp;omega) (fun cs fz e=>by
  have:=(Obj.cells.inj e).2.1
  exact absurd this (by decide))
theorem Sz.lj (l:List Fld)(i:Nat)(hi:i<l.length):stanzaT (l.take (i+1))=stanzaT (l.take i)++fieldT l[i]:=by
 rw[List.take_succ_eq_append_getElem hi,kT]
theorem Sz.oM (l:List Fld)(i:Nat):(stanzaT (l.take i)).length<=(stanzaT l).length:=by
 have h:stanzaT l=stanzaT (l.take i)++stanzaT (l.drop i):=by
  unfold stanzaT;rw[<-List.flatMap_append,List.take_append_drop]
 rw[h,List.length_append];omega
theorem Sz.zE (t:List (List Fld))(k:Nat)(hk:k<t.length):textS (t.take (k+1))=textS (t.take k)++(if k=0 then [] else [10])++stanzaT t[k]:=by
 rw[List.take_succ_eq_append_getElem hk,dK]
 by_cases h:k=0
 ·subst h;rw[if_pos rfl];rfl
 ·rw[if_neg h,if_neg]
  simp;exact⟨h,fun e=>by subst e;simp at hk⟩
theorem Sz.lk (a:List (List Fld)):∀ n (b:List (List Fld)),b.length=n->(textS a).length<=(textS (a++b)).length
 | 0,b,h=>by rw[List.length_eq_zero_iff.1 h,List.append_nil];exact Nat.le_refl _
 | n+1,b,h=>by
  rcases List.eq_nil_or_concat b with rfl | ⟨c,x,rfl⟩
  ·simp at h
  ·rw[List.concat_eq_append] at h ⊢
   have hc:c.length=n:=by simp at h;exact h
   have ih:=lk a n c hc
   rw[<-List.append_assoc,dK,List.length_append]
   split
   ·rename_i he
    have:a++c=[]:=by simpa using he
    rw[this] at ih
    have h0:(textS ([]:List (List Fld))).length=0:=rfl
    omega
   ·rw[List.length_append];omega
theorem Sz.adu (t:List (List Fld))(k:Nat):(textS (t.take k)).length<=(textS t).length:=by
 have:=lk (t.take k) _ (t.drop k) rfl
 rwa [List.take_append_drop] at this
theorem Sz.yo {w:World}{A:Option Addr}{t:List (List Fld)}(h:Gr.Row encF 3 w A t)(k:Nat)(hk:k<t.length):∃ ad C n c,A=some ad/\t[k].length=n/\Rg.Row encF 3 w C t[k]/\∀ u,Below w.heap.size w u->u.cell? (ad.add k)=some (.slice C n c):=by
 obtain⟨ds,h1,h2,h3⟩:=h
 have aa:k<ds.length:=by omega
 obtain⟨ad,e,_,_⟩:=h1 (by omega)
 obtain⟨q1,q2⟩:=h3 k ds[k] t[k] (List.getElem?_eq_getElem aa) (List.getElem?_eq_getElem hk)
 refine⟨ad,ds[k].1,ds[k].2.1,ds[k].2.2,e,q1.symm,q2,fun u hb=>?_⟩
 obtain⟨ab,x,e',hx,_,hc⟩:=Rg.cK (Rg.aj h1 hb) k aa
 rw[e] at e';cases e'
 have:=hc 0 _ rfl
 rw[if_pos rfl,Nat.mul_one] at this
 rw[hx];exact this
theorem oN (A:Option Addr)(n c:Nat)(t:List (List Fld))(w:World)(hn:t.length=n)(hr:Gr.Row encF 3 w A t)(hl:n<=1000000)(hls:∀ l∈t,l.length<=1000000)(ht:(textS t).length<=1000000) :
  Calls Tryz.prog 68 #[.slice A n c] w fun e w'=>e=.returned (.string ⟨(textS t).toArray⟩)/\Below w.heap.size w w':=by
 obtain⟨R,hR⟩:=ex (textS t)
 rw[hR] at ht
 rw[hR]
 have aP:=zh hR
 obtain⟨W1,aL⟩:=ex (w.alloc (.cells #[.pointer none,.slice none 0 0] 173))
 have aQ:Hid (Bld w [] W1):=ae6 aL
 have HR:=zh hr
 have HN:=zh hn
 have HL:=zh hls
 have HT:=zh ht
 have aR:Hid (∀ k,(textS (t.take k)).length<=R.length):=fun k=>by rw[<-hR];exact adu t k
 clear hr hn hls ht hR
 go_enter Tryz.func68,Tryz.ntmps68
 go_wp2_with fail
 clear aL
 go_loopw [10] (fun i wr=>∃ k:Nat,k<=n/\i=.int .i64 k/\Hid (Bld w (textS (t.take k)) wr)) (fun i _=>n-(intOf i).toNat)
 case atStart=>exact⟨0,Nat.zero_le _,rfl,aQ.out⟩
 case round =>
  obtain⟨k,hk,rfl,HW⟩:=hrel
  by_cases aS:k<n
  ·have az:k<t.length:=by rw[HN.out];exact aS
   obtain⟨ad,C,m,d,rfl,hm,an,af⟩:=yo HR.out k az
   have hc:=af _ HW.out.2
   have ag:=zE t k az
   have hle:=aR.out (k+1)
   have aA:=HL.out _ (List.getElem_mem az)
   obtain⟨l,aM⟩:=ex (t[k])
   rw[aM] at hm an ag aA
   rw[ag,List.length_append,List.length_append] at hle
   obtain⟨T1,aN⟩:=ex (textS (t.take k))
   rw[aN] at ag hle HW
   have ap:=zh an
   have HM:=zh hm
   have aV:m<=1000000:=by rw[<-hm];exact aA
   clear af aM hm an aA aN
   by_cases ao:k=0
   ·have d0:decide (0<k)=false:=decide_eq_false (by omega)
    have aB:Hid (Bld w T1 wr):=HW.out
    have ax:Hid (textS (t.take (k+1))=T1++stanzaT l):=by show _=_;rw[ag,if_pos ao,List.append_nil]
    have aC:Hid (T1.length+(stanzaT l).length<=R.length):=by show _<=_;rw[if_pos ao] at hle;have h0:([]:List UInt8).length=0:=rfl;omega
    clear ag hle ao
    go_wp2_with fail
    go_loopw [20] (fun j wr=>∃ i:Nat,i<=m/\j=.int .i64 i/\Hid (Bld w (T1++stanzaT (l.take i)) wr)) (fun j _=>m-(intOf j).toNat)
    case atStart=>exact⟨0,Nat.zero_le _,rfl,by show Bld w (T1++[]) _;rw[List.append_nil];exact aB.out⟩
    case round =>
     obtain⟨i,hi,rfl,HI⟩:=hrel
     by_cases ah:i<m
     ·have aq:i<l.length:=by rw[HM.out];exact ah
      obtain⟨ae,rfl,_,c0,c1,c2⟩:=d8 (Rg.aj ap.out HI.out.2) i aq
      have ab:=lj l i aq
      have ak:=oM l (i+1)
      obtain⟨f,hf⟩:=ex (l[i])
      rw[hf] at c0 c1 c2 ab
      obtain⟨fk,fv,fl⟩:=f
      have al:fieldT ⟨fk,fv,fl⟩=fk++[58,32]++fv++[10]:=rfl
      rw[ab,al] at ak
      have ar:Hid (T1++stanzaT (l.take (i+1))=T1++stanzaT (l.take i)++fk++[58,32]++fv++[10]):=by show _=_;rw[ab,al];simp only[List.append_assoc]
      obtain⟨S,hS⟩:=ex (T1++stanzaT (l.take i))
      rw[hS] at ar HI
      have ac:Hid (S.length+fk.length+2+fv.length+1<=1000000):=by
       have h1:=aC.out;have h2:=HT.out
       show _<=_
       rw[<-hS];simp only[List.length_append,List.length_cons,List.length_nil] at ak ⊢;omega
      dsimp only at c0 c1 c2
      obtain⟨V,hV⟩:=ex (wr.alloc (.cells #[.string ⟨fk.toArray⟩,.string ⟨fv.toArray⟩,.int .i64 fl] 168))
      have au:Hid (FBk wr.heap.size fk fv fl V):=yn hV
      have aD:Hid (Bld w S V):=rl HI.out (ai hV)
      have am:Hid (w.heap.size<wr.heap.size):=abA HI.out
      obtain⟨v0,v1,v2⟩:=cS au.out
      have x1:=zh (cE aD.out fk (by have:=ac.out;omega))
      clear ab ak hf al hS
      go_wp2_with fail
      clear hV v0 v1 v2
      refine x1.out.mono ?_
      rintro _ y1 ⟨rfl,hb,aa⟩
      have aE:=zh hb
      have av:=zh (e8 au.out aa am.out)
      obtain⟨v0,v1,v2⟩:=cS av.out
      clear hb aa
      clear x1
      go_wp2_with fail
      clear v0 v1 v2
      refine (cE aE.out [58,32] (by have:=ac.out;simp only[List.length_append,List.length_cons,List.length_nil];omega)).mono ?_
      rintro _ y2 ⟨rfl,hb,aa⟩
      have aF:=zh hb
      have aw:=zh (e8 av.out aa am.out)
      obtain⟨v0,v1,v2⟩:=cS aw.out
      clear hb aa
      go_wp2_with fail
      clear v0 v1 v2
      refine (cE aF.out fv (by have:=ac.out;simp only[List.length_append,List.length_cons,List.length_nil];omega)).mono ?_
      rintro _ y3 ⟨rfl,hb,aa⟩
      have aG:=zh hb
      have aH:=zh (e8 aw.out aa am.out)
      obtain⟨v0,v1,v2⟩:=cS aH.out
      clear hb aa
      go_wp2_with fail
      clear v0 v1 v2
      refine (cE aG.out [10] (by have:=ac.out;simp only[List.length_append,List.length_cons,List.length_nil];omega)).mono ?_
      rintro _ y4 ⟨rfl,hb,aa⟩
      have aI:=zh hb
      clear hb aa
      go_wp2_with fail
      go_roundw
      case rel=>exact⟨i+1,by omega,by go_num,by show Bld w _ _;rw[ar.out];exact aI.out⟩
      case measure=>simp[intOf];omega
     ·obtain rfl:i=m:=by omega
      have HE:Hid (Bld w (textS (t.take (k+1))) wr):=by
       have h:=HI.out
       rw[List.take_of_length_le (by rw[HM.out];exact Nat.le_refl _),<-ax.out] at h
       exact h
      go_wp2_with fail
      go_roundw
      case rel=>exact⟨k+1,by omega,by go_num,HE⟩
      case measure=>simp[intOf];omega
   ·have d0:decide (0<k)=true:=decide_eq_true (by omega)
    have ax:Hid (textS (t.take (k+1))=(T1++[10])++stanzaT l):=by show _=_;rw[ag,if_neg ao]
    have ay:(T1++[10]).length+(stanzaT l).length<=R.length:=by rw[if_neg ao] at hle;rw[List.length_append];exact hle
    have aK:T1.length+([10]:List UInt8).length<=10000000:=by have:=HT.out;rw[List.length_append] at ay;omega
    have aT:=zh aK
    obtain⟨T2,aJ⟩:=ex (T1++[10])
    rw[aJ] at ax ay
    have aC:Hid (T2.length+(stanzaT l).length<=R.length):=ay
    clear ag hle ao ay aK
    go_wp2_with fail
    refine (cE HW.out [10] aT.out).mono ?_
    rintro _ u1 ⟨rfl,hb,_⟩
    rw[aJ] at hb
    have aB:=zh hb
    clear hb aJ
    go_wp2_with fail
    go_loopw [20] (fun j wr=>∃ i:Nat,i<=m/\j=.int .i64 i/\Hid (Bld w (T2++stanzaT (l.take i)) wr)) (fun j _=>m-(intOf j).toNat)
    case atStart=>exact⟨0,Nat.zero_le _,rfl,by show Bld w (T2++[]) _;rw[List.append_nil];exact aB.out⟩
    case round =>
     obtain⟨i,hi,rfl,HI⟩:=hrel
     by_cases ah:i<m
     ·have aq:i<l.length:=by rw[HM.out];exact ah
      obtain⟨ae,rfl,_,c0,c1,c2⟩:=d8 (Rg.aj ap.out HI.out.2) i aq
      have ab:=lj l i aq
      have ak:=oM l (i+1)
      obtain⟨f,hf⟩:=ex (l[i])
      rw[hf] at c0 c1 c2 ab
      obtain⟨fk,fv,fl⟩:=f
      have al:fieldT ⟨fk,fv,fl⟩=fk++[58,32]++fv++[10]:=rfl
      rw[ab,al] at ak
      have ar:Hid (T2++stanzaT (l.take (i+1))=T2++stanzaT (l.take i)++fk++[58,32]++fv++[10]):=by show _=_;rw[ab,al];simp only[List.append_assoc]
      obtain⟨S,hS⟩:=ex (T2++stanzaT (l.take i))
      rw[hS] at ar HI
      have ac:Hid (S.length+fk.length+2+fv.length+1<=1000000):=by
       have h1:=aC.out;have h2:=HT.out
       show _<=_
       rw[<-hS];simp only[List.length_append,List.length_cons,List.length_nil] at ak ⊢;omega
      dsimp only at c0 c1 c2
      obtain⟨V,hV⟩:=ex (wr.alloc (.cells #[.string ⟨fk.toArray⟩,.string ⟨fv.toArray⟩,.int .i64 fl] 168))
      have au:Hid (FBk wr.heap.size fk fv fl V):=yn hV
      have aD:Hid (Bld w S V):=rl HI.out (ai hV)
      have am:Hid (w.heap.size<wr.heap.size):=abA HI.out
      obtain⟨v0,v1,v2⟩:=cS au.out
      have x1:=zh (cE aD.out fk (by have:=ac.out;omega))
      clear ab ak hf al hS
      go_wp2_with fail
      clear hV v0 v1 v2
      refine x1.out.mono ?_
      rintro _ y1 ⟨rfl,hb,aa⟩
      have aE:=zh hb
      have av:=zh (e8 au.out aa am.out)
      obtain⟨v0,v1,v2⟩:=cS av.out
      clear hb aa
      clear x1
      go_wp2_with fail
      clear v0 v1 v2
      refine (cE aE.out [58,32] (by have:=ac.out;simp only[List.length_append,List.length_cons,List.length_nil];omega)).mono ?_
      rintro _ y2 ⟨rfl,hb,aa⟩
      have aF:=zh hb
      have aw:=zh (e8 av.out aa am.out)
      obtain⟨v0,v1,v2⟩:=cS aw.out
      clear hb aa
      go_wp2_with fail
      clear v0 v1 v2
      refine (cE aF.out fv (by have:=ac.out;simp only[List.length_append,List.length_cons,List.length_nil];omega)).mono ?_
      rintro _ y3 ⟨rfl,hb,aa⟩
      have aG:=zh hb
      have aH:=zh (e8 aw.out aa am.out)
      obtain⟨v0,v1,v2⟩:=cS aH.out
      clear hb aa
      go_wp2_with fail
      clear v0 v1 v2
      refine (cE aG.out [10] (by have:=ac.out;simp only[List.length_append,List.length_cons,List.length_nil];omega)).mono ?_
      rintro _ y4 ⟨rfl,hb,aa⟩
      have aI:=zh hb
      clear hb aa
      go_wp2_with fail
      go_roundw
      case rel=>exact⟨i+1,by omega,by go_num,by show Bld w _ _;rw[ar.out];exact aI.out⟩
      case measure=>simp[intOf];omega
     ·obtain rfl:i=m:=by omega
      have HE:Hid (Bld w (textS (t.take (k+1))) wr):=by
       have h:=HI.out
       rw[List.take_of_length_le (by rw[HM.out];exact Nat.le_refl _),<-ax.out] at h
       exact h
      go_wp2_with fail
      go_roundw
      case rel=>exact⟨k+1,by omega,by go_num,HE⟩
      case measure=>simp[intOf];omega
  ·obtain rfl:k=n:=by omega
   have HE:Hid (Bld w R wr):=by
    have h:=HW.out
    rw[List.take_of_length_le (by rw[HN.out];exact Nat.le_refl _),aP.out] at h
    exact h
   go_wp2_with fail
   refine (zD HE.out).mono ?_
   rintro _ u2 ⟨rfl,aO⟩
   have aU:=zh aO
   clear aO
   go_wp2_with fail
   go_ret
   exact⟨rfl,aU.out.2⟩
theorem Sz.adv {u:World}(A:Option Addr)(n c:Nat)(l:List Fld)(B:Option Addr)(m d:Nat)(ks:List (List UInt8))(hn:l.length=n)(hr:Rg.Row encF 3 u A l)(hl:n<=100000)(hs:Short l)(hm:ks.length=m)(hk:Rg.Row encT 1 u B ks)(hml:m<=100000)(hks:ShortT ks){i e0:Int}(hX:ordP ks 0 (-1) l=(i,e0)) :
  Calls Tryz.prog 208 #[.slice A n c,.slice B m d] u fun e w'=>e=.returned (.tuple #[.int .i64 i,.int .i64 e0])/\Below u.heap.size u w' :=
 (oL A n c l B m d ks u hn hr hl hs hm hk hml hks).mono fun e w' ⟨he,hb⟩=>by
  rw[hX] at he
  exact⟨he,hb⟩
theorem Sz.abB {l:List (List UInt8)}(h:l.all (fun k=>decide (k.length<=140737488355328))=true):ShortT l:=fun k hk=>by
 have:=List.all_eq_true.1 h k hk
 rwa [decide_eq_true_eq] at this
theorem Rg.lQ {α:Type}{enc:α->List Value}{K:Nat}(hf:Rg.Fits enc K)(w:World)(T:TypeId)(l:List α)(cs:Array Value)(h:cs.toList=Rg.flat enc l){b:Nat}(hb:w.heap.size=b):Rg.Row enc K (w.alloc (.cells cs T)) (some ⟨b,0,none⟩) l:=by
 subst hb
 intro _
 refine⟨_,rfl,by simp,fun i hi j v hv=>?_⟩
 have hj:j<K:=by rw[<-hf.len l[i]];exact (List.getElem?_eq_some_iff.1 hv).1
 rw[<-Rg.lF]
 exact Rg.az w T l cs h _ _ ((Rg.flat_get hf l i hi j hj).trans hv)
end
section
open Go.RowKit Rs At Pg
namespace Pg
theorem jX {B B':Nat}{u:World}{p:Pk}{D C G:Option Addr}(h:PRows B u p D C G)(hB:B'<=B):PRows B' u p D C G :=
 ⟨⟨gg h.1.1 hB,fun a ha=>Nat.le_trans hB (h.1.2 a ha)⟩,⟨h.2.1.1,fun a ha=>Nat.le_trans hB (h.2.1.2 a ha)⟩,⟨h.2.2.1,fun a ha=>Nat.le_trans hB (h.2.2.2 a ha)⟩⟩
abbrev zeroC:Array Value:=#[.string ⟨#[]⟩,.string ⟨#[]⟩,.slice none 0 0,.slice none 0 0,.slice none 0 0,.float .f64 0]
theorem rm (B:Nat)(u:World):PRows B u zeroP none none none :=
 ⟨⟨⟨[],fun h=>absurd h (by decide),⟨rfl,fun i a d h=>by simp at h⟩,fun i a h=>by simp at h⟩,fun a h=>by cases h⟩,⟨⟨[],fun h=>absurd h (by decide),⟨rfl,fun i a d h=>by simp at h⟩⟩,fun a h=>by cases h⟩,⟨fun h=>absurd h (by decide),fun a h=>by cases h⟩⟩
theorem adw {T:TypeId}{w W:World}(h:w.alloc (.cells zeroC T)=W):PBlk T w.heap.size (w.heap.size+1) zeroP W :=
 ⟨none,0,none,0,none,0,by rw[<-h];exact heap_alloc_new w _,rm _ _⟩
abbrev stP (u:World) (b:Nat) (p:Pk) (D C G:Option Addr) (dc cc gc:Nat):World :=
 (((((u.setCell ⟨b,0,none⟩ (.string ⟨p.name.toArray⟩)).setCell ⟨b,1,none⟩ (.string ⟨p.ver.toArray⟩)).setCell ⟨b,2,none⟩ (.slice D p.deps.length dc)).setCell ⟨b,3,none⟩ (.slice C p.confl.length cc)).setCell ⟨b,4,none⟩ (.slice G p.prov.length gc)).setCell ⟨b,5,none⟩ (.float .f64 p.wt)
theorem jY {u:World}{b:Nat}{T:TypeId}(h:u.heap[b]?=some (.cells zeroC T (0,0)))(p:Pk)(D C G:Option Addr)(dc cc gc:Nat):(stP u b p D C G dc cc gc).heap[b]?=some (.cells (pCells p D C G dc cc gc) T (0,0)):=by
 unfold stP
 exact (aX (aX (aX (aX (aX (aX h)))))).trans rfl
theorem gq (u:World)(b:Nat)(p:Pk)(D C G:Option Addr)(dc cc gc:Nat):But (some b) u (stP u b p D C G dc cc gc) :=
 bL (bL (bL (bL (bL (aP u ⟨b,0,none⟩ _) (aP _ ⟨b,1,none⟩ _)) (aP _ ⟨b,2,none⟩ _)) (aP _ ⟨b,3,none⟩ _)) (aP _ ⟨b,4,none⟩ _)) (aP _ ⟨b,5,none⟩ _)
theorem dE {T:TypeId}{b:Nat}{u:World}(h:u.heap[b]?=some (.cells zeroC T (0,0))):∀ j x,u.cell? ⟨b,j,none⟩=some x->NoB x:=eZ (p:=zeroP) (D:=none) (C:=none) (G:=none) (dc:=0) (cc:=0) (gc:=0) h
theorem iF {B:Nat}{w u:World}{b:Nat}(h:Below B w u)(hb:B<=b)(p:Pk)(D C G:Option Addr)(dc cc gc:Nat):Below B w (stP u b p D C G dc cc gc) :=
 (((((h.setCell (p:=⟨b,0,none⟩) hb _).setCell (p:=⟨b,1,none⟩) hb _).setCell (p:=⟨b,2,none⟩) hb _).setCell (p:=⟨b,3,none⟩) hb _).setCell (p:=⟨b,4,none⟩) hb _).setCell (p:=⟨b,5,none⟩) hb _
theorem aS {u:World}{b:Nat}{T:TypeId}{x0 x1 x2 x3 x4 x5:Value}(h:u.heap[b]?=some (.cells #[x0,x1,x2,x3,x4,x5] T (0,0))):u.cell? ⟨b,0,none⟩=some x0/\u.cell? ⟨b,1,none⟩=some x1/\u.cell? ⟨b,2,none⟩=some x2/\u.cell? ⟨b,3,none⟩=some x3/\u.cell? ⟨b,4,none⟩=some x4/\u.cell? ⟨b,5,none⟩=some x5:=by
 refine⟨?_,?_,?_,?_,?_,?_⟩ <;> simp[World.cell?,h]
theorem aC {u:World}{b:Nat}{T:TypeId}{cs:Array Value}(h:u.heap[b]?=some (.cells cs T (0,0)))(j:Nat):u.frozen? ⟨b,j,none⟩=false:=by
 simp[World.frozen?,h]
end Pg
def Pg.ReadRet (w:World) (R:Except (Int × Int) Pk) (e:Ending) (w':World):Prop:=Below w.heap.size w w'/\match R with
 | .ok p=>∃ D dc C cc G gc,e=.returned (.agg (pCells p D C G dc cc gc))/\PRows w.heap.size w' p D C G
 | .error x=>e=panAt x.1 x.2
theorem Pg.adx {u:World}{b:Nat}(h:u.heap[b]?=some (.cells zeroC 68 (0,0)))(p:Pk)(D C G:Option Addr)(dc cc gc:Nat){tmps:Array Value}(ht:tmps.getD 2 undef=.pointer (some ⟨b,0,none⟩)) :
  (results Tryz.f180 tmps).run Tryz.prog (stP u b p D C G dc cc gc)=.ok (.agg (pCells p D C G dc cc gc)) (stP u b p D C G dc cc gc):=by
 obtain⟨g0,g1,g2,g3,g4,g5⟩:=aS (jY h p D C G dc cc gc)
 have hr:Tryz.f180.results=#[.cell 2 68]:=Tryz.results180
 simp only[results,hr]
 generalize stP u b p D C G dc cc gc=V at *
 simp only[Array.getD_eq_getD_getElem?] at ht ⊢
 simp[go_sem,ht,g0,g1,g2,g3,g4,g5]
attribute [local go_sem ↓] Go.wp_at_zero Go.wp_at_succ
attribute [local go_sem] Pg.av
theorem wS (A:Option Addr)(n c:Nat)(l:List Sz.Fld)(w:World)(hk:KOk w)(hn:l.length=n)(hr:Rg.Row Sz.encF 3 w A l)(hl:n<=1000)(hs:Sz.Short l)(hv:∀ f∈l,ValFit f.key f.val) :
  Calls Tryz.prog 180 #[.slice A n c] w (Pg.ReadRet w (readP l)):=by
 obtain⟨R,hR⟩:=ex (readP l)
 rw[hR]
 unfold readP at hR
 obtain⟨W1,ao⟩:=ex (w.alloc (.cells zeroC 68))
 have aN:Hid (Below w.heap.size w W1):=ai ao
 have HZ:Hid (∀ u,Below W1.heap.size W1 u->u.heap[w.heap.size]?=some (.cells zeroC 68 (0,0))):=fun u hb=>(hb.block _ (by rw[<-ao];simp)).trans (by rw[<-ao];exact heap_alloc_new w _)
 obtain⟨b1,ar⟩:=ex W1.heap.size
 obtain⟨W2,aA⟩:=ex (W1.alloc (.cells #[.string ⟨#[80,97,99,107,97,103,101]⟩,.string ⟨#[86,101,114,115,105,111,110]⟩,.string ⟨#[68,101,112,101,110,100,115]⟩,.string ⟨#[67,111,110,102,108,105,99,116,115]⟩,.string ⟨#[80,114,111,118,105,100,101,115]⟩,.string ⟨#[87,101,105,103,104,116]⟩] 9))
 have ak:Hid (Below W1.heap.size W1 W2):=ai aA
 have aB:Hid (Below w.heap.size w W2):=bt aN.out ak.out
 have aD:Rg.Row encT 1 W2 (some ⟨b1,0,none⟩) keys6:=by rw[<-aA];exact Rg.lQ fitsT W1 9 keys6 _ rfl ar
 obtain⟨X,hX⟩:=ex (Sz.ordP keys6 0 (-1) l)
 rw[hX] at hR
 obtain⟨i0,e0⟩:=X
 dsimp only at hR
 have HO:=zh (Sz.adv (u:=W2) A n c l (some ⟨b1,0,none⟩) 6 6 keys6 hn (Rg.aj hr aB.out) (Nat.le_trans hl (by decide)) hs rfl aD (by decide) (Sz.abB (by decide +kernel)) hX)
 have HS:=zh hs
 have HV:=zh hv
 have HN:=zh hn
 have au:=zh hr
 have HL:=zh hl
 have HK:=zh hk
 have HR:=zh hR
 have aX:Hid (w.heap.size<b1):=by rw[<-ar,<-ao];show _<_;simp
 have aO:=zh ar
 clear hR hs hv hn hr hl hk hX aD
 go_enter Tryz.func180,Tryz.ntmps180
 go_wp2_with fail
 clear ao aA ar
 refine HO.out.mono ?_
 rintro _ u1 ⟨rfl,hb⟩
 have aF:Hid (Below W1.heap.size W1 u1):=bt ak.out hb
 have ab:Hid (Below w.heap.size w u1):=bt aB.out hb
 clear hb HO
 by_cases he:e0=0
 case neg =>
  have HF:Hid (R=.error (i0,e0)):=by show _=_;rw[<-HR.out,if_neg he]
  have d0:(e0==0)=false:=beq_eq_false_iff_ne.2 he
  clear he
  go_wp2_with fail
  refine (aE _).mono ?_
  rintro _ u2 ⟨rfl,rfl⟩
  go_wp2_with fail
  exact⟨rfl,ab.out,by rw[HF.out]⟩
 subst he
 have al:Hid ((if ((Sz.getF l kPkg).isSome&&(Sz.getF l kVer).isSome)=true then readR 0 zeroP l else .error (0,10))=R):=by show _=_;rw[<-HR.out];rfl
 have av:Hid (∀ u,Below w.heap.size w u->Calls Tryz.prog 209 #[.slice A n c,.string ⟨#[80,97,99,107,97,103,101]⟩] u fun e w'=>e=.returned (.bool (Sz.getF l kPkg).isSome)/\Below u.heap.size u w'):=fun u hb=>oH A n c l kPkg u HN.out (Rg.aj au.out hb) (Nat.le_trans HL.out (by decide)) HS.out
 have aw:Hid (∀ u,Below w.heap.size w u->Calls Tryz.prog 209 #[.slice A n c,.string ⟨#[86,101,114,115,105,111,110]⟩] u fun e w'=>e=.returned (.bool (Sz.getF l kVer).isSome)/\Below u.heap.size u w'):=fun u hb=>oH A n c l kVer u HN.out (Rg.aj au.out hb) (Nat.le_trans HL.out (by decide)) HS.out
 obtain⟨x,hx⟩:=ex ((Sz.getF l kPkg).isSome)
 obtain⟨y,hy⟩:=ex ((Sz.getF l kVer).isSome)
 rw[hx,hy] at al
 rw[hx] at av
 rw[hy] at aw
 clear hx hy HR
 go_wp2_with fail
 refine (aG _).mono ?_
 rintro _ u2 ⟨rfl,rfl⟩
 go_wp2_with fail
 refine (av.out _ ab.out).mono ?_
 rintro _ u2 ⟨rfl,hb⟩
 have aI:Hid (Below W1.heap.size W1 u2):=bt aF.out hb
 have ac:Hid (Below w.heap.size w u2):=bt ab.out hb
 clear hb av aF ab
 cases x
 ·have HF:Hid (R=.error (0,10)):=al.out.symm
  go_wp2_with fail
  refine (aE _).mono ?_
  rintro _ u3 ⟨rfl,rfl⟩
  go_wp2_with fail
  exact⟨rfl,ac.out,by rw[HF.out]⟩
 go_wp2_with fail
 refine (aw.out _ ac.out).mono ?_
 rintro _ u3 ⟨rfl,hb⟩
 have ap:Hid (Below W1.heap.size W1 u3):=bt aI.out hb
 have aa:Hid (Below w.heap.size w u3):=bt ac.out hb
 clear hb aw aI ac
 cases y
 ·have HF:Hid (R=.error (0,10)):=al.out.symm
  go_wp2_with fail
  refine (aE _).mono ?_
  rintro _ u3 ⟨rfl,rfl⟩
  go_wp2_with fail
  exact⟨rfl,aa.out,by rw[HF.out]⟩
 have aP:Hid (readR 0 zeroP l=R):=al.out
 clear al
 go_wp2_with fail
 refine (aG _).mono ?_
 rintro _ u4 ⟨rfl,rfl⟩
 obtain⟨b,hb⟩:=ex u3.heap.size
 obtain⟨U,hU⟩:=ex (u3.alloc (.cells zeroC 68))
 have aQ:Hid (PBlk 68 b (b+1) zeroP U):=by rw[<-hb];exact adw hU
 have ax:Hid (Below W1.heap.size W1 U/\Below w.heap.size w U):=⟨ap.out.trans ((ai hU).mono ap.out.size),aa.out.trans ((ai hU).mono aa.out.size)⟩
 have af:Hid (W1.heap.size<=b/\w.heap.size<=b/\U.heap.size=b+1):=⟨by rw[<-hb];exact ap.out.size,by rw[<-hb];exact aa.out.size,by rw[<-hU,<-hb];simp⟩
 clear ap aa
 go_wp2_with fail
 clear hU hb
 go_loopw [28] (fun i wr=>∃ (k:Nat) (p:Pk),k<=n/\i=.int .i64 k/\Hid (PBlk 68 b (b+1) p wr)/\Hid (Below b U wr/\b+1<=wr.heap.size)/\Hid (readR k p (l.drop k)=R)) (fun i _=>n-(intOf i).toNat)
 case atStart=>exact⟨0,zeroP,Nat.zero_le _,rfl,aQ,⟨Below.refl _ _,Nat.le_of_eq af.out.2.2.symm⟩,by show readR _ _ (l.drop 0)=R;rw[List.drop_zero,aP.out]⟩
 case round =>
  obtain⟨k,p,hk,rfl,HP,ag,HE⟩:=hrel
  have ay:Hid (Below w.heap.size w wr):=ax.out.2.trans (ag.out.1.mono af.out.2.1)
  have aY:=HL.out
  by_cases aJ:k<n
  ·have aK:=zh aJ
   have az:k<l.length:=by rw[HN.out];exact aJ
   obtain⟨ad,rfl,_,q0,q1,q2⟩:=Sz.d8 (Rg.aj au.out ay.out) k az
   have am:=HV.out _ (List.getElem_mem az)
   have he:=HE.out
   rw[List.drop_eq_getElem_cons az] at he
   obtain⟨f,hf⟩:=ex (l[k])
   rw[hf] at am he q0 q1 q2
   obtain⟨fk,fv,fl⟩:=f
   dsimp only at am q0 q1 q2
   obtain⟨V,hV⟩:=ex (wr.alloc (.cells #[.string ⟨fk.toArray⟩,.string ⟨fv.toArray⟩,.int .i64 fl] 168))
   have aq:Hid (Below wr.heap.size wr V):=ai hV
   have aL:=zh (cD HP.out aq.out)
   have an:Hid (Below b U V/\b+1<=V.heap.size):=⟨ag.out.1.trans (aq.out.mono (Nat.le_trans (Nat.le_succ _) ag.out.2)),Nat.le_trans ag.out.2 aq.out.size⟩
   obtain⟨v0,v1,v2,_⟩:=Sz.aby (Sz.ae5 hV)
   have HT:=zh (wQ b (b+1) fk fv k p V (aH HK.out (bt ay.out aq.out)) aL.out (Nat.lt_succ_self b) an.out.2 am)
   obtain⟨E,hE⟩:=ex (takeR p fk fv)
   rw[hE] at HT
   cases E with
   | error e =>
    have HF:Hid (R=.error ((k:Int),e)):=by show _=_;rw[<-he];exact fj hE
    clear he hf am hE
    go_wp2_with fail
    refine HT.out.mono ?_
    rintro r u5 ⟨ah,rfl⟩
    have aR:Hid (Below w.heap.size w u5):=ax.out.2.trans ((an.out.1.trans ah).mono af.out.2.1)
    clear ah
    go_wp2_with fail
    exact⟨rfl,aR.out,by rw[HF.out]⟩
   | ok q =>
    have aT:Hid (readR (k+1) q (l.drop (k+1))=R):=by show _=_;rw[<-he];exact (jU (f:=⟨fk,fv,fl⟩) hE).symm
    clear he hf am hE
    go_wp2_with fail
    refine HT.out.mono ?_
    rintro r u5 ⟨ah,rfl,aM⟩
    have aU:=zh aM
    have aV:Hid (Below b U u5/\b+1<=u5.heap.size):=⟨an.out.1.trans ah,Nat.le_trans an.out.2 ah.size⟩
    clear ah aM HT HP aL ag an hV v0 v1 v2 q0 q1 q2
    go_wp2_with fail
    go_roundw
    case rel=>exact⟨k+1,q,(by have:=aK.out;omega),by go_num,aU,aV,aT⟩
    case measure=>have:=aK.out;simp[intOf];omega
  ·obtain rfl:k=n:=by omega
   have HF:Hid (R=.ok p):=by show _=_;rw[<-HE.out,List.drop_eq_nil_of_le (by rw[HN.out];exact Nat.le_refl _)];rfl
   obtain⟨D,dc,C,cc,G,gc,h1,h2⟩:=HP.out
   obtain⟨g0,g1,g2,g3,g4,g5⟩:=aS h1
   have aW:=zh h2
   have ae:Hid (wr.heap[w.heap.size]?=some (.cells zeroC 68 (0,0))):=HZ.out _ (ax.out.1.trans (ag.out.1.mono af.out.1))
   obtain⟨k0,k1,k2,k3,k4,k5⟩:=aS ae.out
   have z0:=aC ae.out 0
   have z1:=aC ae.out 1
   have z2:=aC ae.out 2
   have z3:=aC ae.out 3
   have z4:=aC ae.out 4
   have z5:=aC ae.out 5
   clear h1 h2
   go_wp2_with fail
   (try simp only[Exit.inBlock,Exit.then])
   refine bodyPost_ret (adx ae.out p D C G dc cc gc rfl) rfl ?_
   refine⟨iF ay.out (Nat.le_refl _) p D C G dc cc gc,?_⟩
   rw[HF.out]
   exact⟨D,dc,C,cc,G,gc,rfl,jX (bG aW.out (gq wr w.heap.size p D C G dc cc gc) (Nat.lt_succ_of_le af.out.2.1) (dE ae.out)) (Nat.le_succ_of_le af.out.2.1)⟩
end
end Go.Proofs.YtgnaiidgjmicaaaGreatDoor
