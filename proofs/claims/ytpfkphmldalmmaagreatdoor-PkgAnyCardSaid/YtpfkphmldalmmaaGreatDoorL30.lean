/- Part 30 of what the laws lean on. -/
import Derived.Test.YtpfkphmldalmmaaGreatDoorL29
set_option maxRecDepth 100000
set_option maxHeartbeats 3200000
namespace Go.Proofs.YtpfkphmldalmmaaGreatDoor
section
open Go.RowKit Go.Maps Sz
attribute [local go_sem ↓] Go.wp_at_zero Go.wp_at_succ
theorem rG (p q:Addr)(x y k n:Int)(w:World)(hc:∀ u,Below w.heap.size w u->u.cell? p=some (.int .i64 x))(hz:∀ u,Below w.heap.size w u->u.frozen? p=false)(hc2:∀ u,Below w.heap.size w u->(u.setCell p (.int .i64 k)).cell? q=some (.int .i64 y))(hz2:∀ u,Below w.heap.size w u->(u.setCell p (.int .i64 k)).frozen? q=false) :
  CallsD Tryz.prog 128 #[.pointer (some p),.pointer (some q)] (.panicking [{ v:=.iface 142 (.agg #[.int .i64 k,.int .i64 n]),recovered:=false }]) w fun e u' w' =>
   e=.returned (.tuple #[])/\u'=.panicking [{ v:=.iface 142 (.agg #[.int .i64 k,.int .i64 n]),recovered:=true }]/\∃ u,Below w.heap.size w u/\w'=(u.setCell p (.int .i64 k)).setCell q (.int .i64 n):=by
 refine callsD_of_wpS Tryz.func128 rfl fun c₀ cs hu=>?_
 apply wpS_region
 simp[wpOpsS,go_sem,recoverD,hu,Tryz.ntmps128]
 refine (eI k n _).mono ?_
 rintro e w' ⟨rfl,hb⟩
 simp[go_sem,hc _ hb,hz _ hb,hc2 _ hb,hz2 _ hb,bodyPostS,results,Tryz.results128]
 exact⟨w',hb,rfl⟩
theorem vU (p q:Addr)(x y:Int)(w:World)(hc:w.cell? p=some (.int .i64 x))(hz:w.frozen? p=false)(hc2:(w.setCell p (.int .i64 0)).cell? q=some (.int .i64 y))(hz2:(w.setCell p (.int .i64 0)).frozen? q=false) :
  CallsD Tryz.prog 128 #[.pointer (some p),.pointer (some q)] .returning w fun e u' w'=>e=.returned (.tuple #[])/\u'=.returning/\w'=(w.setCell p (.int .i64 0)).setCell q (.int .i64 0):=by
 refine callsD_of_wpS Tryz.func128 rfl fun c₀ cs hu=>?_
 apply wpS_region
 simp[wpOpsS,go_sem,recoverD,hu,Tryz.ntmps128]
 refine (ez _).mono ?_
 rintro e w' ⟨rfl,rfl⟩
 cases c₀
 simp_all [go_sem,bodyPostS,results,Tryz.results128]
theorem Sz.qR (ks:List (List UInt8)):∀ (l:List Fld) (i:Nat) (x:Int),(ordP ks i x l).2=0->(ordP ks i x l).1=0
 | [],i,x,_=>rfl
 | f :: l,i,x,h=>by
  rw[qQ] at h ⊢
  cases hp:placeOf ks f.key with
  | none=>rw[hp] at h;cases h
  | some p =>
   rw[hp] at h
   dsimp only at h ⊢
   by_cases hx:x<p
   ·rw[if_pos hx] at h ⊢;exact qR ks l _ _ h
   ·rw[if_neg hx] at h;cases h
def Sz.OrderRet (w:World) (X:Int × Int) (e:Ending) (w':World):Prop:=e=.returned (.tuple #[.int .i64 X.1,.int .i64 X.2])/\Below w.heap.size w w'
theorem oY (A:Option Addr)(n c:Nat)(l:List Fld)(B:Option Addr)(m d:Nat)(ks:List (List UInt8))(w:World)(hn:l.length=n)(hr:Rg.Row encF 3 w A l)(hl:n<=100000)(hs:Sz.Short l)(hm:ks.length=m)(hk:Rg.Row encT 1 w B ks)(hml:m<=100000)(hks:Sz.ShortT ks) :
  Calls Tryz.prog 86 #[.slice A n c,.slice B m d] w (Sz.OrderRet w (ordP ks 0 (-1) l)):=by
 have al:∀ (fn:Fn) (first cap:Array Value) (w:World),(Instr.makeFunc fn first cap).run Tryz.prog w=.ok (.func fn first cap) w:=fun _ _ _ _=>rfl
 obtain⟨W1,ab⟩:=ex (w.alloc (.cells #[.int .i64 0] 3))
 obtain⟨W2,af⟩:=ex (W1.alloc (.cells #[.int .i64 0] 36))
 have aa:Hid (∀ u,Below W2.heap.size W2 u->P2 w.heap.size u):=fun u hb=>yq ab af hb
 have am:W1.heap.size=w.heap.size+1:=by rw[<-ab];simp
 have ac:Hid (Below w.heap.size w W2):=(ai ab).trans ((ai af).mono (ai ab).size)
 have ad:=zh (np A n c l B m d ks W2 hn (Rg.ak hr ac.out) hl hs hm (Rg.ak hk ac.out) hml hks)
 obtain⟨X,hX⟩:=ex (ordP ks 0 (-1) l)
 rw[hX]
 have ag:Hid (X.2=0->X.1=0):=by rw[<-hX];exact qR ks l 0 (-1)
 rw[hX] at ad
 clear hX hn hr hl hs hm hk hml hks
 go_enter_defers Tryz.func86,Tryz.ntmps86
 go_wp2_with fail
 clear ab af
 refine ad.out.mono ?_
 rintro e z1 ⟨hb,hr⟩
 have HB:=zh hb
 clear hb ad
 obtain⟨n,k⟩:=X
 dsimp only at hr ag
 by_cases hk:k=0
 ·subst hk
  obtain rfl:=ag.out rfl
  obtain rfl:e=.returned (.tuple #[]):=by rw[if_pos rfl] at hr;exact hr
  obtain⟨c0,f0,c1,f1⟩:=bl (aa.out _ HB.out)
  obtain⟨d0,g0,d1,g1⟩:=bm (aa.out _ HB.out) (.int .i64 0)
  have ae:=zh (m9 (aa.out _ HB.out))
  have aj:Hid (Below w.heap.size w ((z1.setCell ⟨w.heap.size,0,none⟩ (.int .i64 0)).setCell ⟨w.heap.size+1,0,none⟩ (.int .i64 0))):=((bt ac.out HB.out).setCell (Nat.le_refl _) _).setCell (Nat.le_succ _) _
  clear hr
  go_wp2_with fail
  generalize (z1.setCell ⟨w.heap.size,0,none⟩ (.int .i64 0)).setCell ⟨w.heap.size+1,0,none⟩ (.int .i64 0)=V at *
  obtain⟨k0,m0,k1,m1⟩:=bl ae.out
  obtain⟨l0,o0,l1,o1⟩:=bm ae.out (.int .i64 0)
  obtain⟨q0,q1⟩:=eo ae.out (.int .i64 0) (.int .i64 0)
  refine leaves_cons (f:=128) (args:=#[.pointer (some ⟨w.heap.size,0,none⟩),.pointer (some ⟨w.heap.size+1,0,none⟩)]) (by simp) (by simp[go_sem]) ?_
  refine (vU ⟨w.heap.size,0,none⟩ ⟨w.heap.size+1,0,none⟩ 0 0 _ k0 m0 l1 o1).mono ?_
  rintro e u' w3 ⟨rfl,rfl,rfl⟩
  simp[Leaves,settle,results,Tryz.results86,go_sem,q0,q1]
  exact⟨rfl,(aj.out.setCell (Nat.le_refl _) _).setCell (Nat.le_succ _) _⟩
 ·obtain rfl:e=panAt n k:=by rw[if_neg hk] at hr;exact hr
  clear hr hk
  go_wp2_with fail
  refine leaves_cons (f:=128) (args:=#[.pointer (some ⟨w.heap.size,0,none⟩),.pointer (some ⟨w.heap.size+1,0,none⟩)]) (by simp) (by simp[go_sem]) ?_
  refine (rG ⟨w.heap.size,0,none⟩ ⟨w.heap.size+1,0,none⟩ 0 0 n k _ (fun u hb=>(bl (aa.out _ (bt HB.out hb))).1) (fun u hb=>(bl (aa.out _ (bt HB.out hb))).2.1) (fun u hb=>(bm (aa.out _ (bt HB.out hb)) _).2.2.1) (fun u hb=>(bm (aa.out _ (bt HB.out hb)) _).2.2.2)).mono ?_
  rintro e u' w3 ⟨rfl,rfl,u,hb,rfl⟩
  have ah:=zh (bt HB.out hb)
  obtain⟨q0,q1⟩:=eo (aa.out _ ah.out) (.int .i64 n) (.int .i64 k)
  simp[Leaves,settle,results,Tryz.results86,go_sem,q0,q1]
  exact⟨rfl,((bt ac.out ah.out).setCell (Nat.le_refl _) _).setCell (Nat.le_succ _) _⟩
theorem Sz.qS {w u:World}{B:Nat}(h:Below B w u)(n:Nat):Below B w (u.drewN n):=below_drewN h n
end
section
open Go.RowKit Rs Sz
attribute [local go_sem ↓] Go.wp_at_zero Go.wp_at_succ
theorem Sz.ju {α:Type}{enc:α->List Value}{K:Nat}{T:TypeId}{v:Value}{l:List α}{w wr wq W5:World}{o:Obj}(hB:Hid (Below w.heap.size w wr/\w.heap.size<=wr.heap.size))(hq:Below wr.heap.size wr wq)(hO:Hid (Rg.Own enc K wr w.heap.size T v l))(hg:(wq.alloc o).grownBy W5 v.ownBlock) :
  Hid (Below w.heap.size w W5/\w.heap.size<=W5.heap.size):=by
 have hs:w.heap.size<=wq.heap.size:=Nat.le_trans hB.out.2 hq.size
 have h1:Below w.heap.size w (wq.alloc o):=(hB.out.1.trans (hq.mono hB.out.2)).alloc hs _
 have e:(wq.alloc o).heap.size=wq.heap.size+1:=by simp
 have h2:w.heap.size<=(wq.alloc o).heap.size:=by omega
 exact⟨h1.trans (Rg.aw (Rg.own_below hO.out (hq.alloc hq.size _)) h2 hg),Nat.le_trans h2 hg.size⟩
end
section
open Go.RowKit Go.Maps Sz
attribute [local go_sem ↓] Go.wp_at_zero Go.wp_at_succ
theorem Sz.sliceRF:Rg.SliceT Tryz.prog encF 3 47 95:=⟨fitsF,by decide,by kernel_rfl,Rg.bE (z:=.agg #[.string ByteArray.empty,.string ByteArray.empty,.int .i64 0]) (b:=40) (by kernel_rfl) (by rfl) (by decide)⟩
variable {TO TF:TypeId}
def Sz.Tri (b:Nat) (k v:List UInt8) (n:Int) (T:TypeId) (u:World):Prop:=u.heap[b]?=some (.cells #[.string ⟨k.toArray⟩,.string ⟨v.toArray⟩,.int .i64 n] T (0,0))
theorem Sz.adU {w W1:World}{k v:List UInt8}{n:Int}{T:TypeId}(h:w.alloc (.cells #[.string ⟨k.toArray⟩,.string ⟨v.toArray⟩,.int .i64 n] T)=W1):Tri w.heap.size k v n T W1:=by
 subst h;exact heap_alloc_new w _
theorem Sz.aaB {b:Nat}{k v:List UInt8}{n:Int}{T:TypeId}{u:World}(h:Tri b k v n T u):u.cell? ⟨b,0,none⟩=some (.string ⟨k.toArray⟩)/\u.cell? ⟨b,1,none⟩=some (.string ⟨v.toArray⟩)/\u.cell? ⟨b,2,none⟩=some (.int .i64 n)/\u.frozen? ⟨b,0,none⟩=false/\u.frozen? ⟨b,1,none⟩=false/\u.frozen? ⟨b,2,none⟩=false:=by
 unfold Tri at h
 refine⟨?_,?_,?_,?_,?_,?_⟩ <;> simp[World.cell?,World.frozen?,h]
end
end Go.Proofs.YtpfkphmldalmmaaGreatDoor
namespace Go.Proofs
open Go.Shelf
def Tryz.mD:Go.Shelf.Ren:=⟨fun | 166=>55 | 240=>99 | 276=>149 | n=>n,fun | 0=>0 | 3=>3 | 4=>4 | 5=>5 | 9=>9 | 20=>20 | 37=>101 | 70=>100 | 72=>103 | 75=>105 | 80=>90 | 164=>209 | n=>n,fun | n=>n⟩
theorem Tryz.lays166:Go.Proofs.Lays.n166 Tryz.prog Tryz.mD:=YtpfkphmldalmmaaGreatDoor.zl
theorem Tryz.mf:Builder.Extra Tryz.prog Tryz.mD where
 sizeBuilder:=by kernel_rfl
 liesBuilder:=by kernel_rfl
 t5:=Tryz.underlying5
 a5:=Tryz.isAgg5
 z5:=Tryz.sizeOf5
 v5:=Tryz.zeroValue5
 infoByte:=by kernel_rfl
 cellsByte:=by kernel_rfl
 sizeByte:=by kernel_rfl
 neB5:=by decide
open Go.RowKit in
theorem Tryz.Builder_WriteString_kc (B b:Nat)(bs:List Value)(s:ByteArray)(w:World)(h:Lib.IsBuilderF 103 5 B b bs w)(hlen:bs.length+s.size<=140737488355328)(hBw:B<=w.heap.size) :
  Calls Tryz.prog 55 #[.pointer (some ⟨b,0,none⟩),.string s] w fun e w'=>e=.returned (.tuple #[.int .i64 s.size,.nilIface])/\(Lib.BuilderAtF 103 5 B b (.pointer (some ⟨b,0,none⟩)) (bs++Lib.strCells s) w'/\Below B w w'/\Lib.OthersKept 5 (some b) w w')/\∀ v0,w.cell? ⟨b,1,none⟩=some v0->∃ v1,w'.cell? ⟨b,1,none⟩=some v1/\v0.capOf<=v1.capOf:=Any.Builder_WriteString_kc Tryz.lays166 Tryz.mf B b bs s w h hlen hBw
end Go.Proofs
namespace Go.Proofs.YtpfkphmldalmmaaGreatDoor
section
open Go.RowKit Sz
def Sz.Bld (w:World) (t:List UInt8) (u:World):Prop:=Lib.IsBuilderF 103 5 w.heap.size w.heap.size (Lib.byteCells t) u/\Below w.heap.size w u
theorem Sz.adV {w W1:World}(h:w.alloc (.cells #[.pointer none,.slice none 0 0] 103)=W1):Bld w [] W1:=by
 subst h
 exact⟨Lib.IsBuilderF.of (Lib.fresh_isBuilder _ _ w),(Below.refl _ _).alloc (Nat.le_refl _) _⟩
theorem Sz.rH (t s:List UInt8):Lib.byteCells t++Lib.strCells ⟨s.toArray⟩=Lib.byteCells (t++s):=by
 unfold Lib.byteCells Lib.strCells
 simp
theorem Sz.aaC {u u':World}{B b:Nat}{p:Value}{bs:List Value}(h:Lib.BuilderAtF 103 5 B b p bs u)(hb:Below u.heap.size u u'):Lib.BuilderAtF 103 5 B b p bs u':=by
 have ab:=h.lt
 obtain⟨hB,v,hk,aa,ac⟩:=h
 refine⟨hB,v,(hb.block _ ab).trans hk,aa.kept (row:=none) ⟨hb.os,hb.tape,hb.output,hb.size,fun k hk _=>hb.block k hk⟩ ?_,ac⟩
 cases v.ownBlock with
 | none=>exact Or.inl rfl
 | some x=>exact Or.inr (by simp)
theorem Sz.qT {w u u':World}{t:List UInt8}(h:Bld w t u)(hb:Below u.heap.size u u'):Bld w t u' :=
 ⟨h.1.elim (fun x=>.inl (aaC x hb)) (fun x=>.inr (aaC x hb)),h.2.trans (hb.mono h.2.size)⟩
theorem Sz.aaD {w u:World}{t:List UInt8}(h:Bld w t u):w.heap.size<u.heap.size:=h.1.elim (fun x=>x.lt) (fun x=>x.lt)
theorem Sz.cu {w u:World}{t:List UInt8}(h:Bld w t u)(s:List UInt8)(hl:t.length+s.length<=10000000) :
  Calls Tryz.prog 55 #[.pointer (some ⟨w.heap.size,0,none⟩),.string ⟨s.toArray⟩] u fun e u'=>e=.returned (.tuple #[.int .i64 s.length,.nilIface])/\Bld w (t++s) u'/\Lib.OthersKept 5 (some w.heap.size) u u':=by
 refine (Tryz.Builder_WriteString_kc w.heap.size w.heap.size (Lib.byteCells t) ⟨s.toArray⟩ u h.1 (by
  have:(Lib.byteCells t).length=t.length:=by unfold Lib.byteCells;simp
  rw[this];show t.length+s.toArray.size<=_;rw[List.size_toArray];omega) h.2.size).mono ?_
 rintro e u' ⟨rfl,⟨hb,hB,hk⟩,_⟩
 refine⟨by show _=Ending.returned (.tuple #[.int .i64 s.toArray.size,.nilIface]);rfl,⟨?_,h.2.trans hB⟩,hk⟩
 rw[<-rH]
 exact .inr hb
theorem Sz.yy {w u:World}{t:List UInt8}(h:Bld w t u) :
  Calls Tryz.prog 56 #[.pointer (some ⟨w.heap.size,0,none⟩)] u fun e u'=>e=.returned (.string ⟨t.toArray⟩)/\Bld w t u':=by
 refine (Tryz.Builder_String_any_k w.heap.size w.heap.size t u h.1 h.2.size).mono ?_
 rintro e u' ⟨rfl,hb,hB,_⟩
 exact⟨rfl,hb,h.2.trans hB⟩
end
section
open Go.RowKit Go.Maps Sz
attribute [local go_sem ↓] Go.wp_at_zero Go.wp_at_succ
def Sz.FBk (b:Nat) (k v:List UInt8) (n:Int) (u:World):Prop:=u.heap[b]?=some (.cells #[.string ⟨k.toArray⟩,.string ⟨v.toArray⟩,.int .i64 n] 56 (0,0))
theorem Sz.xh {w W1:World}{k v:List UInt8}{n:Int}(h:w.alloc (.cells #[.string ⟨k.toArray⟩,.string ⟨v.toArray⟩,.int .i64 n] 56)=W1):FBk w.heap.size k v n W1:=by
 subst h;exact heap_alloc_new w _
theorem Sz.cK {b:Nat}{k v:List UInt8}{n:Int}{u:World}(h:FBk b k v n u):u.cell? ⟨b,0,none⟩=some (.string ⟨k.toArray⟩)/\u.cell? ⟨b,1,none⟩=some (.string ⟨v.toArray⟩)/\u.cell? ⟨b,2,none⟩=some (.int .i64 n):=by
 unfold FBk at h
 refine⟨?_,?_,?_⟩ <;> simp[World.cell?,h]
theorem Sz.eW {b c:Nat}{k v:List UInt8}{n:Int}{u u':World}(h:FBk b k v n u)(hk:Lib.OthersKept 5 (some c) u u')(hne:c<b):FBk b k v n u' :=
 hk b _ h (by simp;omega) (fun cs fz e=>by
  have:=(Obj.cells.inj e).2.1
  exact absurd this (by decide))
theorem Sz.lA (l:List Fld)(i:Nat)(hi:i<l.length):stanzaT (l.take (i+1))=stanzaT (l.take i)++fieldT l[i]:=by
 rw[List.take_succ_eq_append_getElem hi,k6]
theorem Sz.oZ (l:List Fld)(i:Nat):(stanzaT (l.take i)).length<=(stanzaT l).length:=by
 have h:stanzaT l=stanzaT (l.take i)++stanzaT (l.drop i):=by
  unfold stanzaT;rw[<-List.flatMap_append,List.take_append_drop]
 rw[h,List.length_append];omega
theorem Sz.yz (t:List (List Fld))(k:Nat)(hk:k<t.length):textS (t.take (k+1))=textS (t.take k)++(if k=0 then [] else [10])++stanzaT t[k]:=by
 rw[List.take_succ_eq_append_getElem hk,dA]
 by_cases h:k=0
 ·subst h;rw[if_pos rfl];rfl
 ·rw[if_neg h,if_neg]
  simp;exact⟨h,fun e=>by subst e;simp at hk⟩
theorem Sz.lB (a:List (List Fld)):∀ n (b:List (List Fld)),b.length=n->(textS a).length<=(textS (a++b)).length
 | 0,b,h=>by rw[List.length_eq_zero_iff.1 h,List.append_nil];exact Nat.le_refl _
 | n+1,b,h=>by
  rcases List.eq_nil_or_concat b with rfl | ⟨c,x,rfl⟩
  ·simp at h
  ·rw[List.concat_eq_append] at h ⊢
   have hc:c.length=n:=by simp at h;exact h
   have ih:=lB a n c hc
   rw[<-List.append_assoc,dA,List.length_append]
   split
   ·rename_i he
    have:a++c=[]:=by simpa using he
    rw[this] at ih
    have h0:(textS ([]:List (List Fld))).length=0:=rfl
    omega
   ·rw[List.length_append];omega
theorem Sz.acw (t:List (List Fld))(k:Nat):(textS (t.take k)).length<=(textS t).length:=by
 have:=lB (t.take k) _ (t.drop k) rfl
 rwa [List.take_append_drop] at this
theorem Sz.adW {w:World}{A:Option Addr}{t:List (List Fld)}(h:Gr.Row encF 3 w A t)(k:Nat)(hk:k<t.length):∃ ad C n c,A=some ad/\t[k].length=n/\Rg.Row encF 3 w C t[k]/\∀ u,Below w.heap.size w u->u.cell? (ad.add k)=some (.slice C n c):=by
 obtain⟨ds,h1,h2,h3⟩:=h
 have aa:k<ds.length:=by omega
 obtain⟨ad,e,_,_⟩:=h1 (by omega)
 obtain⟨q1,q2⟩:=h3 k ds[k] t[k] (List.getElem?_eq_getElem aa) (List.getElem?_eq_getElem hk)
 refine⟨ad,ds[k].1,ds[k].2.1,ds[k].2.2,e,q1.symm,q2,fun u hb=>?_⟩
 obtain⟨ab,x,e',hx,_,hc⟩:=Rg.cW (Rg.ak h1 hb) k aa
 rw[e] at e';cases e'
 have:=hc 0 _ rfl
 rw[if_pos rfl,Nat.mul_one] at this
 rw[hx];exact this
theorem o5 (A:Option Addr)(n c:Nat)(t:List (List Fld))(w:World)(hn:t.length=n)(hr:Gr.Row encF 3 w A t)(hl:n<=1000000)(hls:∀ l∈t,l.length<=1000000)(ht:(textS t).length<=1000000) :
  Calls Tryz.prog 19 #[.slice A n c] w fun e w'=>e=.returned (.string ⟨(textS t).toArray⟩)/\Below w.heap.size w w':=by
 obtain⟨R,hR⟩:=ex (textS t)
 rw[hR] at ht
 rw[hR]
 have aP:=zh hR
 obtain⟨W1,aL⟩:=ex (w.alloc (.cells #[.pointer none,.slice none 0 0] 103))
 have aQ:Hid (Bld w [] W1):=adV aL
 have HR:=zh hr
 have HN:=zh hn
 have HL:=zh hls
 have HT:=zh ht
 have aR:Hid (∀ k,(textS (t.take k)).length<=R.length):=fun k=>by rw[<-hR];exact acw t k
 clear hr hn hls ht hR
 go_enter Tryz.func19,Tryz.ntmps19
 go_wp2_with fail
 clear aL
 go_loopw [10] (fun i wr=>∃ k:Nat,k<=n/\i=.int .i64 k/\Hid (Bld w (textS (t.take k)) wr)) (fun i _=>n-(intOf i).toNat)
 case atStart=>exact⟨0,Nat.zero_le _,rfl,aQ.out⟩
 case round =>
  obtain⟨k,hk,rfl,HW⟩:=hrel
  by_cases aS:k<n
  ·have az:k<t.length:=by rw[HN.out];exact aS
   obtain⟨ad,C,m,d,rfl,hm,an,af⟩:=adW HR.out k az
   have hc:=af _ HW.out.2
   have ag:=yz t k az
   have hle:=aR.out (k+1)
   have aA:=HL.out _ (List.getElem_mem az)
   obtain⟨l,aM⟩:=ex (t[k])
   rw[aM] at hm an ag aA
   rw[ag,List.length_append,List.length_append] at hle
   obtain⟨T1,aN⟩:=ex (textS (t.take k))
   rw[aN] at ag hle HW
   have ap:=zh an
   have HM:=zh hm
   have aV:m<=1000000:=by rw[<-hm];exact aA
   clear af aM hm an aA aN
   by_cases ao:k=0
   ·have d0:decide (0<k)=false:=decide_eq_false (by omega)
    have aB:Hid (Bld w T1 wr):=HW.out
    have ax:Hid (textS (t.take (k+1))=T1++stanzaT l):=by show _=_;rw[ag,if_pos ao,List.append_nil]
    have aC:Hid (T1.length+(stanzaT l).length<=R.length):=by show _<=_;rw[if_pos ao] at hle;have h0:([]:List UInt8).length=0:=rfl;omega
    clear ag hle ao
    go_wp2_with fail
    go_loopw [20] (fun j wr=>∃ i:Nat,i<=m/\j=.int .i64 i/\Hid (Bld w (T1++stanzaT (l.take i)) wr)) (fun j _=>m-(intOf j).toNat)
    case atStart=>exact⟨0,Nat.zero_le _,rfl,by show Bld w (T1++[]) _;rw[List.append_nil];exact aB.out⟩
    case round =>
     obtain⟨i,hi,rfl,HI⟩:=hrel
     by_cases ah:i<m
     ·have aq:i<l.length:=by rw[HM.out];exact ah
      obtain⟨ae,rfl,_,c0,c1,c2⟩:=cV (Rg.ak ap.out HI.out.2) i aq
      have ab:=lA l i aq
      have aj:=oZ l (i+1)
      obtain⟨f,hf⟩:=ex (l[i])
      rw[hf] at c0 c1 c2 ab
      obtain⟨fk,fv,fl⟩:=f
      have al:fieldT ⟨fk,fv,fl⟩=fk++[58,32]++fv++[10]:=rfl
      rw[ab,al] at aj
      have ar:Hid (T1++stanzaT (l.take (i+1))=T1++stanzaT (l.take i)++fk++[58,32]++fv++[10]):=by show _=_;rw[ab,al];simp only[List.append_assoc]
      obtain⟨S,hS⟩:=ex (T1++stanzaT (l.take i))
      rw[hS] at ar HI
      have ac:Hid (S.length+fk.length+2+fv.length+1<=1000000):=by
       have h1:=aC.out;have h2:=HT.out
       show _<=_
       rw[<-hS];simp only[List.length_append,List.length_cons,List.length_nil] at aj ⊢;omega
      dsimp only at c0 c1 c2
      obtain⟨V,hV⟩:=ex (wr.alloc (.cells #[.string ⟨fk.toArray⟩,.string ⟨fv.toArray⟩,.int .i64 fl] 56))
      have au:Hid (FBk wr.heap.size fk fv fl V):=xh hV
      have aD:Hid (Bld w S V):=qT HI.out (ai hV)
      have am:Hid (w.heap.size<wr.heap.size):=aaD HI.out
      obtain⟨v0,v1,v2⟩:=cK au.out
      have x1:=zh (cu aD.out fk (by have:=ac.out;omega))
      clear ab aj hf al hS
      go_wp2_with fail
      clear hV v0 v1 v2
      refine x1.out.mono ?_
      rintro _ y1 ⟨rfl,hb,aa⟩
      have aE:=zh hb
      have av:=zh (eW au.out aa am.out)
      obtain⟨v0,v1,v2⟩:=cK av.out
      clear hb aa
      clear x1
      go_wp2_with fail
      clear v0 v1 v2
      refine (cu aE.out [58,32] (by have:=ac.out;simp only[List.length_append,List.length_cons,List.length_nil];omega)).mono ?_
      rintro _ y2 ⟨rfl,hb,aa⟩
      have aF:=zh hb
      have aw:=zh (eW av.out aa am.out)
      obtain⟨v0,v1,v2⟩:=cK aw.out
      clear hb aa
      go_wp2_with fail
      clear v0 v1 v2
      refine (cu aF.out fv (by have:=ac.out;simp only[List.length_append,List.length_cons,List.length_nil];omega)).mono ?_
      rintro _ y3 ⟨rfl,hb,aa⟩
      have aG:=zh hb
      have aH:=zh (eW aw.out aa am.out)
      obtain⟨v0,v1,v2⟩:=cK aH.out
      clear hb aa
      go_wp2_with fail
      clear v0 v1 v2
      refine (cu aG.out [10] (by have:=ac.out;simp only[List.length_append,List.length_cons,List.length_nil];omega)).mono ?_
      rintro _ y4 ⟨rfl,hb,aa⟩
      have aI:=zh hb
      clear hb aa
      go_wp2_with fail
      go_roundw
      case rel=>exact⟨i+1,by omega,by go_num,by show Bld w _ _;rw[ar.out];exact aI.out⟩
      case measure=>simp[intOf];omega
     ·obtain rfl:i=m:=by omega
      have HE:Hid (Bld w (textS (t.take (k+1))) wr):=by
       have h:=HI.out
       rw[List.take_of_length_le (by rw[HM.out];exact Nat.le_refl _),<-ax.out] at h
       exact h
      go_wp2_with fail
      go_roundw
      case rel=>exact⟨k+1,by omega,by go_num,HE⟩
      case measure=>simp[intOf];omega
   ·have d0:decide (0<k)=true:=decide_eq_true (by omega)
    have ax:Hid (textS (t.take (k+1))=(T1++[10])++stanzaT l):=by show _=_;rw[ag,if_neg ao]
    have ay:(T1++[10]).length+(stanzaT l).length<=R.length:=by rw[if_neg ao] at hle;rw[List.length_append];exact hle
    have aK:T1.length+([10]:List UInt8).length<=10000000:=by have:=HT.out;rw[List.length_append] at ay;omega
    have aT:=zh aK
    obtain⟨T2,aJ⟩:=ex (T1++[10])
    rw[aJ] at ax ay
    have aC:Hid (T2.length+(stanzaT l).length<=R.length):=ay
    clear ag hle ao ay aK
    go_wp2_with fail
    refine (cu HW.out [10] aT.out).mono ?_
    rintro _ u1 ⟨rfl,hb,_⟩
    rw[aJ] at hb
    have aB:=zh hb
    clear hb aJ
    go_wp2_with fail
    go_loopw [20] (fun j wr=>∃ i:Nat,i<=m/\j=.int .i64 i/\Hid (Bld w (T2++stanzaT (l.take i)) wr)) (fun j _=>m-(intOf j).toNat)
    case atStart=>exact⟨0,Nat.zero_le _,rfl,by show Bld w (T2++[]) _;rw[List.append_nil];exact aB.out⟩
    case round =>
     obtain⟨i,hi,rfl,HI⟩:=hrel
     by_cases ah:i<m
     ·have aq:i<l.length:=by rw[HM.out];exact ah
      obtain⟨ae,rfl,_,c0,c1,c2⟩:=cV (Rg.ak ap.out HI.out.2) i aq
      have ab:=lA l i aq
      have aj:=oZ l (i+1)
      obtain⟨f,hf⟩:=ex (l[i])
      rw[hf] at c0 c1 c2 ab
      obtain⟨fk,fv,fl⟩:=f
      have al:fieldT ⟨fk,fv,fl⟩=fk++[58,32]++fv++[10]:=rfl
      rw[ab,al] at aj
      have ar:Hid (T2++stanzaT (l.take (i+1))=T2++stanzaT (l.take i)++fk++[58,32]++fv++[10]):=by show _=_;rw[ab,al];simp only[List.append_assoc]
      obtain⟨S,hS⟩:=ex (T2++stanzaT (l.take i))
      rw[hS] at ar HI
      have ac:Hid (S.length+fk.length+2+fv.length+1<=1000000):=by
       have h1:=aC.out;have h2:=HT.out
       show _<=_
       rw[<-hS];simp only[List.length_append,List.length_cons,List.length_nil] at aj ⊢;omega
      dsimp only at c0 c1 c2
      obtain⟨V,hV⟩:=ex (wr.alloc (.cells #[.string ⟨fk.toArray⟩,.string ⟨fv.toArray⟩,.int .i64 fl] 56))
      have au:Hid (FBk wr.heap.size fk fv fl V):=xh hV
      have aD:Hid (Bld w S V):=qT HI.out (ai hV)
      have am:Hid (w.heap.size<wr.heap.size):=aaD HI.out
      obtain⟨v0,v1,v2⟩:=cK au.out
      have x1:=zh (cu aD.out fk (by have:=ac.out;omega))
      clear ab aj hf al hS
      go_wp2_with fail
      clear hV v0 v1 v2
      refine x1.out.mono ?_
      rintro _ y1 ⟨rfl,hb,aa⟩
      have aE:=zh hb
      have av:=zh (eW au.out aa am.out)
      obtain⟨v0,v1,v2⟩:=cK av.out
      clear hb aa
      clear x1
      go_wp2_with fail
      clear v0 v1 v2
      refine (cu aE.out [58,32] (by have:=ac.out;simp only[List.length_append,List.length_cons,List.length_nil];omega)).mono ?_
      rintro _ y2 ⟨rfl,hb,aa⟩
      have aF:=zh hb
      have aw:=zh (eW av.out aa am.out)
      obtain⟨v0,v1,v2⟩:=cK aw.out
      clear hb aa
      go_wp2_with fail
      clear v0 v1 v2
      refine (cu aF.out fv (by have:=ac.out;simp only[List.length_append,List.length_cons,List.length_nil];omega)).mono ?_
      rintro _ y3 ⟨rfl,hb,aa⟩
      have aG:=zh hb
      have aH:=zh (eW aw.out aa am.out)
      obtain⟨v0,v1,v2⟩:=cK aH.out
      clear hb aa
      go_wp2_with fail
      clear v0 v1 v2
      refine (cu aG.out [10] (by have:=ac.out;simp only[List.length_append,List.length_cons,List.length_nil];omega)).mono ?_
      rintro _ y4 ⟨rfl,hb,aa⟩
      have aI:=zh hb
      clear hb aa
      go_wp2_with fail
      go_roundw
      case rel=>exact⟨i+1,by omega,by go_num,by show Bld w _ _;rw[ar.out];exact aI.out⟩
      case measure=>simp[intOf];omega
     ·obtain rfl:i=m:=by omega
      have HE:Hid (Bld w (textS (t.take (k+1))) wr):=by
       have h:=HI.out
       rw[List.take_of_length_le (by rw[HM.out];exact Nat.le_refl _),<-ax.out] at h
       exact h
      go_wp2_with fail
      go_roundw
      case rel=>exact⟨k+1,by omega,by go_num,HE⟩
      case measure=>simp[intOf];omega
  ·obtain rfl:k=n:=by omega
   have HE:Hid (Bld w R wr):=by
    have h:=HW.out
    rw[List.take_of_length_le (by rw[HN.out];exact Nat.le_refl _),aP.out] at h
    exact h
   go_wp2_with fail
   refine (yy HE.out).mono ?_
   rintro _ u2 ⟨rfl,aO⟩
   have aU:=zh aO
   clear aO
   go_wp2_with fail
   go_ret
   exact⟨rfl,aU.out.2⟩
theorem Sz.aeG {w:World}{A:Option Addr}{l:List Fld}(h:Rg.Row encF 3 w A l){k:Nat}(hk:k<l.length){ad:Addr}{f:Fld}(hA:A=some ad)(hf:l[k]=f){u:World}(hb:Below w.heap.size w u) :
  u.cell? (ad.add (k*3))=some (.string ⟨f.key.toArray⟩)/\u.cell? ⟨(ad.add (k*3)).block,(ad.add (k*3)).off+1,none⟩=some (.string ⟨f.val.toArray⟩)/\u.cell? ⟨(ad.add (k*3)).block,(ad.add (k*3)).off+2,none⟩=some (.int .i64 f.line):=by
 obtain⟨aa,e,_,h1,h2,h3⟩:=cV (Rg.ak h hb) k hk
 rw[hA] at e;cases e
 rw[hf] at h1 h2 h3
 exact⟨h1,h2,h3⟩
def Sz.FldT (T:TypeId):Prop := (Tryz.prog.fieldsOf T).toList.map (fun f => (f.name == "_", f.type, f.offset))=[(false, 9, 0), (false, 9, 1), (false, 3, 2)]/\Tryz.prog.underlying T=some (.struct (Tryz.prog.fieldsOf T))/\Tryz.prog.stoodInHeld T=false/\Tryz.prog.eqGuardType Tryz.prog.depth T=false
theorem Sz.fldR:FldT 95:=⟨by kernel_rfl,by kernel_rfl,by kernel_rfl,by kernel_rfl⟩
theorem Sz.aaE {T:TypeId}(h:FldT T)(k v k' v':List UInt8)(n n':Int)(w:World) :
  (Op.equalIn 10000 T (.agg #[.string ⟨k.toArray⟩,.string ⟨v.toArray⟩,.int .i64 n]) (.agg #[.string ⟨k'.toArray⟩,.string ⟨v'.toArray⟩,.int .i64 n'])).run Tryz.prog w=.ok (decide (Fld.mk k v n=⟨k',v',n'⟩)) w:=by
 obtain⟨h1,h2,h3,h4⟩:=h
 rw[run_equalIn_struct w 9999 T _ _ h2 h3]
 generalize (Tryz.prog.fieldsOf T).toList=fs at *
 have hl:fs.length=3:=by have:=congrArg List.length h1;simpa using this
 match fs,hl with
 | [f0,f1,f2],_ =>
  simp at h1
  obtain⟨⟨n0,t0,o0⟩,⟨n1,t1,o1⟩,⟨n2,t2,o2⟩⟩:=h1
  simp only[Op.eqFields,n0,n1,n2,t0,t1,t2,o0,o1,o2,ne_eq,not_false_eq_true,if_true]
  simp[go_sem]
  by_cases e0:k=k' <;> by_cases e1:v=v' <;> by_cases e2:n=n' <;> simp[e0,e1,e2]
theorem Sz.adX {T:TypeId}(h:FldT T)(k v k' v':List UInt8)(n n':Int)(w:World) :
  (binOp .neq T (.agg #[.string ⟨k.toArray⟩,.string ⟨v.toArray⟩,.int .i64 n]) (.agg #[.string ⟨k'.toArray⟩,.string ⟨v'.toArray⟩,.int .i64 n'])).run Tryz.prog w=.ok (.bool (!decide (Fld.mk k v n=⟨k',v',n'⟩))) w:=by
 rw[run_neq_struct,aaE h];rfl
theorem Sz.adY {T:TypeId}(h:FldT T)(op:BinOp)(x y:Operand)(xs ys:Array Value)(w:World):(eqGuard op T x y (.agg xs) (.agg ys)).run Tryz.prog w=.ok () w:=run_eqGuard_agg w op T x y xs ys h.2.2.2
theorem adZ (A:Option Addr)(n c:Nat)(l:List Fld)(w:World)(hn:l.length=n)(hr:Rg.Row encF 3 w A l)(hl:n<=100000) :
  Calls Tryz.prog 14 #[.slice A n c] w fun e w'=>∃ C d,e=.returned (.slice C n d)/\Rg.Row encF 3 w' C l/\Below w.heap.size w w':=by
 subst hn
 have HR:=zh hr
 clear hr
 go_enter Tryz.func14,Tryz.ntmps14
 go_wp2_with fail
 go_loopw [3,4] (fun v i wr=>∃ k:Nat,k<=l.length/\i=.int .i64 k/\Hid (Rg.Own encF 3 wr w.heap.size 95 v (l.take k))/\Hid (Below w.heap.size w wr/\w.heap.size<=wr.heap.size)) (fun _ i _=>l.length-(intOf i).toNat)
 case atStart=>exact⟨0,Nat.zero_le _,rfl,Rg.aD _ _ _,Below.refl _ _,Nat.le_refl _⟩
 case round =>
  obtain⟨k,hk,rfl,HO,HB⟩:=hrel
  by_cases ae:k<l.length
  ·have af:(l.take k).length+1<=1000000:=by rw[List.length_take];omega
   obtain⟨ad,rfl,_,_⟩:=cV HR.out k ae
   have ag:Hid (l.take (k+1)=l.take k++[l[k]]):=List.take_succ_eq_append_getElem ae
   have H3:=zh (fun u hb=>aeG HR.out ae rfl rfl (u:=u) hb)
   obtain⟨f,hf⟩:=ex (l[k])
   rw[hf] at ag H3
   obtain⟨fk,fv,fl⟩:=f
   dsimp only at H3
   obtain⟨pre,aa⟩:=ex (l.take k)
   rw[aa] at ag HO af
   have am:=zh af
   have HD:Hid (Below w.heap.size w wr.drew):=HB.out.1.drew
   have HS:Hid (w.heap.size<=wr.drew.heap.size):=HB.out.2
   obtain⟨c0,c1,c2⟩:=H3.out _ HB.out.1
   have k0:(0:Int)<=(k:Int):=by omega
   have k1:(k:Int)<(l.length:Int):=by omega
   have ai:w.heap.size<=(wr.drew.alloc (.cells #[.string ⟨fk.toArray⟩,.string ⟨fv.toArray⟩,.int .i64 fl] 95)).heap.size:=Nat.le_trans HS.out ((Below.refl _ _).alloc (Nat.le_refl _) _:Below wr.drew.heap.size wr.drew _).size
   have an:=zh ai
   clear hf aa af ai
   go_wp2_with fail
   go_region_held3 (fun w'=>w'.cell? (ad.add (k*3))=some (.string ⟨fk.toArray⟩)/\w'.cell? ⟨(ad.add (k*3)).block,(ad.add (k*3)).off+1,none⟩=some (.string ⟨fv.toArray⟩)/\w'.cell? ⟨(ad.add (k*3)).block,(ad.add (k*3)).off+2,none⟩=some (.int .i64 fl))
    (first
     | exact H3.out _ HD.out
     | exact H3.out _ (HD.out.alloc HS.out _)
     | exact H3.out _ aj.out.1)
    ((refine Rg.bz sliceRF (by rfl) (.tmp 11) (.tmp 28) (by rfl) w.heap.size u3 pre [(⟨fk,fv,fl⟩:Fld)] (by rfl) (Rg.own_below HO.out ((Below.refl _ _).drew.alloc (Nat.le_refl _) _)) _ _ (by rfl) (Rg.ay wr.drew _ [(⟨fk,fv,fl⟩:Fld)] _ (by rfl)) (Nat.zero_lt_succ _) am.out an.out ?_;intro v5 W5 ak al ao;have aj:=Sz.ju HB (Below.refl _ _).drew HO al))
   have ac:Hid (Rg.Own encF 3 W5 w.heap.size 95 v5 (l.take (k+1))):=by show Rg.Own _ _ _ _ _ _ _;rw[ag.out];exact ak
   clear ak al ao c0 c1 c2 HD HS
   go_wp2_with fail
   go_roundw
   case rel=>exact⟨k+1,by omega,by go_num,ac,aj⟩
   case measure=>simp[intOf];omega
  ·obtain rfl:k=l.length:=by omega
   have ac:Rg.Own encF 3 wr w.heap.size 95 u3 l:=by have:=HO.out;rwa [List.take_length] at this
   clear HO
   obtain⟨C,d,rfl,ab,_,_⟩:=Rg.aE fitsF ac
   have ah:=zh ab
   clear ac ab
   go_wp2_with fail
   go_ret
   exact⟨C,d,rfl,ah.out,HB.out.1⟩
theorem vV (A B:Option Addr)(n c m d:Nat)(l r:List Fld)(w:World)(hn:l.length=n)(hm:r.length=m)(hr:Rg.Row encF 3 w A l)(hq:Rg.Row encF 3 w B r)(hl:n<=100000)(hml:m<=100000) :
  Calls Tryz.prog 13 #[.slice A n c,.slice B m d] w fun e w'=>e=.returned (.bool (decide (l=r)))/\Below w.heap.size w w':=by
 obtain⟨R,hR⟩:=ex (decide (l=r))
 rw[hR]
 have HN:=zh hn
 have HM:=zh hm
 have HR:=zh hr
 have HQ:=zh hq
 clear hn hm hr hq
 by_cases ac:n=m
 ·subst ac
  have af:Hid ((∀ k,k<=l.length->l.take k=r.take k->∀ (h1:k<l.length) (h2:k<r.length),l[k]≠r[k]->R=false)/\(l.take n=r.take n->R=true)):=by
   refine⟨fun k _ _ h1 h2 hne=>?_,fun h=>?_⟩
   ·rw[<-hR];refine decide_eq_false fun e=>?_
    subst e;exact hne rfl
   ·rw[<-hR];refine decide_eq_true ?_
    rwa [List.take_of_length_le (by rw[HN.out];exact Nat.le_refl _),List.take_of_length_le (by rw[HM.out];exact Nat.le_refl _)] at h
  clear hR
  go_enter Tryz.func13,Tryz.ntmps13
  go_wp2_with fail
  go_loopw [5] (fun i wr=>∃ k:Nat,k<=n/\i=.int .i64 k/\Hid (l.take k=r.take k)/\Hid (Below w.heap.size w wr)) (fun i _=>n-(intOf i).toNat)
  case atStart=>exact⟨0,Nat.zero_le _,rfl,rfl,Below.refl _ _⟩
  case round =>
   obtain⟨k,hk,rfl,HH,HW⟩:=hrel
   by_cases ag:k<n
   ·have h1:k<l.length:=by rw[HN.out];exact ag
    have h2:k<r.length:=by rw[HM.out];exact ag
    obtain⟨ad,rfl,_,a0,a1,a2⟩:=cV (Rg.ak HR.out HW.out) k h1
    obtain⟨ae,rfl,_,e0,e1,e2⟩:=cV (Rg.ak HQ.out HW.out) k h2
    have t1:=List.take_succ_eq_append_getElem h1
    have t2:=List.take_succ_eq_append_getElem h2
    have aa:=af.out.1 k (by rw[HN.out];exact hk) HH.out h1 h2
    obtain⟨f,hf⟩:=ex (l[k])
    obtain⟨g,hg⟩:=ex (r[k])
    rw[hf] at a0 a1 a2 t1 aa
    rw[hg] at e0 e1 e2 t2 aa
    obtain⟨fk,fv,fl⟩:=f
    obtain⟨gk,gv,gl⟩:=g
    dsimp only at a0 a1 a2 e0 e1 e2
    have ai:=zh aa
    have HT:Hid ((⟨fk,fv,fl⟩:Fld)=⟨gk,gv,gl⟩->l.take (k+1)=r.take (k+1)):=fun e=>by rw[t1,t2,HH.out,e]
    clear hf hg t1 t2 aa
    have ab:=adX fldR fk fv gk gv fl gl
    have ah:∀ (x y:Operand) (W:World),(eqGuard .neq 95 x y (.agg #[.string ⟨fk.toArray⟩,.string ⟨fv.toArray⟩,.int .i64 fl]) (.agg #[.string ⟨gk.toArray⟩,.string ⟨gv.toArray⟩,.int .i64 gl])).run Tryz.prog W=.ok () W:=fun x y W=>adY fldR .neq x y _ _ W
    have k0:(0:Int)<=(k:Int):=by omega
    have k1:(k:Int)<(n:Int):=by omega
    by_cases hE:(⟨fk,fv,fl⟩:Fld)=⟨gk,gv,gl⟩
    ·rw[decide_eq_true hE] at ab
     have aj:=zh (HT.out hE)
     clear hE
     go_wp2_with fail
     go_quiet (fail)
     clear ab ah a0 a1 a2 e0 e1 e2
     go_wp2_with fail
     go_roundw
     case rel=>exact⟨k+1,by omega,by go_num,aj,qS HW.out _⟩
     case measure=>simp[intOf];omega
    ·rw[decide_eq_false hE] at ab
     have HF:=zh (ai.out hE)
     clear hE
     go_wp2_with fail
     go_quiet (fail)
     clear ab ah a0 a1 a2 e0 e1 e2
     go_wp2_with fail
     go_ret
     exact⟨by rw[HF.out];rfl,qS HW.out _⟩
   ·obtain rfl:k=n:=by omega
    have HE:=zh (af.out.2 HH.out)
    go_wp2_with fail
    go_ret
    exact⟨by rw[HE.out];rfl,HW.out⟩
 ·have HF:Hid (R=false):=by
   show _=_;rw[<-hR];refine decide_eq_false fun e=>ac ?_
   rw[<-HN.out,<-HM.out,e]
  have d0:((n:Int) != (m:Int))=true:=by rw[bne_iff_ne];omega
  clear hR
  go_enter Tryz.func13,Tryz.ntmps13
  go_wp2_with fail
  go_ret
  exact⟨by rw[HF.out];rfl,Below.refl _ _⟩
theorem Sz.acx {u:World}(A:Option Addr)(n c:Nat)(l:List Fld)(B:Option Addr)(m d:Nat)(ks:List (List UInt8))(hn:l.length=n)(hr:Rg.Row encF 3 u A l)(hl:n<=100000)(hs:Short l)(hm:ks.length=m)(hk:Rg.Row encT 1 u B ks)(hml:m<=100000)(hks:ShortT ks){i e0:Int}(hX:ordP ks 0 (-1) l=(i,e0)) :
  Calls Tryz.prog 86 #[.slice A n c,.slice B m d] u fun e w'=>e=.returned (.tuple #[.int .i64 i,.int .i64 e0])/\Below u.heap.size u w' :=
 (oY A n c l B m d ks u hn hr hl hs hm hk hml hks).mono fun e w' ⟨he,hb⟩=>by
  rw[hX] at he
  exact⟨he,hb⟩
theorem Sz.nq {l:List Fld}(h:l.all (fun f=>decide (f.key.length<=140737488355328)&&decide (f.val.length<=140737488355328))=true):Short l:=fun f hf=>by
 have:=List.all_eq_true.1 h f hf
 rw[Bool.and_eq_true,decide_eq_true_eq,decide_eq_true_eq] at this
 exact this
theorem Sz.iD {w u:World}{B:Nat}(h:Below B w u)(hB:B<=w.heap.size)(o:Obj):Below B w (u.alloc o):=h.alloc (Nat.le_trans hB h.size) _
theorem Sz.aaF {l:List (List UInt8)}(h:l.all (fun k=>decide (k.length<=140737488355328))=true):ShortT l:=fun k hk=>by
 have:=List.all_eq_true.1 h k hk
 rwa [decide_eq_true_eq] at this
theorem Sz.acy {u:World}(A:Option Addr)(n c:Nat)(t:List (List Fld))(hn:t.length=n)(hr:Gr.Row encF 3 u A t)(hl:n<=1000000)(hls:∀ l∈t,l.length<=1000000){T:List UInt8}(hT:textS t=T)(ht:T.length<=1000000) :
  Calls Tryz.prog 19 #[.slice A n c] u fun e w'=>e=.returned (.string ⟨T.toArray⟩)/\Below u.heap.size u w' :=
 (o5 A n c t u hn hr hl hls (by rw[hT];exact ht)).mono fun e w' ⟨he,hb⟩=>by
  rw[hT] at he;exact⟨he,hb⟩
theorem Rg.pQ {α:Type}{enc:α->List Value}{K:Nat}(hf:Rg.Fits enc K)(w:World)(T:TypeId)(l:List α)(cs:Array Value)(h:cs.toList=Rg.flat enc l){b:Nat}(hb:w.heap.size=b):Rg.Row enc K (w.alloc (.cells cs T)) (some ⟨b,0,none⟩) l:=by
 subst hb
 intro _
 refine⟨_,rfl,by simp,fun i hi j v hv=>?_⟩
 have hj:j<K:=by rw[<-hf.len l[i]];exact (List.getElem?_eq_some_iff.1 hv).1
 rw[<-Rg.lM]
 exact Rg.ay w T l cs h _ _ ((Rg.flat_get hf l i hi j hj).trans hv)
end
end Go.Proofs.YtpfkphmldalmmaaGreatDoor
