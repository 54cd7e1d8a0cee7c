/- Part 14 of what the laws lean on. -/
import Derived.Test.YtgnaiidgjmicaaaGreatDoorL13
set_option maxRecDepth 100000
set_option maxHeartbeats 3200000
namespace Go.Proofs.YtgnaiidgjmicaaaGreatDoor
section
open Go.RowKit
attribute [local go_sem ↓] Go.wp_at_zero Go.wp_at_succ
def FieldRet (w:World) (n:Int) (R:Option Sz.Fld) (e:Ending) (w':World):Prop :=
 Below w.heap.size w w'/\match R with
  | some f=>e=.returned (.agg #[.string ⟨f.key.toArray⟩,.string ⟨f.val.toArray⟩,.int .i64 n])
  | none=>e=panAt n 2
theorem qR (s:List UInt8)(w:World)(hm:MaxOk w)(hl:s.length<=1000000) :
  Calls Tryz.prog 122 #[.string ⟨s.toArray⟩,.string ⟨#[58,32]⟩] w fun e w'=>e=.returned (.tuple #[.string ⟨(Lib.cut s Sz.mark).1.toArray⟩,.string ⟨(Lib.cut s Sz.mark).2.1.toArray⟩,.bool (Lib.cut s Sz.mark).2.2])/\Below w.heap.size w w':=by
 obtain⟨m,hm⟩:=hm
 exact (Tryz.strings_Cut ⟨s.toArray⟩ ⟨#[58,32]⟩ m w (by show s.length<_;omega) hm).mono fun e w' ⟨h1,n,h2⟩=>⟨h1,h2 ▸ below_drewN (Below.refl _ _) n⟩
theorem vj (s:List UInt8)(n:Int):Sz.fieldP s n=if (Lib.cut s Sz.mark).2.2&&(Sz.keyB (Lib.cut s Sz.mark).1&&Sz.valB (Lib.cut s Sz.mark).2.1) then some ⟨(Lib.cut s Sz.mark).1,(Lib.cut s Sz.mark).2.1,n⟩ else none:=by
 unfold Sz.fieldP Lib.cut
 by_cases h:0<=Lib.index s Sz.mark
 ·rw[if_pos h]
  show (if _/\_/\_ then _ else _)=if (true&&_)=true then _ else _
  rw[Bool.true_and]
  show _=if (Sz.keyB (s.take (Lib.index s Sz.mark).toNat)&&Sz.valB (s.drop ((Lib.index s Sz.mark).toNat+2)))=true then some (⟨s.take (Lib.index s Sz.mark).toNat,s.drop ((Lib.index s Sz.mark).toNat+2),n⟩:Sz.Fld) else none
  by_cases h1:Sz.keyB (s.take (Lib.index s Sz.mark).toNat)=true
  ·by_cases h2:Sz.valB (s.drop ((Lib.index s Sz.mark).toNat+2))=true
   ·rw[if_pos ⟨h,h1,h2⟩,if_pos (by rw[h1,h2];rfl)]
   ·rw[if_neg (fun hh=>h2 hh.2.2),if_neg (by rw[h1,Bool.true_and];exact h2)]
  ·rw[if_neg (fun hh=>h1 hh.2.1),if_neg (by rw[Bool.and_eq_true];exact fun hh=>h1 hh.1)]
 ·rw[if_neg (fun hh=>h hh.1),if_neg h];rfl
theorem aax (s:List UInt8):(Lib.cut s Sz.mark).1.length<=s.length/\(Lib.cut s Sz.mark).2.1.length<=s.length:=by
 unfold Lib.cut
 split
 ·show (s.take (Lib.index s Sz.mark).toNat).length<=s.length/\(s.drop ((Lib.index s Sz.mark).toNat+Sz.mark.length)).length<=s.length
  rw[List.length_take,List.length_drop];omega
 ·exact⟨Nat.le_refl _,Nat.zero_le _⟩
theorem jf (s:List UInt8)(n:Int)(w:World)(hw:MaxOk w)(hs:s.length<=1000000) :
  Calls Tryz.prog 178 #[.string ⟨s.toArray⟩,.int .i64 n] w (FieldRet w n (Sz.fieldP s n)):=by
 obtain⟨R,hR⟩:=ex (Sz.fieldP s n)
 rw[hR]
 rw[vj] at hR
 obtain⟨W1,ad⟩:=ex (w.alloc (.cells #[.string ⟨#[]⟩,.string ⟨#[]⟩,.int .i64 0] 168))
 have al:Hid (∀ u,Below W1.heap.size W1 u->u.cell? ⟨w.heap.size,0,none⟩=some (.string ⟨#[]⟩)/\u.cell? ⟨w.heap.size,1,none⟩=some (.string ⟨#[]⟩)/\u.cell? ⟨w.heap.size,2,none⟩=some (.int .i64 0)/\u.frozen? ⟨w.heap.size,0,none⟩=false/\u.frozen? ⟨w.heap.size,1,none⟩=false/\u.frozen? ⟨w.heap.size,2,none⟩=false):=fun u hb=>cJ ad hb
 have ae:Hid (Below w.heap.size w W1):=aa ad
 have hcut:=qR s W1 (ab hw ae.out) hs
 obtain⟨ag,ah⟩:=aax s
 obtain⟨c,hc⟩:=ex (Lib.cut s Sz.mark)
 obtain⟨k,v,f⟩:=c
 rw[hc] at hR hcut ag ah
 dsimp only at hR hcut ag ah
 have ac:=zh hcut
 have af:Hid (k.length<=1000000):=Nat.le_trans ag hs
 have ai:Hid (v.length<=1000000):=Nat.le_trans ah hs
 clear hcut hc ag ah hs hw
 cases f
 ·have HR:Hid (R=none):=hR.symm
  clear hR
  go_enter Tryz.func178,Tryz.ntmps178
  go_wp2_with fail
  clear ad
  refine ac.out.mono ?_
  rintro _ u ⟨rfl,hb⟩
  have HB:Hid (Below w.heap.size w u):=bt ae.out hb
  clear hb
  go_wp2_with fail
  refine (ao _).mono ?_
  rintro _ z ⟨rfl,rfl⟩
  go_wp2_with fail
  exact⟨rfl,by show FieldRet w n R _ _;rw[HR.out];exact⟨HB.out,rfl⟩⟩
 ·cases hk:Sz.keyB k
  ·have HR:Hid (R=none):=by rw[hk] at hR;exact hR.symm
   have HK:=zh hk
   clear hR hk
   go_enter Tryz.func178,Tryz.ntmps178
   go_wp2_with fail
   clear ad
   refine ac.out.mono ?_
   rintro _ u ⟨rfl,hb⟩
   have HB:Hid (Below w.heap.size w u):=bt ae.out hb
   clear hb
   go_wp2_with fail
   refine (iy k _ af.out).mono ?_
   rintro _ z ⟨rfl,rfl⟩
   rw[HK.out]
   go_wp2_with fail
   refine (ao _).mono ?_
   rintro _ z ⟨rfl,rfl⟩
   go_wp2_with fail
   exact⟨rfl,by show FieldRet w n R _ _;rw[HR.out];exact⟨HB.out,rfl⟩⟩
  ·have HK:=zh hk
   cases hv:Sz.valB v
   ·have HR:Hid (R=none):=by rw[hk,hv] at hR;exact hR.symm
    have HV:=zh hv
    clear hR hk hv
    go_enter Tryz.func178,Tryz.ntmps178
    go_wp2_with fail
    clear ad
    refine ac.out.mono ?_
    rintro _ u ⟨rfl,hb⟩
    have HB:Hid (Below w.heap.size w u):=bt ae.out hb
    clear hb
    go_wp2_with fail
    refine (iy k _ af.out).mono ?_
    rintro _ z ⟨rfl,rfl⟩
    rw[HK.out]
    go_wp2_with fail
    refine (jd v _ ai.out).mono ?_
    rintro _ z ⟨rfl,rfl⟩
    rw[HV.out]
    go_wp2_with fail
    refine (ao _).mono ?_
    rintro _ z ⟨rfl,rfl⟩
    go_wp2_with fail
    exact⟨rfl,by show FieldRet w n R _ _;rw[HR.out];exact⟨HB.out,rfl⟩⟩
   ·have HR:Hid (R=some ⟨k,v,n⟩):=by rw[hk,hv] at hR;exact hR.symm
    have HV:=zh hv
    clear hR hk hv
    go_enter Tryz.func178,Tryz.ntmps178
    go_wp2_with fail
    clear ad
    refine ac.out.mono ?_
    rintro _ u ⟨rfl,hb⟩
    have HB:=zh hb
    clear hb
    go_wp2_with fail
    refine (iy k _ af.out).mono ?_
    rintro _ z ⟨rfl,rfl⟩
    rw[HK.out]
    go_wp2_with fail
    refine (jd v _ ai.out).mono ?_
    rintro _ z ⟨rfl,rfl⟩
    rw[HV.out]
    go_wp2_with fail
    refine (ax _).mono ?_
    rintro _ z ⟨rfl,rfl⟩
    go_wp2_with fail
    refine (kH k v n _ (Nat.le_trans af.out (by decide)) (Nat.le_trans ai.out (by decide))).mono ?_
    rintro _ u3 ⟨rfl,ak⟩
    have aj:Hid (Below W1.heap.size W1 u3):=bt HB.out ak
    clear ak
    obtain⟨b0,b1,b2,f0,f1,f2⟩:=al.out u3 aj.out
    have am:Hid (Below w.heap.size w (((u3.setCell ⟨w.heap.size,0,none⟩ (.string ⟨k.toArray⟩)).setCell ⟨w.heap.size,1,none⟩ (.string ⟨v.toArray⟩)).setCell ⟨w.heap.size,2,none⟩ (.int .i64 n))) :=
     (((bt ae.out aj.out).setCell (Nat.le_refl _) _).setCell (Nat.le_refl _) _).setCell (Nat.le_refl _) _
    have g0:(((u3.setCell ⟨w.heap.size,0,none⟩ (.string ⟨k.toArray⟩)).setCell ⟨w.heap.size,1,none⟩ (.string ⟨v.toArray⟩)).setCell ⟨w.heap.size,2,none⟩ (.int .i64 n)).cell? ⟨w.heap.size,0,none⟩=some (.string ⟨k.toArray⟩):=by simp[go_sem,b0]
    have g1:(((u3.setCell ⟨w.heap.size,0,none⟩ (.string ⟨k.toArray⟩)).setCell ⟨w.heap.size,1,none⟩ (.string ⟨v.toArray⟩)).setCell ⟨w.heap.size,2,none⟩ (.int .i64 n)).cell? ⟨w.heap.size,1,none⟩=some (.string ⟨v.toArray⟩):=by simp[go_sem,b1]
    have g2:(((u3.setCell ⟨w.heap.size,0,none⟩ (.string ⟨k.toArray⟩)).setCell ⟨w.heap.size,1,none⟩ (.string ⟨v.toArray⟩)).setCell ⟨w.heap.size,2,none⟩ (.int .i64 n)).cell? ⟨w.heap.size,2,none⟩=some (.int .i64 n):=by simp[go_sem,b2]
    go_wp2_with fail
    generalize ((u3.setCell ⟨w.heap.size,0,none⟩ (.string ⟨k.toArray⟩)).setCell ⟨w.heap.size,1,none⟩ (.string ⟨v.toArray⟩)).setCell ⟨w.heap.size,2,none⟩ (.int .i64 n)=V at *
    refine bodyPost_ret (v:=.agg #[.string ⟨k.toArray⟩,.string ⟨v.toArray⟩,.int .i64 n]) ?_ rfl ?_
    ·simp[results,Tryz.results178,go_sem,g0,g1,g2]
    ·rw[HR.out];exact⟨am.out,rfl⟩
end
namespace Sz
open Go.RowKit
attribute [local go_sem ↓] Go.wp_at_zero Go.wp_at_succ
theorem jy (w:World)(T:TypeId)(l:List (List UInt8))(cs:Array Value)(h:cs.toList=Rg.flat encT l):Rg.Row encT 1 (w.alloc (.cells cs T)) (some ⟨w.heap.size,0,none⟩) l:=fun _=>by
 refine⟨_,rfl,by simp,fun i hi j v hv=>?_⟩
 have hj:j<1:=(List.getElem?_eq_some_iff.1 hv).1
 rw[<-Rg.eM]
 exact Rg.aw w T l cs h _ _ ((Rg.flat_get fitsT l i hi j hj).trans hv)
theorem cE {w:World}{A:Option Addr}{l:List (List UInt8)}(h:Rg.Row encT 1 w A l)(k:Nat)(hk:k<l.length):∃ ad,A=some ad/\ad.block<w.heap.size/\w.cell? (ad.add k)=some (.string ⟨l[k].toArray⟩):=by
 obtain⟨ad,x,e,hx,aa,hc⟩:=Rg.bz h k hk
 refine⟨ad,e,aa,?_⟩
 have:=hc 0 _ rfl
 rw[if_pos rfl,Nat.mul_one] at this
 rw[hx]
 exact this
theorem flatT (l:List (List UInt8)):Rg.flat encT l=l.map fun t=>Value.string ⟨t.toArray⟩:=by
 induction l with
 | nil=>rfl
 | cons a l ih=>show encT a++Rg.flat encT l=_;rw[ih];rfl
theorem bV (sep:List UInt8):∀ (k:Nat) (s:List UInt8),∀ p∈Lib.splitK sep 0 k s,p.length<=s.length
 | 0,s,p,hp=>by
  unfold Lib.splitK at hp
  rw[List.mem_singleton.1 hp];exact Nat.le_refl _
 | k+1,s,p,hp=>by
  unfold Lib.splitK at hp
  split at hp
  ·rw[List.mem_singleton.1 hp];exact Nat.le_refl _
  ·rcases List.mem_cons.1 hp with e | hp
   ·rw[e];simp;omega
   ·have:=bV sep k _ p hp
    simp at this;omega
theorem eV (s sep:List UInt8)(w:World)(hm:MaxOk w)(hl:s.length<=900000)(h1:1<=sep.length) :
  Calls Tryz.prog 204 #[.string ⟨s.toArray⟩,.string ⟨sep.toArray⟩] w fun e w'=>∃ A n,e=.returned (.slice A n n)/\(Lib.split s sep).length=n/\n<=s.length+1/\Rg.Row encT 1 w' A (Lib.split s sep)/\Below w.heap.size w w':=by
 obtain⟨m,hm⟩:=hm
 refine (Tryz.strings_Split ⟨s.toArray⟩ ⟨sep.toArray⟩ m w (by show s.length<_;omega) hm h1).mono ?_
 rintro e w' ⟨rfl,rfl⟩
 have hd:(Lib.splitB ⟨sep.toArray⟩ 0 (Lib.countB ⟨s.toArray⟩ ⟨sep.toArray⟩) ⟨s.toArray⟩).map (·.data.toList)=Lib.split s sep:=Lib.splitB_data _ _ _ _
 have hn:=Lib.splitB_all ⟨sep.toArray⟩ h1 0 (Lib.countB ⟨s.toArray⟩ ⟨sep.toArray⟩) ⟨s.toArray⟩ rfl
 have hc:=Lib.countB_le ⟨sep.toArray⟩ h1 s.length ⟨s.toArray⟩ (Nat.le_refl _)
 refine⟨_,_,rfl,by rw[<-hd,List.length_map,hn],Nat.succ_le_succ hc,jy w _ _ _ ?_,(Below.refl _ _).alloc (Nat.le_refl _) _⟩
 rw[flatT,<-hd,List.map_map]
 rfl
theorem vk {w:World}{A:Option Addr}{l:List (List UInt8)}(h:Rg.Row encT 1 w A l):Rg.Row encT 1 w A l.dropLast:=fun h0=>by
 rw[List.length_dropLast] at h0
 obtain⟨a,e,hl,hc⟩:=h (by omega)
 refine⟨a,e,hl,fun i hi=>?_⟩
 rw[List.getElem_dropLast]
 exact hc i (by rw[List.length_dropLast] at hi;omega)
theorem rS {s p:List UInt8}(h:p∈linesL s):p.length<=s.length:=bV [10] _ _ p (List.dropLast_subset _ h)
theorem jg (s:List UInt8)(w:World)(hw:MaxOk w)(hs:s.length<=100000) :
  Calls Tryz.prog 175 #[.string ⟨s.toArray⟩] w fun e w'=>∃ A n c,e=.returned (.slice A n c)/\(linesL s).length=n/\n<=s.length/\Rg.Row encT 1 w' A (linesL s)/\Below w.heap.size w w':=by
 have hc:=eV s [10] w hw (by omega) (by decide)
 have ac:=kz s
 have HL:Hid ((linesL s).length=(Lib.split s [10]).length-1):=by show _=_;unfold linesL;rw[List.length_dropLast]
 have HF:Hid (∀ (u:World) (A:Option Addr),Rg.Row encT 1 u A (Lib.split s [10])->Rg.Row encT 1 u A (linesL s)):=fun u A h=>vk h
 have HC:=zh hc
 have ad:Hid (1<=(Lib.split s [10]).length):=List.length_pos_iff.2 ac
 clear hc ac
 go_enter Tryz.func175,Tryz.ntmps175
 go_wp2_with fail
 refine HC.out.mono ?_
 rintro _ u ⟨A,n,rfl,hn,ae,aa,hb⟩
 have h1:1<=n:=by rw[<-hn];exact ad.out
 have HN:=zh hn
 have ab:=zh (HF.out _ _ aa)
 have HB:=zh hb
 clear hn aa hb
 have i0:(0:Int)<=(n:Int)-1:=by omega
 have i1:(n:Int)-1<=(n:Int):=by omega
 have i2:((n:Int)-1).toNat=n-1:=by omega
 go_wp2_with fail
 go_ret
 exact⟨A,_,_,rfl,by rw[HL.out,HN.out],by omega,ab.out,HB.out⟩
end Sz
namespace Sz
open Go.RowKit Go.Maps
attribute [local go_sem ↓] Go.wp_at_zero Go.wp_at_succ
def encF (f:Fld):List Value:=[.string ⟨f.key.toArray⟩,.string ⟨f.val.toArray⟩,.int .i64 f.line]
theorem fitsF:Rg.Fits encF 3:=⟨fun _=>rfl,fun x u hu=>by
 simp only[encF,List.mem_cons,List.not_mem_nil,or_false] at hu
 rcases hu with rfl | rfl | rfl <;> rfl⟩
theorem sliceF:Rg.SliceT Tryz.prog encF 3 163 168:=⟨fitsF,by decide,by kernel_rfl,Rg.bw (z:=.agg #[.string ByteArray.empty,.string ByteArray.empty,.int .i64 0]) (b:=40) (by kernel_rfl) (by rfl) (by decide)⟩
theorem sliceE:Rg.SliceT Tryz.prog encO 1 120 163:=⟨fitsO,by decide,by kernel_rfl,Rg.bw (z:=.slice none 0 0) (b:=24) (by kernel_rfl) (by rfl) (by decide)⟩
theorem keyLaw:Keyed Tryz.prog 9:=string_keyed Tryz.underlying9
theorem zeroU (w:World):(zeroValue 249).run Tryz.prog w=.ok (.agg #[]) w:=by kernel_rfl
def KSet (w:World) (b:Nat) (ks:List (List UInt8)):Prop:=∃ (n:Nat) (D:DataW Unit),w.ownsMap Tryz.prog 9 unitElem b n D/\n<=ks.length/\∀ k:List UInt8,k.length<=1000000->Maps.has D (.string k)=ks.contains k
theorem vl (w:World):KSet (w.alloc (.map #[] 0)) w.heap.size []:=⟨0,_,World.ownsMap_made w _ _ _,Nat.le_refl _,fun _k _=>rfl⟩
theorem cW {k:List UInt8}(hk:k.length<=140737488355328):keyOf Tryz.prog 9 (.string ⟨k.toArray⟩)=some (.string k):=by
 have:=WideMaps.keyOf_string_mk (P:=Tryz.prog) (k:=9) Tryz.underlying9 (s:=⟨k.toArray⟩) (by show k.toArray.size<=_;rw[List.size_toArray];unfold maxLen;omega)
 exact this
theorem eY {w:World}{b:Nat}{ks:List (List UInt8)}(h:KSet w b ks){k:List UInt8}(hk:k.length<=1000000) :
  (Instr.lookup 227 (.map (some b)) (.string ⟨k.toArray⟩) true).run Tryz.prog w=.ok (.tuple #[.agg #[],.bool (ks.contains k)]) w:=by
 obtain⟨n,D,aa,_,hh⟩:=h
 obtain⟨v,ps,ab,hv⟩:=aa.look_ok keyLaw Tryz.underlying227 (zeroU w) unitElem_mk (cW (Nat.le_trans hk (by decide)))
 obtain⟨rfl,_⟩:=unitElem_inv hv
 rw[ab,hh k hk]
theorem o6 {w:World}{b:Nat}{ks:List (List UInt8)}(h:KSet w b ks){k:List UInt8}(hk:k.length<=1000000)(hl:ks.length<=1000000) :
  ∃ w',(Instr.mapUpdate 227 (.map (some b)) (.string ⟨k.toArray⟩) (.agg #[])).run Tryz.prog w=.ok () w'/\KSet w' b (ks++[k])/\w.mapTurned w' b:=by
 obtain⟨n,D,aa,hn,hh⟩:=h
 obtain⟨w',ac,ab,ht⟩:=aa.store keyLaw Tryz.underlying227 (by unfold maxLen;omega) (cW (Nat.le_trans hk (by decide))) (val:=.agg #[]) unitElem_mk
 refine⟨w',ac,⟨n+1,_,ab,by rw[List.length_append];simp;omega,fun x hx=>?_⟩,ht⟩
 by_cases e:x=k
 ·subst e
  rw[Maps.has_put_same aa.isMap (by trivial)]
  simp
 ·rw[Maps.has_put_other (by intro h;exact e (Lit.string.inj h)),hh x hx]
  simp[e]
theorem bn {w w':World}{b B:Nat}{ks:List (List UInt8)}(h:KSet w b ks)(hb:Below B w w')(hlt:b<B):KSet w' b ks:=by
 obtain⟨n,D,⟨es,clock,hh,r⟩,h2⟩:=h
 exact⟨n,D,⟨es,clock,(hb.block b hlt).trans hh,r⟩,h2⟩
theorem eZ {w w':World}{b:Nat}{ks:List (List UInt8)}(h:KSet w b ks)(hb:w'.heap[b]?=w.heap[b]?):KSet w' b ks:=by
 obtain⟨n,D,⟨es,clock,hh,r⟩,h2⟩:=h
 exact⟨n,D,⟨es,clock,hb.trans hh,r⟩,h2⟩
end Sz
namespace Sz
open Go.RowKit Go.Maps
theorem bD (w:World)(a:Addr)(v:Value):w.grownBy (w.setCell a v) (some a.block):=⟨rfl,rfl,rfl,by simp[World.setCell],fun k _ hk=>Below.heap_setCell _ _ _ _ (fun e=>hk (by simp[e]))⟩
section
variable {α:Type} {enc:α->List Value} {K:Nat}
theorem bj {w w':World}{B:Nat}{T:TypeId}{v:Value}{l:List α}{row:Option Nat}(h:Rg.Own enc K w B T v l)(hg:w.grownBy w' row)(hne:v.ownBlock=none\/v.ownBlock≠row):Rg.Own enc K w' B T v l:=World.ownsRow.kept h hg hne
theorem bC {w:World}{B:Nat}{T:TypeId}{v:Value}{l:List α}{g:Nat}(h:Rg.Own enc K w B T v l)(hg:v.ownBlock=some g):∃ cs fr,w.heap[g]?=some (.cells cs T fr):=by
 rcases h.2 with⟨rfl,_⟩ | ⟨g',cap,cur,rfl,_,hgg,_⟩
 ·cases hg
 ·cases hg;exact⟨_,_,hgg⟩
theorem az {w:World}{B:Nat}{T T2:TypeId}{v:Value}{l:List α}{b:Nat}{cs:Array Value}{fr:Nat × Nat}(h:Rg.Own enc K w B T v l)(hb:w.heap[b]?=some (.cells cs T2 fr))(hT:T2≠T):v.ownBlock≠some b:=fun e=>by
 obtain⟨cs2,fr2,hc⟩:=bC h e
 rw[hb] at hc
 exact hT (Obj.cells.inj (Option.some.inj hc)).2.1
theorem dr {w w':World}{ds:List Desc}{t:List (List α)}{b:Nat}(h:Gr.In enc K w ds t)(hg:w.grownBy w' (some b))(hf:Gr.Free (.slice (some ⟨b,0,none⟩) 0 0) ds t):Gr.In enc K w' ds t :=
 ⟨h.1,fun i d l h1 h2=>⟨(h.2 i d l h1 h2).1,bq (h.2 i d l h1 h2).2 hg (fun h0 a ha=>by
  have:=hf i d l h1 h2 h0 a ha
  exact this)⟩⟩
theorem mN {w w':World}{ds:List Desc}{t:List (List α)}{v:Value}(h:Gr.In enc K w ds t)(hg:w.grownBy w' v.ownBlock)(hf:Gr.Free v ds t):Gr.In enc K w' ds t :=
 ⟨h.1,fun i d l h1 h2=>⟨(h.2 i d l h1 h2).1,bq (h.2 i d l h1 h2).2 hg (fun h0 a ha=>hf i d l h1 h2 h0 a ha)⟩⟩
theorem in_lt {w:World}{ds:List Desc}{t:List (List α)}(h:Gr.In enc K w ds t):∀ (i:Nat) (d:Desc) (l:List α),ds[i]?=some d->t[i]?=some l->0<l.length->∀ a,d.1=some a->a.block<w.heap.size:=fun i d l h1 h2 h0 a ha=>by
 obtain⟨a2,e,hlt,_⟩:=(h.2 i d l h1 h2).2 h0
 rw[ha] at e;cases e;exact hlt
end
def Keeps (B d:Nat) (w w':World):Prop:=Below 0 w w'/\∀ k,k<B->k≠d->w'.heap[k]?=w.heap[k]?
theorem a8 {B d:Nat}{w w':World}(h:Below B w w'):Keeps B d w w':=⟨h.mono (Nat.zero_le _),fun k hk _=>h.block k hk⟩
theorem aE {B d:Nat}{w u w':World}(h:Keeps B d w u)(k:Keeps B d u w'):Keeps B d w w':=⟨h.1.trans k.1,fun i hi hd=>(k.2 i hi hd).trans (h.2 i hi hd)⟩
theorem dL {B d j:Nat}{w u:World}(h:Keeps B d w u)(x:Value):Keeps B d w (u.setCell ⟨d,j,none⟩ x):=⟨h.1.setCell (Nat.zero_le _) _,fun i hi hd=>(Below.heap_setCell _ _ _ _ (fun e=>hd (by simp[e]))).trans (h.2 i hi hd)⟩
theorem cX {B d:Nat}{w u:World}(h:Keeps B d w u)(hd:d<=B):Below d w u:=⟨h.1.os,h.1.tape,h.1.output,h.1.size,fun k hk=>h.2 k (Nat.lt_of_lt_of_le hk hd) (Nat.ne_of_lt hk)⟩
def DrO (w:World) (B d:Nat) (v0 v1 v2:Value) (ds:List Desc) (acc:List (List Fld)) (last:List Fld):Prop :=
 (∀ x∈ds,x.2.1<=x.2.2)/\w.heap[d]?=some (.cells #[v0,v1,v2] 229 (0,0))/\Rg.Own encO 1 w B 163 v0 ds/\Gr.In encF 3 w ds acc/\Gr.Free v0 ds acc /\
 Rg.Own encF 3 w B 168 v1 last/\Gr.Free v1 ds acc/\Gr.Free (.slice (some ⟨d,0,none⟩) 0 0) ds acc
theorem rT {w:World}{B:Nat}:DrO (w.alloc (.cells #[.slice none 0 0,.slice none 0 0,.map none] 229)) B w.heap.size (.slice none 0 0) (.slice none 0 0) (.map none) [] [] [] :=
 ⟨fun x hx=>(by cases hx),heap_alloc_new _ _,Rg.an _ _ _,⟨rfl,fun i d l h=>by simp at h⟩,fun i d l h=>by simp at h,Rg.an _ _ _,fun i d l h=>by simp at h,fun i d l h=>by simp at h⟩
theorem eH {w:World}{B d:Nat}{v0 v1 v2:Value}{ds:List Desc}{acc:List (List Fld)}{last:List Fld}(h:DrO w B d v0 v1 v2 ds acc last):d<w.heap.size:=(Array.getElem?_eq_some_iff.1 h.2.1).1
theorem aI {w:World}{B d:Nat}{v0 v1 v2:Value}{ds:List Desc}{acc:List (List Fld)}{last:List Fld}(h:DrO w B d v0 v1 v2 ds acc last) :
  w.cell? ⟨d,0,none⟩=some v0/\w.cell? ⟨d,1,none⟩=some v1/\w.cell? ⟨d,2,none⟩=some v2/\w.frozen? ⟨d,0,none⟩=false/\w.frozen? ⟨d,1,none⟩=false/\w.frozen? ⟨d,2,none⟩=false:=by
 have hb:=h.2.1
 refine⟨?_,?_,?_,?_,?_,?_⟩ <;> simp[World.cell?,World.frozen?,hb]
theorem aN {w w':World}{B d:Nat}{v0 v1 v2:Value}{ds:List Desc}{acc:List (List Fld)}{last:List Fld}(h:DrO w B d v0 v1 v2 ds acc last)(hb:Below w.heap.size w w'):DrO w' B d v0 v1 v2 ds acc last:=by
 have aa:=eH h
 obtain⟨h0,h1,h2,h3,h4,h5,h6,h7⟩:=h
 exact⟨h0,(hb.block d aa).trans h1,Rg.own_below h2 hb,Gr.oq h3 hb,h4,Rg.own_below h5 hb,h6,h7⟩
theorem neS:229≠163:=by decide
theorem neF:229≠168:=by decide
theorem neSF:163≠168:=by decide
theorem zE {w:World}{B d:Nat}{v0 v1 v2:Value}{ds:List Desc}{acc:List (List Fld)}{last:List Fld}(h:DrO w B d v0 v1 v2 ds acc last)(j:Nat)(x:Value){u0 u1 u2:Value}(hj:(#[v0,v1,v2]:Array Value).setIfInBounds j x=#[u0,u1,u2]) :
  (w.setCell ⟨d,j,none⟩ x).heap[d]?=some (.cells #[u0,u1,u2] 229 (0,0))/\Rg.Own encO 1 (w.setCell ⟨d,j,none⟩ x) B 163 v0 ds/\Gr.In encF 3 (w.setCell ⟨d,j,none⟩ x) ds acc/\Rg.Own encF 3 (w.setCell ⟨d,j,none⟩ x) B 168 v1 last:=by
 obtain⟨h0,h1,h2,h3,h4,h5,h6,h7⟩:=h
 have hg:=bD w ⟨d,j,none⟩ x
 refine⟨?_,bj h2 hg (Or.inr (az h2 h1 neS)),dr h3 hg h7,bj h5 hg (Or.inr (az h5 h1 neF))⟩
 simp[World.setCell,Array.getElem?_modify,h1,hj]
theorem xN {w:World}{B d:Nat}{v0 v1 v2:Value}{ds:List Desc}{acc:List (List Fld)}{last:List Fld}(h:DrO w B d v0 v1 v2 ds acc last)(x:Value):DrO (w.setCell ⟨d,2,none⟩ x) B d v0 v1 x ds acc last:=by
 obtain⟨g1,g2,g3,g4⟩:=zE h 2 x rfl
 exact⟨h.1,g1,g2,g3,h.2.2.2.2.1,g4,h.2.2.2.2.2.2.1,h.2.2.2.2.2.2.2⟩
theorem rU {w w':World}{B d m:Nat}{v0 v1 v2:Value}{ds:List Desc}{acc:List (List Fld)}{last:List Fld}{ks:List (List UInt8)}(h:DrO w B d v0 v1 v2 ds acc last)(hk:KSet w m ks)(ht:w.mapTurned w' m):DrO w' B d v0 v1 v2 ds acc last:=by
 obtain⟨n,D,⟨es,clock,hm,_⟩,_⟩:=hk
 obtain⟨h0,h1,h2,h3,h4,h5,h6,h7⟩:=h
 have hg:=ht.grown
 have ab:d≠m:=fun e=>by subst e;rw[hm] at h1;cases h1
 have n0:v0.ownBlock≠some m:=fun e=>by
  obtain⟨cs,fr,hc⟩:=bC h2 e
  rw[hm] at hc;cases hc
 have n1:v1.ownBlock≠some m:=fun e=>by
  obtain⟨cs,fr,hc⟩:=bC h5 e
  rw[hm] at hc;cases hc
 have hf:Gr.Free (.slice (some ⟨m,0,none⟩) 0 0) ds acc:=fun i dd l e1 e2 hl a ha hb=>by
  have ac:m=a.block:=Option.some.inj hb
  obtain⟨a2,e,_,hc⟩:=(h3.2 i dd l e1 e2).2 hl
  rw[ha] at e;cases e
  have:=hc 0 hl 0 _ rfl
  rw[if_pos rfl] at this
  have aa:(a.add (0*3)).block=m:=by rw[Rs.add_block];exact ac.symm
  obtain⟨q,hq⟩:=ex (a.add (0*3))
  rw[hq] at this aa
  unfold World.cell? at this
  rw[aa,hm] at this
  cases this
 exact⟨h0,by rw[<-h1];exact hg.block d (eH ⟨h0,h1,h2,h3,h4,h5,h6,h7⟩) (fun e=>ab (Option.some.inj e)),bj h2 hg (Or.inr n0),dr h3 hg hf,h4,bj h5 hg (Or.inr n1),h6,h7⟩
theorem rV {w w':World}{B d g n cap:Nat}{v0 v1 v2:Value}{ds:List Desc}{acc:List (List Fld)}{last:List Fld}{f:Fld}(h:DrO w B d v0 v1 v2 ds acc last)(ho:Rg.Own encF 3 w' B 168 (.slice (some ⟨g,0,none⟩) n cap) (last++[f]))(hg:w.grownBy w' v1.ownBlock)(hl:v1.ownBlock=some g\/w.heap.size<=g) :
  DrO (w'.setCell ⟨d,1,none⟩ (.slice (some ⟨g,0,none⟩) n cap)) B d v0 (.slice (some ⟨g,0,none⟩) n cap) v2 ds acc (last++[f]):=by
 have ad:=eH h
 obtain⟨h0,h1,h2,h3,h4,h5,h6,h7⟩:=h
 have ae:v1.ownBlock≠some d:=az h5 h1 neF
 have aa:w'.heap[d]?=some (.cells #[v0,v1,v2] 229 (0,0)):=(hg.block d ad (fun e=>ae e.symm)).trans h1
 have af:v0.ownBlock=none\/v0.ownBlock≠v1.ownBlock:=by
  cases e0:v0.ownBlock with
  | none=>exact Or.inl rfl
  | some b0 =>
   refine Or.inr fun e=>?_
   obtain⟨cs,fr,hc⟩:=bC h2 e0
   exact az h5 hc neSF e.symm
 have ab:Rg.Own encO 1 w' B 163 v0 ds:=bj h2 hg af
 have ag:=mN h3 hg h6
 have hs:=bD w' ⟨d,1,none⟩ (.slice (some ⟨g,0,none⟩) n cap)
 refine⟨h0,?_,bj ab hs (Or.inr (az ab aa neS)),dr ag hs h7,h4,bj ho hs (Or.inr (az ho aa neF)),?_,h7⟩
 ·simp[World.setCell,Array.getElem?_modify,aa]
 ·intro i dd l e1 e2 ac a ha hb
  have ah:g=a.block:=Option.some.inj hb
  have ai:=in_lt h3 i dd l e1 e2 ac a ha
  rcases hl with hl | hl
  ·exact h6 i dd l e1 e2 ac a ha (by rw[hl,ah])
  ·omega
theorem zF {w w':World}{B d g n cap nl cl:Nat}{A:Option Addr}{v0 v2:Value}{ds:List Desc}{acc:List (List Fld)}{last:List Fld}(h:DrO w B d v0 (.slice A nl cl) v2 ds acc last)(hn:last.length=nl)
  (ho:Rg.Own encO 1 w' B 163 (.slice (some ⟨g,0,none⟩) n cap) (ds++[(A,nl,cl)])) (hg:w.grownBy w' v0.ownBlock) (hl:v0.ownBlock=some g\/w.heap.size<=g) :
  DrO ((w'.setCell ⟨d,0,none⟩ (.slice (some ⟨g,0,none⟩) n cap)).setCell ⟨d,1,none⟩ (.slice none 0 0)) B d (.slice (some ⟨g,0,none⟩) n cap) (.slice none 0 0) v2 (ds++[(A,nl,cl)]) (acc++[last]) []:=by
 have am:=eH h
 obtain⟨h0,h1,h2,h3,h4,h5,h6,h7⟩:=h
 have ao:v0.ownBlock≠some d:=az h2 h1 neS
 have ai:w'.heap[d]?=some (.cells #[v0,.slice A nl cl,v2] 229 (0,0)):=(hg.block d am (fun e=>ao e.symm)).trans h1
 obtain⟨A2,c2,hv,ah,ae,_⟩:=Rg.au fitsF h5
 rw[hn] at hv ae
 cases hv
 have ap:∀ x∈ds++[(A,nl,cl)],x.2.1<=x.2.2:=fun x hx=>by
  rcases List.mem_append.1 hx with hx | hx
  ·exact h0 x hx
  ·rw[List.mem_singleton.1 hx];exact ae
 have hA:∀ a,A=some a->0<last.length->(∃ cs fr,w.heap[a.block]?=some (.cells cs 168 fr))/\a.block<w.heap.size:=fun a ha hl0=>by
  obtain⟨cs,fr,hc⟩:=bC (g:=a.block) h5 (by rw[ha];rfl)
  exact⟨⟨cs,fr,hc⟩,(Array.getElem?_eq_some_iff.1 hc).1⟩
 have ab:=mN h3 hg h4
 have ac:Rg.Row encF 3 w' A last:=bq ah hg (fun hl0 a ha e=>by
  obtain⟨⟨cs,fr,hc⟩,_⟩:=hA a ha hl0
  exact az h2 hc (fun e=>neSF e.symm) e)
 have aq:Gr.In encF 3 w' (ds++[(A,nl,cl)]) (acc++[last]):=by
  refine⟨by rw[List.length_append,List.length_append,ab.1];rfl,fun i dd l e1 e2=>?_⟩
  rcases aF e1 with⟨q1,q2⟩ | ⟨q1,q2⟩
  ·rcases aF e2 with⟨_,p2⟩ | ⟨p1,_⟩
   ·exact ab.2 i dd l q2 p2
   ·have:=ab.1;omega
  ·rcases aF e2 with⟨p1,_⟩ | ⟨_,p2⟩
   ·have:=ab.1;omega
   ·subst q2 p2;exact⟨hn.symm,ac⟩
 have aa:∀ b,Gr.Free (.slice (some ⟨b,0,none⟩) 0 0) ds acc->(∀ a,A=some a->0<last.length->b≠a.block)->Gr.Free (.slice (some ⟨b,0,none⟩) 0 0) (ds++[(A,nl,cl)]) (acc++[last]):=fun b hf hb i dd l e1 e2 hl0 a ha=>by
  rcases aF e1 with⟨q1,q2⟩ | ⟨q1,q2⟩
  ·rcases aF e2 with⟨_,p2⟩ | ⟨p1,_⟩
   ·exact hf i dd l q2 p2 hl0 a ha
   ·have:=ab.1;omega
  ·rcases aF e2 with⟨p1,_⟩ | ⟨_,p2⟩
   ·have:=ab.1;omega
   ·subst q2 p2;exact fun e=>hb a ha hl0 (Option.some.inj e)
 have af:=aa d h7 (fun a ha hl0 e=>by
  obtain⟨⟨cs,fr,hc⟩,_⟩:=hA a ha hl0
  rw[<-e,h1] at hc
  exact neF (Obj.cells.inj (Option.some.inj hc)).2.1)
 have ar:=aa g (fun i dd l e1 e2 hl0 a ha e=>by
  have aw:=in_lt h3 i dd l e1 e2 hl0 a ha
  have e3:g=a.block:=Option.some.inj e
  rcases hl with hl | hl
  ·exact h4 i dd l e1 e2 hl0 a ha (by rw[hl,e3])
  ·omega) (fun a ha hl0 e=>by
  obtain⟨⟨cs,fr,hc⟩,av⟩:=hA a ha hl0
  rcases hl with hl | hl
  ·rw[<-e] at hc
   exact az h2 hc (fun e=>neSF e.symm) hl
  ·omega)
 have aj:=bD w' ⟨d,0,none⟩ (.slice (some ⟨g,0,none⟩) n cap)
 have ad:(w'.setCell ⟨d,0,none⟩ (.slice (some ⟨g,0,none⟩) n cap)).heap[d]?=some (.cells #[.slice (some ⟨g,0,none⟩) n cap,.slice A nl cl,v2] 229 (0,0)):=by simp[World.setCell,Array.getElem?_modify,ai]
 have ak:=bj ho aj (Or.inr (az ho ai neS))
 have ag:=dr aq aj af
 have al:=bD (w'.setCell ⟨d,0,none⟩ (.slice (some ⟨g,0,none⟩) n cap)) ⟨d,1,none⟩ (.slice none 0 0)
 refine⟨ap,?_,bj ak al (Or.inr (az ak ad neS)),dr ag al af,?_,Rg.an _ _ _,fun i dd l e1 e2 hl0 a ha e=>(by cases e),af⟩
 ·have e:∀ (x:World),x.heap[d]?=some (.cells #[.slice (some ⟨g,0,none⟩) n cap,.slice A nl cl,v2] 229 (0,0))->(x.setCell ⟨d,1,none⟩ (.slice none 0 0)).heap[d]?=some (.cells #[.slice (some ⟨g,0,none⟩) n cap,.slice none 0 0,v2] 229 (0,0)):=fun x hx=>by simp[World.setCell,Array.getElem?_modify,hx]
  exact e _ ad
 ·exact fun i dd l e1 e2 hl0 a ha e=>ar i dd l e1 e2 hl0 a ha e
end Sz
section
open Go.RowKit Go.Maps Sz
attribute [local go_sem ↓] Go.wp_at_zero Go.wp_at_succ
section
variable {α:Type} {P:Program} {enc:α->List Value} {K:Nat} {ST T:TypeId} {w:World}
theorem Rg.fq (hf:Rg.Fits enc K)(hT:Rg.SliceT P enc K ST T){ops:Array Oper}{o:Oper}{a:Act}{G:Act->World->Prop}{Q:Exit->Act->World->Prop}{E:Prop}(hgd:o.guard=none)(sl x:Operand)
  (ho:o.op=.call { callee:=.builtin .append,args:=#[sl,x],argTypes:=#[ST,ST] })
  (B:Nat) (v:Value) (l m:List α) (hs:a.eval sl=v) (hown:Rg.Own enc K w B T v l) (ad:Addr) (c:Nat) (hx:a.eval x=.slice (some ad) m.length c)
  (hnews:∀ j u,(Rg.flat enc m)[j]?=some u->w.cell? (ad.add j)=some u) (hm:0<m.length) (hsz:l.length+m.length<=1000000) (hB:B<=w.heap.size)
  (h:∀ g cap w',Rg.Own enc K w' B T (.slice (some ⟨g,0,none⟩) (l.length+m.length) cap) (l++m)->w.grownBy w' v.ownBlock->(v.ownBlock=some g\/g=w.heap.size)->G (a.put o.dst (.slice (some ⟨g,0,none⟩) (l.length+m.length) cap)) w') :
  if Region.wanted o (yielded ops a.tmps)=true then Oper.wp P o a w G Q else E:=by
 obtain⟨i,z,hi,aa,ab,ac,hb⟩:=hT.info
 refine step_append_lies w hgd sl x ST ho B T i z K i.bytes hT.under hi aa ac rfl ab hT.pos v l.length (Rg.flat enc l) hs hown ad m.length c (Rg.flat enc m) hx (Rg.aV hf m) hnews (Rg.bd hf m) hm (by unfold maxLen;omega) (by
  have:(l.length+m.length)*i.bytes<=1000000*1000:=Nat.mul_le_mul hsz hb
  omega) hB _ rfl ?_
 intro g cap w' h1 h2 h3 _
 refine h g cap w' ?_ h2 h3
 unfold Rg.Own
 rw[Rg.bG,List.length_append]
 exact h1
end
theorem Sz.lR {w u W:World}{B d:Nat}{v0 v1 v2:Value}{ds:List Desc}{acc:List (List Fld)}{last:List Fld}{row:Option Nat}(h:DrO w B d v0 v1 v2 ds acc last)(hb:Below w.heap.size w u)(hg:u.grownBy W row)(hne:row≠some d) :
  W.cell? ⟨d,0,none⟩=some v0/\W.cell? ⟨d,1,none⟩=some v1/\W.cell? ⟨d,2,none⟩=some v2/\W.frozen? ⟨d,0,none⟩=false/\W.frozen? ⟨d,1,none⟩=false/\W.frozen? ⟨d,2,none⟩=false:=by
 have aa:=eH h
 have ab:W.heap[d]?=some (.cells #[v0,v1,v2] 229 (0,0)):=(hg.block d (Nat.lt_of_lt_of_le aa hb.size) (fun e=>hne e.symm)).trans ((hb.block d aa).trans h.2.1)
 refine⟨?_,?_,?_,?_,?_,?_⟩ <;> simp[World.cell?,World.frozen?,ab]
theorem Sz.jH {α:Type}{enc:α->List Value}{K:Nat}{w u W:World}{B:Nat}{T:TypeId}{v:Value}{l:List α}(ho:Rg.Own enc K w B T v l)(hB:B<=w.heap.size)(hb:Below w.heap.size w u)(hg:u.grownBy W v.ownBlock):Below B w W:=by
 exact (hb.mono hB).trans (Rg.ak (Rg.own_below ho hb) (Nat.le_trans hB hb.size) hg)
theorem Sz.grown_of {w u W:World}{row:Option Nat}(hb:Below w.heap.size w u)(hg:u.grownBy W row):w.grownBy W row:=by
 have aa:=hb
 have ab:=hg
 obtain⟨b1,b2,b3,b4,b5⟩:=aa
 obtain⟨g1,g2,g3,g4,g5⟩:=ab
 refine⟨?_,?_,?_,Nat.le_trans b4 g4,fun k hk hne=>(g5 k (Nat.lt_of_lt_of_le hk b4) hne).trans (b5 k hk)⟩
 ·first | exact g1.trans b1 | exact b1.trans g1
 ·first | exact g2.trans b2 | exact b2.trans g2
 ·first | exact g3.trans b3 | exact b3.trans g3
def Sz.EndRet (w:World) (B d:Nat) (v2:Value) (acc:List (List Fld)) (last:List Fld) (e:Ending) (w':World):Prop :=
 e=.returned (.tuple #[])/\Keeps B d w w'/\w.heap.size<=w'.heap.size/\∃ u0 u1 ds,DrO w' B d u0 u1 v2 ds (if last=[] then acc else acc++[last]) []
theorem df {w:World}{B d:Nat}{v0 v1 v2:Value}{ds:List Desc}{acc:List (List Fld)}{last:List Fld}(h:DrO w B d v0 v1 v2 ds acc last)(hsz:ds.length+1<=1000000)(hB:B<=w.heap.size) :
  Calls Tryz.prog 176 #[.pointer (some ⟨d,0,none⟩)] w (Sz.EndRet w B d v2 acc last):=by
 obtain⟨A,c,hv,ad,_,_⟩:=Rg.au fitsF h.2.2.2.2.2.1
 obtain⟨n,hn⟩:=ex last.length
 rw[hn] at hv
 subst hv
 have H:=zh h
 have HN:=zh hn
 have ak:=zh hsz
 have af:=zh hB
 obtain⟨d0,d1,d2,f0,f1,f2⟩:=aI h
 clear h hn hsz ad hB
 by_cases h0:n=0
 ·subst h0
  have hl:Hid (last=[]):=List.length_eq_zero_iff.1 HN.out
  go_enter Tryz.func176,Tryz.ntmps176
  go_wp2_with fail
  exact bodyPost_ret (v:=.tuple #[]) (by simp[results,Tryz.results176,go_sem]) rfl ⟨rfl,a8 (Below.refl _ _),Nat.le_refl _,v0,_,ds,by rw[if_pos hl.out,<-hl.out];exact H.out⟩
 ·have al:(0:Int)<(n:Int):=by omega
  have hl:Hid (last≠[]):=fun e=>h0 (by rw[<-HN.out,e];rfl)
  clear h0
  go_enter Tryz.func176,Tryz.ntmps176
  go_wp2_with fail
  have ag:Below w.heap.size w (w.alloc (.cells #[.slice A n c] 163)):=(Below.refl _ _).alloc (Nat.le_refl _) _
  have a0:=(aI (aN H.out ag)).1
  clear ag
  have am:Hid (v0.ownBlock≠some d):=az H.out.2.2.1 H.out.2.1 neS
  go_region_law (refine Rg.fq fitsO sliceE (by rfl) (.tmp 12) (.tmp 17) (by rfl) B v0 ds [(A,n,c)] (by rfl) (Rg.own_below H.out.2.2.1 ((Below.refl _ _).drew.alloc (Nat.le_refl _) _)) _ _ (by rfl) (Rg.aw _ _ [(A,n,c)] _ (by rfl)) (Nat.zero_lt_succ _) ak.out (Nat.le_trans af.out (by simp)) ?_;intro g cap W5 ai ae aj;have an:=zh ai;have aa:=zh ae;have ao:=zh aj;obtain⟨e0,e1,e2,k0,k1,k2⟩:=lR H.out ((Below.refl _ _).drew.alloc (Nat.le_refl _) _) ae am.out;clear ai ae aj)
  all_goals (
   have ah:=jH H.out.2.2.1 af.out ((Below.refl _ _).drew.alloc (Nat.le_refl _) _) aa.out
   have ab:Hid (w.heap.size<=W5.heap.size):=Nat.le_trans (by simp) aa.out.size
   have ac:=zh ah
   have HD:=zh (zF (w:=w) (g:=g) (n:=ds.length+1) (cap:=cap) H.out HN.out an.out (grown_of ((Below.refl _ _).drew.alloc (Nat.le_refl _) _) aa.out) (ao.out.imp id (fun h=>by rw[h];simp)))
   clear ah
   go_wp2_with fail
   exact bodyPost_ret (v:=.tuple #[]) (by simp[results,Tryz.results176,go_sem]) rfl ⟨rfl,dL (dL (a8 ac.out) _) _,by simpa using ab.out,_,_,_,by rw[if_neg hl.out];exact HD.out⟩)
end
section
open Go.RowKit Go.Maps Sz
attribute [local go_sem ↓] Go.wp_at_zero Go.wp_at_succ
def Sz.AddRet (w:World) (B d:Nat) (v0:Value) (ds:List Desc) (acc:List (List Fld)) (last:List Fld) (f:Fld) (e:Ending) (w':World):Prop :=
 Keeps B d w w'/\w.heap.size<=w'.heap.size/\if (last.map Fld.key).contains f.key then e=panAt f.line 6 else
  e=.returned (.tuple #[])/\∃ u1 m,B<=m/\DrO w' B d v0 u1 (.map (some m)) ds acc (last++[f])/\KSet w' m ((last++[f]).map Fld.key)
def Sz.FB (b:Nat) (f:Fld) (u:World):Prop:=u.cell? ⟨b,0,none⟩=some (.string ⟨f.key.toArray⟩)/\u.cell? ⟨b,1,none⟩=some (.string ⟨f.val.toArray⟩)/\u.cell? ⟨b,2,none⟩=some (.int .i64 f.line)/\u.heap[b]?=some (.cells #[.string ⟨f.key.toArray⟩,.string ⟨f.val.toArray⟩,.int .i64 f.line] 168 (0,0))
theorem Sz.dZ {b:Nat}{f:Fld}{u:World}(h:u.heap[b]?=some (.cells #[.string ⟨f.key.toArray⟩,.string ⟨f.val.toArray⟩,.int .i64 f.line] 168 (0,0))):FB b f u:=by
 refine⟨?_,?_,?_,h⟩ <;> simp[World.cell?,h]
theorem Sz.iA {u W:World}{B m:Nat}(hg:u.grownBy W (some m))(hm:B<=m)(hB:B<=u.heap.size):Below B u W:=by
 obtain⟨g1,g2,g3,g4,g5⟩:=hg
 refine⟨?_,?_,?_,g4,fun k hk=>g5 k (Nat.lt_of_lt_of_le hk hB) (fun e=>by have:=Option.some.inj e;omega)⟩
 ·first | exact g1 | exact g1.symm
 ·first | exact g2 | exact g2.symm
 ·first | exact g3 | exact g3.symm
theorem Sz.o7 {w W:World}{B d m:Nat}{v0 v1 v2:Value}{ds:List Desc}{acc:List (List Fld)}{last:List Fld}{ks:List (List UInt8)}(h:DrO w B d v0 v1 v2 ds acc last)(hk:KSet w m ks)(hg:w.grownBy W v1.ownBlock)(x:Value):KSet (W.setCell ⟨d,1,none⟩ x) m ks:=by
 have ab:=hk
 obtain⟨n,D,⟨es,clock,hm,_⟩,_⟩:=hk
 have aa:m<w.heap.size:=(Array.getElem?_eq_some_iff.1 hm).1
 have ac:d≠m:=fun e=>by
  have h1:=h.2.1
  rw[e,hm] at h1;cases h1
 have n1:v1.ownBlock≠some m:=fun e=>by
  obtain⟨cs,fr,hc⟩:=bC h.2.2.2.2.2.1 e
  rw[hm] at hc;cases hc
 exact eZ ab (((bD W ⟨d,1,none⟩ x).block m (Nat.lt_of_lt_of_le aa hg.size) (fun e=>ac (Option.some.inj e).symm)).trans (hg.block m aa (fun e=>n1 e.symm)))
theorem gN {w:World}{B d:Nat}{v0 v1 v2:Value}{ds:List Desc}{acc:List (List Fld)}{last:List Fld}(f:Fld)(h:DrO w B d v0 v1 v2 ds acc last)(hsz:last.length+1<=1000000)(hk:f.key.length<=1000000)(hB:B<=w.heap.size)
  (hl:last≠[]) (hm:∃ m,v2=.map (some m)/\B<=m/\KSet w m (last.map Fld.key)) :
  Calls Tryz.prog 177 #[.pointer (some ⟨d,0,none⟩),.agg #[.string ⟨f.key.toArray⟩,.string ⟨f.val.toArray⟩,.int .i64 f.line]] w (Sz.AddRet w B d v0 ds acc last f):=by
 obtain⟨W1,ak⟩:=ex (w.alloc (.cells #[.string ⟨f.key.toArray⟩,.string ⟨f.val.toArray⟩,.int .i64 f.line] 168))
 have ag:Hid (Below w.heap.size w W1):=aa ak
 have aB:Hid (FB w.heap.size f W1):=dZ (by rw[<-ak];exact heap_alloc_new w _)
 have aS:W1.heap.size=w.heap.size+1:=by rw[<-ak];simp
 have aC:Hid (w.heap.size<W1.heap.size):=by show _<_;omega
 have H1:=zh (aN h ag.out)
 have ah:Hid (B<=w.heap.size/\d<w.heap.size):=⟨hB,eH h⟩
 have HK:=zh hk
 have aD:=zh hsz
 obtain⟨A,c,hv,ar,_,_⟩:=Rg.au fitsF h.2.2.2.2.2.1
 obtain⟨n,hn⟩:=ex last.length
 rw[hn] at hv
 subst hv
 have HN:=zh hn
 obtain⟨d0,d1,d2,f0,f1,f2⟩:=aI H1.out
 obtain⟨m,rfl,ae,av⟩:=hm
 have aF:m<w.heap.size:=by
  obtain⟨_,_,⟨_,_,hh,_⟩,_⟩:=av
  exact (Array.getElem?_eq_some_iff.1 hh).1
 have HM:Hid (B<=m/\m<W1.heap.size/\w.heap.size≠m):=⟨ae,by omega,by omega⟩
 have ai:Hid (KSet W1 m (last.map Fld.key)):=bn av ag.out aF
 have aT:((n:Int)==0)=false:=by
  have:last.length≠0:=fun e=>hl (List.length_eq_zero_iff.1 e)
  rw[hn] at this
  simp;omega
 clear h hn hsz hk hB ar hl ae av aS aF
 go_enter Tryz.func177,Tryz.ntmps177
 go_wp2_with fail
 clear ak aT
 have aj:Hid (Keeps B d w W1/\w.heap.size<=W1.heap.size):=⟨a8 <| ag.out.mono ah.out.1,ag.out.size⟩
 have HX:=H1
 have aG:=aB
 have aH:=aC
 clear H1 aB aC
 generalize W1=WX at *
 obtain⟨b0,b1,b2,_⟩:=aG.out
 obtain⟨tw,ay⟩:=ex ((last.map Fld.key).contains f.key)
 have aJ:=zh ay
 have l0:=eY (bn ai.out (Below.refl WX.heap.size WX).drew (HM.out.2.1)) HK.out
 have l1:=eY (w:=(WX.alloc (.cells #[] 249)).drew) (bn ai.out ((Below.refl WX.heap.size WX).alloc (Nat.le_refl _) (.cells #[] 249)).drew (HM.out.2.1)) HK.out
 rw[ay] at l0 l1
 clear ay
 go_region_held3 (fun w'=>w'.cell? ⟨d,2,none⟩=some (.map (some m))/\w'.cell? ⟨w.heap.size,0,none⟩=some (.string ⟨f.key.toArray⟩)) (go_keep) (fail)
 clear l0 l1
 all_goals (
  have ad:Hid (Below WX.heap.size WX ((WX.alloc (.cells #[] 249)).drew)):=((Below.refl WX.heap.size WX).alloc (Nat.le_refl _) (.cells #[] 249)).drew
  generalize (WX.alloc (.cells #[] 249)).drew=W3 at *
  have H3:=zh (aN HX.out ad.out)
  have aK:Hid (FB w.heap.size f W3):=dZ ((ad.out.block _ aH.out).trans aG.out.2.2.2)
  have aU:Hid (KSet W3 m (last.map Fld.key)):=bn ai.out ad.out (HM.out.2.1)
  have ab:Hid (Keeps B d w W3/\w.heap.size<=W3.heap.size):=⟨aE aj.out.1 <| a8 (ad.out.mono (Nat.le_trans ah.out.1 aj.out.2)),Nat.le_trans aj.out.2 ad.out.size⟩
  clear d0 d1 d2 f0 f1 f2 b0 b1 b2 aj ai
  obtain⟨d0,d1,d2,f0,f1,f2⟩:=aI H3.out
  obtain⟨b0,b1,b2,_⟩:=aK.out
  cases tw
  case true =>
   go_wp2_with fail
   refine (ao _).mono ?_
   rintro _ z ⟨rfl,rfl⟩
   go_wp2_with fail
   exact⟨rfl,by show AddRet w B d v0 ds acc last f _ _;exact⟨ab.out.1,ab.out.2,by rw[if_pos aJ.out]⟩⟩
  case false =>
   go_wp2_with fail
   refine (ax _).mono ?_
   rintro _ z ⟨rfl,rfl⟩
   have ac:KSet W3.drew m (last.map Fld.key):=eZ aU.out rfl
   obtain⟨W5,a2,aP,af⟩:=o6 ac HK.out (by rw[List.length_map];have:=aD.out;omega)
   have H5:=zh (rU (aN H3.out (Below.refl _ _).drew) ac af)
   have aV:=zh aP
   have ae:w.heap.size≠m:=HM.out.2.2
   have al:Hid (FB w.heap.size f W5):=dZ ((af.grown.block w.heap.size (by have:=aH.out;have:=ad.out.size;show _<W3.heap.size;omega) (fun e=>ae (Option.some.inj e))).trans aK.out.2.2.2)
   have am:Hid (Keeps B d w W5/\w.heap.size<=W5.heap.size):=⟨aE ab.out.1 <| a8 <| (Below.refl _ W3).drew.trans (iA af.grown HM.out.1 (Nat.le_trans ah.out.1 ab.out.2)),Nat.le_trans ab.out.2 af.grown.size⟩
   obtain⟨e0,e1,e2,k0,k1,k2⟩:=aI H5.out
   obtain⟨g0,g1,g2,_⟩:=al.out
   clear ac aP af ae
   go_wp2_with fail
   go_region_held3 (fun w'=>w'.cell? ⟨d,2,none⟩=some (.map (some m))/\w'.cell? ⟨w.heap.size,0,none⟩=some (.string ⟨f.key.toArray⟩)) (go_keep) (fail)
   all_goals (
    clear d0 d1 d2 f0 f1 f2 b0 b1 b2 a2
    have aL:Hid (B<=W5.heap.size):=Nat.le_trans ah.out.1 am.out.2
    have an:Below W5.heap.size W5 (W5.alloc (.cells #[.string ⟨f.key.toArray⟩,.string ⟨f.val.toArray⟩,.int .i64 f.line] 168)):=(Below.refl _ _).alloc (Nat.le_refl _) _
    have a1:=(aI (aN H5.out an)).2.1
    have aW:Hid ((Value.slice A n c).ownBlock≠some d):=az H5.out.2.2.2.2.2.1 H5.out.2.1 neF
    have aM:w.heap.size<W5.heap.size:=(Array.getElem?_eq_some_iff.1 al.out.2.2.2).1
    have aX:=dZ ((an.block _ aM).trans al.out.2.2.2)
    obtain⟨q0,q1,q2,_⟩:=aX
    clear an aM
    go_wp2_with fail
    go_region_law (refine Rg.fq fitsF sliceF (by rfl) (.tmp 42) (.tmp 44) (by rfl) B (.slice A n c) last [f] (by rfl) (Rg.own_below H5.out.2.2.2.2.2.1 ((Below.refl _ _).drew.alloc (Nat.le_refl _) _)) _ _ (by rfl) (Rg.aw _ _ [f] _ (by rfl)) (Nat.zero_lt_succ _) aD.out (Nat.le_trans aL.out (by simp)) ?_;intro g cap W6 aQ aA aR;have aY:=zh aQ;have aO:=zh aA;have aZ:=zh aR;obtain⟨x0,x1,x2,y0,y1,y2⟩:=lR H5.out ((Below.refl _ _).drew.alloc (Nat.le_refl _) _) aA aW.out;clear aQ aA aR)
    all_goals (
     have ap:Hid (W5.grownBy W6 (Value.slice A n c).ownBlock):=grown_of ((Below.refl _ _).drew.alloc (Nat.le_refl _) _) aO.out
     have aq:=zh (jH H5.out.2.2.2.2.2.1 aL.out ((Below.refl _ _).drew.alloc (Nat.le_refl _) _) aO.out)
     have HD:=zh (rV H5.out aY.out ap.out (aZ.out.imp id (fun h=>by rw[h];simp)))
     have a0:=zh (o7 H5.out aV.out ap.out (.slice (some ⟨g,0,none⟩) (last.length+[f].length) cap))
     go_wp2_with fail
     exact bodyPost_ret (v:=.tuple #[]) (by simp[results,Tryz.results177,go_sem]) rfl ⟨dL (aE am.out.1 (a8 aq.out)) _,Nat.le_trans am.out.2 (by simpa using ap.out.size),by rw[if_neg (by rw[aJ.out];decide)];exact⟨rfl,_,m,HM.out.1,HD.out,by rw[List.map_append];exact a0.out⟩⟩)))
theorem fM {w:World}{B d:Nat}{v0 v1 v2:Value}{ds:List Desc}{acc:List (List Fld)}{last:List Fld}(f:Fld)(h:DrO w B d v0 v1 v2 ds acc last)(hsz:last.length+1<=1000000)(hk:f.key.length<=1000000)(hB:B<=w.heap.size)
  (hl:last=[]) :
  Calls Tryz.prog 177 #[.pointer (some ⟨d,0,none⟩),.agg #[.string ⟨f.key.toArray⟩,.string ⟨f.val.toArray⟩,.int .i64 f.line]] w (Sz.AddRet w B d v0 ds acc last f):=by
 obtain⟨W1,aq⟩:=ex (w.alloc (.cells #[.string ⟨f.key.toArray⟩,.string ⟨f.val.toArray⟩,.int .i64 f.line] 168))
 have ar:Hid (Below w.heap.size w W1):=aa aq
 have aJ:Hid (FB w.heap.size f W1):=dZ (by rw[<-aq];exact heap_alloc_new w _)
 have a4:W1.heap.size=w.heap.size+1:=by rw[<-aq];simp
 have al:Hid (w.heap.size<W1.heap.size):=by show _<_;omega
 have H1:=zh (aN h ar.out)
 have ad:Hid (B<=w.heap.size/\d<w.heap.size):=⟨hB,eH h⟩
 have HK:=zh hk
 have aK:=zh hsz
 obtain⟨A,c,hv,aF,_,_⟩:=Rg.au fitsF h.2.2.2.2.2.1
 obtain⟨n,hn⟩:=ex last.length
 rw[hn] at hv
 subst hv
 have HN:=zh hn
 obtain⟨d0,d1,d2,f0,f1,f2⟩:=aI H1.out
 have aL:=zh (xN (aN H1.out ((Below.refl W1.heap.size W1).alloc (Nat.le_refl _) (.map #[] 0))) (.map (some W1.heap.size)))
 have a5:=bD (W1.alloc (.map #[] 0)) ⟨d,2,none⟩ (.map (some W1.heap.size))
 have a6:d<W1.heap.size:=by have:=ad.out.2;omega
 have av:∀ k,k≠d->((W1.alloc (.map #[] 0)).setCell ⟨d,2,none⟩ (.map (some W1.heap.size))).heap[k]?=(W1.alloc (.map #[] 0)).heap[k]?:=fun k hk=>by
  exact Below.heap_setCell _ _ _ _ (fun e=>hk (by simp[e]))
 have ag:KSet ((W1.alloc (.map #[] 0)).setCell ⟨d,2,none⟩ (.map (some W1.heap.size))) W1.heap.size []:=eZ (vl W1) (av _ (by omega))
 have aM:FB w.heap.size f ((W1.alloc (.map #[] 0)).setCell ⟨d,2,none⟩ (.map (some W1.heap.size))):=dZ ((av _ (by have:=ad.out.2;omega)).trans ((((Below.refl W1.heap.size W1).alloc (Nat.le_refl _) (.map #[] 0)).block _ al.out).trans aJ.out.2.2.2))
 have aO:((W1.alloc (.map #[] 0)).setCell ⟨d,2,none⟩ (.map (some W1.heap.size))).heap.size=W1.heap.size+1:=by simp[World.setCell]
 have aP:Keeps B d w ((W1.alloc (.map #[] 0)).setCell ⟨d,2,none⟩ (.map (some W1.heap.size))):=dL (a8 ((ar.out.mono ad.out.1).alloc (by have:=ad.out;omega) _)) _
 have aQ:Hid (B<=W1.heap.size/\w.heap.size≠W1.heap.size):=⟨by have:=ad.out;omega,by omega⟩
 have ah:=zh ag
 have ai:=zh aM
 have aj:=zh aP
 have am:=zh aO
 subst hl
 obtain rfl:n=0:=by rw[<-hn];rfl
 clear h hn hsz hk hB aF a4 a5 a6 av ag aM aO aP
 have a7:(Instr.makeMap 227 none).run Tryz.prog W1=.ok (.map (some W1.heap.size)) (W1.alloc (.map #[] 0)):=rfl
 obtain⟨_,_,m2,_,_,m5⟩:=aI (aN H1.out ((Below.refl W1.heap.size W1).alloc (Nat.le_refl _) (.map #[] 0)))
 go_enter Tryz.func177,Tryz.ntmps177
 go_wp2_with fail
 clear aq a7 m2 m5 d0 d1 d2 f0 f1 f2
 obtain⟨m,hm⟩:=ex W1.heap.size
 obtain⟨WX,ac⟩:=ex ((W1.alloc (.map #[] 0)).setCell ⟨d,2,none⟩ (.map (some W1.heap.size)))
 have HX:Hid (DrO WX B d v0 (.slice A 0 c) (.map (some m)) ds acc []):=by show DrO _ _ _ _ _ _ _ _ _;rw[<-ac,<-hm];exact aL.out
 have an:Hid (KSet WX m (([]:List Fld).map Fld.key)):=by show KSet _ _ _;rw[<-ac,<-hm];exact ah.out
 have aR:Hid (FB w.heap.size f WX):=by show FB _ _ _;rw[<-ac];exact ai.out
 have ap:Hid (Keeps B d w WX/\w.heap.size<=WX.heap.size):=by
  have h1:=al.out
  have h2:=am.out
  rw[ac] at h2
  exact⟨by rw[<-ac];exact aj.out,by omega⟩
 have aS:Hid (w.heap.size<WX.heap.size):=by
  have h1:=al.out
  have h2:=am.out
  rw[ac] at h2
  show _<_
  omega
 have HM:Hid (B<=m/\m<WX.heap.size/\w.heap.size≠m):=by
  have h2:=am.out
  rw[ac] at h2
  have h3:=aQ.out
  rw[hm] at h2 h3
  exact⟨h3.1,by omega,h3.2⟩
 rw[ac]
 clear aL aQ ah ai aj am H1 aJ ar al
 have aT:Hid (([]:List Fld).length=0):=rfl
 clear ac hm HN
 have HN:=aT
 clear aT
 obtain⟨d0,d1,d2,f0,f1,f2⟩:=aI HX.out
 obtain⟨b0,b1,b2,_⟩:=aR.out
 obtain⟨tw,aG⟩:=ex ((([]:List Fld).map Fld.key).contains f.key)
 have aU:=zh aG
 have l0:=eY (bn an.out (Below.refl WX.heap.size WX).drew (HM.out.2.1)) HK.out
 have l1:=eY (w:=(WX.alloc (.cells #[] 249)).drew) (bn an.out ((Below.refl WX.heap.size WX).alloc (Nat.le_refl _) (.cells #[] 249)).drew (HM.out.2.1)) HK.out
 rw[aG] at l0 l1
 clear aG
 go_region_held3 (fun w'=>w'.cell? ⟨d,2,none⟩=some (.map (some m))/\w'.cell? ⟨w.heap.size,0,none⟩=some (.string ⟨f.key.toArray⟩)) (go_keep) (fail)
 clear l0 l1
 all_goals (
  have af:Hid (Below WX.heap.size WX ((WX.alloc (.cells #[] 249)).drew)):=((Below.refl WX.heap.size WX).alloc (Nat.le_refl _) (.cells #[] 249)).drew
  generalize (WX.alloc (.cells #[] 249)).drew=W3 at *
  have H3:=zh (aN HX.out af.out)
  have aV:Hid (FB w.heap.size f W3):=dZ ((af.out.block _ aS.out).trans aR.out.2.2.2)
  have a9:Hid (KSet W3 m (([]:List Fld).map Fld.key)):=bn an.out af.out (HM.out.2.1)
  have ab:Hid (Keeps B d w W3/\w.heap.size<=W3.heap.size):=⟨aE ap.out.1 <| a8 (af.out.mono (Nat.le_trans ad.out.1 ap.out.2)),Nat.le_trans ap.out.2 af.out.size⟩
  clear d0 d1 d2 f0 f1 f2 b0 b1 b2 ap an
  obtain⟨d0,d1,d2,f0,f1,f2⟩:=aI H3.out
  obtain⟨b0,b1,b2,_⟩:=aV.out
  cases tw
  case true =>
   go_wp2_with fail
   refine (ao _).mono ?_
   rintro _ z ⟨rfl,rfl⟩
   go_wp2_with fail
   exact⟨rfl,by show AddRet w B d v0 ds acc ([]:List Fld) f _ _;exact⟨ab.out.1,ab.out.2,by rw[if_pos aU.out]⟩⟩
  case false =>
   go_wp2_with fail
   refine (ax _).mono ?_
   rintro _ z ⟨rfl,rfl⟩
   have ae:KSet W3.drew m (([]:List Fld).map Fld.key):=eZ a9.out rfl
   obtain⟨W5,bg,a0,ak⟩:=o6 ae HK.out (by rw[List.length_map];have:=aK.out;omega)
   have H5:=zh (rU (aN H3.out (Below.refl _ _).drew) ae ak)
   have ba:=zh a0
   have aW:w.heap.size≠m:=HM.out.2.2
   have ay:Hid (FB w.heap.size f W5):=dZ ((ak.grown.block w.heap.size (by have:=aS.out;have:=af.out.size;show _<W3.heap.size;omega) (fun e=>aW (Option.some.inj e))).trans aV.out.2.2.2)
   have aA:Hid (Keeps B d w W5/\w.heap.size<=W5.heap.size):=⟨aE ab.out.1 <| a8 <| (Below.refl _ W3).drew.trans (iA ak.grown HM.out.1 (Nat.le_trans ad.out.1 ab.out.2)),Nat.le_trans ab.out.2 ak.grown.size⟩
   obtain⟨e0,e1,e2,k0,k1,k2⟩:=aI H5.out
   obtain⟨g0,g1,g2,_⟩:=ay.out
   clear ae a0 ak aW
   go_wp2_with fail
   go_region_held3 (fun w'=>w'.cell? ⟨d,2,none⟩=some (.map (some m))/\w'.cell? ⟨w.heap.size,0,none⟩=some (.string ⟨f.key.toArray⟩)) (go_keep) (fail)
   all_goals (
    clear d0 d1 d2 f0 f1 f2 b0 b1 b2 bg
    have aX:Hid (B<=W5.heap.size):=Nat.le_trans ad.out.1 aA.out.2
    have aB:Below W5.heap.size W5 (W5.alloc (.cells #[.string ⟨f.key.toArray⟩,.string ⟨f.val.toArray⟩,.int .i64 f.line] 168)):=(Below.refl _ _).alloc (Nat.le_refl _) _
    have a1:=(aI (aN H5.out aB)).2.1
    have bb:Hid ((Value.slice A 0 c).ownBlock≠some d):=az H5.out.2.2.2.2.2.1 H5.out.2.1 neF
    have aY:w.heap.size<W5.heap.size:=(Array.getElem?_eq_some_iff.1 ay.out.2.2.2).1
    have bc:=dZ ((aB.block _ aY).trans ay.out.2.2.2)
    obtain⟨q0,q1,q2,_⟩:=bc
    clear aB aY
    go_wp2_with fail
    go_region_law (refine Rg.fq fitsF sliceF (by rfl) (.tmp 42) (.tmp 44) (by rfl) B (.slice A 0 c) ([]:List Fld) [f] (by rfl) (Rg.own_below H5.out.2.2.2.2.2.1 ((Below.refl _ _).drew.alloc (Nat.le_refl _) _)) _ _ (by rfl) (Rg.aw _ _ [f] _ (by rfl)) (Nat.zero_lt_succ _) aK.out (Nat.le_trans aX.out (by simp)) ?_;intro g cap W6 a2 aH a3;have bd:=zh a2;have aZ:=zh aH;have be:=zh a3;obtain⟨x0,x1,x2,y0,y1,y2⟩:=lR H5.out ((Below.refl _ _).drew.alloc (Nat.le_refl _) _) aH bb.out;clear a2 aH a3)
    all_goals (
     have aC:Hid (W5.grownBy W6 (Value.slice A 0 c).ownBlock):=grown_of ((Below.refl _ _).drew.alloc (Nat.le_refl _) _) aZ.out
     have aD:=zh (jH H5.out.2.2.2.2.2.1 aX.out ((Below.refl _ _).drew.alloc (Nat.le_refl _) _) aZ.out)
     have HD:=zh (rV H5.out bd.out aC.out (be.out.imp id (fun h=>by rw[h];simp)))
     have bf:=zh (o7 H5.out ba.out aC.out (.slice (some ⟨g,0,none⟩) (([]:List Fld).length+[f].length) cap))
     go_wp2_with fail
     exact bodyPost_ret (v:=.tuple #[]) (by simp[results,Tryz.results177,go_sem]) rfl ⟨dL (aE aA.out.1 (a8 aD.out)) _,Nat.le_trans aA.out.2 (by simpa using aC.out.size),by rw[if_neg (by rw[aU.out];decide)];exact⟨rfl,_,m,HM.out.1,HD.out,by rw[List.map_append];exact bf.out⟩⟩)))
end
namespace Sz
open Go.RowKit Go.Maps
theorem tr (s:List UInt8):Lib.hasSuffix s [10]=(s.getLast? == some 10):=by
 unfold Lib.hasSuffix
 rcases List.eq_nil_or_concat s with rfl | ⟨t,c,rfl⟩
 ·rfl
 ·unfold List.isSuffixOf
  rw[List.concat_eq_append,List.reverse_append]
  show (10==c&&true)=_
  rw[Bool.and_true,List.getLast?_concat]
  show (10==c)=(c==10)
  rw[Bool.eq_iff_iff,beq_iff_eq,beq_iff_eq];exact eq_comm
theorem kI {B d:Nat}{w w':World}(h:Keeps B d w w'){a:Addr}(h1:a.block<B)(h2:a.block≠d):w'.cell? a=w.cell? a:=by
 unfold World.cell?
 rw[h.2 _ h1 h2]
theorem gO {w:World}{B d:Nat}{v0 v1 v2:Value}{ds:List Desc}{acc:List (List Fld)}{last:List Fld}(h:DrO w B d v0 v1 v2 ds acc last)(h0:∀ x,v0≠.string x)(h1:∀ x,v1≠.string x)(h2:∀ x,v2≠.string x)
  {a:Addr} {x:ByteArray} (hc:w.cell? a=some (.string x)):a.block≠d:=fun e=>by
 have hb:=h.2.1
 unfold World.cell? at hc
 rw[e,hb] at hc
 dsimp only at hc
 split at hc
 ·cases hc
 ·match h3:a.off with
  | 0=>rw[h3] at hc;exact h0 x (Option.some.inj hc)
  | 1=>rw[h3] at hc;exact h1 x (Option.some.inj hc)
  | 2=>rw[h3] at hc;exact h2 x (Option.some.inj hc)
  | k+3=>rw[h3] at hc;simp at hc
end Sz
end Go.Proofs.YtgnaiidgjmicaaaGreatDoor
