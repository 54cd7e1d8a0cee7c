/- Part 20 of what the laws lean on. -/
import Derived.Test.YtgnaiidgjmicaaaGreatDoorM19
set_option maxRecDepth 100000
set_option maxHeartbeats 3200000
namespace Go.Proofs.YtgnaiidgjmicaaaGreatDoor
section
open Go.RowKit
attribute [local go_sem ↓] Go.wp_at_zero Go.wp_at_succ
def FieldRet (w:World) (n:Int) (R:Option Sz.Fld) (e:Ending) (w':World):Prop :=
 Below w.heap.size w w'/\match R with
  | some f=>e=.returned (.agg #[.string ⟨f.key.toArray⟩,.string ⟨f.val.toArray⟩,.int .i64 n])
  | none=>e=panAt n 2
theorem wL (s:List UInt8)(w:World)(hm:MaxOk w)(hl:s.length<=1000000) :
  Calls Tryz.prog 122 #[.string ⟨s.toArray⟩,.string ⟨#[58,32]⟩] w fun e w'=>e=.returned (.tuple #[.string ⟨(Lib.cut s Sz.mark).1.toArray⟩,.string ⟨(Lib.cut s Sz.mark).2.1.toArray⟩,.bool (Lib.cut s Sz.mark).2.2])/\Below w.heap.size w w':=by
 obtain⟨m,hm⟩:=hm
 exact (Tryz.strings_Cut ⟨s.toArray⟩ ⟨#[58,32]⟩ m w (by show s.length<_;omega) hm).mono fun e w' ⟨h1,n,h2⟩=>⟨h1,h2 ▸ below_drewN (Below.refl _ _) n⟩
theorem aba (s:List UInt8)(n:Int):Sz.fieldP s n=if (Lib.cut s Sz.mark).2.2&&(Sz.keyB (Lib.cut s Sz.mark).1&&Sz.valB (Lib.cut s Sz.mark).2.1) then some ⟨(Lib.cut s Sz.mark).1,(Lib.cut s Sz.mark).2.1,n⟩ else none:=by
 unfold Sz.fieldP Lib.cut
 by_cases h:0<=Lib.index s Sz.mark
 ·rw[if_pos h]
  show (if _/\_/\_ then _ else _)=if (true&&_)=true then _ else _
  rw[Bool.true_and]
  show _=if (Sz.keyB (s.take (Lib.index s Sz.mark).toNat)&&Sz.valB (s.drop ((Lib.index s Sz.mark).toNat+2)))=true then some (⟨s.take (Lib.index s Sz.mark).toNat,s.drop ((Lib.index s Sz.mark).toNat+2),n⟩:Sz.Fld) else none
  by_cases h1:Sz.keyB (s.take (Lib.index s Sz.mark).toNat)=true
  ·by_cases h2:Sz.valB (s.drop ((Lib.index s Sz.mark).toNat+2))=true
   ·rw[if_pos ⟨h,h1,h2⟩,if_pos (by rw[h1,h2];rfl)]
   ·rw[if_neg (fun hh=>h2 hh.2.2),if_neg (by rw[h1,Bool.true_and];exact h2)]
  ·rw[if_neg (fun hh=>h1 hh.2.1),if_neg (by rw[Bool.and_eq_true];exact fun hh=>h1 hh.1)]
 ·rw[if_neg (fun hh=>h hh.1),if_neg h];rfl
theorem afR (s:List UInt8):(Lib.cut s Sz.mark).1.length<=s.length/\(Lib.cut s Sz.mark).2.1.length<=s.length:=by
 unfold Lib.cut
 split
 ·show (s.take (Lib.index s Sz.mark).toNat).length<=s.length/\(s.drop ((Lib.index s Sz.mark).toNat+Sz.mark.length)).length<=s.length
  rw[List.length_take,List.length_drop];omega
 ·exact⟨Nat.le_refl _,Nat.zero_le _⟩
theorem mq (s:List UInt8)(n:Int)(w:World)(hw:MaxOk w)(hs:s.length<=1000000) :
  Calls Tryz.prog 178 #[.string ⟨s.toArray⟩,.int .i64 n] w (FieldRet w n (Sz.fieldP s n)):=by
 obtain⟨R,hR⟩:=ex (Sz.fieldP s n)
 rw[hR]
 rw[aba] at hR
 obtain⟨W1,ab⟩:=ex (w.alloc (.cells #[.string ⟨#[]⟩,.string ⟨#[]⟩,.int .i64 0] 168))
 have al:Hid (∀ u,Below W1.heap.size W1 u->u.cell? ⟨w.heap.size,0,none⟩=some (.string ⟨#[]⟩)/\u.cell? ⟨w.heap.size,1,none⟩=some (.string ⟨#[]⟩)/\u.cell? ⟨w.heap.size,2,none⟩=some (.int .i64 0)/\u.frozen? ⟨w.heap.size,0,none⟩=false/\u.frozen? ⟨w.heap.size,1,none⟩=false/\u.frozen? ⟨w.heap.size,2,none⟩=false):=fun u hb=>dL ab hb
 have ac:Hid (Below w.heap.size w W1):=ai ab
 have hcut:=wL s W1 (ag hw ac.out) hs
 obtain⟨ae,af⟩:=afR s
 obtain⟨c,hc⟩:=ex (Lib.cut s Sz.mark)
 obtain⟨k,v,f⟩:=c
 rw[hc] at hR hcut ae af
 dsimp only at hR hcut ae af
 have aa:=zh hcut
 have ad:Hid (k.length<=1000000):=Nat.le_trans ae hs
 have ah:Hid (v.length<=1000000):=Nat.le_trans af hs
 clear hcut hc ae af hs hw
 cases f
 ·have HR:Hid (R=none):=hR.symm
  clear hR
  go_enter Tryz.func178,Tryz.ntmps178
  go_wp2_with fail
  clear ab
  refine aa.out.mono ?_
  rintro _ u ⟨rfl,hb⟩
  have HB:Hid (Below w.heap.size w u):=bt ac.out hb
  clear hb
  go_wp2_with fail
  refine (aE _).mono ?_
  rintro _ z ⟨rfl,rfl⟩
  go_wp2_with fail
  exact⟨rfl,by show FieldRet w n R _ _;rw[HR.out];exact⟨HB.out,rfl⟩⟩
 ·cases hk:Sz.keyB k
  ·have HR:Hid (R=none):=by rw[hk] at hR;exact hR.symm
   have HK:=zh hk
   clear hR hk
   go_enter Tryz.func178,Tryz.ntmps178
   go_wp2_with fail
   clear ab
   refine aa.out.mono ?_
   rintro _ u ⟨rfl,hb⟩
   have HB:Hid (Below w.heap.size w u):=bt ac.out hb
   clear hb
   go_wp2_with fail
   refine (kV k _ ad.out).mono ?_
   rintro _ z ⟨rfl,rfl⟩
   rw[HK.out]
   go_wp2_with fail
   refine (aE _).mono ?_
   rintro _ z ⟨rfl,rfl⟩
   go_wp2_with fail
   exact⟨rfl,by show FieldRet w n R _ _;rw[HR.out];exact⟨HB.out,rfl⟩⟩
  ·have HK:=zh hk
   cases hv:Sz.valB v
   ·have HR:Hid (R=none):=by rw[hk,hv] at hR;exact hR.symm
    have HV:=zh hv
    clear hR hk hv
    go_enter Tryz.func178,Tryz.ntmps178
    go_wp2_with fail
    clear ab
    refine aa.out.mono ?_
    rintro _ u ⟨rfl,hb⟩
    have HB:Hid (Below w.heap.size w u):=bt ac.out hb
    clear hb
    go_wp2_with fail
    refine (kV k _ ad.out).mono ?_
    rintro _ z ⟨rfl,rfl⟩
    rw[HK.out]
    go_wp2_with fail
    refine (mn v _ ah.out).mono ?_
    rintro _ z ⟨rfl,rfl⟩
    rw[HV.out]
    go_wp2_with fail
    refine (aE _).mono ?_
    rintro _ z ⟨rfl,rfl⟩
    go_wp2_with fail
    exact⟨rfl,by show FieldRet w n R _ _;rw[HR.out];exact⟨HB.out,rfl⟩⟩
   ·have HR:Hid (R=some ⟨k,v,n⟩):=by rw[hk,hv] at hR;exact hR.symm
    have HV:=zh hv
    clear hR hk hv
    go_enter Tryz.func178,Tryz.ntmps178
    go_wp2_with fail
    clear ab
    refine aa.out.mono ?_
    rintro _ u ⟨rfl,hb⟩
    have HB:=zh hb
    clear hb
    go_wp2_with fail
    refine (kV k _ ad.out).mono ?_
    rintro _ z ⟨rfl,rfl⟩
    rw[HK.out]
    go_wp2_with fail
    refine (mn v _ ah.out).mono ?_
    rintro _ z ⟨rfl,rfl⟩
    rw[HV.out]
    go_wp2_with fail
    refine (aG _).mono ?_
    rintro _ z ⟨rfl,rfl⟩
    go_wp2_with fail
    refine (oA k v n _ (Nat.le_trans ad.out (by decide)) (Nat.le_trans ah.out (by decide))).mono ?_
    rintro _ u3 ⟨rfl,ak⟩
    have aj:Hid (Below W1.heap.size W1 u3):=bt HB.out ak
    clear ak
    obtain⟨b0,b1,b2,f0,f1,f2⟩:=al.out u3 aj.out
    have am:Hid (Below w.heap.size w (((u3.setCell ⟨w.heap.size,0,none⟩ (.string ⟨k.toArray⟩)).setCell ⟨w.heap.size,1,none⟩ (.string ⟨v.toArray⟩)).setCell ⟨w.heap.size,2,none⟩ (.int .i64 n))) :=
     (((bt ac.out aj.out).setCell (Nat.le_refl _) _).setCell (Nat.le_refl _) _).setCell (Nat.le_refl _) _
    have g0:(((u3.setCell ⟨w.heap.size,0,none⟩ (.string ⟨k.toArray⟩)).setCell ⟨w.heap.size,1,none⟩ (.string ⟨v.toArray⟩)).setCell ⟨w.heap.size,2,none⟩ (.int .i64 n)).cell? ⟨w.heap.size,0,none⟩=some (.string ⟨k.toArray⟩):=by simp[go_sem,b0]
    have g1:(((u3.setCell ⟨w.heap.size,0,none⟩ (.string ⟨k.toArray⟩)).setCell ⟨w.heap.size,1,none⟩ (.string ⟨v.toArray⟩)).setCell ⟨w.heap.size,2,none⟩ (.int .i64 n)).cell? ⟨w.heap.size,1,none⟩=some (.string ⟨v.toArray⟩):=by simp[go_sem,b1]
    have g2:(((u3.setCell ⟨w.heap.size,0,none⟩ (.string ⟨k.toArray⟩)).setCell ⟨w.heap.size,1,none⟩ (.string ⟨v.toArray⟩)).setCell ⟨w.heap.size,2,none⟩ (.int .i64 n)).cell? ⟨w.heap.size,2,none⟩=some (.int .i64 n):=by simp[go_sem,b2]
    go_wp2_with fail
    generalize ((u3.setCell ⟨w.heap.size,0,none⟩ (.string ⟨k.toArray⟩)).setCell ⟨w.heap.size,1,none⟩ (.string ⟨v.toArray⟩)).setCell ⟨w.heap.size,2,none⟩ (.int .i64 n)=V at *
    refine bodyPost_ret (v:=.agg #[.string ⟨k.toArray⟩,.string ⟨v.toArray⟩,.int .i64 n]) ?_ rfl ?_
    ·simp[results,Tryz.results178,go_sem,g0,g1,g2]
    ·rw[HR.out];exact⟨am.out,rfl⟩
end
namespace Sz
open Go.RowKit
attribute [local go_sem ↓] Go.wp_at_zero Go.wp_at_succ
theorem mP (w:World)(T:TypeId)(l:List (List UInt8))(cs:Array Value)(h:cs.toList=Rg.flat encT l):Rg.Row encT 1 (w.alloc (.cells cs T)) (some ⟨w.heap.size,0,none⟩) l:=fun _=>by
 refine⟨_,rfl,by simp,fun i hi j v hv=>?_⟩
 have hj:j<1:=(List.getElem?_eq_some_iff.1 hv).1
 rw[<-Rg.lF]
 exact Rg.az w T l cs h _ _ ((Rg.flat_get fitsT l i hi j hj).trans hv)
theorem dP {w:World}{A:Option Addr}{l:List (List UInt8)}(h:Rg.Row encT 1 w A l)(k:Nat)(hk:k<l.length):∃ ad,A=some ad/\ad.block<w.heap.size/\w.cell? (ad.add k)=some (.string ⟨l[k].toArray⟩):=by
 obtain⟨ad,x,e,hx,aa,hc⟩:=Rg.cK h k hk
 refine⟨ad,e,aa,?_⟩
 have:=hc 0 _ rfl
 rw[if_pos rfl,Nat.mul_one] at this
 rw[hx]
 exact this
theorem flatT (l:List (List UInt8)):Rg.flat encT l=l.map fun t=>Value.string ⟨t.toArray⟩:=by
 induction l with
 | nil=>rfl
 | cons a l ih=>show encT a++Rg.flat encT l=_;rw[ih];rfl
theorem c6 (sep:List UInt8):∀ (k:Nat) (s:List UInt8),∀ p∈Lib.splitK sep 0 k s,p.length<=s.length
 | 0,s,p,hp=>by
  unfold Lib.splitK at hp
  rw[List.mem_singleton.1 hp];exact Nat.le_refl _
 | k+1,s,p,hp=>by
  unfold Lib.splitK at hp
  split at hp
  ·rw[List.mem_singleton.1 hp];exact Nat.le_refl _
  ·rcases List.mem_cons.1 hp with e | hp
   ·rw[e];simp;omega
   ·have:=c6 sep k _ p hp
    simp at this;omega
theorem iu (s sep:List UInt8)(w:World)(hm:MaxOk w)(hl:s.length<=900000)(h1:1<=sep.length) :
  Calls Tryz.prog 204 #[.string ⟨s.toArray⟩,.string ⟨sep.toArray⟩] w fun e w'=>∃ A n,e=.returned (.slice A n n)/\(Lib.split s sep).length=n/\n<=s.length+1/\Rg.Row encT 1 w' A (Lib.split s sep)/\Below w.heap.size w w':=by
 obtain⟨m,hm⟩:=hm
 refine (Tryz.strings_Split ⟨s.toArray⟩ ⟨sep.toArray⟩ m w (by show s.length<_;omega) hm h1).mono ?_
 rintro e w' ⟨rfl,rfl⟩
 have hd:(Lib.splitB ⟨sep.toArray⟩ 0 (Lib.countB ⟨s.toArray⟩ ⟨sep.toArray⟩) ⟨s.toArray⟩).map (·.data.toList)=Lib.split s sep:=Lib.splitB_data _ _ _ _
 have hn:=Lib.splitB_all ⟨sep.toArray⟩ h1 0 (Lib.countB ⟨s.toArray⟩ ⟨sep.toArray⟩) ⟨s.toArray⟩ rfl
 have hc:=Lib.countB_le ⟨sep.toArray⟩ h1 s.length ⟨s.toArray⟩ (Nat.le_refl _)
 refine⟨_,_,rfl,by rw[<-hd,List.length_map,hn],Nat.succ_le_succ hc,mP w _ _ _ ?_,(Below.refl _ _).alloc (Nat.le_refl _) _⟩
 rw[flatT,<-hd,List.map_map]
 rfl
theorem abb {w:World}{A:Option Addr}{l:List (List UInt8)}(h:Rg.Row encT 1 w A l):Rg.Row encT 1 w A l.dropLast:=fun h0=>by
 rw[List.length_dropLast] at h0
 obtain⟨a,e,hl,hc⟩:=h (by omega)
 refine⟨a,e,hl,fun i hi=>?_⟩
 rw[List.getElem_dropLast]
 exact hc i (by rw[List.length_dropLast] at hi;omega)
theorem xQ {s p:List UInt8}(h:p∈linesL s):p.length<=s.length:=c6 [10] _ _ p (List.dropLast_subset _ h)
theorem mr (s:List UInt8)(w:World)(hw:MaxOk w)(hs:s.length<=100000) :
  Calls Tryz.prog 175 #[.string ⟨s.toArray⟩] w fun e w'=>∃ A n c,e=.returned (.slice A n c)/\(linesL s).length=n/\n<=s.length/\Rg.Row encT 1 w' A (linesL s)/\Below w.heap.size w w':=by
 have hc:=iu s [10] w hw (by omega) (by decide)
 have ac:=oo s
 have HL:Hid ((linesL s).length=(Lib.split s [10]).length-1):=by show _=_;unfold linesL;rw[List.length_dropLast]
 have HF:Hid (∀ (u:World) (A:Option Addr),Rg.Row encT 1 u A (Lib.split s [10])->Rg.Row encT 1 u A (linesL s)):=fun u A h=>abb h
 have HC:=zh hc
 have ad:Hid (1<=(Lib.split s [10]).length):=List.length_pos_iff.2 ac
 clear hc ac
 go_enter Tryz.func175,Tryz.ntmps175
 go_wp2_with fail
 refine HC.out.mono ?_
 rintro _ u ⟨A,n,rfl,hn,ae,aa,hb⟩
 have h1:1<=n:=by rw[<-hn];exact ad.out
 have HN:=zh hn
 have ab:=zh (HF.out _ _ aa)
 have HB:=zh hb
 clear hn aa hb
 have i0:(0:Int)<=(n:Int)-1:=by omega
 have i1:(n:Int)-1<=(n:Int):=by omega
 have i2:((n:Int)-1).toNat=n-1:=by omega
 go_wp2_with fail
 go_ret
 exact⟨A,_,_,rfl,by rw[HL.out,HN.out],by omega,ab.out,HB.out⟩
end Sz
namespace Sz
open Go.RowKit Go.Maps
attribute [local go_sem ↓] Go.wp_at_zero Go.wp_at_succ
def encF (f:Fld):List Value:=[.string ⟨f.key.toArray⟩,.string ⟨f.val.toArray⟩,.int .i64 f.line]
theorem fitsF:Rg.Fits encF 3:=⟨fun _=>rfl,fun x u hu=>by
 simp only[encF,List.mem_cons,List.not_mem_nil,or_false] at hu
 rcases hu with rfl | rfl | rfl <;> rfl⟩
theorem sliceF:Rg.SliceT Tryz.prog encF 3 163 168:=⟨fitsF,by decide,by kernel_rfl,Rg.b8 (z:=.agg #[.string ByteArray.empty,.string ByteArray.empty,.int .i64 0]) (b:=40) (by kernel_rfl) (by rfl) (by decide)⟩
theorem sliceE:Rg.SliceT Tryz.prog encO 1 120 163:=⟨fitsO,by decide,by kernel_rfl,Rg.b8 (z:=.slice none 0 0) (b:=24) (by kernel_rfl) (by rfl) (by decide)⟩
theorem keyLaw:Keyed Tryz.prog 9:=string_keyed Tryz.underlying9
theorem zeroU (w:World):(zeroValue 249).run Tryz.prog w=.ok (.agg #[]) w:=by kernel_rfl
def KSet (w:World) (b:Nat) (ks:List (List UInt8)):Prop:=∃ (n:Nat) (D:DataW Unit),w.ownsMap Tryz.prog 9 unitElem b n D/\n<=ks.length/\∀ k:List UInt8,k.length<=1000000->Maps.has D (.string k)=ks.contains k
theorem abc (w:World):KSet (w.alloc (.map #[] 0)) w.heap.size []:=⟨0,_,World.ownsMap_made w _ _ _,Nat.le_refl _,fun _k _=>rfl⟩
theorem iy {k:List UInt8}(hk:k.length<=140737488355328):keyOf Tryz.prog 9 (.string ⟨k.toArray⟩)=some (.string k):=by
 have:=WideMaps.keyOf_string_mk (P:=Tryz.prog) (k:=9) Tryz.underlying9 (s:=⟨k.toArray⟩) (by show k.toArray.size<=_;rw[List.size_toArray];unfold maxLen;omega)
 exact this
theorem iz {w:World}{b:Nat}{ks:List (List UInt8)}(h:KSet w b ks){k:List UInt8}(hk:k.length<=1000000) :
  (Instr.lookup 227 (.map (some b)) (.string ⟨k.toArray⟩) true).run Tryz.prog w=.ok (.tuple #[.agg #[],.bool (ks.contains k)]) w:=by
 obtain⟨n,D,aa,_,hh⟩:=h
 obtain⟨v,ps,ab,hv⟩:=aa.look_ok keyLaw Tryz.underlying227 (zeroU w) unitElem_mk (iy (Nat.le_trans hk (by decide)))
 obtain⟨rfl,_⟩:=unitElem_inv hv
 rw[ab,hh k hk]
theorem uk {w:World}{b:Nat}{ks:List (List UInt8)}(h:KSet w b ks){k:List UInt8}(hk:k.length<=1000000)(hl:ks.length<=1000000) :
  ∃ w',(Instr.mapUpdate 227 (.map (some b)) (.string ⟨k.toArray⟩) (.agg #[])).run Tryz.prog w=.ok () w'/\KSet w' b (ks++[k])/\w.mapTurned w' b:=by
 obtain⟨n,D,aa,hn,hh⟩:=h
 obtain⟨w',ac,ab,ht⟩:=aa.store keyLaw Tryz.underlying227 (by unfold maxLen;omega) (iy (Nat.le_trans hk (by decide))) (val:=.agg #[]) unitElem_mk
 refine⟨w',ac,⟨n+1,_,ab,by rw[List.length_append];simp;omega,fun x hx=>?_⟩,ht⟩
 by_cases e:x=k
 ·subst e
  rw[Maps.has_put_same aa.isMap (by trivial)]
  simp
 ·rw[Maps.has_put_other (by intro h;exact e (Lit.string.inj h)),hh x hx]
  simp[e]
theorem bV {w w':World}{b B:Nat}{ks:List (List UInt8)}(h:KSet w b ks)(hb:Below B w w')(hlt:b<B):KSet w' b ks:=by
 obtain⟨n,D,⟨es,clock,hh,r⟩,h2⟩:=h
 exact⟨n,D,⟨es,clock,(hb.block b hlt).trans hh,r⟩,h2⟩
theorem iA {w w':World}{b:Nat}{ks:List (List UInt8)}(h:KSet w b ks)(hb:w'.heap[b]?=w.heap[b]?):KSet w' b ks:=by
 obtain⟨n,D,⟨es,clock,hh,r⟩,h2⟩:=h
 exact⟨n,D,⟨es,clock,hb.trans hh,r⟩,h2⟩
end Sz
namespace Sz
open Go.RowKit Go.Maps
theorem cB (w:World)(a:Addr)(v:Value):w.grownBy (w.setCell a v) (some a.block):=⟨rfl,rfl,rfl,by simp[World.setCell],fun k _ hk=>Below.heap_setCell _ _ _ _ (fun e=>hk (by simp[e]))⟩
section
variable {α:Type} {enc:α->List Value} {K:Nat}
theorem bP {w w':World}{B:Nat}{T:TypeId}{v:Value}{l:List α}{row:Option Nat}(h:Rg.Own enc K w B T v l)(hg:w.grownBy w' row)(hne:v.ownBlock=none\/v.ownBlock≠row):Rg.Own enc K w' B T v l:=World.ownsRow.kept h hg hne
theorem cz {w:World}{B:Nat}{T:TypeId}{v:Value}{l:List α}{g:Nat}(h:Rg.Own enc K w B T v l)(hg:v.ownBlock=some g):∃ cs fr,w.heap[g]?=some (.cells cs T fr):=by
 rcases h.2 with⟨rfl,_⟩ | ⟨g',cap,cur,rfl,_,hgg,_⟩
 ·cases hg
 ·cases hg;exact⟨_,_,hgg⟩
theorem aT {w:World}{B:Nat}{T T2:TypeId}{v:Value}{l:List α}{b:Nat}{cs:Array Value}{fr:Nat × Nat}(h:Rg.Own enc K w B T v l)(hb:w.heap[b]?=some (.cells cs T2 fr))(hT:T2≠T):v.ownBlock≠some b:=fun e=>by
 obtain⟨cs2,fr2,hc⟩:=cz h e
 rw[hb] at hc
 exact hT (Obj.cells.inj (Option.some.inj hc)).2.1
theorem eX {w w':World}{ds:List Desc}{t:List (List α)}{b:Nat}(h:Gr.In enc K w ds t)(hg:w.grownBy w' (some b))(hf:Gr.Free (.slice (some ⟨b,0,none⟩) 0 0) ds t):Gr.In enc K w' ds t :=
 ⟨h.1,fun i d l h1 h2=>⟨(h.2 i d l h1 h2).1,ee (h.2 i d l h1 h2).2 hg (fun h0 a ha=>by
  have:=hf i d l h1 h2 h0 a ha
  exact this)⟩⟩
theorem qP {w w':World}{ds:List Desc}{t:List (List α)}{v:Value}(h:Gr.In enc K w ds t)(hg:w.grownBy w' v.ownBlock)(hf:Gr.Free v ds t):Gr.In enc K w' ds t :=
 ⟨h.1,fun i d l h1 h2=>⟨(h.2 i d l h1 h2).1,ee (h.2 i d l h1 h2).2 hg (fun h0 a ha=>hf i d l h1 h2 h0 a ha)⟩⟩
theorem in_lt {w:World}{ds:List Desc}{t:List (List α)}(h:Gr.In enc K w ds t):∀ (i:Nat) (d:Desc) (l:List α),ds[i]?=some d->t[i]?=some l->0<l.length->∀ a,d.1=some a->a.block<w.heap.size:=fun i d l h1 h2 h0 a ha=>by
 obtain⟨a2,e,hlt,_⟩:=(h.2 i d l h1 h2).2 h0
 rw[ha] at e;cases e;exact hlt
end
def Keeps (B d:Nat) (w w':World):Prop:=Below 0 w w'/\∀ k,k<B->k≠d->w'.heap[k]?=w.heap[k]?
theorem bE {B d:Nat}{w w':World}(h:Below B w w'):Keeps B d w w':=⟨h.mono (Nat.zero_le _),fun k hk _=>h.block k hk⟩
theorem aZ {B d:Nat}{w u w':World}(h:Keeps B d w u)(k:Keeps B d u w'):Keeps B d w w':=⟨h.1.trans k.1,fun i hi hd=>(k.2 i hi hd).trans (h.2 i hi hd)⟩
theorem fE {B d j:Nat}{w u:World}(h:Keeps B d w u)(x:Value):Keeps B d w (u.setCell ⟨d,j,none⟩ x):=⟨h.1.setCell (Nat.zero_le _) _,fun i hi hd=>(Below.heap_setCell _ _ _ _ (fun e=>hd (by simp[e]))).trans (h.2 i hi hd)⟩
theorem er {B d:Nat}{w u:World}(h:Keeps B d w u)(hd:d<=B):Below d w u:=⟨h.1.os,h.1.tape,h.1.output,h.1.size,fun k hk=>h.2 k (Nat.lt_of_lt_of_le hk hd) (Nat.ne_of_lt hk)⟩
def DrO (w:World) (B d:Nat) (v0 v1 v2:Value) (ds:List Desc) (acc:List (List Fld)) (last:List Fld):Prop :=
 (∀ x∈ds,x.2.1<=x.2.2)/\w.heap[d]?=some (.cells #[v0,v1,v2] 229 (0,0))/\Rg.Own encO 1 w B 163 v0 ds/\Gr.In encF 3 w ds acc/\Gr.Free v0 ds acc /\
 Rg.Own encF 3 w B 168 v1 last/\Gr.Free v1 ds acc/\Gr.Free (.slice (some ⟨d,0,none⟩) 0 0) ds acc
theorem xR {w:World}{B:Nat}:DrO (w.alloc (.cells #[.slice none 0 0,.slice none 0 0,.map none] 229)) B w.heap.size (.slice none 0 0) (.slice none 0 0) (.map none) [] [] [] :=
 ⟨fun x hx=>(by cases hx),heap_alloc_new _ _,Rg.aB _ _ _,⟨rfl,fun i d l h=>by simp at h⟩,fun i d l h=>by simp at h,Rg.aB _ _ _,fun i d l h=>by simp at h,fun i d l h=>by simp at h⟩
theorem gQ {w:World}{B d:Nat}{v0 v1 v2:Value}{ds:List Desc}{acc:List (List Fld)}{last:List Fld}(h:DrO w B d v0 v1 v2 ds acc last):d<w.heap.size:=(Array.getElem?_eq_some_iff.1 h.2.1).1
theorem a9 {w:World}{B d:Nat}{v0 v1 v2:Value}{ds:List Desc}{acc:List (List Fld)}{last:List Fld}(h:DrO w B d v0 v1 v2 ds acc last) :
  w.cell? ⟨d,0,none⟩=some v0/\w.cell? ⟨d,1,none⟩=some v1/\w.cell? ⟨d,2,none⟩=some v2/\w.frozen? ⟨d,0,none⟩=false/\w.frozen? ⟨d,1,none⟩=false/\w.frozen? ⟨d,2,none⟩=false:=by
 have hb:=h.2.1
 refine⟨?_,?_,?_,?_,?_,?_⟩ <;> simp[World.cell?,World.frozen?,hb]
theorem bo {w w':World}{B d:Nat}{v0 v1 v2:Value}{ds:List Desc}{acc:List (List Fld)}{last:List Fld}(h:DrO w B d v0 v1 v2 ds acc last)(hb:Below w.heap.size w w'):DrO w' B d v0 v1 v2 ds acc last:=by
 have aa:=gQ h
 obtain⟨h0,h1,h2,h3,h4,h5,h6,h7⟩:=h
 exact⟨h0,(hb.block d aa).trans h1,Rg.own_below h2 hb,Gr.jC h3 hb,h4,Rg.own_below h5 hb,h6,h7⟩
theorem neS:229≠163:=by decide
theorem neF:229≠168:=by decide
theorem neSF:163≠168:=by decide
theorem aeS {w:World}{B d:Nat}{v0 v1 v2:Value}{ds:List Desc}{acc:List (List Fld)}{last:List Fld}(h:DrO w B d v0 v1 v2 ds acc last)(j:Nat)(x:Value){u0 u1 u2:Value}(hj:(#[v0,v1,v2]:Array Value).setIfInBounds j x=#[u0,u1,u2]) :
  (w.setCell ⟨d,j,none⟩ x).heap[d]?=some (.cells #[u0,u1,u2] 229 (0,0))/\Rg.Own encO 1 (w.setCell ⟨d,j,none⟩ x) B 163 v0 ds/\Gr.In encF 3 (w.setCell ⟨d,j,none⟩ x) ds acc/\Rg.Own encF 3 (w.setCell ⟨d,j,none⟩ x) B 168 v1 last:=by
 obtain⟨h0,h1,h2,h3,h4,h5,h6,h7⟩:=h
 have hg:=cB w ⟨d,j,none⟩ x
 refine⟨?_,bP h2 hg (Or.inr (aT h2 h1 neS)),eX h3 hg h7,bP h5 hg (Or.inr (aT h5 h1 neF))⟩
 simp[World.setCell,Array.getElem?_modify,h1,hj]
theorem adf {w:World}{B d:Nat}{v0 v1 v2:Value}{ds:List Desc}{acc:List (List Fld)}{last:List Fld}(h:DrO w B d v0 v1 v2 ds acc last)(x:Value):DrO (w.setCell ⟨d,2,none⟩ x) B d v0 v1 x ds acc last:=by
 obtain⟨g1,g2,g3,g4⟩:=aeS h 2 x rfl
 exact⟨h.1,g1,g2,g3,h.2.2.2.2.1,g4,h.2.2.2.2.2.2.1,h.2.2.2.2.2.2.2⟩
theorem xS {w w':World}{B d m:Nat}{v0 v1 v2:Value}{ds:List Desc}{acc:List (List Fld)}{last:List Fld}{ks:List (List UInt8)}(h:DrO w B d v0 v1 v2 ds acc last)(hk:KSet w m ks)(ht:w.mapTurned w' m):DrO w' B d v0 v1 v2 ds acc last:=by
 obtain⟨n,D,⟨es,clock,hm,_⟩,_⟩:=hk
 obtain⟨h0,h1,h2,h3,h4,h5,h6,h7⟩:=h
 have hg:=ht.grown
 have ab:d≠m:=fun e=>by subst e;rw[hm] at h1;cases h1
 have n0:v0.ownBlock≠some m:=fun e=>by
  obtain⟨cs,fr,hc⟩:=cz h2 e
  rw[hm] at hc;cases hc
 have n1:v1.ownBlock≠some m:=fun e=>by
  obtain⟨cs,fr,hc⟩:=cz h5 e
  rw[hm] at hc;cases hc
 have hf:Gr.Free (.slice (some ⟨m,0,none⟩) 0 0) ds acc:=fun i dd l e1 e2 hl a ha hb=>by
  have ac:m=a.block:=Option.some.inj hb
  obtain⟨a2,e,_,hc⟩:=(h3.2 i dd l e1 e2).2 hl
  rw[ha] at e;cases e
  have:=hc 0 hl 0 _ rfl
  rw[if_pos rfl] at this
  have aa:(a.add (0*3)).block=m:=by rw[Rs.add_block];exact ac.symm
  obtain⟨q,hq⟩:=ex (a.add (0*3))
  rw[hq] at this aa
  unfold World.cell? at this
  rw[aa,hm] at this
  cases this
 exact⟨h0,by rw[<-h1];exact hg.block d (gQ ⟨h0,h1,h2,h3,h4,h5,h6,h7⟩) (fun e=>ab (Option.some.inj e)),bP h2 hg (Or.inr n0),eX h3 hg hf,h4,bP h5 hg (Or.inr n1),h6,h7⟩
theorem xT {w w':World}{B d g n cap:Nat}{v0 v1 v2:Value}{ds:List Desc}{acc:List (List Fld)}{last:List Fld}{f:Fld}(h:DrO w B d v0 v1 v2 ds acc last)(ho:Rg.Own encF 3 w' B 168 (.slice (some ⟨g,0,none⟩) n cap) (last++[f]))(hg:w.grownBy w' v1.ownBlock)(hl:v1.ownBlock=some g\/w.heap.size<=g) :
  DrO (w'.setCell ⟨d,1,none⟩ (.slice (some ⟨g,0,none⟩) n cap)) B d v0 (.slice (some ⟨g,0,none⟩) n cap) v2 ds acc (last++[f]):=by
 have ad:=gQ h
 obtain⟨h0,h1,h2,h3,h4,h5,h6,h7⟩:=h
 have ae:v1.ownBlock≠some d:=aT h5 h1 neF
 have aa:w'.heap[d]?=some (.cells #[v0,v1,v2] 229 (0,0)):=(hg.block d ad (fun e=>ae e.symm)).trans h1
 have af:v0.ownBlock=none\/v0.ownBlock≠v1.ownBlock:=by
  cases e0:v0.ownBlock with
  | none=>exact Or.inl rfl
  | some b0 =>
   refine Or.inr fun e=>?_
   obtain⟨cs,fr,hc⟩:=cz h2 e0
   exact aT h5 hc neSF e.symm
 have ab:Rg.Own encO 1 w' B 163 v0 ds:=bP h2 hg af
 have ag:=qP h3 hg h6
 have hs:=cB w' ⟨d,1,none⟩ (.slice (some ⟨g,0,none⟩) n cap)
 refine⟨h0,?_,bP ab hs (Or.inr (aT ab aa neS)),eX ag hs h7,h4,bP ho hs (Or.inr (aT ho aa neF)),?_,h7⟩
 ·simp[World.setCell,Array.getElem?_modify,aa]
 ·intro i dd l e1 e2 ac a ha hb
  have ah:g=a.block:=Option.some.inj hb
  have ai:=in_lt h3 i dd l e1 e2 ac a ha
  rcases hl with hl | hl
  ·exact h6 i dd l e1 e2 ac a ha (by rw[hl,ah])
  ·omega
theorem aeT {w w':World}{B d g n cap nl cl:Nat}{A:Option Addr}{v0 v2:Value}{ds:List Desc}{acc:List (List Fld)}{last:List Fld}(h:DrO w B d v0 (.slice A nl cl) v2 ds acc last)(hn:last.length=nl)
  (ho:Rg.Own encO 1 w' B 163 (.slice (some ⟨g,0,none⟩) n cap) (ds++[(A,nl,cl)])) (hg:w.grownBy w' v0.ownBlock) (hl:v0.ownBlock=some g\/w.heap.size<=g) :
  DrO ((w'.setCell ⟨d,0,none⟩ (.slice (some ⟨g,0,none⟩) n cap)).setCell ⟨d,1,none⟩ (.slice none 0 0)) B d (.slice (some ⟨g,0,none⟩) n cap) (.slice none 0 0) v2 (ds++[(A,nl,cl)]) (acc++[last]) []:=by
 have am:=gQ h
 obtain⟨h0,h1,h2,h3,h4,h5,h6,h7⟩:=h
 have an:v0.ownBlock≠some d:=aT h2 h1 neS
 have ai:w'.heap[d]?=some (.cells #[v0,.slice A nl cl,v2] 229 (0,0)):=(hg.block d am (fun e=>an e.symm)).trans h1
 obtain⟨A2,c2,hv,ah,ae,_⟩:=Rg.aF fitsF h5
 rw[hn] at hv ae
 cases hv
 have ao:∀ x∈ds++[(A,nl,cl)],x.2.1<=x.2.2:=fun x hx=>by
  rcases List.mem_append.1 hx with hx | hx
  ·exact h0 x hx
  ·rw[List.mem_singleton.1 hx];exact ae
 have hA:∀ a,A=some a->0<last.length->(∃ cs fr,w.heap[a.block]?=some (.cells cs 168 fr))/\a.block<w.heap.size:=fun a ha hl0=>by
  obtain⟨cs,fr,hc⟩:=cz (g:=a.block) h5 (by rw[ha];rfl)
  exact⟨⟨cs,fr,hc⟩,(Array.getElem?_eq_some_iff.1 hc).1⟩
 have ab:=qP h3 hg h4
 have ac:Rg.Row encF 3 w' A last:=ee ah hg (fun hl0 a ha e=>by
  obtain⟨⟨cs,fr,hc⟩,_⟩:=hA a ha hl0
  exact aT h2 hc (fun e=>neSF e.symm) e)
 have ap:Gr.In encF 3 w' (ds++[(A,nl,cl)]) (acc++[last]):=by
  refine⟨by rw[List.length_append,List.length_append,ab.1];rfl,fun i dd l e1 e2=>?_⟩
  rcases aU e1 with⟨q1,q2⟩ | ⟨q1,q2⟩
  ·rcases aU e2 with⟨_,p2⟩ | ⟨p1,_⟩
   ·exact ab.2 i dd l q2 p2
   ·have:=ab.1;omega
  ·rcases aU e2 with⟨p1,_⟩ | ⟨_,p2⟩
   ·have:=ab.1;omega
   ·subst q2 p2;exact⟨hn.symm,ac⟩
 have aa:∀ b,Gr.Free (.slice (some ⟨b,0,none⟩) 0 0) ds acc->(∀ a,A=some a->0<last.length->b≠a.block)->Gr.Free (.slice (some ⟨b,0,none⟩) 0 0) (ds++[(A,nl,cl)]) (acc++[last]):=fun b hf hb i dd l e1 e2 hl0 a ha=>by
  rcases aU e1 with⟨q1,q2⟩ | ⟨q1,q2⟩
  ·rcases aU e2 with⟨_,p2⟩ | ⟨p1,_⟩
   ·exact hf i dd l q2 p2 hl0 a ha
   ·have:=ab.1;omega
  ·rcases aU e2 with⟨p1,_⟩ | ⟨_,p2⟩
   ·have:=ab.1;omega
   ·subst q2 p2;exact fun e=>hb a ha hl0 (Option.some.inj e)
 have af:=aa d h7 (fun a ha hl0 e=>by
  obtain⟨⟨cs,fr,hc⟩,_⟩:=hA a ha hl0
  rw[<-e,h1] at hc
  exact neF (Obj.cells.inj (Option.some.inj hc)).2.1)
 have aq:=aa g (fun i dd l e1 e2 hl0 a ha e=>by
  have au:=in_lt h3 i dd l e1 e2 hl0 a ha
  have e3:g=a.block:=Option.some.inj e
  rcases hl with hl | hl
  ·exact h4 i dd l e1 e2 hl0 a ha (by rw[hl,e3])
  ·omega) (fun a ha hl0 e=>by
  obtain⟨⟨cs,fr,hc⟩,ar⟩:=hA a ha hl0
  rcases hl with hl | hl
  ·rw[<-e] at hc
   exact aT h2 hc (fun e=>neSF e.symm) hl
  ·omega)
 have aj:=cB w' ⟨d,0,none⟩ (.slice (some ⟨g,0,none⟩) n cap)
 have ad:(w'.setCell ⟨d,0,none⟩ (.slice (some ⟨g,0,none⟩) n cap)).heap[d]?=some (.cells #[.slice (some ⟨g,0,none⟩) n cap,.slice A nl cl,v2] 229 (0,0)):=by simp[World.setCell,Array.getElem?_modify,ai]
 have ak:=bP ho aj (Or.inr (aT ho ai neS))
 have ag:=eX ap aj af
 have al:=cB (w'.setCell ⟨d,0,none⟩ (.slice (some ⟨g,0,none⟩) n cap)) ⟨d,1,none⟩ (.slice none 0 0)
 refine⟨ao,?_,bP ak al (Or.inr (aT ak ad neS)),eX ag al af,?_,Rg.aB _ _ _,fun i dd l e1 e2 hl0 a ha e=>(by cases e),af⟩
 ·have e:∀ (x:World),x.heap[d]?=some (.cells #[.slice (some ⟨g,0,none⟩) n cap,.slice A nl cl,v2] 229 (0,0))->(x.setCell ⟨d,1,none⟩ (.slice none 0 0)).heap[d]?=some (.cells #[.slice (some ⟨g,0,none⟩) n cap,.slice none 0 0,v2] 229 (0,0)):=fun x hx=>by simp[World.setCell,Array.getElem?_modify,hx]
  exact e _ ad
 ·exact fun i dd l e1 e2 hl0 a ha e=>aq i dd l e1 e2 hl0 a ha e
end Sz
section
open Go.RowKit Go.Maps Sz
attribute [local go_sem ↓] Go.wp_at_zero Go.wp_at_succ
section
variable {α:Type} {P:Program} {enc:α->List Value} {K:Nat} {ST T:TypeId} {w:World}
theorem Rg.iS (hf:Rg.Fits enc K)(hT:Rg.SliceT P enc K ST T){ops:Array Oper}{o:Oper}{a:Act}{G:Act->World->Prop}{Q:Exit->Act->World->Prop}{E:Prop}(hgd:o.guard=none)(sl x:Operand)
  (ho:o.op=.call { callee:=.builtin .append,args:=#[sl,x],argTypes:=#[ST,ST] })
  (B:Nat) (v:Value) (l m:List α) (hs:a.eval sl=v) (hown:Rg.Own enc K w B T v l) (ad:Addr) (c:Nat) (hx:a.eval x=.slice (some ad) m.length c)
  (hnews:∀ j u,(Rg.flat enc m)[j]?=some u->w.cell? (ad.add j)=some u) (hm:0<m.length) (hsz:l.length+m.length<=1000000) (hB:B<=w.heap.size)
  (h:∀ g cap w',Rg.Own enc K w' B T (.slice (some ⟨g,0,none⟩) (l.length+m.length) cap) (l++m)->w.grownBy w' v.ownBlock->(v.ownBlock=some g\/g=w.heap.size)->G (a.put o.dst (.slice (some ⟨g,0,none⟩) (l.length+m.length) cap)) w') :
  if Region.wanted o (yielded ops a.tmps)=true then Oper.wp P o a w G Q else E:=by
 obtain⟨i,z,hi,aa,ab,ac,hb⟩:=hT.info
 refine step_append_lies w hgd sl x ST ho B T i z K i.bytes hT.under hi aa ac rfl ab hT.pos v l.length (Rg.flat enc l) hs hown ad m.length c (Rg.flat enc m) hx (Rg.bH hf m) hnews (Rg.bF hf m) hm (by unfold maxLen;omega) (by
  have:(l.length+m.length)*i.bytes<=1000000*1000:=Nat.mul_le_mul hsz hb
  omega) hB _ rfl ?_
 intro g cap w' h1 h2 h3 _
 refine h g cap w' ?_ h2 h3
 unfold Rg.Own
 rw[Rg.cG,List.length_append]
 exact h1
end
theorem Sz.pH {w u W:World}{B d:Nat}{v0 v1 v2:Value}{ds:List Desc}{acc:List (List Fld)}{last:List Fld}{row:Option Nat}(h:DrO w B d v0 v1 v2 ds acc last)(hb:Below w.heap.size w u)(hg:u.grownBy W row)(hne:row≠some d) :
  W.cell? ⟨d,0,none⟩=some v0/\W.cell? ⟨d,1,none⟩=some v1/\W.cell? ⟨d,2,none⟩=some v2/\W.frozen? ⟨d,0,none⟩=false/\W.frozen? ⟨d,1,none⟩=false/\W.frozen? ⟨d,2,none⟩=false:=by
 have aa:=gQ h
 have ab:W.heap[d]?=some (.cells #[v0,v1,v2] 229 (0,0)):=(hg.block d (Nat.lt_of_lt_of_le aa hb.size) (fun e=>hne e.symm)).trans ((hb.block d aa).trans h.2.1)
 refine⟨?_,?_,?_,?_,?_,?_⟩ <;> simp[World.cell?,World.frozen?,ab]
theorem Sz.m3 {α:Type}{enc:α->List Value}{K:Nat}{w u W:World}{B:Nat}{T:TypeId}{v:Value}{l:List α}(ho:Rg.Own enc K w B T v l)(hB:B<=w.heap.size)(hb:Below w.heap.size w u)(hg:u.grownBy W v.ownBlock):Below B w W:=by
 exact (hb.mono hB).trans (Rg.aA (Rg.own_below ho hb) (Nat.le_trans hB hb.size) hg)
theorem Sz.grown_of {w u W:World}{row:Option Nat}(hb:Below w.heap.size w u)(hg:u.grownBy W row):w.grownBy W row:=by
 have aa:=hb
 have ab:=hg
 obtain⟨b1,b2,b3,b4,b5⟩:=aa
 obtain⟨g1,g2,g3,g4,g5⟩:=ab
 refine⟨?_,?_,?_,Nat.le_trans b4 g4,fun k hk hne=>(g5 k (Nat.lt_of_lt_of_le hk b4) hne).trans (b5 k hk)⟩
 ·first | exact g1.trans b1 | exact b1.trans g1
 ·first | exact g2.trans b2 | exact b2.trans g2
 ·first | exact g3.trans b3 | exact b3.trans g3
def Sz.EndRet (w:World) (B d:Nat) (v2:Value) (acc:List (List Fld)) (last:List Fld) (e:Ending) (w':World):Prop :=
 e=.returned (.tuple #[])/\Keeps B d w w'/\w.heap.size<=w'.heap.size/\∃ u0 u1 ds,DrO w' B d u0 u1 v2 ds (if last=[] then acc else acc++[last]) []
theorem eI {w:World}{B d:Nat}{v0 v1 v2:Value}{ds:List Desc}{acc:List (List Fld)}{last:List Fld}(h:DrO w B d v0 v1 v2 ds acc last)(hsz:ds.length+1<=1000000)(hB:B<=w.heap.size) :
  Calls Tryz.prog 176 #[.pointer (some ⟨d,0,none⟩)] w (Sz.EndRet w B d v2 acc last):=by
 obtain⟨A,c,hv,ad,_,_⟩:=Rg.aF fitsF h.2.2.2.2.2.1
 obtain⟨n,hn⟩:=ex last.length
 rw[hn] at hv
 subst hv
 have H:=zh h
 have HN:=zh hn
 have ak:=zh hsz
 have af:=zh hB
 obtain⟨d0,d1,d2,f0,f1,f2⟩:=a9 h
 clear h hn hsz ad hB
 by_cases h0:n=0
 ·subst h0
  have hl:Hid (last=[]):=List.length_eq_zero_iff.1 HN.out
  go_enter Tryz.func176,Tryz.ntmps176
  go_wp2_with fail
  exact bodyPost_ret (v:=.tuple #[]) (by simp[results,Tryz.results176,go_sem]) rfl ⟨rfl,bE (Below.refl _ _),Nat.le_refl _,v0,_,ds,by rw[if_pos hl.out,<-hl.out];exact H.out⟩
 ·have al:(0:Int)<(n:Int):=by omega
  have hl:Hid (last≠[]):=fun e=>h0 (by rw[<-HN.out,e];rfl)
  clear h0
  go_enter Tryz.func176,Tryz.ntmps176
  go_wp2_with fail
  have ag:Below w.heap.size w (w.alloc (.cells #[.slice A n c] 163)):=(Below.refl _ _).alloc (Nat.le_refl _) _
  have a0:=(a9 (bo H.out ag)).1
  clear ag
  have am:Hid (v0.ownBlock≠some d):=aT H.out.2.2.1 H.out.2.1 neS
  go_region_law (refine Rg.iS fitsO sliceE (by rfl) (.tmp 12) (.tmp 17) (by rfl) B v0 ds [(A,n,c)] (by rfl) (Rg.own_below H.out.2.2.1 ((Below.refl _ _).drew.alloc (Nat.le_refl _) _)) _ _ (by rfl) (Rg.az _ _ [(A,n,c)] _ (by rfl)) (Nat.zero_lt_succ _) ak.out (Nat.le_trans af.out (by simp)) ?_;intro g cap W5 ai ae aj;have an:=zh ai;have aa:=zh ae;have ao:=zh aj;obtain⟨e0,e1,e2,k0,k1,k2⟩:=pH H.out ((Below.refl _ _).drew.alloc (Nat.le_refl _) _) ae am.out;clear ai ae aj)
  all_goals (
   have ah:=m3 H.out.2.2.1 af.out ((Below.refl _ _).drew.alloc (Nat.le_refl _) _) aa.out
   have ab:Hid (w.heap.size<=W5.heap.size):=Nat.le_trans (by simp) aa.out.size
   have ac:=zh ah
   have HD:=zh (aeT (w:=w) (g:=g) (n:=ds.length+1) (cap:=cap) H.out HN.out an.out (grown_of ((Below.refl _ _).drew.alloc (Nat.le_refl _) _) aa.out) (ao.out.imp id (fun h=>by rw[h];simp)))
   clear ah
   go_wp2_with fail
   exact bodyPost_ret (v:=.tuple #[]) (by simp[results,Tryz.results176,go_sem]) rfl ⟨rfl,fE (fE (bE ac.out) _) _,by simpa using ab.out,_,_,_,by rw[if_neg hl.out];exact HD.out⟩)
end
section
open Go.RowKit Go.Maps Sz
attribute [local go_sem ↓] Go.wp_at_zero Go.wp_at_succ
def Sz.AddRet (w:World) (B d:Nat) (v0:Value) (ds:List Desc) (acc:List (List Fld)) (last:List Fld) (f:Fld) (e:Ending) (w':World):Prop :=
 Keeps B d w w'/\w.heap.size<=w'.heap.size/\if (last.map Fld.key).contains f.key then e=panAt f.line 6 else
  e=.returned (.tuple #[])/\∃ u1 m,B<=m/\DrO w' B d v0 u1 (.map (some m)) ds acc (last++[f])/\KSet w' m ((last++[f]).map Fld.key)
def Sz.FB (b:Nat) (f:Fld) (u:World):Prop:=u.cell? ⟨b,0,none⟩=some (.string ⟨f.key.toArray⟩)/\u.cell? ⟨b,1,none⟩=some (.string ⟨f.val.toArray⟩)/\u.cell? ⟨b,2,none⟩=some (.int .i64 f.line)/\u.heap[b]?=some (.cells #[.string ⟨f.key.toArray⟩,.string ⟨f.val.toArray⟩,.int .i64 f.line] 168 (0,0))
theorem Sz.fY {b:Nat}{f:Fld}{u:World}(h:u.heap[b]?=some (.cells #[.string ⟨f.key.toArray⟩,.string ⟨f.val.toArray⟩,.int .i64 f.line] 168 (0,0))):FB b f u:=by
 refine⟨?_,?_,?_,h⟩ <;> simp[World.cell?,h]
theorem Sz.kX {u W:World}{B m:Nat}(hg:u.grownBy W (some m))(hm:B<=m)(hB:B<=u.heap.size):Below B u W:=by
 obtain⟨g1,g2,g3,g4,g5⟩:=hg
 refine⟨?_,?_,?_,g4,fun k hk=>g5 k (Nat.lt_of_lt_of_le hk hB) (fun e=>by have:=Option.some.inj e;omega)⟩
 ·first | exact g1 | exact g1.symm
 ·first | exact g2 | exact g2.symm
 ·first | exact g3 | exact g3.symm
theorem Sz.um {w W:World}{B d m:Nat}{v0 v1 v2:Value}{ds:List Desc}{acc:List (List Fld)}{last:List Fld}{ks:List (List UInt8)}(h:DrO w B d v0 v1 v2 ds acc last)(hk:KSet w m ks)(hg:w.grownBy W v1.ownBlock)(x:Value):KSet (W.setCell ⟨d,1,none⟩ x) m ks:=by
 have ab:=hk
 obtain⟨n,D,⟨es,clock,hm,_⟩,_⟩:=hk
 have aa:m<w.heap.size:=(Array.getElem?_eq_some_iff.1 hm).1
 have ac:d≠m:=fun e=>by
  have h1:=h.2.1
  rw[e,hm] at h1;cases h1
 have n1:v1.ownBlock≠some m:=fun e=>by
  obtain⟨cs,fr,hc⟩:=cz h.2.2.2.2.2.1 e
  rw[hm] at hc;cases hc
 exact iA ab (((cB W ⟨d,1,none⟩ x).block m (Nat.lt_of_lt_of_le aa hg.size) (fun e=>ac (Option.some.inj e).symm)).trans (hg.block m aa (fun e=>n1 e.symm)))
theorem kb {w:World}{B d:Nat}{v0 v1 v2:Value}{ds:List Desc}{acc:List (List Fld)}{last:List Fld}(f:Fld)(h:DrO w B d v0 v1 v2 ds acc last)(hsz:last.length+1<=1000000)(hk:f.key.length<=1000000)(hB:B<=w.heap.size)
  (hl:last≠[]) (hm:∃ m,v2=.map (some m)/\B<=m/\KSet w m (last.map Fld.key)) :
  Calls Tryz.prog 177 #[.pointer (some ⟨d,0,none⟩),.agg #[.string ⟨f.key.toArray⟩,.string ⟨f.val.toArray⟩,.int .i64 f.line]] w (Sz.AddRet w B d v0 ds acc last f):=by
 obtain⟨W1,ak⟩:=ex (w.alloc (.cells #[.string ⟨f.key.toArray⟩,.string ⟨f.val.toArray⟩,.int .i64 f.line] 168))
 have af:Hid (Below w.heap.size w W1):=ai ak
 have aw:Hid (FB w.heap.size f W1):=fY (by rw[<-ak];exact heap_alloc_new w _)
 have aO:W1.heap.size=w.heap.size+1:=by rw[<-ak];simp
 have ax:Hid (w.heap.size<W1.heap.size):=by show _<_;omega
 have H1:=zh (bo h af.out)
 have ag:Hid (B<=w.heap.size/\d<w.heap.size):=⟨hB,gQ h⟩
 have HK:=zh hk
 have ay:=zh hsz
 obtain⟨A,c,hv,aq,_,_⟩:=Rg.aF fitsF h.2.2.2.2.2.1
 obtain⟨n,hn⟩:=ex last.length
 rw[hn] at hv
 subst hv
 have HN:=zh hn
 obtain⟨d0,d1,d2,f0,f1,f2⟩:=a9 H1.out
 obtain⟨m,rfl,ad,ar⟩:=hm
 have aA:m<w.heap.size:=by
  obtain⟨_,_,⟨_,_,hh,_⟩,_⟩:=ar
  exact (Array.getElem?_eq_some_iff.1 hh).1
 have HM:Hid (B<=m/\m<W1.heap.size/\w.heap.size≠m):=⟨ad,by omega,by omega⟩
 have ah:Hid (KSet W1 m (last.map Fld.key)):=bV ar af.out aA
 have aP:((n:Int)==0)=false:=by
  have:last.length≠0:=fun e=>hl (List.length_eq_zero_iff.1 e)
  rw[hn] at this
  simp;omega
 clear h hn hsz hk hB aq hl ad ar aO aA
 go_enter Tryz.func177,Tryz.ntmps177
 go_wp2_with fail
 clear ak aP
 have aj:Hid (Keeps B d w W1/\w.heap.size<=W1.heap.size):=⟨bE <| af.out.mono ag.out.1,af.out.size⟩
 have HX:=H1
 have aB:=aw
 have aC:=ax
 clear H1 aw ax
 generalize W1=WX at *
 obtain⟨b0,b1,b2,_⟩:=aB.out
 obtain⟨tw,au⟩:=ex ((last.map Fld.key).contains f.key)
 have aD:=zh au
 have l0:=iz (bV ah.out (Below.refl WX.heap.size WX).drew (HM.out.2.1)) HK.out
 have l1:=iz (w:=(WX.alloc (.cells #[] 249)).drew) (bV ah.out ((Below.refl WX.heap.size WX).alloc (Nat.le_refl _) (.cells #[] 249)).drew (HM.out.2.1)) HK.out
 rw[au] at l0 l1
 clear au
 go_region_held3 (fun w'=>w'.cell? ⟨d,2,none⟩=some (.map (some m))/\w'.cell? ⟨w.heap.size,0,none⟩=some (.string ⟨f.key.toArray⟩)) (go_keep) (fail)
 clear l0 l1
 all_goals (
  have ac:Hid (Below WX.heap.size WX ((WX.alloc (.cells #[] 249)).drew)):=((Below.refl WX.heap.size WX).alloc (Nat.le_refl _) (.cells #[] 249)).drew
  generalize (WX.alloc (.cells #[] 249)).drew=W3 at *
  have H3:=zh (bo HX.out ac.out)
  have aH:Hid (FB w.heap.size f W3):=fY ((ac.out.block _ aC.out).trans aB.out.2.2.2)
  have aQ:Hid (KSet W3 m (last.map Fld.key)):=bV ah.out ac.out (HM.out.2.1)
  have aa:Hid (Keeps B d w W3/\w.heap.size<=W3.heap.size):=⟨aZ aj.out.1 <| bE (ac.out.mono (Nat.le_trans ag.out.1 aj.out.2)),Nat.le_trans aj.out.2 ac.out.size⟩
  clear d0 d1 d2 f0 f1 f2 b0 b1 b2 aj ah
  obtain⟨d0,d1,d2,f0,f1,f2⟩:=a9 H3.out
  obtain⟨b0,b1,b2,_⟩:=aH.out
  cases tw
  case true =>
   go_wp2_with fail
   refine (aE _).mono ?_
   rintro _ z ⟨rfl,rfl⟩
   go_wp2_with fail
   exact⟨rfl,by show AddRet w B d v0 ds acc last f _ _;exact⟨aa.out.1,aa.out.2,by rw[if_pos aD.out]⟩⟩
  case false =>
   go_wp2_with fail
   refine (aG _).mono ?_
   rintro _ z ⟨rfl,rfl⟩
   have ab:KSet W3.drew m (last.map Fld.key):=iA aQ.out rfl
   obtain⟨W5,aY,aL,ae⟩:=uk ab HK.out (by rw[List.length_map];have:=ay.out;omega)
   have H5:=zh (xS (bo H3.out (Below.refl _ _).drew) ab ae)
   have aR:=zh aL
   have ad:w.heap.size≠m:=HM.out.2.2
   have al:Hid (FB w.heap.size f W5):=fY ((ae.grown.block w.heap.size (by have:=aC.out;have:=ac.out.size;show _<W3.heap.size;omega) (fun e=>ad (Option.some.inj e))).trans aH.out.2.2.2)
   have am:Hid (Keeps B d w W5/\w.heap.size<=W5.heap.size):=⟨aZ aa.out.1 <| bE <| (Below.refl _ W3).drew.trans (kX ae.grown HM.out.1 (Nat.le_trans ag.out.1 aa.out.2)),Nat.le_trans aa.out.2 ae.grown.size⟩
   obtain⟨e0,e1,e2,k0,k1,k2⟩:=a9 H5.out
   obtain⟨g0,g1,g2,_⟩:=al.out
   clear ab aL ae ad
   go_wp2_with fail
   go_region_held3 (fun w'=>w'.cell? ⟨d,2,none⟩=some (.map (some m))/\w'.cell? ⟨w.heap.size,0,none⟩=some (.string ⟨f.key.toArray⟩)) (go_keep) (fail)
   all_goals (
    clear d0 d1 d2 f0 f1 f2 b0 b1 b2 aY
    have aI:Hid (B<=W5.heap.size):=Nat.le_trans ag.out.1 am.out.2
    have an:Below W5.heap.size W5 (W5.alloc (.cells #[.string ⟨f.key.toArray⟩,.string ⟨f.val.toArray⟩,.int .i64 f.line] 168)):=(Below.refl _ _).alloc (Nat.le_refl _) _
    have a1:=(a9 (bo H5.out an)).2.1
    have aS:Hid ((Value.slice A n c).ownBlock≠some d):=aT H5.out.2.2.2.2.2.1 H5.out.2.1 neF
    have aJ:w.heap.size<W5.heap.size:=(Array.getElem?_eq_some_iff.1 al.out.2.2.2).1
    have aU:=fY ((an.block _ aJ).trans al.out.2.2.2)
    obtain⟨q0,q1,q2,_⟩:=aU
    clear an aJ
    go_wp2_with fail
    go_region_law (refine Rg.iS fitsF sliceF (by rfl) (.tmp 42) (.tmp 44) (by rfl) B (.slice A n c) last [f] (by rfl) (Rg.own_below H5.out.2.2.2.2.2.1 ((Below.refl _ _).drew.alloc (Nat.le_refl _) _)) _ _ (by rfl) (Rg.az _ _ [f] _ (by rfl)) (Nat.zero_lt_succ _) ay.out (Nat.le_trans aI.out (by simp)) ?_;intro g cap W6 aM av aN;have aV:=zh aM;have aK:=zh av;have aW:=zh aN;obtain⟨x0,x1,x2,y0,y1,y2⟩:=pH H5.out ((Below.refl _ _).drew.alloc (Nat.le_refl _) _) av aS.out;clear aM av aN)
    all_goals (
     have ao:Hid (W5.grownBy W6 (Value.slice A n c).ownBlock):=grown_of ((Below.refl _ _).drew.alloc (Nat.le_refl _) _) aK.out
     have ap:=zh (m3 H5.out.2.2.2.2.2.1 aI.out ((Below.refl _ _).drew.alloc (Nat.le_refl _) _) aK.out)
     have HD:=zh (xT H5.out aV.out ao.out (aW.out.imp id (fun h=>by rw[h];simp)))
     have aX:=zh (um H5.out aR.out ao.out (.slice (some ⟨g,0,none⟩) (last.length+[f].length) cap))
     go_wp2_with fail
     exact bodyPost_ret (v:=.tuple #[]) (by simp[results,Tryz.results177,go_sem]) rfl ⟨fE (aZ am.out.1 (bE ap.out)) _,Nat.le_trans am.out.2 (by simpa using ao.out.size),by rw[if_neg (by rw[aD.out];decide)];exact⟨rfl,_,m,HM.out.1,HD.out,by rw[List.map_append];exact aX.out⟩⟩)))
theorem jj {w:World}{B d:Nat}{v0 v1 v2:Value}{ds:List Desc}{acc:List (List Fld)}{last:List Fld}(f:Fld)(h:DrO w B d v0 v1 v2 ds acc last)(hsz:last.length+1<=1000000)(hk:f.key.length<=1000000)(hB:B<=w.heap.size)
  (hl:last=[]) :
  Calls Tryz.prog 177 #[.pointer (some ⟨d,0,none⟩),.agg #[.string ⟨f.key.toArray⟩,.string ⟨f.val.toArray⟩,.int .i64 f.line]] w (Sz.AddRet w B d v0 ds acc last f):=by
 obtain⟨W1,ap⟩:=ex (w.alloc (.cells #[.string ⟨f.key.toArray⟩,.string ⟨f.val.toArray⟩,.int .i64 f.line] 168))
 have aq:Hid (Below w.heap.size w W1):=ai ap
 have aD:Hid (FB w.heap.size f W1):=fY (by rw[<-ap];exact heap_alloc_new w _)
 have a2:W1.heap.size=w.heap.size+1:=by rw[<-ap];simp
 have al:Hid (w.heap.size<W1.heap.size):=by show _<_;omega
 have H1:=zh (bo h aq.out)
 have ac:Hid (B<=w.heap.size/\d<w.heap.size):=⟨hB,gQ h⟩
 have HK:=zh hk
 have aH:=zh hsz
 obtain⟨A,c,hv,aA,_,_⟩:=Rg.aF fitsF h.2.2.2.2.2.1
 obtain⟨n,hn⟩:=ex last.length
 rw[hn] at hv
 subst hv
 have HN:=zh hn
 obtain⟨d0,d1,d2,f0,f1,f2⟩:=a9 H1.out
 have aI:=zh (adf (bo H1.out ((Below.refl W1.heap.size W1).alloc (Nat.le_refl _) (.map #[] 0))) (.map (some W1.heap.size)))
 have a3:=cB (W1.alloc (.map #[] 0)) ⟨d,2,none⟩ (.map (some W1.heap.size))
 have a4:d<W1.heap.size:=by have:=ac.out.2;omega
 have ar:∀ k,k≠d->((W1.alloc (.map #[] 0)).setCell ⟨d,2,none⟩ (.map (some W1.heap.size))).heap[k]?=(W1.alloc (.map #[] 0)).heap[k]?:=fun k hk=>by
  exact Below.heap_setCell _ _ _ _ (fun e=>hk (by simp[e]))
 have af:KSet ((W1.alloc (.map #[] 0)).setCell ⟨d,2,none⟩ (.map (some W1.heap.size))) W1.heap.size []:=iA (abc W1) (ar _ (by omega))
 have aJ:FB w.heap.size f ((W1.alloc (.map #[] 0)).setCell ⟨d,2,none⟩ (.map (some W1.heap.size))):=fY ((ar _ (by have:=ac.out.2;omega)).trans ((((Below.refl W1.heap.size W1).alloc (Nat.le_refl _) (.map #[] 0)).block _ al.out).trans aD.out.2.2.2))
 have aK:((W1.alloc (.map #[] 0)).setCell ⟨d,2,none⟩ (.map (some W1.heap.size))).heap.size=W1.heap.size+1:=by simp[World.setCell]
 have aL:Keeps B d w ((W1.alloc (.map #[] 0)).setCell ⟨d,2,none⟩ (.map (some W1.heap.size))):=fE (bE ((aq.out.mono ac.out.1).alloc (by have:=ac.out;omega) _)) _
 have aM:Hid (B<=W1.heap.size/\w.heap.size≠W1.heap.size):=⟨by have:=ac.out;omega,by omega⟩
 have ag:=zh af
 have ah:=zh aJ
 have aj:=zh aL
 have am:=zh aK
 subst hl
 obtain rfl:n=0:=by rw[<-hn];rfl
 clear h hn hsz hk hB aA a2 a3 a4 ar af aJ aK aL
 have a5:(Instr.makeMap 227 none).run Tryz.prog W1=.ok (.map (some W1.heap.size)) (W1.alloc (.map #[] 0)):=rfl
 obtain⟨_,_,m2,_,_,m5⟩:=a9 (bo H1.out ((Below.refl W1.heap.size W1).alloc (Nat.le_refl _) (.map #[] 0)))
 go_enter Tryz.func177,Tryz.ntmps177
 go_wp2_with fail
 clear ap a5 m2 m5 d0 d1 d2 f0 f1 f2
 obtain⟨m,hm⟩:=ex W1.heap.size
 obtain⟨WX,ab⟩:=ex ((W1.alloc (.map #[] 0)).setCell ⟨d,2,none⟩ (.map (some W1.heap.size)))
 have HX:Hid (DrO WX B d v0 (.slice A 0 c) (.map (some m)) ds acc []):=by show DrO _ _ _ _ _ _ _ _ _;rw[<-ab,<-hm];exact aI.out
 have an:Hid (KSet WX m (([]:List Fld).map Fld.key)):=by show KSet _ _ _;rw[<-ab,<-hm];exact ag.out
 have aN:Hid (FB w.heap.size f WX):=by show FB _ _ _;rw[<-ab];exact ah.out
 have ao:Hid (Keeps B d w WX/\w.heap.size<=WX.heap.size):=by
  have h1:=al.out
  have h2:=am.out
  rw[ab] at h2
  exact⟨by rw[<-ab];exact aj.out,by omega⟩
 have aO:Hid (w.heap.size<WX.heap.size):=by
  have h1:=al.out
  have h2:=am.out
  rw[ab] at h2
  show _<_
  omega
 have HM:Hid (B<=m/\m<WX.heap.size/\w.heap.size≠m):=by
  have h2:=am.out
  rw[ab] at h2
  have h3:=aM.out
  rw[hm] at h2 h3
  exact⟨h3.1,by omega,h3.2⟩
 rw[ab]
 clear aI aM ag ah aj am H1 aD aq al
 have aP:Hid (([]:List Fld).length=0):=rfl
 clear ab hm HN
 have HN:=aP
 clear aP
 obtain⟨d0,d1,d2,f0,f1,f2⟩:=a9 HX.out
 obtain⟨b0,b1,b2,_⟩:=aN.out
 obtain⟨tw,aB⟩:=ex ((([]:List Fld).map Fld.key).contains f.key)
 have aQ:=zh aB
 have l0:=iz (bV an.out (Below.refl WX.heap.size WX).drew (HM.out.2.1)) HK.out
 have l1:=iz (w:=(WX.alloc (.cells #[] 249)).drew) (bV an.out ((Below.refl WX.heap.size WX).alloc (Nat.le_refl _) (.cells #[] 249)).drew (HM.out.2.1)) HK.out
 rw[aB] at l0 l1
 clear aB
 go_region_held3 (fun w'=>w'.cell? ⟨d,2,none⟩=some (.map (some m))/\w'.cell? ⟨w.heap.size,0,none⟩=some (.string ⟨f.key.toArray⟩)) (go_keep) (fail)
 clear l0 l1
 all_goals (
  have ae:Hid (Below WX.heap.size WX ((WX.alloc (.cells #[] 249)).drew)):=((Below.refl WX.heap.size WX).alloc (Nat.le_refl _) (.cells #[] 249)).drew
  generalize (WX.alloc (.cells #[] 249)).drew=W3 at *
  have H3:=zh (bo HX.out ae.out)
  have aR:Hid (FB w.heap.size f W3):=fY ((ae.out.block _ aO.out).trans aN.out.2.2.2)
  have a6:Hid (KSet W3 m (([]:List Fld).map Fld.key)):=bV an.out ae.out (HM.out.2.1)
  have aa:Hid (Keeps B d w W3/\w.heap.size<=W3.heap.size):=⟨aZ ao.out.1 <| bE (ae.out.mono (Nat.le_trans ac.out.1 ao.out.2)),Nat.le_trans ao.out.2 ae.out.size⟩
  clear d0 d1 d2 f0 f1 f2 b0 b1 b2 ao an
  obtain⟨d0,d1,d2,f0,f1,f2⟩:=a9 H3.out
  obtain⟨b0,b1,b2,_⟩:=aR.out
  cases tw
  case true =>
   go_wp2_with fail
   refine (aE _).mono ?_
   rintro _ z ⟨rfl,rfl⟩
   go_wp2_with fail
   exact⟨rfl,by show AddRet w B d v0 ds acc ([]:List Fld) f _ _;exact⟨aa.out.1,aa.out.2,by rw[if_pos aQ.out]⟩⟩
  case false =>
   go_wp2_with fail
   refine (aG _).mono ?_
   rintro _ z ⟨rfl,rfl⟩
   have ad:KSet W3.drew m (([]:List Fld).map Fld.key):=iA a6.out rfl
   obtain⟨W5,be,aX,ak⟩:=uk ad HK.out (by rw[List.length_map];have:=aH.out;omega)
   have H5:=zh (xS (bo H3.out (Below.refl _ _).drew) ad ak)
   have a7:=zh aX
   have aS:w.heap.size≠m:=HM.out.2.2
   have au:Hid (FB w.heap.size f W5):=fY ((ak.grown.block w.heap.size (by have:=aO.out;have:=ae.out.size;show _<W3.heap.size;omega) (fun e=>aS (Option.some.inj e))).trans aR.out.2.2.2)
   have av:Hid (Keeps B d w W5/\w.heap.size<=W5.heap.size):=⟨aZ aa.out.1 <| bE <| (Below.refl _ W3).drew.trans (kX ak.grown HM.out.1 (Nat.le_trans ac.out.1 aa.out.2)),Nat.le_trans aa.out.2 ak.grown.size⟩
   obtain⟨e0,e1,e2,k0,k1,k2⟩:=a9 H5.out
   obtain⟨g0,g1,g2,_⟩:=au.out
   clear ad aX ak aS
   go_wp2_with fail
   go_region_held3 (fun w'=>w'.cell? ⟨d,2,none⟩=some (.map (some m))/\w'.cell? ⟨w.heap.size,0,none⟩=some (.string ⟨f.key.toArray⟩)) (go_keep) (fail)
   all_goals (
    clear d0 d1 d2 f0 f1 f2 b0 b1 b2 be
    have aU:Hid (B<=W5.heap.size):=Nat.le_trans ac.out.1 av.out.2
    have aw:Below W5.heap.size W5 (W5.alloc (.cells #[.string ⟨f.key.toArray⟩,.string ⟨f.val.toArray⟩,.int .i64 f.line] 168)):=(Below.refl _ _).alloc (Nat.le_refl _) _
    have a1:=(a9 (bo H5.out aw)).2.1
    have a8:Hid ((Value.slice A 0 c).ownBlock≠some d):=aT H5.out.2.2.2.2.2.1 H5.out.2.1 neF
    have aV:w.heap.size<W5.heap.size:=(Array.getElem?_eq_some_iff.1 au.out.2.2.2).1
    have ba:=fY ((aw.block _ aV).trans au.out.2.2.2)
    obtain⟨q0,q1,q2,_⟩:=ba
    clear aw aV
    go_wp2_with fail
    go_region_law (refine Rg.iS fitsF sliceF (by rfl) (.tmp 42) (.tmp 44) (by rfl) B (.slice A 0 c) ([]:List Fld) [f] (by rfl) (Rg.own_below H5.out.2.2.2.2.2.1 ((Below.refl _ _).drew.alloc (Nat.le_refl _) _)) _ _ (by rfl) (Rg.az _ _ [f] _ (by rfl)) (Nat.zero_lt_succ _) aH.out (Nat.le_trans aU.out (by simp)) ?_;intro g cap W6 aY aC a0;have bb:=zh aY;have aW:=zh aC;have bc:=zh a0;obtain⟨x0,x1,x2,y0,y1,y2⟩:=pH H5.out ((Below.refl _ _).drew.alloc (Nat.le_refl _) _) aC a8.out;clear aY aC a0)
    all_goals (
     have ax:Hid (W5.grownBy W6 (Value.slice A 0 c).ownBlock):=grown_of ((Below.refl _ _).drew.alloc (Nat.le_refl _) _) aW.out
     have ay:=zh (m3 H5.out.2.2.2.2.2.1 aU.out ((Below.refl _ _).drew.alloc (Nat.le_refl _) _) aW.out)
     have HD:=zh (xT H5.out bb.out ax.out (bc.out.imp id (fun h=>by rw[h];simp)))
     have bd:=zh (um H5.out a7.out ax.out (.slice (some ⟨g,0,none⟩) (([]:List Fld).length+[f].length) cap))
     go_wp2_with fail
     exact bodyPost_ret (v:=.tuple #[]) (by simp[results,Tryz.results177,go_sem]) rfl ⟨fE (aZ av.out.1 (bE ay.out)) _,Nat.le_trans av.out.2 (by simpa using ax.out.size),by rw[if_neg (by rw[aQ.out];decide)];exact⟨rfl,_,m,HM.out.1,HD.out,by rw[List.map_append];exact bd.out⟩⟩)))
end
namespace Sz
open Go.RowKit Go.Maps
theorem zz (s:List UInt8):Lib.hasSuffix s [10]=(s.getLast? == some 10):=by
 unfold Lib.hasSuffix
 rcases List.eq_nil_or_concat s with rfl | ⟨t,c,rfl⟩
 ·rfl
 ·unfold List.isSuffixOf
  rw[List.concat_eq_append,List.reverse_append]
  show (10==c&&true)=_
  rw[Bool.and_true,List.getLast?_concat]
  show (10==c)=(c==10)
  rw[Bool.eq_iff_iff,beq_iff_eq,beq_iff_eq];exact eq_comm
theorem oB {B d:Nat}{w w':World}(h:Keeps B d w w'){a:Addr}(h1:a.block<B)(h2:a.block≠d):w'.cell? a=w.cell? a:=by
 unfold World.cell?
 rw[h.2 _ h1 h2]
theorem kd {w:World}{B d:Nat}{v0 v1 v2:Value}{ds:List Desc}{acc:List (List Fld)}{last:List Fld}(h:DrO w B d v0 v1 v2 ds acc last)(h0:∀ x,v0≠.string x)(h1:∀ x,v1≠.string x)(h2:∀ x,v2≠.string x)
  {a:Addr} {x:ByteArray} (hc:w.cell? a=some (.string x)):a.block≠d:=fun e=>by
 have hb:=h.2.1
 unfold World.cell? at hc
 rw[e,hb] at hc
 dsimp only at hc
 split at hc
 ·cases hc
 ·match h3:a.off with
  | 0=>rw[h3] at hc;exact h0 x (Option.some.inj hc)
  | 1=>rw[h3] at hc;exact h1 x (Option.some.inj hc)
  | 2=>rw[h3] at hc;exact h2 x (Option.some.inj hc)
  | k+3=>rw[h3] at hc;simp at hc
end Sz
end Go.Proofs.YtgnaiidgjmicaaaGreatDoor
