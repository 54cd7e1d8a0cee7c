/- Part 23 of what the laws lean on. -/
import Derived.Test.YtpfkphmldalmmaaGreatDoorL22
set_option maxRecDepth 100000
set_option maxHeartbeats 1600000
namespace Go.Proofs.YtpfkphmldalmmaaGreatDoor
section
open Go.RowKit Rs At Pg
def Pg.okAt (i e:Int):Ending:=if e=0 then .returned (.tuple #[]) else panAt i e
theorem Pg.fj (i:Int):okAt i 0=.returned (.tuple #[]):=rfl
theorem Pg.iV {i e:Int}(h:e≠0):okAt i e=panAt i e:=if_neg h
attribute [local go_sem ↓] Go.wp_at_zero Go.wp_at_succ
theorem aM (t:List UInt8)(i:Int)(b:Bool)(e:Int)(w:World) :
  Calls Tryz.prog 174 #[.agg #[.string ⟨t.toArray⟩,.int .i64 i],.bool b,.int .i64 e] w fun r w'=>r=(if b then .returned (.tuple #[]) else panAt i e)/\Below w.heap.size w w':=by
 obtain⟨V,hV⟩:=ex (w.alloc (.cells #[.string ⟨t.toArray⟩,.int .i64 i] 148))
 have HB:Hid (Below w.heap.size w V):=ai hV
 obtain⟨c0,c1⟩:=aB hV (Below.refl _ _)
 cases b
 ·go_enter Tryz.func174,Tryz.ntmps174
  go_wp2_with fail
  refine (aK _).mono ?_
  rintro _ u ⟨rfl,rfl⟩
  go_wp2_with fail
  exact⟨rfl,rfl,HB.out⟩
 ·go_enter Tryz.func174,Tryz.ntmps174
  go_wp2_with fail
  refine (aS _).mono ?_
  rintro _ u ⟨rfl,rfl⟩
  go_wp2_with fail
  go_end0
  exact⟨rfl,HB.out⟩
theorem dM (t:List UInt8)(i e:Int)(w:World) :
  Calls Tryz.prog 175 #[.agg #[.string ⟨t.toArray⟩,.int .i64 i],.int .i64 e] w fun r w'=>r=okAt i e/\Below w.heap.size w w':=by
 obtain⟨V,hV⟩:=ex (w.alloc (.cells #[.string ⟨t.toArray⟩,.int .i64 i] 148))
 have HB:Hid (Below w.heap.size w V):=ai hV
 obtain⟨c0,c1⟩:=aB hV (Below.refl _ _)
 by_cases h0:e=0
 ·subst h0
  rw[fj]
  go_enter Tryz.func175,Tryz.ntmps175
  go_wp2_with fail
  refine (aM t i true 0 _).mono ?_
  rintro _ u ⟨rfl,hb⟩
  have HU:Hid (Below w.heap.size w u):=bt HB.out hb
  clear hb
  go_wp2_with fail
  go_end0
  exact⟨rfl,HU.out⟩
 ·have d:(e==0)=false:=beq_eq_false_iff_ne.2 h0
  rw[iV h0]
  clear h0
  go_enter Tryz.func175,Tryz.ntmps175
  go_wp2_with fail
  refine (aM t i false e _).mono ?_
  rintro _ u ⟨rfl,hb⟩
  have HU:Hid (Below w.heap.size w u):=bt HB.out hb
  clear hb
  go_wp2_with fail
  exact⟨rfl,rfl,HU.out⟩
theorem gG (t:List UInt8)(i:Int)(w:World)(hw:MaxOk w) :
  Calls Tryz.prog 132 #[.agg #[.string ⟨t.toArray⟩,.int .i64 i]] w fun r w'=>r=(if Vm.check t=0 then .returned (.string ⟨(canonOf t).toArray⟩) else panAt i (Vm.check t))/\Below w.heap.size w w':=by
 obtain⟨V,hV⟩:=ex (w.alloc (.cells #[.string ⟨t.toArray⟩,.int .i64 i] 148))
 have HB:Hid (Below w.heap.size w V):=ai hV
 obtain⟨c0,c1⟩:=aB hV (Below.refl _ _)
 have HC:=zh (cH t V (ah hw HB.out))
 obtain⟨x,hx⟩:=ex (canonOf t)
 obtain⟨k,hk⟩:=ex (Vm.check t)
 rw[hx,hk] at HC
 rw[hx,hk]
 have HV:=zh hV
 clear hx hk hw
 go_enter Tryz.func132,Tryz.ntmps132
 go_wp2_with fail
 clear hV
 refine HC.out.mono ?_
 rintro _ u ⟨rfl,hb⟩
 have HU:Hid (Below w.heap.size w u):=bt HB.out hb
 clear c0 c1
 obtain⟨c0,c1⟩:=aB HV.out hb
 clear hb HC
 go_wp2_with fail
 refine (dM t i k _).mono ?_
 rintro _ u2 ⟨rfl,hb⟩
 have aa:Hid (Below w.heap.size w u2):=bt HU.out hb
 clear hb c0 c1
 by_cases h0:k=0
 ·subst h0
  rw[fj]
  go_wp2_with fail
  go_ret
  exact⟨rfl,aa.out⟩
 ·rw[iV h0]
  have H0:=zh h0
  clear h0
  go_wp2_with fail
  exact⟨rfl,by first | exact (if_neg H0.out).symm | rfl | rw[if_neg H0.out],aa.out⟩
theorem kd (t:List UInt8)(i:Int)(w:World)(ht:t.length<=281474976710656) :
  Calls Tryz.prog 131 #[.agg #[.string ⟨t.toArray⟩,.int .i64 i]] w fun r w'=>r=(if nameB t=true then .returned (.string ⟨t.toArray⟩) else panAt i 3)/\Below w.heap.size w w':=by
 obtain⟨b,hb⟩:=ex w.heap.size
 obtain⟨V,hV⟩:=ex (w.alloc (.cells #[.string ⟨t.toArray⟩,.int .i64 i] 148))
 have HB:Hid (Below w.heap.size w V):=ai hV
 have HP:=zh (fun W (h:Below V.heap.size V W)=>aB hV h)
 rw[hb] at HP
 obtain⟨c0,c1⟩:=HP.out _ (Below.refl _ _)
 have HN:=zh (fun W=>fe t W (Nat.le_trans ht (by decide)))
 obtain⟨x,hx⟩:=ex (nameB t)
 rw[hx] at HN
 rw[hx]
 have HL:Hid (t.length<=281474976710656):=ht
 clear hx ht
 go_enter Tryz.func131,Tryz.ntmps131
 go_wp2_with fail
 have aa:Hid (Below V.heap.size V V.drew):=(Below.refl _ _).drew
 clear hb hV
 cases x
 ·clear c0 c1
  obtain⟨c0,c1⟩:=HP.out _ aa.out
  go_region_with (first
    | (go_at_call 64;refine (HN.out _).mono ?_;rintro _ u2 ⟨rfl,rfl⟩)
    | (go_at_call 174;refine (aM t i false 3 _).mono ?_;rintro _ u3 ⟨rfl,hs⟩;have ab:=zh hs;clear hs;refine ec (P:=Tryz.prog) (a:={ tmps:=#[],defers:=[] }) (w:=w) ?_))
  all_goals exact⟨rfl,rfl,HB.out.trans ((bt aa.out ab.out).mono HB.out.size)⟩
 ·go_region_held3 (fun w'=>w'.cell? ⟨b,0,none⟩=some (.string ⟨t.toArray⟩)/\w'.cell? ⟨b,1,none⟩=some (.int .i64 i))
   (first
    | exact HP.out _ aa.out
    | exact HP.out _ (bt aa.out ab.out))
   (first
    | (go_at_call 64;refine (HN.out _).mono ?_;rintro _ u2 ⟨rfl,rfl⟩)
    | (go_at_call 174;refine (aM t i true 3 _).mono ?_;rintro _ u3 ⟨rfl,hs⟩;have ab:=zh hs;clear hs))
  have ac:Hid (Below V.heap.size V u3):=bt aa.out ab.out
  clear c0 c1 ab
  obtain⟨c0,c1⟩:=HP.out _ ac.out
  go_wp2_with fail
  refine (aV t _ HL.out).mono ?_
  rintro _ u5 ⟨rfl,ad⟩
  have ae:Hid (Below w.heap.size w u5):=HB.out.trans ((bt ac.out ad).mono HB.out.size)
  clear ad
  go_wp2_with fail
  go_ret
  exact⟨rfl,ae.out⟩
end
section
open Go.RowKit
attribute [local go_sem ↓] Go.wp_at_zero Go.wp_at_succ
theorem dB {w W1 u:World}{a b c:Value}{T:TypeId}(h1:w.alloc (.cells #[a,b,c] T)=W1)(hb:Below W1.heap.size W1 u) :
  u.cell? ⟨w.heap.size,0,none⟩=some a/\u.cell? ⟨w.heap.size,1,none⟩=some b/\u.cell? ⟨w.heap.size,2,none⟩=some c/\u.frozen? ⟨w.heap.size,0,none⟩=false/\u.frozen? ⟨w.heap.size,1,none⟩=false/\u.frozen? ⟨w.heap.size,2,none⟩=false:=by
 subst h1
 have h:u.heap[w.heap.size]?=some (.cells #[a,b,c] T (0,0)):=(hb.block _ (by simp)).trans (heap_alloc_new w _)
 refine⟨?_,?_,?_,?_,?_,?_⟩ <;> simp[World.cell?,World.frozen?,h]
def FC (b:Nat) (key val:List UInt8) (line:Int) (u:World):Prop :=
 u.cell? ⟨b,0,none⟩=some (.string ⟨key.toArray⟩)/\u.cell? ⟨b,1,none⟩=some (.string ⟨val.toArray⟩)/\u.cell? ⟨b,2,none⟩=some (.int .i64 line) /\
 u.cell? ⟨b+1,0,none⟩=some (.string ⟨#[]⟩)/\u.cell? ⟨b+1,1,none⟩=some (.string ⟨#[]⟩)/\u.cell? ⟨b+1,2,none⟩=some (.int .i64 0)/\u.frozen? ⟨b+1,0,none⟩=false/\u.frozen? ⟨b+1,1,none⟩=false/\u.frozen? ⟨b+1,2,none⟩=false
theorem aeS {w W1 W2 u:World}{key val:List UInt8}{line:Int}(h1:w.alloc (.cells #[.string ⟨key.toArray⟩,.string ⟨val.toArray⟩,.int .i64 line] 56)=W1)(h2:W1.alloc (.cells #[.string ⟨#[]⟩,.string ⟨#[]⟩,.int .i64 0] 56)=W2)(hb:Below W2.heap.size W2 u):FC w.heap.size key val line u:=by
 have aa:W1.heap.size=w.heap.size+1:=by rw[<-h1];simp
 have ab:Below W1.heap.size W1 u:=(ai h2).trans (hb.mono (ai h2).size)
 obtain⟨a0,a1,a2,_⟩:=dB h1 ab
 have h:=dB h2 hb
 rw[aa] at h
 exact⟨a0,a1,a2,h⟩
theorem fc3 {b:Nat}{key val:List UInt8}{line:Int}{u:World}(h:FC b key val line u):u.cell? ⟨b,0,none⟩=some (.string ⟨key.toArray⟩)/\u.cell? ⟨b,1,none⟩=some (.string ⟨val.toArray⟩)/\u.cell? ⟨b,2,none⟩=some (.int .i64 line):=⟨h.1,h.2.1,h.2.2.1⟩
theorem aeB {b:Nat}{key val:List UInt8}{line:Int}{u:World}(h:FC b key val line u)(x y z:Value) :
  (((u.setCell ⟨b+1,0,none⟩ x).setCell ⟨b+1,1,none⟩ y).setCell ⟨b+1,2,none⟩ z).cell? ⟨b,0,none⟩=some (.string ⟨key.toArray⟩)/\(((u.setCell ⟨b+1,0,none⟩ x).setCell ⟨b+1,1,none⟩ y).setCell ⟨b+1,2,none⟩ z).cell? ⟨b,1,none⟩=some (.string ⟨val.toArray⟩)/\(((u.setCell ⟨b+1,0,none⟩ x).setCell ⟨b+1,1,none⟩ y).setCell ⟨b+1,2,none⟩ z).cell? ⟨b,2,none⟩=some (.int .i64 line):=by
 have far:∀ j,(((u.setCell ⟨b+1,0,none⟩ x).setCell ⟨b+1,1,none⟩ y).setCell ⟨b+1,2,none⟩ z).cell? ⟨b,j,none⟩=u.cell? ⟨b,j,none⟩:=fun j=>by
  rw[World.cell?_setCell_far _ _ _ _ (by show b+1≠b;omega),World.cell?_setCell_far _ _ _ _ (by show b+1≠b;omega),World.cell?_setCell_far _ _ _ _ (by show b+1≠b;omega)]
 exact⟨(far 0).trans h.1,(far 1).trans h.2.1,(far 2).trans h.2.2.1⟩
theorem aeC {b:Nat}{key val:List UInt8}{line:Int}{u:World}(h:FC b key val line u)(x y z:Value) :
  (((u.setCell ⟨b+1,0,none⟩ x).setCell ⟨b+1,1,none⟩ y).setCell ⟨b+1,2,none⟩ z).cell? ⟨b+1,0,none⟩=some x/\(((u.setCell ⟨b+1,0,none⟩ x).setCell ⟨b+1,1,none⟩ y).setCell ⟨b+1,2,none⟩ z).cell? ⟨b+1,1,none⟩=some y/\(((u.setCell ⟨b+1,0,none⟩ x).setCell ⟨b+1,1,none⟩ y).setCell ⟨b+1,2,none⟩ z).cell? ⟨b+1,2,none⟩=some z:=by
 obtain⟨_,_,_,b0,b1,b2,_⟩:=h
 refine⟨?_,?_,?_⟩ <;> simp[go_sem,b0,b1,b2]
theorem oL (key val:List UInt8)(line:Int)(w:World)(hk:key.length<=140737488355328)(hv:val.length<=140737488355328) :
  Calls Tryz.prog 148 #[.agg #[.string ⟨key.toArray⟩,.string ⟨val.toArray⟩,.int .i64 line]] w fun e w'=>e=.returned (.agg #[.string ⟨key.toArray⟩,.string ⟨val.toArray⟩,.int .i64 line])/\Below w.heap.size w w':=by
 obtain⟨W1,ac⟩:=ex (w.alloc (.cells #[.string ⟨key.toArray⟩,.string ⟨val.toArray⟩,.int .i64 line] 56))
 obtain⟨W2,ae⟩:=ex (W1.alloc (.cells #[.string ⟨#[]⟩,.string ⟨#[]⟩,.int .i64 0] 56))
 have aa:Hid (∀ u,Below W2.heap.size W2 u->FC w.heap.size key val line u):=fun u hb=>aeS ac ae hb
 have al:W1.heap.size=w.heap.size+1:=by rw[<-ac];simp
 have aj:Hid (Below w.heap.size w W2):=(ai ac).trans ((ai ae).mono (ai ac).size)
 have HK:=zh hk
 have HV:=zh hv
 clear hk hv
 go_enter Tryz.func148,Tryz.ntmps148
 go_wp2_with fail
 have ad:Hid (Below W2.heap.size W2 W2.drew):=(Below.refl _ _).drew
 obtain⟨a0,a1,a2,b0,b1,b2,f0,f1,f2⟩:=aa.out _ ad.out
 clear ac ae
 clear b0 b1 b2 f0 f1 f2
 go_region_held3 (fun w'=>w'.cell? ⟨w.heap.size,0,none⟩=some (.string ⟨key.toArray⟩)/\w'.cell? ⟨w.heap.size,1,none⟩=some (.string ⟨val.toArray⟩)/\w'.cell? ⟨w.heap.size,2,none⟩=some (.int .i64 line))
  (first
   | exact fc3 (aa.out _ ad.out)
   | exact fc3 (aa.out _ af.out)
   | exact fc3 (aa.out _ ab.out)
   | exact aeB (aa.out _ ab.out) _ _ _)
  (first
   | (go_at_call 39;refine (aV val _ (by have:=HV.out;omega)).mono ?_;rintro _ u3 ⟨rfl,ag⟩;have ab:=zh (bt af.out ag);clear ag;obtain⟨_,_,_,b0,b1,b2,f0,f1,f2⟩:=aa.out _ ab.out)
   | (go_at_call 39;refine (aV key _ (by have:=HK.out;omega)).mono ?_;rintro _ u2 ⟨rfl,ah⟩;have af:=zh (bt ad.out ah);clear ah))
 have ak:Hid (Below w.heap.size w (((u3.setCell ⟨w.heap.size+1,0,none⟩ (.string ⟨key.toArray⟩)).setCell ⟨w.heap.size+1,1,none⟩ (.string ⟨val.toArray⟩)).setCell ⟨w.heap.size+1,2,none⟩ (.int .i64 line))) :=
  (((bt aj.out ab.out).setCell (Nat.le_succ _) _).setCell (Nat.le_succ _) _).setCell (Nat.le_succ _) _
 have g:=aeC (aa.out _ ab.out) (.string ⟨key.toArray⟩) (.string ⟨val.toArray⟩) (.int .i64 line)
 go_wp2_with fail
 generalize ((u3.setCell ⟨w.heap.size+1,0,none⟩ (.string ⟨key.toArray⟩)).setCell ⟨w.heap.size+1,1,none⟩ (.string ⟨val.toArray⟩)).setCell ⟨w.heap.size+1,2,none⟩ (.int .i64 line)=V at *
 obtain⟨g0,g1,g2⟩:=g
 refine bodyPost_ret (v:=.agg #[.string ⟨key.toArray⟩,.string ⟨val.toArray⟩,.int .i64 line]) ?_ rfl ⟨rfl,ak.out⟩
 simp[results,Tryz.results148,go_sem,g0,g1,g2]
def FieldRet (w:World) (n:Int) (R:Option Sz.Fld) (e:Ending) (w':World):Prop :=
 Below w.heap.size w w'/\match R with
  | some f=>e=.returned (.agg #[.string ⟨f.key.toArray⟩,.string ⟨f.val.toArray⟩,.int .i64 n])
  | none=>e=panAt n 2
theorem vG (s:List UInt8)(w:World)(hm:MaxOk w)(hl:s.length<=1000000) :
  Calls Tryz.prog 145 #[.string ⟨s.toArray⟩,.string ⟨#[58,32]⟩] w fun e w'=>e=.returned (.tuple #[.string ⟨(Lib.cut s Sz.mark).1.toArray⟩,.string ⟨(Lib.cut s Sz.mark).2.1.toArray⟩,.bool (Lib.cut s Sz.mark).2.2])/\Below w.heap.size w w':=by
 obtain⟨m,hm⟩:=hm
 exact (Tryz.strings_Cut ⟨s.toArray⟩ ⟨#[58,32]⟩ m w (by show s.length<_;omega) hm).mono fun e w' ⟨h1,n,h2⟩=>⟨h1,h2 ▸ below_drewN (Below.refl _ _) n⟩
theorem aak (s:List UInt8)(n:Int):Sz.fieldP s n=if (Lib.cut s Sz.mark).2.2&&(Sz.keyB (Lib.cut s Sz.mark).1&&Sz.valB (Lib.cut s Sz.mark).2.1) then some ⟨(Lib.cut s Sz.mark).1,(Lib.cut s Sz.mark).2.1,n⟩ else none:=by
 unfold Sz.fieldP Lib.cut
 by_cases h:0<=Lib.index s Sz.mark
 ·rw[if_pos h]
  show (if _/\_/\_ then _ else _)=if (true&&_)=true then _ else _
  rw[Bool.true_and]
  show _=if (Sz.keyB (s.take (Lib.index s Sz.mark).toNat)&&Sz.valB (s.drop ((Lib.index s Sz.mark).toNat+2)))=true then some (⟨s.take (Lib.index s Sz.mark).toNat,s.drop ((Lib.index s Sz.mark).toNat+2),n⟩:Sz.Fld) else none
  by_cases h1:Sz.keyB (s.take (Lib.index s Sz.mark).toNat)=true
  ·by_cases h2:Sz.valB (s.drop ((Lib.index s Sz.mark).toNat+2))=true
   ·rw[if_pos ⟨h,h1,h2⟩,if_pos (by rw[h1,h2];rfl)]
   ·rw[if_neg (fun hh=>h2 hh.2.2),if_neg (by rw[h1,Bool.true_and];exact h2)]
  ·rw[if_neg (fun hh=>h1 hh.2.1),if_neg (by rw[Bool.and_eq_true];exact fun hh=>h1 hh.1)]
 ·rw[if_neg (fun hh=>h hh.1),if_neg h];rfl
theorem aeD (s:List UInt8):(Lib.cut s Sz.mark).1.length<=s.length/\(Lib.cut s Sz.mark).2.1.length<=s.length:=by
 unfold Lib.cut
 split
 ·show (s.take (Lib.index s Sz.mark).toNat).length<=s.length/\(s.drop ((Lib.index s Sz.mark).toNat+Sz.mark.length)).length<=s.length
  rw[List.length_take,List.length_drop];omega
 ·exact⟨Nat.le_refl _,Nat.zero_le _⟩
theorem mz (s:List UInt8)(n:Int)(w:World)(hw:MaxOk w)(hs:s.length<=1000000) :
  Calls Tryz.prog 98 #[.string ⟨s.toArray⟩,.int .i64 n] w (FieldRet w n (Sz.fieldP s n)):=by
 obtain⟨R,hR⟩:=ex (Sz.fieldP s n)
 rw[hR]
 rw[aak] at hR
 obtain⟨W1,ab⟩:=ex (w.alloc (.cells #[.string ⟨#[]⟩,.string ⟨#[]⟩,.int .i64 0] 56))
 have al:Hid (∀ u,Below W1.heap.size W1 u->u.cell? ⟨w.heap.size,0,none⟩=some (.string ⟨#[]⟩)/\u.cell? ⟨w.heap.size,1,none⟩=some (.string ⟨#[]⟩)/\u.cell? ⟨w.heap.size,2,none⟩=some (.int .i64 0)/\u.frozen? ⟨w.heap.size,0,none⟩=false/\u.frozen? ⟨w.heap.size,1,none⟩=false/\u.frozen? ⟨w.heap.size,2,none⟩=false):=fun u hb=>dB ab hb
 have ac:Hid (Below w.heap.size w W1):=ai ab
 have hcut:=vG s W1 (ah hw ac.out) hs
 obtain⟨ae,af⟩:=aeD s
 obtain⟨c,hc⟩:=ex (Lib.cut s Sz.mark)
 obtain⟨k,v,f⟩:=c
 rw[hc] at hR hcut ae af
 dsimp only at hR hcut ae af
 have aa:=zh hcut
 have ad:Hid (k.length<=1000000):=Nat.le_trans ae hs
 have ag:Hid (v.length<=1000000):=Nat.le_trans af hs
 clear hcut hc ae af hs hw
 cases f
 ·have HR:Hid (R=none):=hR.symm
  clear hR
  go_enter Tryz.func98,Tryz.ntmps98
  go_wp2_with fail
  clear ab
  refine aa.out.mono ?_
  rintro _ u ⟨rfl,hb⟩
  have HB:Hid (Below w.heap.size w u):=bt ac.out hb
  clear hb
  go_wp2_with fail
  refine (aK _).mono ?_
  rintro _ z ⟨rfl,rfl⟩
  go_wp2_with fail
  exact⟨rfl,by show FieldRet w n R _ _;rw[HR.out];exact⟨HB.out,rfl⟩⟩
 ·cases hk:Sz.keyB k
  ·have HR:Hid (R=none):=by rw[hk] at hR;exact hR.symm
   have HK:=zh hk
   clear hR hk
   go_enter Tryz.func98,Tryz.ntmps98
   go_wp2_with fail
   clear ab
   refine aa.out.mono ?_
   rintro _ u ⟨rfl,hb⟩
   have HB:Hid (Below w.heap.size w u):=bt ac.out hb
   clear hb
   go_wp2_with fail
   refine (k8 k _ ad.out).mono ?_
   rintro _ z ⟨rfl,rfl⟩
   rw[HK.out]
   go_wp2_with fail
   refine (aK _).mono ?_
   rintro _ z ⟨rfl,rfl⟩
   go_wp2_with fail
   exact⟨rfl,by show FieldRet w n R _ _;rw[HR.out];exact⟨HB.out,rfl⟩⟩
  ·have HK:=zh hk
   cases hv:Sz.valB v
   ·have HR:Hid (R=none):=by rw[hk,hv] at hR;exact hR.symm
    have HV:=zh hv
    clear hR hk hv
    go_enter Tryz.func98,Tryz.ntmps98
    go_wp2_with fail
    clear ab
    refine aa.out.mono ?_
    rintro _ u ⟨rfl,hb⟩
    have HB:Hid (Below w.heap.size w u):=bt ac.out hb
    clear hb
    go_wp2_with fail
    refine (k8 k _ ad.out).mono ?_
    rintro _ z ⟨rfl,rfl⟩
    rw[HK.out]
    go_wp2_with fail
    refine (my v _ ag.out).mono ?_
    rintro _ z ⟨rfl,rfl⟩
    rw[HV.out]
    go_wp2_with fail
    refine (aK _).mono ?_
    rintro _ z ⟨rfl,rfl⟩
    go_wp2_with fail
    exact⟨rfl,by show FieldRet w n R _ _;rw[HR.out];exact⟨HB.out,rfl⟩⟩
   ·have HR:Hid (R=some ⟨k,v,n⟩):=by rw[hk,hv] at hR;exact hR.symm
    have HV:=zh hv
    clear hR hk hv
    go_enter Tryz.func98,Tryz.ntmps98
    go_wp2_with fail
    clear ab
    refine aa.out.mono ?_
    rintro _ u ⟨rfl,hb⟩
    have HB:=zh hb
    clear hb
    go_wp2_with fail
    refine (k8 k _ ad.out).mono ?_
    rintro _ z ⟨rfl,rfl⟩
    rw[HK.out]
    go_wp2_with fail
    refine (my v _ ag.out).mono ?_
    rintro _ z ⟨rfl,rfl⟩
    rw[HV.out]
    go_wp2_with fail
    refine (aS _).mono ?_
    rintro _ z ⟨rfl,rfl⟩
    go_wp2_with fail
    refine (oL k v n _ (Nat.le_trans ad.out (by decide)) (Nat.le_trans ag.out (by decide))).mono ?_
    rintro _ u3 ⟨rfl,ak⟩
    have aj:Hid (Below W1.heap.size W1 u3):=bt HB.out ak
    clear ak
    obtain⟨b0,b1,b2,f0,f1,f2⟩:=al.out u3 aj.out
    have am:Hid (Below w.heap.size w (((u3.setCell ⟨w.heap.size,0,none⟩ (.string ⟨k.toArray⟩)).setCell ⟨w.heap.size,1,none⟩ (.string ⟨v.toArray⟩)).setCell ⟨w.heap.size,2,none⟩ (.int .i64 n))) :=
     (((bt ac.out aj.out).setCell (Nat.le_refl _) _).setCell (Nat.le_refl _) _).setCell (Nat.le_refl _) _
    have g0:(((u3.setCell ⟨w.heap.size,0,none⟩ (.string ⟨k.toArray⟩)).setCell ⟨w.heap.size,1,none⟩ (.string ⟨v.toArray⟩)).setCell ⟨w.heap.size,2,none⟩ (.int .i64 n)).cell? ⟨w.heap.size,0,none⟩=some (.string ⟨k.toArray⟩):=by simp[go_sem,b0]
    have g1:(((u3.setCell ⟨w.heap.size,0,none⟩ (.string ⟨k.toArray⟩)).setCell ⟨w.heap.size,1,none⟩ (.string ⟨v.toArray⟩)).setCell ⟨w.heap.size,2,none⟩ (.int .i64 n)).cell? ⟨w.heap.size,1,none⟩=some (.string ⟨v.toArray⟩):=by simp[go_sem,b1]
    have g2:(((u3.setCell ⟨w.heap.size,0,none⟩ (.string ⟨k.toArray⟩)).setCell ⟨w.heap.size,1,none⟩ (.string ⟨v.toArray⟩)).setCell ⟨w.heap.size,2,none⟩ (.int .i64 n)).cell? ⟨w.heap.size,2,none⟩=some (.int .i64 n):=by simp[go_sem,b2]
    go_wp2_with fail
    generalize ((u3.setCell ⟨w.heap.size,0,none⟩ (.string ⟨k.toArray⟩)).setCell ⟨w.heap.size,1,none⟩ (.string ⟨v.toArray⟩)).setCell ⟨w.heap.size,2,none⟩ (.int .i64 n)=V at *
    refine bodyPost_ret (v:=.agg #[.string ⟨k.toArray⟩,.string ⟨v.toArray⟩,.int .i64 n]) ?_ rfl ?_
    ·simp[results,Tryz.results98,go_sem,g0,g1,g2]
    ·rw[HR.out];exact⟨am.out,rfl⟩
end
namespace Sz
open Go.RowKit
attribute [local go_sem ↓] Go.wp_at_zero Go.wp_at_succ
theorem mR (w:World)(T:TypeId)(l:List (List UInt8))(cs:Array Value)(h:cs.toList=Rg.flat encT l):Rg.Row encT 1 (w.alloc (.cells cs T)) (some ⟨w.heap.size,0,none⟩) l:=fun _=>by
 refine⟨_,rfl,by simp,fun i hi j v hv=>?_⟩
 have hj:j<1:=(List.getElem?_eq_some_iff.1 hv).1
 rw[<-Rg.lM]
 exact Rg.ay w T l cs h _ _ ((Rg.flat_get fitsT l i hi j hj).trans hv)
theorem eF {w:World}{A:Option Addr}{l:List (List UInt8)}(h:Rg.Row encT 1 w A l)(k:Nat)(hk:k<l.length):∃ ad,A=some ad/\ad.block<w.heap.size/\w.cell? (ad.add k)=some (.string ⟨l[k].toArray⟩):=by
 obtain⟨ad,x,e,hx,aa,hc⟩:=Rg.cW h k hk
 refine⟨ad,e,aa,?_⟩
 have:=hc 0 _ rfl
 rw[if_pos rfl,Nat.mul_one] at this
 rw[hx]
 exact this
theorem flatT (l:List (List UInt8)):Rg.flat encT l=l.map fun t=>Value.string ⟨t.toArray⟩:=by
 induction l with
 | nil=>rfl
 | cons a l ih=>show encT a++Rg.flat encT l=_;rw[ih];rfl
theorem cR (sep:List UInt8):∀ (k:Nat) (s:List UInt8),∀ p∈Lib.splitK sep 0 k s,p.length<=s.length
 | 0,s,p,hp=>by
  unfold Lib.splitK at hp
  rw[List.mem_singleton.1 hp];exact Nat.le_refl _
 | k+1,s,p,hp=>by
  unfold Lib.splitK at hp
  split at hp
  ·rw[List.mem_singleton.1 hp];exact Nat.le_refl _
  ·rcases List.mem_cons.1 hp with e | hp
   ·rw[e];simp;omega
   ·have:=cR sep k _ p hp
    simp at this;omega
theorem hJ (s sep:List UInt8)(w:World)(hm:MaxOk w)(hl:s.length<=900000)(h1:1<=sep.length) :
  Calls Tryz.prog 144 #[.string ⟨s.toArray⟩,.string ⟨sep.toArray⟩] w fun e w'=>∃ A n,e=.returned (.slice A n n)/\(Lib.split s sep).length=n/\n<=s.length+1/\Rg.Row encT 1 w' A (Lib.split s sep)/\Below w.heap.size w w':=by
 obtain⟨m,hm⟩:=hm
 refine (Tryz.strings_Split ⟨s.toArray⟩ ⟨sep.toArray⟩ m w (by show s.length<_;omega) hm h1).mono ?_
 rintro e w' ⟨rfl,rfl⟩
 have hd:(Lib.splitB ⟨sep.toArray⟩ 0 (Lib.countB ⟨s.toArray⟩ ⟨sep.toArray⟩) ⟨s.toArray⟩).map (·.data.toList)=Lib.split s sep:=Lib.splitB_data _ _ _ _
 have hn:=Lib.splitB_all ⟨sep.toArray⟩ h1 0 (Lib.countB ⟨s.toArray⟩ ⟨sep.toArray⟩) ⟨s.toArray⟩ rfl
 have hc:=Lib.countB_le ⟨sep.toArray⟩ h1 s.length ⟨s.toArray⟩ (Nat.le_refl _)
 refine⟨_,_,rfl,by rw[<-hd,List.length_map,hn],Nat.succ_le_succ hc,mR w _ _ _ ?_,(Below.refl _ _).alloc (Nat.le_refl _) _⟩
 rw[flatT,<-hd,List.map_map]
 rfl
theorem aal {w:World}{A:Option Addr}{l:List (List UInt8)}(h:Rg.Row encT 1 w A l):Rg.Row encT 1 w A l.dropLast:=fun h0=>by
 rw[List.length_dropLast] at h0
 obtain⟨a,e,hl,hc⟩:=h (by omega)
 refine⟨a,e,hl,fun i hi=>?_⟩
 rw[List.getElem_dropLast]
 exact hc i (by rw[List.length_dropLast] at hi;omega)
theorem xa {s p:List UInt8}(h:p∈linesL s):p.length<=s.length:=cR [10] _ _ p (List.dropLast_subset _ h)
theorem mA (s:List UInt8)(w:World)(hw:MaxOk w)(hs:s.length<=100000) :
  Calls Tryz.prog 95 #[.string ⟨s.toArray⟩] w fun e w'=>∃ A n c,e=.returned (.slice A n c)/\(linesL s).length=n/\n<=s.length/\Rg.Row encT 1 w' A (linesL s)/\Below w.heap.size w w':=by
 have hc:=hJ s [10] w hw (by omega) (by decide)
 have ac:=oA s
 have HL:Hid ((linesL s).length=(Lib.split s [10]).length-1):=by show _=_;unfold linesL;rw[List.length_dropLast]
 have HF:Hid (∀ (u:World) (A:Option Addr),Rg.Row encT 1 u A (Lib.split s [10])->Rg.Row encT 1 u A (linesL s)):=fun u A h=>aal h
 have HC:=zh hc
 have ad:Hid (1<=(Lib.split s [10]).length):=List.length_pos_iff.2 ac
 clear hc ac
 go_enter Tryz.func95,Tryz.ntmps95
 go_wp2_with fail
 refine HC.out.mono ?_
 rintro _ u ⟨A,n,rfl,hn,ae,aa,hb⟩
 have h1:1<=n:=by rw[<-hn];exact ad.out
 have HN:=zh hn
 have ab:=zh (HF.out _ _ aa)
 have HB:=zh hb
 clear hn aa hb
 have i0:(0:Int)<=(n:Int)-1:=by omega
 have i1:(n:Int)-1<=(n:Int):=by omega
 have i2:((n:Int)-1).toNat=n-1:=by omega
 go_wp2_with fail
 go_ret
 exact⟨A,_,_,rfl,by rw[HL.out,HN.out],by omega,ab.out,HB.out⟩
end Sz
namespace Sz
open Go.RowKit Go.Maps
attribute [local go_sem ↓] Go.wp_at_zero Go.wp_at_succ
def encF (f:Fld):List Value:=[.string ⟨f.key.toArray⟩,.string ⟨f.val.toArray⟩,.int .i64 f.line]
theorem fitsF:Rg.Fits encF 3:=⟨fun _=>rfl,fun x u hu=>by
 simp only[encF,List.mem_cons,List.not_mem_nil,or_false] at hu
 rcases hu with rfl | rfl | rfl <;> rfl⟩
theorem sliceF:Rg.SliceT Tryz.prog encF 3 42 56:=⟨fitsF,by decide,by kernel_rfl,Rg.bE (z:=.agg #[.string ByteArray.empty,.string ByteArray.empty,.int .i64 0]) (b:=40) (by kernel_rfl) (by rfl) (by decide)⟩
theorem sliceE:Rg.SliceT Tryz.prog encO 1 51 42:=⟨fitsO,by decide,by kernel_rfl,Rg.bE (z:=.slice none 0 0) (b:=24) (by kernel_rfl) (by rfl) (by decide)⟩
theorem keyLaw:Keyed Tryz.prog 9:=string_keyed Tryz.underlying9
theorem zeroU (w:World):(zeroValue 204).run Tryz.prog w=.ok (.agg #[]) w:=by kernel_rfl
def KSet (w:World) (b:Nat) (ks:List (List UInt8)):Prop:=∃ (n:Nat) (D:DataW Unit),w.ownsMap Tryz.prog 9 unitElem b n D/\n<=ks.length/\∀ k:List UInt8,k.length<=1000000->Maps.has D (.string k)=ks.contains k
theorem aam (w:World):KSet (w.alloc (.map #[] 0)) w.heap.size []:=⟨0,_,World.ownsMap_made w _ _ _,Nat.le_refl _,fun _k _=>rfl⟩
theorem ie {k:List UInt8}(hk:k.length<=140737488355328):keyOf Tryz.prog 9 (.string ⟨k.toArray⟩)=some (.string k):=by
 have:=WideMaps.keyOf_string_mk (P:=Tryz.prog) (k:=9) Tryz.underlying9 (s:=⟨k.toArray⟩) (by show k.toArray.size<=_;rw[List.size_toArray];unfold maxLen;omega)
 exact this
theorem ig {w:World}{b:Nat}{ks:List (List UInt8)}(h:KSet w b ks){k:List UInt8}(hk:k.length<=1000000) :
  (Instr.lookup 155 (.map (some b)) (.string ⟨k.toArray⟩) true).run Tryz.prog w=.ok (.tuple #[.agg #[],.bool (ks.contains k)]) w:=by
 obtain⟨n,D,aa,_,hh⟩:=h
 obtain⟨v,ps,ab,hv⟩:=aa.look_ok keyLaw Tryz.underlying155 (zeroU w) unitElem_mk (ie (Nat.le_trans hk (by decide)))
 obtain⟨rfl,_⟩:=unitElem_inv hv
 rw[ab,hh k hk]
theorem tP {w:World}{b:Nat}{ks:List (List UInt8)}(h:KSet w b ks){k:List UInt8}(hk:k.length<=1000000)(hl:ks.length<=1000000) :
  ∃ w',(Instr.mapUpdate 155 (.map (some b)) (.string ⟨k.toArray⟩) (.agg #[])).run Tryz.prog w=.ok () w'/\KSet w' b (ks++[k])/\w.mapTurned w' b:=by
 obtain⟨n,D,aa,hn,hh⟩:=h
 obtain⟨w',ac,ab,ht⟩:=aa.store keyLaw Tryz.underlying155 (by unfold maxLen;omega) (ie (Nat.le_trans hk (by decide))) (val:=.agg #[]) unitElem_mk
 refine⟨w',ac,⟨n+1,_,ab,by rw[List.length_append];simp;omega,fun x hx=>?_⟩,ht⟩
 by_cases e:x=k
 ·subst e
  rw[Maps.has_put_same aa.isMap (by trivial)]
  simp
 ·rw[Maps.has_put_other (by intro h;exact e (Lit.string.inj h)),hh x hx]
  simp[e]
theorem bV {w w':World}{b B:Nat}{ks:List (List UInt8)}(h:KSet w b ks)(hb:Below B w w')(hlt:b<B):KSet w' b ks:=by
 obtain⟨n,D,⟨es,clock,hh,r⟩,h2⟩:=h
 exact⟨n,D,⟨es,clock,(hb.block b hlt).trans hh,r⟩,h2⟩
theorem ij {w w':World}{b:Nat}{ks:List (List UInt8)}(h:KSet w b ks)(hb:w'.heap[b]?=w.heap[b]?):KSet w' b ks:=by
 obtain⟨n,D,⟨es,clock,hh,r⟩,h2⟩:=h
 exact⟨n,D,⟨es,clock,hb.trans hh,r⟩,h2⟩
end Sz
namespace Sz
open Go.RowKit Go.Maps
theorem cp (w:World)(a:Addr)(v:Value):w.grownBy (w.setCell a v) (some a.block):=⟨rfl,rfl,rfl,by simp[World.setCell],fun k _ hk=>Below.heap_setCell _ _ _ _ (fun e=>hk (by simp[e]))⟩
section
variable {α:Type} {enc:α->List Value} {K:Nat}
theorem bO {w w':World}{B:Nat}{T:TypeId}{v:Value}{l:List α}{row:Option Nat}(h:Rg.Own enc K w B T v l)(hg:w.grownBy w' row)(hne:v.ownBlock=none\/v.ownBlock≠row):Rg.Own enc K w' B T v l:=World.ownsRow.kept h hg hne
theorem cm {w:World}{B:Nat}{T:TypeId}{v:Value}{l:List α}{g:Nat}(h:Rg.Own enc K w B T v l)(hg:v.ownBlock=some g):∃ cs fr,w.heap[g]?=some (.cells cs T fr):=by
 rcases h.2 with⟨rfl,_⟩ | ⟨g',cap,cur,rfl,_,hgg,_⟩
 ·cases hg
 ·cases hg;exact⟨_,_,hgg⟩
theorem aJ {w:World}{B:Nat}{T T2:TypeId}{v:Value}{l:List α}{b:Nat}{cs:Array Value}{fr:Nat × Nat}(h:Rg.Own enc K w B T v l)(hb:w.heap[b]?=some (.cells cs T2 fr))(hT:T2≠T):v.ownBlock≠some b:=fun e=>by
 obtain⟨cs2,fr2,hc⟩:=cm h e
 rw[hb] at hc
 exact hT (Obj.cells.inj (Option.some.inj hc)).2.1
theorem eU {w w':World}{ds:List Desc}{t:List (List α)}{b:Nat}(h:Gr.In enc K w ds t)(hg:w.grownBy w' (some b))(hf:Gr.Free (.slice (some ⟨b,0,none⟩) 0 0) ds t):Gr.In enc K w' ds t :=
 ⟨h.1,fun i d l h1 h2=>⟨(h.2 i d l h1 h2).1,dY (h.2 i d l h1 h2).2 hg (fun h0 a ha=>by
  have:=hf i d l h1 h2 h0 a ha
  exact this)⟩⟩
theorem qF {w w':World}{ds:List Desc}{t:List (List α)}{v:Value}(h:Gr.In enc K w ds t)(hg:w.grownBy w' v.ownBlock)(hf:Gr.Free v ds t):Gr.In enc K w' ds t :=
 ⟨h.1,fun i d l h1 h2=>⟨(h.2 i d l h1 h2).1,dY (h.2 i d l h1 h2).2 hg (fun h0 a ha=>hf i d l h1 h2 h0 a ha)⟩⟩
theorem in_lt {w:World}{ds:List Desc}{t:List (List α)}(h:Gr.In enc K w ds t):∀ (i:Nat) (d:Desc) (l:List α),ds[i]?=some d->t[i]?=some l->0<l.length->∀ a,d.1=some a->a.block<w.heap.size:=fun i d l h1 h2 h0 a ha=>by
 obtain⟨a2,e,hlt,_⟩:=(h.2 i d l h1 h2).2 h0
 rw[ha] at e;cases e;exact hlt
end
def Keeps (B d:Nat) (w w':World):Prop:=Below 0 w w'/\∀ k,k<B->k≠d->w'.heap[k]?=w.heap[k]?
theorem bA {B d:Nat}{w w':World}(h:Below B w w'):Keeps B d w w':=⟨h.mono (Nat.zero_le _),fun k hk _=>h.block k hk⟩
theorem aP {B d:Nat}{w u w':World}(h:Keeps B d w u)(k:Keeps B d u w'):Keeps B d w w':=⟨h.1.trans k.1,fun i hi hd=>(k.2 i hi hd).trans (h.2 i hi hd)⟩
theorem fm {B d j:Nat}{w u:World}(h:Keeps B d w u)(x:Value):Keeps B d w (u.setCell ⟨d,j,none⟩ x):=⟨h.1.setCell (Nat.zero_le _) _,fun i hi hd=>(Below.heap_setCell _ _ _ _ (fun e=>hd (by simp[e]))).trans (h.2 i hi hd)⟩
theorem en {B d:Nat}{w u:World}(h:Keeps B d w u)(hd:d<=B):Below d w u:=⟨h.1.os,h.1.tape,h.1.output,h.1.size,fun k hk=>h.2 k (Nat.lt_of_lt_of_le hk hd) (Nat.ne_of_lt hk)⟩
def DrO (w:World) (B d:Nat) (v0 v1 v2:Value) (ds:List Desc) (acc:List (List Fld)) (last:List Fld):Prop :=
 (∀ x∈ds,x.2.1<=x.2.2)/\w.heap[d]?=some (.cells #[v0,v1,v2] 157 (0,0))/\Rg.Own encO 1 w B 42 v0 ds/\Gr.In encF 3 w ds acc/\Gr.Free v0 ds acc /\
 Rg.Own encF 3 w B 56 v1 last/\Gr.Free v1 ds acc/\Gr.Free (.slice (some ⟨d,0,none⟩) 0 0) ds acc
theorem xb {w:World}{B:Nat}:DrO (w.alloc (.cells #[.slice none 0 0,.slice none 0 0,.map none] 157)) B w.heap.size (.slice none 0 0) (.slice none 0 0) (.map none) [] [] [] :=
 ⟨fun x hx=>(by cases hx),heap_alloc_new _ _,Rg.aD _ _ _,⟨rfl,fun i d l h=>by simp at h⟩,fun i d l h=>by simp at h,Rg.aD _ _ _,fun i d l h=>by simp at h,fun i d l h=>by simp at h⟩
theorem gH {w:World}{B d:Nat}{v0 v1 v2:Value}{ds:List Desc}{acc:List (List Fld)}{last:List Fld}(h:DrO w B d v0 v1 v2 ds acc last):d<w.heap.size:=(Array.getElem?_eq_some_iff.1 h.2.1).1
theorem aY {w:World}{B d:Nat}{v0 v1 v2:Value}{ds:List Desc}{acc:List (List Fld)}{last:List Fld}(h:DrO w B d v0 v1 v2 ds acc last) :
  w.cell? ⟨d,0,none⟩=some v0/\w.cell? ⟨d,1,none⟩=some v1/\w.cell? ⟨d,2,none⟩=some v2/\w.frozen? ⟨d,0,none⟩=false/\w.frozen? ⟨d,1,none⟩=false/\w.frozen? ⟨d,2,none⟩=false:=by
 have hb:=h.2.1
 refine⟨?_,?_,?_,?_,?_,?_⟩ <;> simp[World.cell?,World.frozen?,hb]
theorem a6 {w w':World}{B d:Nat}{v0 v1 v2:Value}{ds:List Desc}{acc:List (List Fld)}{last:List Fld}(h:DrO w B d v0 v1 v2 ds acc last)(hb:Below w.heap.size w w'):DrO w' B d v0 v1 v2 ds acc last:=by
 have aa:=gH h
 obtain⟨h0,h1,h2,h3,h4,h5,h6,h7⟩:=h
 exact⟨h0,(hb.block d aa).trans h1,Rg.own_below h2 hb,Gr.abh h3 hb,h4,Rg.own_below h5 hb,h6,h7⟩
theorem neS:157≠42:=by decide
theorem neF:157≠56:=by decide
theorem neSF:42≠56:=by decide
theorem adM {w:World}{B d:Nat}{v0 v1 v2:Value}{ds:List Desc}{acc:List (List Fld)}{last:List Fld}(h:DrO w B d v0 v1 v2 ds acc last)(j:Nat)(x:Value){u0 u1 u2:Value}(hj:(#[v0,v1,v2]:Array Value).setIfInBounds j x=#[u0,u1,u2]) :
  (w.setCell ⟨d,j,none⟩ x).heap[d]?=some (.cells #[u0,u1,u2] 157 (0,0))/\Rg.Own encO 1 (w.setCell ⟨d,j,none⟩ x) B 42 v0 ds/\Gr.In encF 3 (w.setCell ⟨d,j,none⟩ x) ds acc/\Rg.Own encF 3 (w.setCell ⟨d,j,none⟩ x) B 56 v1 last:=by
 obtain⟨h0,h1,h2,h3,h4,h5,h6,h7⟩:=h
 have hg:=cp w ⟨d,j,none⟩ x
 refine⟨?_,bO h2 hg (Or.inr (aJ h2 h1 neS)),eU h3 hg h7,bO h5 hg (Or.inr (aJ h5 h1 neF))⟩
 simp[World.setCell,Array.getElem?_modify,h1,hj]
theorem ach {w:World}{B d:Nat}{v0 v1 v2:Value}{ds:List Desc}{acc:List (List Fld)}{last:List Fld}(h:DrO w B d v0 v1 v2 ds acc last)(x:Value):DrO (w.setCell ⟨d,2,none⟩ x) B d v0 v1 x ds acc last:=by
 obtain⟨g1,g2,g3,g4⟩:=adM h 2 x rfl
 exact⟨h.1,g1,g2,g3,h.2.2.2.2.1,g4,h.2.2.2.2.2.2.1,h.2.2.2.2.2.2.2⟩
theorem xc {w w':World}{B d m:Nat}{v0 v1 v2:Value}{ds:List Desc}{acc:List (List Fld)}{last:List Fld}{ks:List (List UInt8)}(h:DrO w B d v0 v1 v2 ds acc last)(hk:KSet w m ks)(ht:w.mapTurned w' m):DrO w' B d v0 v1 v2 ds acc last:=by
 obtain⟨n,D,⟨es,clock,hm,_⟩,_⟩:=hk
 obtain⟨h0,h1,h2,h3,h4,h5,h6,h7⟩:=h
 have hg:=ht.grown
 have ab:d≠m:=fun e=>by subst e;rw[hm] at h1;cases h1
 have n0:v0.ownBlock≠some m:=fun e=>by
  obtain⟨cs,fr,hc⟩:=cm h2 e
  rw[hm] at hc;cases hc
 have n1:v1.ownBlock≠some m:=fun e=>by
  obtain⟨cs,fr,hc⟩:=cm h5 e
  rw[hm] at hc;cases hc
 have hf:Gr.Free (.slice (some ⟨m,0,none⟩) 0 0) ds acc:=fun i dd l e1 e2 hl a ha hb=>by
  have ac:m=a.block:=Option.some.inj hb
  obtain⟨a2,e,_,hc⟩:=(h3.2 i dd l e1 e2).2 hl
  rw[ha] at e;cases e
  have:=hc 0 hl 0 _ rfl
  rw[if_pos rfl] at this
  have aa:(a.add (0*3)).block=m:=by rw[Rs.add_block];exact ac.symm
  obtain⟨q,hq⟩:=ex (a.add (0*3))
  rw[hq] at this aa
  unfold World.cell? at this
  rw[aa,hm] at this
  cases this
 exact⟨h0,by rw[<-h1];exact hg.block d (gH ⟨h0,h1,h2,h3,h4,h5,h6,h7⟩) (fun e=>ab (Option.some.inj e)),bO h2 hg (Or.inr n0),eU h3 hg hf,h4,bO h5 hg (Or.inr n1),h6,h7⟩
theorem xd {w w':World}{B d g n cap:Nat}{v0 v1 v2:Value}{ds:List Desc}{acc:List (List Fld)}{last:List Fld}{f:Fld}(h:DrO w B d v0 v1 v2 ds acc last)(ho:Rg.Own encF 3 w' B 56 (.slice (some ⟨g,0,none⟩) n cap) (last++[f]))(hg:w.grownBy w' v1.ownBlock)(hl:v1.ownBlock=some g\/w.heap.size<=g) :
  DrO (w'.setCell ⟨d,1,none⟩ (.slice (some ⟨g,0,none⟩) n cap)) B d v0 (.slice (some ⟨g,0,none⟩) n cap) v2 ds acc (last++[f]):=by
 have ad:=gH h
 obtain⟨h0,h1,h2,h3,h4,h5,h6,h7⟩:=h
 have ae:v1.ownBlock≠some d:=aJ h5 h1 neF
 have aa:w'.heap[d]?=some (.cells #[v0,v1,v2] 157 (0,0)):=(hg.block d ad (fun e=>ae e.symm)).trans h1
 have af:v0.ownBlock=none\/v0.ownBlock≠v1.ownBlock:=by
  cases e0:v0.ownBlock with
  | none=>exact Or.inl rfl
  | some b0 =>
   refine Or.inr fun e=>?_
   obtain⟨cs,fr,hc⟩:=cm h2 e0
   exact aJ h5 hc neSF e.symm
 have ab:Rg.Own encO 1 w' B 42 v0 ds:=bO h2 hg af
 have ag:=qF h3 hg h6
 have hs:=cp w' ⟨d,1,none⟩ (.slice (some ⟨g,0,none⟩) n cap)
 refine⟨h0,?_,bO ab hs (Or.inr (aJ ab aa neS)),eU ag hs h7,h4,bO ho hs (Or.inr (aJ ho aa neF)),?_,h7⟩
 ·simp[World.setCell,Array.getElem?_modify,aa]
 ·intro i dd l e1 e2 ac a ha hb
  have ah:g=a.block:=Option.some.inj hb
  have ai:=in_lt h3 i dd l e1 e2 ac a ha
  rcases hl with hl | hl
  ·exact h6 i dd l e1 e2 ac a ha (by rw[hl,ah])
  ·omega
theorem adN {w w':World}{B d g n cap nl cl:Nat}{A:Option Addr}{v0 v2:Value}{ds:List Desc}{acc:List (List Fld)}{last:List Fld}(h:DrO w B d v0 (.slice A nl cl) v2 ds acc last)(hn:last.length=nl)
  (ho:Rg.Own encO 1 w' B 42 (.slice (some ⟨g,0,none⟩) n cap) (ds++[(A,nl,cl)])) (hg:w.grownBy w' v0.ownBlock) (hl:v0.ownBlock=some g\/w.heap.size<=g) :
  DrO ((w'.setCell ⟨d,0,none⟩ (.slice (some ⟨g,0,none⟩) n cap)).setCell ⟨d,1,none⟩ (.slice none 0 0)) B d (.slice (some ⟨g,0,none⟩) n cap) (.slice none 0 0) v2 (ds++[(A,nl,cl)]) (acc++[last]) []:=by
 have am:=gH h
 obtain⟨h0,h1,h2,h3,h4,h5,h6,h7⟩:=h
 have an:v0.ownBlock≠some d:=aJ h2 h1 neS
 have ai:w'.heap[d]?=some (.cells #[v0,.slice A nl cl,v2] 157 (0,0)):=(hg.block d am (fun e=>an e.symm)).trans h1
 obtain⟨A2,c2,hv,ah,ae,_⟩:=Rg.aE fitsF h5
 rw[hn] at hv ae
 cases hv
 have ao:∀ x∈ds++[(A,nl,cl)],x.2.1<=x.2.2:=fun x hx=>by
  rcases List.mem_append.1 hx with hx | hx
  ·exact h0 x hx
  ·rw[List.mem_singleton.1 hx];exact ae
 have hA:∀ a,A=some a->0<last.length->(∃ cs fr,w.heap[a.block]?=some (.cells cs 56 fr))/\a.block<w.heap.size:=fun a ha hl0=>by
  obtain⟨cs,fr,hc⟩:=cm (g:=a.block) h5 (by rw[ha];rfl)
  exact⟨⟨cs,fr,hc⟩,(Array.getElem?_eq_some_iff.1 hc).1⟩
 have ab:=qF h3 hg h4
 have ac:Rg.Row encF 3 w' A last:=dY ah hg (fun hl0 a ha e=>by
  obtain⟨⟨cs,fr,hc⟩,_⟩:=hA a ha hl0
  exact aJ h2 hc (fun e=>neSF e.symm) e)
 have ap:Gr.In encF 3 w' (ds++[(A,nl,cl)]) (acc++[last]):=by
  refine⟨by rw[List.length_append,List.length_append,ab.1];rfl,fun i dd l e1 e2=>?_⟩
  rcases aR e1 with⟨q1,q2⟩ | ⟨q1,q2⟩
  ·rcases aR e2 with⟨_,p2⟩ | ⟨p1,_⟩
   ·exact ab.2 i dd l q2 p2
   ·have:=ab.1;omega
  ·rcases aR e2 with⟨p1,_⟩ | ⟨_,p2⟩
   ·have:=ab.1;omega
   ·subst q2 p2;exact⟨hn.symm,ac⟩
 have aa:∀ b,Gr.Free (.slice (some ⟨b,0,none⟩) 0 0) ds acc->(∀ a,A=some a->0<last.length->b≠a.block)->Gr.Free (.slice (some ⟨b,0,none⟩) 0 0) (ds++[(A,nl,cl)]) (acc++[last]):=fun b hf hb i dd l e1 e2 hl0 a ha=>by
  rcases aR e1 with⟨q1,q2⟩ | ⟨q1,q2⟩
  ·rcases aR e2 with⟨_,p2⟩ | ⟨p1,_⟩
   ·exact hf i dd l q2 p2 hl0 a ha
   ·have:=ab.1;omega
  ·rcases aR e2 with⟨p1,_⟩ | ⟨_,p2⟩
   ·have:=ab.1;omega
   ·subst q2 p2;exact fun e=>hb a ha hl0 (Option.some.inj e)
 have af:=aa d h7 (fun a ha hl0 e=>by
  obtain⟨⟨cs,fr,hc⟩,_⟩:=hA a ha hl0
  rw[<-e,h1] at hc
  exact neF (Obj.cells.inj (Option.some.inj hc)).2.1)
 have aq:=aa g (fun i dd l e1 e2 hl0 a ha e=>by
  have au:=in_lt h3 i dd l e1 e2 hl0 a ha
  have e3:g=a.block:=Option.some.inj e
  rcases hl with hl | hl
  ·exact h4 i dd l e1 e2 hl0 a ha (by rw[hl,e3])
  ·omega) (fun a ha hl0 e=>by
  obtain⟨⟨cs,fr,hc⟩,ar⟩:=hA a ha hl0
  rcases hl with hl | hl
  ·rw[<-e] at hc
   exact aJ h2 hc (fun e=>neSF e.symm) hl
  ·omega)
 have aj:=cp w' ⟨d,0,none⟩ (.slice (some ⟨g,0,none⟩) n cap)
 have ad:(w'.setCell ⟨d,0,none⟩ (.slice (some ⟨g,0,none⟩) n cap)).heap[d]?=some (.cells #[.slice (some ⟨g,0,none⟩) n cap,.slice A nl cl,v2] 157 (0,0)):=by simp[World.setCell,Array.getElem?_modify,ai]
 have ak:=bO ho aj (Or.inr (aJ ho ai neS))
 have ag:=eU ap aj af
 have al:=cp (w'.setCell ⟨d,0,none⟩ (.slice (some ⟨g,0,none⟩) n cap)) ⟨d,1,none⟩ (.slice none 0 0)
 refine⟨ao,?_,bO ak al (Or.inr (aJ ak ad neS)),eU ag al af,?_,Rg.aD _ _ _,fun i dd l e1 e2 hl0 a ha e=>(by cases e),af⟩
 ·have e:∀ (x:World),x.heap[d]?=some (.cells #[.slice (some ⟨g,0,none⟩) n cap,.slice A nl cl,v2] 157 (0,0))->(x.setCell ⟨d,1,none⟩ (.slice none 0 0)).heap[d]?=some (.cells #[.slice (some ⟨g,0,none⟩) n cap,.slice none 0 0,v2] 157 (0,0)):=fun x hx=>by simp[World.setCell,Array.getElem?_modify,hx]
  exact e _ ad
 ·exact fun i dd l e1 e2 hl0 a ha e=>aq i dd l e1 e2 hl0 a ha e
end Sz
end Go.Proofs.YtpfkphmldalmmaaGreatDoor
