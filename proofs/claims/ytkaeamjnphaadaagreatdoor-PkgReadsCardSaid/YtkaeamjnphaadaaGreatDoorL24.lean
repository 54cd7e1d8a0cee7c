/- Part 24 of what the laws lean on. -/
import Derived.Test.YtkaeamjnphaadaaGreatDoorL23
set_option maxRecDepth 100000
set_option maxHeartbeats 1600000
namespace Go.Proofs.YtkaeamjnphaadaaGreatDoor
section
open Go.RowKit Rs At Pg
def Pg.okAt (i e:Int):Ending:=if e=0 then .returned (.tuple #[]) else panAt i e
theorem Pg.fK (i:Int):okAt i 0=.returned (.tuple #[]):=rfl
theorem Pg.jv {i e:Int}(h:e≠0):okAt i e=panAt i e:=if_neg h
attribute [local go_sem ↓] Go.wp_at_zero Go.wp_at_succ
theorem aR (t:List UInt8)(i:Int)(b:Bool)(e:Int)(w:World) :
  Calls Tryz.prog 144 #[.agg #[.string ⟨t.toArray⟩,.int .i64 i],.bool b,.int .i64 e] w fun r w'=>r=(if b then .returned (.tuple #[]) else panAt i e)/\Below w.heap.size w w':=by
 obtain⟨V,hV⟩:=ex (w.alloc (.cells #[.string ⟨t.toArray⟩,.int .i64 i] 119))
 have HB:Hid (Below w.heap.size w V):=ag hV
 obtain⟨c0,c1⟩:=aB hV (Below.refl _ _)
 cases b
 ·go_enter Tryz.func144,Tryz.ntmps144
  go_wp2_with fail
  refine (aO _).mono ?_
  rintro _ u ⟨rfl,rfl⟩
  go_wp2_with fail
  exact⟨rfl,rfl,HB.out⟩
 ·go_enter Tryz.func144,Tryz.ntmps144
  go_wp2_with fail
  refine (aV _).mono ?_
  rintro _ u ⟨rfl,rfl⟩
  go_wp2_with fail
  go_end0
  exact⟨rfl,HB.out⟩
theorem eg (t:List UInt8)(i e:Int)(w:World) :
  Calls Tryz.prog 145 #[.agg #[.string ⟨t.toArray⟩,.int .i64 i],.int .i64 e] w fun r w'=>r=okAt i e/\Below w.heap.size w w':=by
 obtain⟨V,hV⟩:=ex (w.alloc (.cells #[.string ⟨t.toArray⟩,.int .i64 i] 119))
 have HB:Hid (Below w.heap.size w V):=ag hV
 obtain⟨c0,c1⟩:=aB hV (Below.refl _ _)
 by_cases h0:e=0
 ·subst h0
  rw[fK]
  go_enter Tryz.func145,Tryz.ntmps145
  go_wp2_with fail
  refine (aR t i true 0 _).mono ?_
  rintro _ u ⟨rfl,hb⟩
  have HU:Hid (Below w.heap.size w u):=bt HB.out hb
  clear hb
  go_wp2_with fail
  go_end0
  exact⟨rfl,HU.out⟩
 ·have d:(e==0)=false:=beq_eq_false_iff_ne.2 h0
  rw[jv h0]
  clear h0
  go_enter Tryz.func145,Tryz.ntmps145
  go_wp2_with fail
  refine (aR t i false e _).mono ?_
  rintro _ u ⟨rfl,hb⟩
  have HU:Hid (Below w.heap.size w u):=bt HB.out hb
  clear hb
  go_wp2_with fail
  exact⟨rfl,rfl,HU.out⟩
theorem ig (t:List UInt8)(i:Int)(w:World)(hw:MaxOk w) :
  Calls Tryz.prog 97 #[.agg #[.string ⟨t.toArray⟩,.int .i64 i]] w fun r w'=>r=(if Vm.check t=0 then .returned (.string ⟨(canonOf t).toArray⟩) else panAt i (Vm.check t))/\Below w.heap.size w w':=by
 obtain⟨V,hV⟩:=ex (w.alloc (.cells #[.string ⟨t.toArray⟩,.int .i64 i] 119))
 have HB:Hid (Below w.heap.size w V):=ag hV
 obtain⟨c0,c1⟩:=aB hV (Below.refl _ _)
 have HC:=zh (cY t V (ah hw HB.out))
 obtain⟨x,hx⟩:=ex (canonOf t)
 obtain⟨k,hk⟩:=ex (Vm.check t)
 rw[hx,hk] at HC
 rw[hx,hk]
 have HV:=zh hV
 clear hx hk hw
 go_enter Tryz.func97,Tryz.ntmps97
 go_wp2_with fail
 clear hV
 refine HC.out.mono ?_
 rintro _ u ⟨rfl,hb⟩
 have HU:Hid (Below w.heap.size w u):=bt HB.out hb
 clear c0 c1
 obtain⟨c0,c1⟩:=aB HV.out hb
 clear hb HC
 go_wp2_with fail
 refine (eg t i k _).mono ?_
 rintro _ u2 ⟨rfl,hb⟩
 have aa:Hid (Below w.heap.size w u2):=bt HU.out hb
 clear hb c0 c1
 by_cases h0:k=0
 ·subst h0
  rw[fK]
  go_wp2_with fail
  go_ret
  exact⟨rfl,aa.out⟩
 ·rw[jv h0]
  have H0:=zh h0
  clear h0
  go_wp2_with fail
  exact⟨rfl,by first | exact (if_neg H0.out).symm | rfl | rw[if_neg H0.out],aa.out⟩
theorem kx (t:List UInt8)(i:Int)(w:World)(ht:t.length<=281474976710656) :
  Calls Tryz.prog 96 #[.agg #[.string ⟨t.toArray⟩,.int .i64 i]] w fun r w'=>r=(if nameB t=true then .returned (.string ⟨t.toArray⟩) else panAt i 3)/\Below w.heap.size w w':=by
 obtain⟨b,hb⟩:=ex w.heap.size
 obtain⟨V,hV⟩:=ex (w.alloc (.cells #[.string ⟨t.toArray⟩,.int .i64 i] 119))
 have HB:Hid (Below w.heap.size w V):=ag hV
 have HP:=zh (fun W (h:Below V.heap.size V W)=>aB hV h)
 rw[hb] at HP
 obtain⟨c0,c1⟩:=HP.out _ (Below.refl _ _)
 have HN:=zh (fun W=>fF t W (Nat.le_trans ht (by decide)))
 obtain⟨x,hx⟩:=ex (nameB t)
 rw[hx] at HN
 rw[hx]
 have HL:Hid (t.length<=281474976710656):=ht
 clear hx ht
 go_enter Tryz.func96,Tryz.ntmps96
 go_wp2_with fail
 have aa:Hid (Below V.heap.size V V.drew):=(Below.refl _ _).drew
 clear hb hV
 cases x
 ·clear c0 c1
  obtain⟨c0,c1⟩:=HP.out _ aa.out
  go_region_with (first
    | (go_at_call 67;refine (HN.out _).mono ?_;rintro _ u2 ⟨rfl,rfl⟩)
    | (go_at_call 144;refine (aR t i false 3 _).mono ?_;rintro _ u3 ⟨rfl,hs⟩;have ab:=zh hs;clear hs;refine ew (P:=Tryz.prog) (a:={ tmps:=#[],defers:=[] }) (w:=w) ?_))
  all_goals exact⟨rfl,rfl,HB.out.trans ((bt aa.out ab.out).mono HB.out.size)⟩
 ·go_region_held3 (fun w'=>w'.cell? ⟨b,0,none⟩=some (.string ⟨t.toArray⟩)/\w'.cell? ⟨b,1,none⟩=some (.int .i64 i))
   (first
    | exact HP.out _ aa.out
    | exact HP.out _ (bt aa.out ab.out))
   (first
    | (go_at_call 67;refine (HN.out _).mono ?_;rintro _ u2 ⟨rfl,rfl⟩)
    | (go_at_call 144;refine (aR t i true 3 _).mono ?_;rintro _ u3 ⟨rfl,hs⟩;have ab:=zh hs;clear hs))
  have ac:Hid (Below V.heap.size V u3):=bt aa.out ab.out
  clear c0 c1 ab
  obtain⟨c0,c1⟩:=HP.out _ ac.out
  go_wp2_with fail
  refine (aX t _ HL.out).mono ?_
  rintro _ u5 ⟨rfl,ad⟩
  have ae:Hid (Below w.heap.size w u5):=HB.out.trans ((bt ac.out ad).mono HB.out.size)
  clear ad
  go_wp2_with fail
  go_ret
  exact⟨rfl,ae.out⟩
end
section
open Go.RowKit
attribute [local go_sem ↓] Go.wp_at_zero Go.wp_at_succ
theorem dq {w W1 u:World}{a b c:Value}{T:TypeId}(h1:w.alloc (.cells #[a,b,c] T)=W1)(hb:Below W1.heap.size W1 u) :
  u.cell? ⟨w.heap.size,0,none⟩=some a/\u.cell? ⟨w.heap.size,1,none⟩=some b/\u.cell? ⟨w.heap.size,2,none⟩=some c/\u.frozen? ⟨w.heap.size,0,none⟩=false/\u.frozen? ⟨w.heap.size,1,none⟩=false/\u.frozen? ⟨w.heap.size,2,none⟩=false:=by
 subst h1
 have h:u.heap[w.heap.size]?=some (.cells #[a,b,c] T (0,0)):=(hb.block _ (by simp)).trans (heap_alloc_new w _)
 refine⟨?_,?_,?_,?_,?_,?_⟩ <;> simp[World.cell?,World.frozen?,h]
def FC (b:Nat) (key val:List UInt8) (line:Int) (u:World):Prop :=
 u.cell? ⟨b,0,none⟩=some (.string ⟨key.toArray⟩)/\u.cell? ⟨b,1,none⟩=some (.string ⟨val.toArray⟩)/\u.cell? ⟨b,2,none⟩=some (.int .i64 line) /\
 u.cell? ⟨b+1,0,none⟩=some (.string ⟨#[]⟩)/\u.cell? ⟨b+1,1,none⟩=some (.string ⟨#[]⟩)/\u.cell? ⟨b+1,2,none⟩=some (.int .i64 0)/\u.frozen? ⟨b+1,0,none⟩=false/\u.frozen? ⟨b+1,1,none⟩=false/\u.frozen? ⟨b+1,2,none⟩=false
theorem afm {w W1 W2 u:World}{key val:List UInt8}{line:Int}(h1:w.alloc (.cells #[.string ⟨key.toArray⟩,.string ⟨val.toArray⟩,.int .i64 line] 53)=W1)(h2:W1.alloc (.cells #[.string ⟨#[]⟩,.string ⟨#[]⟩,.int .i64 0] 53)=W2)(hb:Below W2.heap.size W2 u):FC w.heap.size key val line u:=by
 have aa:W1.heap.size=w.heap.size+1:=by rw[<-h1];simp
 have ab:Below W1.heap.size W1 u:=(ag h2).trans (hb.mono (ag h2).size)
 obtain⟨a0,a1,a2,_⟩:=dq h1 ab
 have h:=dq h2 hb
 rw[aa] at h
 exact⟨a0,a1,a2,h⟩
theorem fc3 {b:Nat}{key val:List UInt8}{line:Int}{u:World}(h:FC b key val line u):u.cell? ⟨b,0,none⟩=some (.string ⟨key.toArray⟩)/\u.cell? ⟨b,1,none⟩=some (.string ⟨val.toArray⟩)/\u.cell? ⟨b,2,none⟩=some (.int .i64 line):=⟨h.1,h.2.1,h.2.2.1⟩
theorem ae4 {b:Nat}{key val:List UInt8}{line:Int}{u:World}(h:FC b key val line u)(x y z:Value) :
  (((u.setCell ⟨b+1,0,none⟩ x).setCell ⟨b+1,1,none⟩ y).setCell ⟨b+1,2,none⟩ z).cell? ⟨b,0,none⟩=some (.string ⟨key.toArray⟩)/\(((u.setCell ⟨b+1,0,none⟩ x).setCell ⟨b+1,1,none⟩ y).setCell ⟨b+1,2,none⟩ z).cell? ⟨b,1,none⟩=some (.string ⟨val.toArray⟩)/\(((u.setCell ⟨b+1,0,none⟩ x).setCell ⟨b+1,1,none⟩ y).setCell ⟨b+1,2,none⟩ z).cell? ⟨b,2,none⟩=some (.int .i64 line):=by
 have far:∀ j,(((u.setCell ⟨b+1,0,none⟩ x).setCell ⟨b+1,1,none⟩ y).setCell ⟨b+1,2,none⟩ z).cell? ⟨b,j,none⟩=u.cell? ⟨b,j,none⟩:=fun j=>by
  rw[World.cell?_setCell_far _ _ _ _ (by show b+1≠b;omega),World.cell?_setCell_far _ _ _ _ (by show b+1≠b;omega),World.cell?_setCell_far _ _ _ _ (by show b+1≠b;omega)]
 exact⟨(far 0).trans h.1,(far 1).trans h.2.1,(far 2).trans h.2.2.1⟩
theorem ae5 {b:Nat}{key val:List UInt8}{line:Int}{u:World}(h:FC b key val line u)(x y z:Value) :
  (((u.setCell ⟨b+1,0,none⟩ x).setCell ⟨b+1,1,none⟩ y).setCell ⟨b+1,2,none⟩ z).cell? ⟨b+1,0,none⟩=some x/\(((u.setCell ⟨b+1,0,none⟩ x).setCell ⟨b+1,1,none⟩ y).setCell ⟨b+1,2,none⟩ z).cell? ⟨b+1,1,none⟩=some y/\(((u.setCell ⟨b+1,0,none⟩ x).setCell ⟨b+1,1,none⟩ y).setCell ⟨b+1,2,none⟩ z).cell? ⟨b+1,2,none⟩=some z:=by
 obtain⟨_,_,_,b0,b1,b2,_⟩:=h
 refine⟨?_,?_,?_⟩ <;> simp[go_sem,b0,b1,b2]
theorem oP (key val:List UInt8)(line:Int)(w:World)(hk:key.length<=140737488355328)(hv:val.length<=140737488355328) :
  Calls Tryz.prog 126 #[.agg #[.string ⟨key.toArray⟩,.string ⟨val.toArray⟩,.int .i64 line]] w fun e w'=>e=.returned (.agg #[.string ⟨key.toArray⟩,.string ⟨val.toArray⟩,.int .i64 line])/\Below w.heap.size w w':=by
 obtain⟨W1,ac⟩:=ex (w.alloc (.cells #[.string ⟨key.toArray⟩,.string ⟨val.toArray⟩,.int .i64 line] 53))
 obtain⟨W2,ae⟩:=ex (W1.alloc (.cells #[.string ⟨#[]⟩,.string ⟨#[]⟩,.int .i64 0] 53))
 have aa:Hid (∀ u,Below W2.heap.size W2 u->FC w.heap.size key val line u):=fun u hb=>afm ac ae hb
 have al:W1.heap.size=w.heap.size+1:=by rw[<-ac];simp
 have aj:Hid (Below w.heap.size w W2):=(ag ac).trans ((ag ae).mono (ag ac).size)
 have HK:=zh hk
 have HV:=zh hv
 clear hk hv
 go_enter Tryz.func126,Tryz.ntmps126
 go_wp2_with fail
 have ad:Hid (Below W2.heap.size W2 W2.drew):=(Below.refl _ _).drew
 obtain⟨a0,a1,a2,b0,b1,b2,f0,f1,f2⟩:=aa.out _ ad.out
 clear ac ae
 clear b0 b1 b2 f0 f1 f2
 go_region_held3 (fun w'=>w'.cell? ⟨w.heap.size,0,none⟩=some (.string ⟨key.toArray⟩)/\w'.cell? ⟨w.heap.size,1,none⟩=some (.string ⟨val.toArray⟩)/\w'.cell? ⟨w.heap.size,2,none⟩=some (.int .i64 line))
  (first
   | exact fc3 (aa.out _ ad.out)
   | exact fc3 (aa.out _ af.out)
   | exact fc3 (aa.out _ ab.out)
   | exact ae4 (aa.out _ ab.out) _ _ _)
  (first
   | (go_at_call 37;refine (aX val _ (by have:=HV.out;omega)).mono ?_;rintro _ u3 ⟨rfl,ah⟩;have ab:=zh (bt af.out ah);clear ah;obtain⟨_,_,_,b0,b1,b2,f0,f1,f2⟩:=aa.out _ ab.out)
   | (go_at_call 37;refine (aX key _ (by have:=HK.out;omega)).mono ?_;rintro _ u2 ⟨rfl,ai⟩;have af:=zh (bt ad.out ai);clear ai))
 have ak:Hid (Below w.heap.size w (((u3.setCell ⟨w.heap.size+1,0,none⟩ (.string ⟨key.toArray⟩)).setCell ⟨w.heap.size+1,1,none⟩ (.string ⟨val.toArray⟩)).setCell ⟨w.heap.size+1,2,none⟩ (.int .i64 line))) :=
  (((bt aj.out ab.out).setCell (Nat.le_succ _) _).setCell (Nat.le_succ _) _).setCell (Nat.le_succ _) _
 have g:=ae5 (aa.out _ ab.out) (.string ⟨key.toArray⟩) (.string ⟨val.toArray⟩) (.int .i64 line)
 go_wp2_with fail
 generalize ((u3.setCell ⟨w.heap.size+1,0,none⟩ (.string ⟨key.toArray⟩)).setCell ⟨w.heap.size+1,1,none⟩ (.string ⟨val.toArray⟩)).setCell ⟨w.heap.size+1,2,none⟩ (.int .i64 line)=V at *
 obtain⟨g0,g1,g2⟩:=g
 refine bodyPost_ret (v:=.agg #[.string ⟨key.toArray⟩,.string ⟨val.toArray⟩,.int .i64 line]) ?_ rfl ⟨rfl,ak.out⟩
 simp[results,Tryz.results126,go_sem,g0,g1,g2]
def FieldRet (w:World) (n:Int) (R:Option Sz.Fld) (e:Ending) (w':World):Prop :=
 Below w.heap.size w w'/\match R with
  | some f=>e=.returned (.agg #[.string ⟨f.key.toArray⟩,.string ⟨f.val.toArray⟩,.int .i64 n])
  | none=>e=panAt n 2
theorem vt (s:List UInt8)(w:World)(hm:MaxOk w)(hl:s.length<=1000000) :
  Calls Tryz.prog 123 #[.string ⟨s.toArray⟩,.string ⟨#[58,32]⟩] w fun e w'=>e=.returned (.tuple #[.string ⟨(Lib.cut s Sz.mark).1.toArray⟩,.string ⟨(Lib.cut s Sz.mark).2.1.toArray⟩,.bool (Lib.cut s Sz.mark).2.2])/\Below w.heap.size w w':=by
 obtain⟨m,hm⟩:=hm
 exact (Tryz.strings_Cut ⟨s.toArray⟩ ⟨#[58,32]⟩ m w (by show s.length<_;omega) hm).mono fun e w' ⟨h1,n,h2⟩=>⟨h1,h2 ▸ below_drewN (Below.refl _ _) n⟩
theorem aaz (s:List UInt8)(n:Int):Sz.fieldP s n=if (Lib.cut s Sz.mark).2.2&&(Sz.keyB (Lib.cut s Sz.mark).1&&Sz.valB (Lib.cut s Sz.mark).2.1) then some ⟨(Lib.cut s Sz.mark).1,(Lib.cut s Sz.mark).2.1,n⟩ else none:=by
 unfold Sz.fieldP Lib.cut
 by_cases h:0<=Lib.index s Sz.mark
 ·rw[if_pos h]
  show (if _/\_/\_ then _ else _)=if (true&&_)=true then _ else _
  rw[Bool.true_and]
  show _=if (Sz.keyB (s.take (Lib.index s Sz.mark).toNat)&&Sz.valB (s.drop ((Lib.index s Sz.mark).toNat+2)))=true then some (⟨s.take (Lib.index s Sz.mark).toNat,s.drop ((Lib.index s Sz.mark).toNat+2),n⟩:Sz.Fld) else none
  by_cases h1:Sz.keyB (s.take (Lib.index s Sz.mark).toNat)=true
  ·by_cases h2:Sz.valB (s.drop ((Lib.index s Sz.mark).toNat+2))=true
   ·rw[if_pos ⟨h,h1,h2⟩,if_pos (by rw[h1,h2];rfl)]
   ·rw[if_neg (fun hh=>h2 hh.2.2),if_neg (by rw[h1,Bool.true_and];exact h2)]
  ·rw[if_neg (fun hh=>h1 hh.2.1),if_neg (by rw[Bool.and_eq_true];exact fun hh=>h1 hh.1)]
 ·rw[if_neg (fun hh=>h hh.1),if_neg h];rfl
theorem ae6 (s:List UInt8):(Lib.cut s Sz.mark).1.length<=s.length/\(Lib.cut s Sz.mark).2.1.length<=s.length:=by
 unfold Lib.cut
 split
 ·show (s.take (Lib.index s Sz.mark).toNat).length<=s.length/\(s.drop ((Lib.index s Sz.mark).toNat+Sz.mark.length)).length<=s.length
  rw[List.length_take,List.length_drop];omega
 ·exact⟨Nat.le_refl _,Nat.zero_le _⟩
theorem mK (s:List UInt8)(n:Int)(w:World)(hw:MaxOk w)(hs:s.length<=1000000) :
  Calls Tryz.prog 77 #[.string ⟨s.toArray⟩,.int .i64 n] w (FieldRet w n (Sz.fieldP s n)):=by
 obtain⟨R,hR⟩:=ex (Sz.fieldP s n)
 rw[hR]
 rw[aaz] at hR
 obtain⟨W1,ab⟩:=ex (w.alloc (.cells #[.string ⟨#[]⟩,.string ⟨#[]⟩,.int .i64 0] 53))
 have al:Hid (∀ u,Below W1.heap.size W1 u->u.cell? ⟨w.heap.size,0,none⟩=some (.string ⟨#[]⟩)/\u.cell? ⟨w.heap.size,1,none⟩=some (.string ⟨#[]⟩)/\u.cell? ⟨w.heap.size,2,none⟩=some (.int .i64 0)/\u.frozen? ⟨w.heap.size,0,none⟩=false/\u.frozen? ⟨w.heap.size,1,none⟩=false/\u.frozen? ⟨w.heap.size,2,none⟩=false):=fun u hb=>dq ab hb
 have ac:Hid (Below w.heap.size w W1):=ag ab
 have hcut:=vt s W1 (ah hw ac.out) hs
 obtain⟨ae,af⟩:=ae6 s
 obtain⟨c,hc⟩:=ex (Lib.cut s Sz.mark)
 obtain⟨k,v,f⟩:=c
 rw[hc] at hR hcut ae af
 dsimp only at hR hcut ae af
 have aa:=zh hcut
 have ad:Hid (k.length<=1000000):=Nat.le_trans ae hs
 have ai:Hid (v.length<=1000000):=Nat.le_trans af hs
 clear hcut hc ae af hs hw
 cases f
 ·have HR:Hid (R=none):=hR.symm
  clear hR
  go_enter Tryz.func77,Tryz.ntmps77
  go_wp2_with fail
  clear ab
  refine aa.out.mono ?_
  rintro _ u ⟨rfl,hb⟩
  have HB:Hid (Below w.heap.size w u):=bt ac.out hb
  clear hb
  go_wp2_with fail
  refine (aO _).mono ?_
  rintro _ z ⟨rfl,rfl⟩
  go_wp2_with fail
  exact⟨rfl,by show FieldRet w n R _ _;rw[HR.out];exact⟨HB.out,rfl⟩⟩
 ·cases hk:Sz.keyB k
  ·have HR:Hid (R=none):=by rw[hk] at hR;exact hR.symm
   have HK:=zh hk
   clear hR hk
   go_enter Tryz.func77,Tryz.ntmps77
   go_wp2_with fail
   clear ab
   refine aa.out.mono ?_
   rintro _ u ⟨rfl,hb⟩
   have HB:Hid (Below w.heap.size w u):=bt ac.out hb
   clear hb
   go_wp2_with fail
   refine (lG k _ ad.out).mono ?_
   rintro _ z ⟨rfl,rfl⟩
   rw[HK.out]
   go_wp2_with fail
   refine (aO _).mono ?_
   rintro _ z ⟨rfl,rfl⟩
   go_wp2_with fail
   exact⟨rfl,by show FieldRet w n R _ _;rw[HR.out];exact⟨HB.out,rfl⟩⟩
  ·have HK:=zh hk
   cases hv:Sz.valB v
   ·have HR:Hid (R=none):=by rw[hk,hv] at hR;exact hR.symm
    have HV:=zh hv
    clear hR hk hv
    go_enter Tryz.func77,Tryz.ntmps77
    go_wp2_with fail
    clear ab
    refine aa.out.mono ?_
    rintro _ u ⟨rfl,hb⟩
    have HB:Hid (Below w.heap.size w u):=bt ac.out hb
    clear hb
    go_wp2_with fail
    refine (lG k _ ad.out).mono ?_
    rintro _ z ⟨rfl,rfl⟩
    rw[HK.out]
    go_wp2_with fail
    refine (mI v _ ai.out).mono ?_
    rintro _ z ⟨rfl,rfl⟩
    rw[HV.out]
    go_wp2_with fail
    refine (aO _).mono ?_
    rintro _ z ⟨rfl,rfl⟩
    go_wp2_with fail
    exact⟨rfl,by show FieldRet w n R _ _;rw[HR.out];exact⟨HB.out,rfl⟩⟩
   ·have HR:Hid (R=some ⟨k,v,n⟩):=by rw[hk,hv] at hR;exact hR.symm
    have HV:=zh hv
    clear hR hk hv
    go_enter Tryz.func77,Tryz.ntmps77
    go_wp2_with fail
    clear ab
    refine aa.out.mono ?_
    rintro _ u ⟨rfl,hb⟩
    have HB:=zh hb
    clear hb
    go_wp2_with fail
    refine (lG k _ ad.out).mono ?_
    rintro _ z ⟨rfl,rfl⟩
    rw[HK.out]
    go_wp2_with fail
    refine (mI v _ ai.out).mono ?_
    rintro _ z ⟨rfl,rfl⟩
    rw[HV.out]
    go_wp2_with fail
    refine (aV _).mono ?_
    rintro _ z ⟨rfl,rfl⟩
    go_wp2_with fail
    refine (oP k v n _ (Nat.le_trans ad.out (by decide)) (Nat.le_trans ai.out (by decide))).mono ?_
    rintro _ u3 ⟨rfl,ak⟩
    have aj:Hid (Below W1.heap.size W1 u3):=bt HB.out ak
    clear ak
    obtain⟨b0,b1,b2,f0,f1,f2⟩:=al.out u3 aj.out
    have am:Hid (Below w.heap.size w (((u3.setCell ⟨w.heap.size,0,none⟩ (.string ⟨k.toArray⟩)).setCell ⟨w.heap.size,1,none⟩ (.string ⟨v.toArray⟩)).setCell ⟨w.heap.size,2,none⟩ (.int .i64 n))) :=
     (((bt ac.out aj.out).setCell (Nat.le_refl _) _).setCell (Nat.le_refl _) _).setCell (Nat.le_refl _) _
    have g0:(((u3.setCell ⟨w.heap.size,0,none⟩ (.string ⟨k.toArray⟩)).setCell ⟨w.heap.size,1,none⟩ (.string ⟨v.toArray⟩)).setCell ⟨w.heap.size,2,none⟩ (.int .i64 n)).cell? ⟨w.heap.size,0,none⟩=some (.string ⟨k.toArray⟩):=by simp[go_sem,b0]
    have g1:(((u3.setCell ⟨w.heap.size,0,none⟩ (.string ⟨k.toArray⟩)).setCell ⟨w.heap.size,1,none⟩ (.string ⟨v.toArray⟩)).setCell ⟨w.heap.size,2,none⟩ (.int .i64 n)).cell? ⟨w.heap.size,1,none⟩=some (.string ⟨v.toArray⟩):=by simp[go_sem,b1]
    have g2:(((u3.setCell ⟨w.heap.size,0,none⟩ (.string ⟨k.toArray⟩)).setCell ⟨w.heap.size,1,none⟩ (.string ⟨v.toArray⟩)).setCell ⟨w.heap.size,2,none⟩ (.int .i64 n)).cell? ⟨w.heap.size,2,none⟩=some (.int .i64 n):=by simp[go_sem,b2]
    go_wp2_with fail
    generalize ((u3.setCell ⟨w.heap.size,0,none⟩ (.string ⟨k.toArray⟩)).setCell ⟨w.heap.size,1,none⟩ (.string ⟨v.toArray⟩)).setCell ⟨w.heap.size,2,none⟩ (.int .i64 n)=V at *
    refine bodyPost_ret (v:=.agg #[.string ⟨k.toArray⟩,.string ⟨v.toArray⟩,.int .i64 n]) ?_ rfl ?_
    ·simp[results,Tryz.results77,go_sem,g0,g1,g2]
    ·rw[HR.out];exact⟨am.out,rfl⟩
end
namespace Sz
open Go.RowKit
attribute [local go_sem ↓] Go.wp_at_zero Go.wp_at_succ
theorem m8 (w:World)(T:TypeId)(l:List (List UInt8))(cs:Array Value)(h:cs.toList=Rg.flat encT l):Rg.Row encT 1 (w.alloc (.cells cs T)) (some ⟨w.heap.size,0,none⟩) l:=fun _=>by
 refine⟨_,rfl,by simp,fun i hi j v hv=>?_⟩
 have hj:j<1:=(List.getElem?_eq_some_iff.1 hv).1
 rw[<-Rg.jM]
 exact Rg.av w T l cs h _ _ ((Rg.flat_get fitsT l i hi j hj).trans hv)
theorem bU {w:World}{A:Option Addr}{l:List (List UInt8)}(h:Rg.Row encT 1 w A l)(k:Nat)(hk:k<l.length):∃ ad,A=some ad/\ad.block<w.heap.size/\w.cell? (ad.add k)=some (.string ⟨l[k].toArray⟩):=by
 obtain⟨ad,x,e,hx,aa,hc⟩:=Rg.cz h k hk
 refine⟨ad,e,aa,?_⟩
 have:=hc 0 _ rfl
 rw[if_pos rfl,Nat.mul_one] at this
 rw[hx]
 exact this
theorem flatT (l:List (List UInt8)):Rg.flat encT l=l.map fun t=>Value.string ⟨t.toArray⟩:=by
 induction l with
 | nil=>rfl
 | cons a l ih=>show encT a++Rg.flat encT l=_;rw[ih];rfl
theorem bM (sep:List UInt8):∀ (k:Nat) (s:List UInt8),∀ p∈Lib.splitK sep 0 k s,p.length<=s.length
 | 0,s,p,hp=>by
  unfold Lib.splitK at hp
  rw[List.mem_singleton.1 hp];exact Nat.le_refl _
 | k+1,s,p,hp=>by
  unfold Lib.splitK at hp
  split at hp
  ·rw[List.mem_singleton.1 hp];exact Nat.le_refl _
  ·rcases List.mem_cons.1 hp with e | hp
   ·rw[e];simp;omega
   ·have:=bM sep k _ p hp
    simp at this;omega
theorem iL (s sep:List UInt8)(w:World)(hm:MaxOk w)(hl:s.length<=900000)(h1:1<=sep.length) :
  Calls Tryz.prog 122 #[.string ⟨s.toArray⟩,.string ⟨sep.toArray⟩] w fun e w'=>∃ A n,e=.returned (.slice A n n)/\(Lib.split s sep).length=n/\n<=s.length+1/\Rg.Row encT 1 w' A (Lib.split s sep)/\Below w.heap.size w w':=by
 obtain⟨m,hm⟩:=hm
 refine (Tryz.strings_Split ⟨s.toArray⟩ ⟨sep.toArray⟩ m w (by show s.length<_;omega) hm h1).mono ?_
 rintro e w' ⟨rfl,rfl⟩
 have hd:(Lib.splitB ⟨sep.toArray⟩ 0 (Lib.countB ⟨s.toArray⟩ ⟨sep.toArray⟩) ⟨s.toArray⟩).map (·.data.toList)=Lib.split s sep:=Lib.splitB_data _ _ _ _
 have hn:=Lib.splitB_all ⟨sep.toArray⟩ h1 0 (Lib.countB ⟨s.toArray⟩ ⟨sep.toArray⟩) ⟨s.toArray⟩ rfl
 have hc:=Lib.countB_le ⟨sep.toArray⟩ h1 s.length ⟨s.toArray⟩ (Nat.le_refl _)
 refine⟨_,_,rfl,by rw[<-hd,List.length_map,hn],Nat.succ_le_succ hc,m8 w _ _ _ ?_,(Below.refl _ _).alloc (Nat.le_refl _) _⟩
 rw[flatT,<-hd,List.map_map]
 rfl
theorem aaA {w:World}{A:Option Addr}{l:List (List UInt8)}(h:Rg.Row encT 1 w A l):Rg.Row encT 1 w A l.dropLast:=fun h0=>by
 rw[List.length_dropLast] at h0
 obtain⟨a,e,hl,hc⟩:=h (by omega)
 refine⟨a,e,hl,fun i hi=>?_⟩
 rw[List.getElem_dropLast]
 exact hc i (by rw[List.length_dropLast] at hi;omega)
theorem wS {s p:List UInt8}(h:p∈linesL s):p.length<=s.length:=bM [10] _ _ p (List.dropLast_subset _ h)
theorem mL (s:List UInt8)(w:World)(hw:MaxOk w)(hs:s.length<=100000) :
  Calls Tryz.prog 74 #[.string ⟨s.toArray⟩] w fun e w'=>∃ A n c,e=.returned (.slice A n c)/\(linesL s).length=n/\n<=s.length/\Rg.Row encT 1 w' A (linesL s)/\Below w.heap.size w w':=by
 have hc:=iL s [10] w hw (by omega) (by decide)
 have ac:=oE s
 have HL:Hid ((linesL s).length=(Lib.split s [10]).length-1):=by show _=_;unfold linesL;rw[List.length_dropLast]
 have HF:Hid (∀ (u:World) (A:Option Addr),Rg.Row encT 1 u A (Lib.split s [10])->Rg.Row encT 1 u A (linesL s)):=fun u A h=>aaA h
 have HC:=zh hc
 have ad:Hid (1<=(Lib.split s [10]).length):=List.length_pos_iff.2 ac
 clear hc ac
 go_enter Tryz.func74,Tryz.ntmps74
 go_wp2_with fail
 refine HC.out.mono ?_
 rintro _ u ⟨A,n,rfl,hn,ae,aa,hb⟩
 have h1:1<=n:=by rw[<-hn];exact ad.out
 have HN:=zh hn
 have ab:=zh (HF.out _ _ aa)
 have HB:=zh hb
 clear hn aa hb
 have i0:(0:Int)<=(n:Int)-1:=by omega
 have i1:(n:Int)-1<=(n:Int):=by omega
 have i2:((n:Int)-1).toNat=n-1:=by omega
 go_wp2_with fail
 go_ret
 exact⟨A,_,_,rfl,by rw[HL.out,HN.out],by omega,ab.out,HB.out⟩
end Sz
namespace Sz
open Go.RowKit Go.Maps
attribute [local go_sem ↓] Go.wp_at_zero Go.wp_at_succ
def encF (f:Fld):List Value:=[.string ⟨f.key.toArray⟩,.string ⟨f.val.toArray⟩,.int .i64 f.line]
theorem fitsF:Rg.Fits encF 3:=⟨fun _=>rfl,fun x u hu=>by
 simp only[encF,List.mem_cons,List.not_mem_nil,or_false] at hu
 rcases hu with rfl | rfl | rfl <;> rfl⟩
theorem sliceF:Rg.SliceT Tryz.prog encF 3 36 53:=⟨fitsF,by decide,by kernel_rfl,Rg.bQ (z:=.agg #[.string ByteArray.empty,.string ByteArray.empty,.int .i64 0]) (b:=40) (by kernel_rfl) (by rfl) (by decide)⟩
theorem sliceE:Rg.SliceT Tryz.prog encO 1 49 36:=⟨fitsO,by decide,by kernel_rfl,Rg.bQ (z:=.slice none 0 0) (b:=24) (by kernel_rfl) (by rfl) (by decide)⟩
theorem keyLaw:Keyed Tryz.prog 9:=string_keyed Tryz.underlying9
theorem zeroU (w:World):(zeroValue 192).run Tryz.prog w=.ok (.agg #[]) w:=by kernel_rfl
def KSet (w:World) (b:Nat) (ks:List (List UInt8)):Prop:=∃ (n:Nat) (D:DataW Unit),w.ownsMap Tryz.prog 9 unitElem b n D/\n<=ks.length/\∀ k:List UInt8,k.length<=1000000->Maps.has D (.string k)=ks.contains k
theorem aaB (w:World):KSet (w.alloc (.map #[] 0)) w.heap.size []:=⟨0,_,World.ownsMap_made w _ _ _,Nat.le_refl _,fun _k _=>rfl⟩
theorem iO {k:List UInt8}(hk:k.length<=140737488355328):keyOf Tryz.prog 9 (.string ⟨k.toArray⟩)=some (.string k):=by
 have:=WideMaps.keyOf_string_mk (P:=Tryz.prog) (k:=9) Tryz.underlying9 (s:=⟨k.toArray⟩) (by show k.toArray.size<=_;rw[List.size_toArray];unfold maxLen;omega)
 exact this
theorem iP {w:World}{b:Nat}{ks:List (List UInt8)}(h:KSet w b ks){k:List UInt8}(hk:k.length<=1000000) :
  (Instr.lookup 142 (.map (some b)) (.string ⟨k.toArray⟩) true).run Tryz.prog w=.ok (.tuple #[.agg #[],.bool (ks.contains k)]) w:=by
 obtain⟨n,D,aa,_,hh⟩:=h
 obtain⟨v,ps,ab,hv⟩:=aa.look_ok keyLaw Tryz.underlying142 (zeroU w) unitElem_mk (iO (Nat.le_trans hk (by decide)))
 obtain⟨rfl,_⟩:=unitElem_inv hv
 rw[ab,hh k hk]
theorem tF {w:World}{b:Nat}{ks:List (List UInt8)}(h:KSet w b ks){k:List UInt8}(hk:k.length<=1000000)(hl:ks.length<=1000000) :
  ∃ w',(Instr.mapUpdate 142 (.map (some b)) (.string ⟨k.toArray⟩) (.agg #[])).run Tryz.prog w=.ok () w'/\KSet w' b (ks++[k])/\w.mapTurned w' b:=by
 obtain⟨n,D,aa,hn,hh⟩:=h
 obtain⟨w',ac,ab,ht⟩:=aa.store keyLaw Tryz.underlying142 (by unfold maxLen;omega) (iO (Nat.le_trans hk (by decide))) (val:=.agg #[]) unitElem_mk
 refine⟨w',ac,⟨n+1,_,ab,by rw[List.length_append];simp;omega,fun x hx=>?_⟩,ht⟩
 by_cases e:x=k
 ·subst e
  rw[Maps.has_put_same aa.isMap (by trivial)]
  simp
 ·rw[Maps.has_put_other (by intro h;exact e (Lit.string.inj h)),hh x hx]
  simp[e]
theorem b9 {w w':World}{b B:Nat}{ks:List (List UInt8)}(h:KSet w b ks)(hb:Below B w w')(hlt:b<B):KSet w' b ks:=by
 obtain⟨n,D,⟨es,clock,hh,r⟩,h2⟩:=h
 exact⟨n,D,⟨es,clock,(hb.block b hlt).trans hh,r⟩,h2⟩
theorem iQ {w w':World}{b:Nat}{ks:List (List UInt8)}(h:KSet w b ks)(hb:w'.heap[b]?=w.heap[b]?):KSet w' b ks:=by
 obtain⟨n,D,⟨es,clock,hh,r⟩,h2⟩:=h
 exact⟨n,D,⟨es,clock,hb.trans hh,r⟩,h2⟩
end Sz
namespace Sz
open Go.RowKit Go.Maps
theorem cI (w:World)(a:Addr)(v:Value):w.grownBy (w.setCell a v) (some a.block):=⟨rfl,rfl,rfl,by simp[World.setCell],fun k _ hk=>Below.heap_setCell _ _ _ _ (fun e=>hk (by simp[e]))⟩
section
variable {α:Type} {enc:α->List Value} {K:Nat}
theorem bX {w w':World}{B:Nat}{T:TypeId}{v:Value}{l:List α}{row:Option Nat}(h:Rg.Own enc K w B T v l)(hg:w.grownBy w' row)(hne:v.ownBlock=none\/v.ownBlock≠row):Rg.Own enc K w' B T v l:=World.ownsRow.kept h hg hne
theorem cG {w:World}{B:Nat}{T:TypeId}{v:Value}{l:List α}{g:Nat}(h:Rg.Own enc K w B T v l)(hg:v.ownBlock=some g):∃ cs fr,w.heap[g]?=some (.cells cs T fr):=by
 rcases h.2 with⟨rfl,_⟩ | ⟨g',cap,cur,rfl,_,hgg,_⟩
 ·cases hg
 ·cases hg;exact⟨_,_,hgg⟩
theorem aD {w:World}{B:Nat}{T T2:TypeId}{v:Value}{l:List α}{b:Nat}{cs:Array Value}{fr:Nat × Nat}(h:Rg.Own enc K w B T v l)(hb:w.heap[b]?=some (.cells cs T2 fr))(hT:T2≠T):v.ownBlock≠some b:=fun e=>by
 obtain⟨cs2,fr2,hc⟩:=cG h e
 rw[hb] at hc
 exact hT (Obj.cells.inj (Option.some.inj hc)).2.1
theorem fo {w w':World}{ds:List Desc}{t:List (List α)}{b:Nat}(h:Gr.In enc K w ds t)(hg:w.grownBy w' (some b))(hf:Gr.Free (.slice (some ⟨b,0,none⟩) 0 0) ds t):Gr.In enc K w' ds t :=
 ⟨h.1,fun i d l h1 h2=>⟨(h.2 i d l h1 h2).1,cV (h.2 i d l h1 h2).2 hg (fun h0 a ha=>by
  have:=hf i d l h1 h2 h0 a ha
  exact this)⟩⟩
theorem qD {w w':World}{ds:List Desc}{t:List (List α)}{v:Value}(h:Gr.In enc K w ds t)(hg:w.grownBy w' v.ownBlock)(hf:Gr.Free v ds t):Gr.In enc K w' ds t :=
 ⟨h.1,fun i d l h1 h2=>⟨(h.2 i d l h1 h2).1,cV (h.2 i d l h1 h2).2 hg (fun h0 a ha=>hf i d l h1 h2 h0 a ha)⟩⟩
theorem in_lt {w:World}{ds:List Desc}{t:List (List α)}(h:Gr.In enc K w ds t):∀ (i:Nat) (d:Desc) (l:List α),ds[i]?=some d->t[i]?=some l->0<l.length->∀ a,d.1=some a->a.block<w.heap.size:=fun i d l h1 h2 h0 a ha=>by
 obtain⟨a2,e,hlt,_⟩:=(h.2 i d l h1 h2).2 h0
 rw[ha] at e;cases e;exact hlt
end
def Keeps (B d:Nat) (w w':World):Prop:=Below 0 w w'/\∀ k,k<B->k≠d->w'.heap[k]?=w.heap[k]?
theorem bN {B d:Nat}{w w':World}(h:Below B w w'):Keeps B d w w':=⟨h.mono (Nat.zero_le _),fun k hk _=>h.block k hk⟩
theorem aU {B d:Nat}{w u w':World}(h:Keeps B d w u)(k:Keeps B d u w'):Keeps B d w w':=⟨h.1.trans k.1,fun i hi hd=>(k.2 i hi hd).trans (h.2 i hi hd)⟩
theorem fL {B d j:Nat}{w u:World}(h:Keeps B d w u)(x:Value):Keeps B d w (u.setCell ⟨d,j,none⟩ x):=⟨h.1.setCell (Nat.zero_le _) _,fun i hi hd=>(Below.heap_setCell _ _ _ _ (fun e=>hd (by simp[e]))).trans (h.2 i hi hd)⟩
theorem eH {B d:Nat}{w u:World}(h:Keeps B d w u)(hd:d<=B):Below d w u:=⟨h.1.os,h.1.tape,h.1.output,h.1.size,fun k hk=>h.2 k (Nat.lt_of_lt_of_le hk hd) (Nat.ne_of_lt hk)⟩
def DrO (w:World) (B d:Nat) (v0 v1 v2:Value) (ds:List Desc) (acc:List (List Fld)) (last:List Fld):Prop :=
 (∀ x∈ds,x.2.1<=x.2.2)/\w.heap[d]?=some (.cells #[v0,v1,v2] 144 (0,0))/\Rg.Own encO 1 w B 36 v0 ds/\Gr.In encF 3 w ds acc/\Gr.Free v0 ds acc /\
 Rg.Own encF 3 w B 53 v1 last/\Gr.Free v1 ds acc/\Gr.Free (.slice (some ⟨d,0,none⟩) 0 0) ds acc
theorem wT {w:World}{B:Nat}:DrO (w.alloc (.cells #[.slice none 0 0,.slice none 0 0,.map none] 144)) B w.heap.size (.slice none 0 0) (.slice none 0 0) (.map none) [] [] [] :=
 ⟨fun x hx=>(by cases hx),heap_alloc_new _ _,Rg.az _ _ _,⟨rfl,fun i d l h=>by simp at h⟩,fun i d l h=>by simp at h,Rg.az _ _ _,fun i d l h=>by simp at h,fun i d l h=>by simp at h⟩
theorem ij {w:World}{B d:Nat}{v0 v1 v2:Value}{ds:List Desc}{acc:List (List Fld)}{last:List Fld}(h:DrO w B d v0 v1 v2 ds acc last):d<w.heap.size:=(Array.getElem?_eq_some_iff.1 h.2.1).1
theorem a4 {w:World}{B d:Nat}{v0 v1 v2:Value}{ds:List Desc}{acc:List (List Fld)}{last:List Fld}(h:DrO w B d v0 v1 v2 ds acc last) :
  w.cell? ⟨d,0,none⟩=some v0/\w.cell? ⟨d,1,none⟩=some v1/\w.cell? ⟨d,2,none⟩=some v2/\w.frozen? ⟨d,0,none⟩=false/\w.frozen? ⟨d,1,none⟩=false/\w.frozen? ⟨d,2,none⟩=false:=by
 have hb:=h.2.1
 refine⟨?_,?_,?_,?_,?_,?_⟩ <;> simp[World.cell?,World.frozen?,hb]
theorem bg {w w':World}{B d:Nat}{v0 v1 v2:Value}{ds:List Desc}{acc:List (List Fld)}{last:List Fld}(h:DrO w B d v0 v1 v2 ds acc last)(hb:Below w.heap.size w w'):DrO w' B d v0 v1 v2 ds acc last:=by
 have aa:=ij h
 obtain⟨h0,h1,h2,h3,h4,h5,h6,h7⟩:=h
 exact⟨h0,(hb.block d aa).trans h1,Rg.own_below h2 hb,Gr.mT h3 hb,h4,Rg.own_below h5 hb,h6,h7⟩
theorem neS:144≠36:=by decide
theorem neF:144≠53:=by decide
theorem neSF:36≠53:=by decide
theorem aed {w:World}{B d:Nat}{v0 v1 v2:Value}{ds:List Desc}{acc:List (List Fld)}{last:List Fld}(h:DrO w B d v0 v1 v2 ds acc last)(j:Nat)(x:Value){u0 u1 u2:Value}(hj:(#[v0,v1,v2]:Array Value).setIfInBounds j x=#[u0,u1,u2]) :
  (w.setCell ⟨d,j,none⟩ x).heap[d]?=some (.cells #[u0,u1,u2] 144 (0,0))/\Rg.Own encO 1 (w.setCell ⟨d,j,none⟩ x) B 36 v0 ds/\Gr.In encF 3 (w.setCell ⟨d,j,none⟩ x) ds acc/\Rg.Own encF 3 (w.setCell ⟨d,j,none⟩ x) B 53 v1 last:=by
 obtain⟨h0,h1,h2,h3,h4,h5,h6,h7⟩:=h
 have hg:=cI w ⟨d,j,none⟩ x
 refine⟨?_,bX h2 hg (Or.inr (aD h2 h1 neS)),fo h3 hg h7,bX h5 hg (Or.inr (aD h5 h1 neF))⟩
 simp[World.setCell,Array.getElem?_modify,h1,hj]
theorem acz {w:World}{B d:Nat}{v0 v1 v2:Value}{ds:List Desc}{acc:List (List Fld)}{last:List Fld}(h:DrO w B d v0 v1 v2 ds acc last)(x:Value):DrO (w.setCell ⟨d,2,none⟩ x) B d v0 v1 x ds acc last:=by
 obtain⟨g1,g2,g3,g4⟩:=aed h 2 x rfl
 exact⟨h.1,g1,g2,g3,h.2.2.2.2.1,g4,h.2.2.2.2.2.2.1,h.2.2.2.2.2.2.2⟩
theorem wU {w w':World}{B d m:Nat}{v0 v1 v2:Value}{ds:List Desc}{acc:List (List Fld)}{last:List Fld}{ks:List (List UInt8)}(h:DrO w B d v0 v1 v2 ds acc last)(hk:KSet w m ks)(ht:w.mapTurned w' m):DrO w' B d v0 v1 v2 ds acc last:=by
 obtain⟨n,D,⟨es,clock,hm,_⟩,_⟩:=hk
 obtain⟨h0,h1,h2,h3,h4,h5,h6,h7⟩:=h
 have hg:=ht.grown
 have ab:d≠m:=fun e=>by subst e;rw[hm] at h1;cases h1
 have n0:v0.ownBlock≠some m:=fun e=>by
  obtain⟨cs,fr,hc⟩:=cG h2 e
  rw[hm] at hc;cases hc
 have n1:v1.ownBlock≠some m:=fun e=>by
  obtain⟨cs,fr,hc⟩:=cG h5 e
  rw[hm] at hc;cases hc
 have hf:Gr.Free (.slice (some ⟨m,0,none⟩) 0 0) ds acc:=fun i dd l e1 e2 hl a ha hb=>by
  have ac:m=a.block:=Option.some.inj hb
  obtain⟨a2,e,_,hc⟩:=(h3.2 i dd l e1 e2).2 hl
  rw[ha] at e;cases e
  have:=hc 0 hl 0 _ rfl
  rw[if_pos rfl] at this
  have aa:(a.add (0*3)).block=m:=by rw[Rs.add_block];exact ac.symm
  obtain⟨q,hq⟩:=ex (a.add (0*3))
  rw[hq] at this aa
  unfold World.cell? at this
  rw[aa,hm] at this
  cases this
 exact⟨h0,by rw[<-h1];exact hg.block d (ij ⟨h0,h1,h2,h3,h4,h5,h6,h7⟩) (fun e=>ab (Option.some.inj e)),bX h2 hg (Or.inr n0),fo h3 hg hf,h4,bX h5 hg (Or.inr n1),h6,h7⟩
theorem wV {w w':World}{B d g n cap:Nat}{v0 v1 v2:Value}{ds:List Desc}{acc:List (List Fld)}{last:List Fld}{f:Fld}(h:DrO w B d v0 v1 v2 ds acc last)(ho:Rg.Own encF 3 w' B 53 (.slice (some ⟨g,0,none⟩) n cap) (last++[f]))(hg:w.grownBy w' v1.ownBlock)(hl:v1.ownBlock=some g\/w.heap.size<=g) :
  DrO (w'.setCell ⟨d,1,none⟩ (.slice (some ⟨g,0,none⟩) n cap)) B d v0 (.slice (some ⟨g,0,none⟩) n cap) v2 ds acc (last++[f]):=by
 have ad:=ij h
 obtain⟨h0,h1,h2,h3,h4,h5,h6,h7⟩:=h
 have ae:v1.ownBlock≠some d:=aD h5 h1 neF
 have aa:w'.heap[d]?=some (.cells #[v0,v1,v2] 144 (0,0)):=(hg.block d ad (fun e=>ae e.symm)).trans h1
 have af:v0.ownBlock=none\/v0.ownBlock≠v1.ownBlock:=by
  cases e0:v0.ownBlock with
  | none=>exact Or.inl rfl
  | some b0 =>
   refine Or.inr fun e=>?_
   obtain⟨cs,fr,hc⟩:=cG h2 e0
   exact aD h5 hc neSF e.symm
 have ab:Rg.Own encO 1 w' B 36 v0 ds:=bX h2 hg af
 have ag:=qD h3 hg h6
 have hs:=cI w' ⟨d,1,none⟩ (.slice (some ⟨g,0,none⟩) n cap)
 refine⟨h0,?_,bX ab hs (Or.inr (aD ab aa neS)),fo ag hs h7,h4,bX ho hs (Or.inr (aD ho aa neF)),?_,h7⟩
 ·simp[World.setCell,Array.getElem?_modify,aa]
 ·intro i dd l e1 e2 ac a ha hb
  have ah:g=a.block:=Option.some.inj hb
  have ai:=in_lt h3 i dd l e1 e2 ac a ha
  rcases hl with hl | hl
  ·exact h6 i dd l e1 e2 ac a ha (by rw[hl,ah])
  ·omega
theorem aee {w w':World}{B d g n cap nl cl:Nat}{A:Option Addr}{v0 v2:Value}{ds:List Desc}{acc:List (List Fld)}{last:List Fld}(h:DrO w B d v0 (.slice A nl cl) v2 ds acc last)(hn:last.length=nl)
  (ho:Rg.Own encO 1 w' B 36 (.slice (some ⟨g,0,none⟩) n cap) (ds++[(A,nl,cl)])) (hg:w.grownBy w' v0.ownBlock) (hl:v0.ownBlock=some g\/w.heap.size<=g) :
  DrO ((w'.setCell ⟨d,0,none⟩ (.slice (some ⟨g,0,none⟩) n cap)).setCell ⟨d,1,none⟩ (.slice none 0 0)) B d (.slice (some ⟨g,0,none⟩) n cap) (.slice none 0 0) v2 (ds++[(A,nl,cl)]) (acc++[last]) []:=by
 have am:=ij h
 obtain⟨h0,h1,h2,h3,h4,h5,h6,h7⟩:=h
 have an:v0.ownBlock≠some d:=aD h2 h1 neS
 have ai:w'.heap[d]?=some (.cells #[v0,.slice A nl cl,v2] 144 (0,0)):=(hg.block d am (fun e=>an e.symm)).trans h1
 obtain⟨A2,c2,hv,ah,ae,_⟩:=Rg.aE fitsF h5
 rw[hn] at hv ae
 cases hv
 have ao:∀ x∈ds++[(A,nl,cl)],x.2.1<=x.2.2:=fun x hx=>by
  rcases List.mem_append.1 hx with hx | hx
  ·exact h0 x hx
  ·rw[List.mem_singleton.1 hx];exact ae
 have hA:∀ a,A=some a->0<last.length->(∃ cs fr,w.heap[a.block]?=some (.cells cs 53 fr))/\a.block<w.heap.size:=fun a ha hl0=>by
  obtain⟨cs,fr,hc⟩:=cG (g:=a.block) h5 (by rw[ha];rfl)
  exact⟨⟨cs,fr,hc⟩,(Array.getElem?_eq_some_iff.1 hc).1⟩
 have ab:=qD h3 hg h4
 have ac:Rg.Row encF 3 w' A last:=cV ah hg (fun hl0 a ha e=>by
  obtain⟨⟨cs,fr,hc⟩,_⟩:=hA a ha hl0
  exact aD h2 hc (fun e=>neSF e.symm) e)
 have ap:Gr.In encF 3 w' (ds++[(A,nl,cl)]) (acc++[last]):=by
  refine⟨by rw[List.length_append,List.length_append,ab.1];rfl,fun i dd l e1 e2=>?_⟩
  rcases aG e1 with⟨q1,q2⟩ | ⟨q1,q2⟩
  ·rcases aG e2 with⟨_,p2⟩ | ⟨p1,_⟩
   ·exact ab.2 i dd l q2 p2
   ·have:=ab.1;omega
  ·rcases aG e2 with⟨p1,_⟩ | ⟨_,p2⟩
   ·have:=ab.1;omega
   ·subst q2 p2;exact⟨hn.symm,ac⟩
 have aa:∀ b,Gr.Free (.slice (some ⟨b,0,none⟩) 0 0) ds acc->(∀ a,A=some a->0<last.length->b≠a.block)->Gr.Free (.slice (some ⟨b,0,none⟩) 0 0) (ds++[(A,nl,cl)]) (acc++[last]):=fun b hf hb i dd l e1 e2 hl0 a ha=>by
  rcases aG e1 with⟨q1,q2⟩ | ⟨q1,q2⟩
  ·rcases aG e2 with⟨_,p2⟩ | ⟨p1,_⟩
   ·exact hf i dd l q2 p2 hl0 a ha
   ·have:=ab.1;omega
  ·rcases aG e2 with⟨p1,_⟩ | ⟨_,p2⟩
   ·have:=ab.1;omega
   ·subst q2 p2;exact fun e=>hb a ha hl0 (Option.some.inj e)
 have af:=aa d h7 (fun a ha hl0 e=>by
  obtain⟨⟨cs,fr,hc⟩,_⟩:=hA a ha hl0
  rw[<-e,h1] at hc
  exact neF (Obj.cells.inj (Option.some.inj hc)).2.1)
 have aq:=aa g (fun i dd l e1 e2 hl0 a ha e=>by
  have au:=in_lt h3 i dd l e1 e2 hl0 a ha
  have e3:g=a.block:=Option.some.inj e
  rcases hl with hl | hl
  ·exact h4 i dd l e1 e2 hl0 a ha (by rw[hl,e3])
  ·omega) (fun a ha hl0 e=>by
  obtain⟨⟨cs,fr,hc⟩,ar⟩:=hA a ha hl0
  rcases hl with hl | hl
  ·rw[<-e] at hc
   exact aD h2 hc (fun e=>neSF e.symm) hl
  ·omega)
 have aj:=cI w' ⟨d,0,none⟩ (.slice (some ⟨g,0,none⟩) n cap)
 have ad:(w'.setCell ⟨d,0,none⟩ (.slice (some ⟨g,0,none⟩) n cap)).heap[d]?=some (.cells #[.slice (some ⟨g,0,none⟩) n cap,.slice A nl cl,v2] 144 (0,0)):=by simp[World.setCell,Array.getElem?_modify,ai]
 have ak:=bX ho aj (Or.inr (aD ho ai neS))
 have ag:=fo ap aj af
 have al:=cI (w'.setCell ⟨d,0,none⟩ (.slice (some ⟨g,0,none⟩) n cap)) ⟨d,1,none⟩ (.slice none 0 0)
 refine⟨ao,?_,bX ak al (Or.inr (aD ak ad neS)),fo ag al af,?_,Rg.az _ _ _,fun i dd l e1 e2 hl0 a ha e=>(by cases e),af⟩
 ·have e:∀ (x:World),x.heap[d]?=some (.cells #[.slice (some ⟨g,0,none⟩) n cap,.slice A nl cl,v2] 144 (0,0))->(x.setCell ⟨d,1,none⟩ (.slice none 0 0)).heap[d]?=some (.cells #[.slice (some ⟨g,0,none⟩) n cap,.slice none 0 0,v2] 144 (0,0)):=fun x hx=>by simp[World.setCell,Array.getElem?_modify,hx]
  exact e _ ad
 ·exact fun i dd l e1 e2 hl0 a ha e=>aq i dd l e1 e2 hl0 a ha e
end Sz
section
open Go.RowKit Go.Maps Sz
attribute [local go_sem ↓] Go.wp_at_zero Go.wp_at_succ
section
variable {α:Type} {P:Program} {enc:α->List Value} {K:Nat} {ST T:TypeId} {w:World}
theorem Rg.i6 (hf:Rg.Fits enc K)(hT:Rg.SliceT P enc K ST T){ops:Array Oper}{o:Oper}{a:Act}{G:Act->World->Prop}{Q:Exit->Act->World->Prop}{E:Prop}(hgd:o.guard=none)(sl x:Operand)
  (ho:o.op=.call { callee:=.builtin .append,args:=#[sl,x],argTypes:=#[ST,ST] })
  (B:Nat) (v:Value) (l m:List α) (hs:a.eval sl=v) (hown:Rg.Own enc K w B T v l) (ad:Addr) (c:Nat) (hx:a.eval x=.slice (some ad) m.length c)
  (hnews:∀ j u,(Rg.flat enc m)[j]?=some u->w.cell? (ad.add j)=some u) (hm:0<m.length) (hsz:l.length+m.length<=1000000) (hB:B<=w.heap.size)
  (h:∀ g cap w',Rg.Own enc K w' B T (.slice (some ⟨g,0,none⟩) (l.length+m.length) cap) (l++m)->w.grownBy w' v.ownBlock->(v.ownBlock=some g\/g=w.heap.size)->G (a.put o.dst (.slice (some ⟨g,0,none⟩) (l.length+m.length) cap)) w') :
  if Region.wanted o (yielded ops a.tmps)=true then Oper.wp P o a w G Q else E:=by
 obtain⟨i,z,hi,aa,ab,ac,hb⟩:=hT.info
 refine step_append_lies w hgd sl x ST ho B T i z K i.bytes hT.under hi aa ac rfl ab hT.pos v l.length (Rg.flat enc l) hs hown ad m.length c (Rg.flat enc m) hx (Rg.cM hf m) hnews (Rg.cg hf m) hm (by unfold maxLen;omega) (by
  have:(l.length+m.length)*i.bytes<=1000000*1000:=Nat.mul_le_mul hsz hb
  omega) hB _ rfl ?_
 intro g cap w' h1 h2 h3 _
 refine h g cap w' ?_ h2 h3
 unfold Rg.Own
 rw[Rg.dE,List.length_append]
 exact h1
end
theorem Sz.pO {w u W:World}{B d:Nat}{v0 v1 v2:Value}{ds:List Desc}{acc:List (List Fld)}{last:List Fld}{row:Option Nat}(h:DrO w B d v0 v1 v2 ds acc last)(hb:Below w.heap.size w u)(hg:u.grownBy W row)(hne:row≠some d) :
  W.cell? ⟨d,0,none⟩=some v0/\W.cell? ⟨d,1,none⟩=some v1/\W.cell? ⟨d,2,none⟩=some v2/\W.frozen? ⟨d,0,none⟩=false/\W.frozen? ⟨d,1,none⟩=false/\W.frozen? ⟨d,2,none⟩=false:=by
 have aa:=ij h
 have ab:W.heap[d]?=some (.cells #[v0,v1,v2] 144 (0,0)):=(hg.block d (Nat.lt_of_lt_of_le aa hb.size) (fun e=>hne e.symm)).trans ((hb.block d aa).trans h.2.1)
 refine⟨?_,?_,?_,?_,?_,?_⟩ <;> simp[World.cell?,World.frozen?,ab]
theorem Sz.nr {α:Type}{enc:α->List Value}{K:Nat}{w u W:World}{B:Nat}{T:TypeId}{v:Value}{l:List α}(ho:Rg.Own enc K w B T v l)(hB:B<=w.heap.size)(hb:Below w.heap.size w u)(hg:u.grownBy W v.ownBlock):Below B w W:=by
 exact (hb.mono hB).trans (Rg.ao (Rg.own_below ho hb) (Nat.le_trans hB hb.size) hg)
theorem Sz.grown_of {w u W:World}{row:Option Nat}(hb:Below w.heap.size w u)(hg:u.grownBy W row):w.grownBy W row:=by
 have aa:=hb
 have ab:=hg
 obtain⟨b1,b2,b3,b4,b5⟩:=aa
 obtain⟨g1,g2,g3,g4,g5⟩:=ab
 refine⟨?_,?_,?_,Nat.le_trans b4 g4,fun k hk hne=>(g5 k (Nat.lt_of_lt_of_le hk b4) hne).trans (b5 k hk)⟩
 ·first | exact g1.trans b1 | exact b1.trans g1
 ·first | exact g2.trans b2 | exact b2.trans g2
 ·first | exact g3.trans b3 | exact b3.trans g3
def Sz.EndRet (w:World) (B d:Nat) (v2:Value) (acc:List (List Fld)) (last:List Fld) (e:Ending) (w':World):Prop :=
 e=.returned (.tuple #[])/\Keeps B d w w'/\w.heap.size<=w'.heap.size/\∃ u0 u1 ds,DrO w' B d u0 u1 v2 ds (if last=[] then acc else acc++[last]) []
theorem eY {w:World}{B d:Nat}{v0 v1 v2:Value}{ds:List Desc}{acc:List (List Fld)}{last:List Fld}(h:DrO w B d v0 v1 v2 ds acc last)(hsz:ds.length+1<=1000000)(hB:B<=w.heap.size) :
  Calls Tryz.prog 75 #[.pointer (some ⟨d,0,none⟩)] w (Sz.EndRet w B d v2 acc last):=by
 obtain⟨A,c,hv,ad,_,_⟩:=Rg.aE fitsF h.2.2.2.2.2.1
 obtain⟨n,hn⟩:=ex last.length
 rw[hn] at hv
 subst hv
 have H:=zh h
 have HN:=zh hn
 have ak:=zh hsz
 have af:=zh hB
 obtain⟨d0,d1,d2,f0,f1,f2⟩:=a4 h
 clear h hn hsz ad hB
 by_cases h0:n=0
 ·subst h0
  have hl:Hid (last=[]):=List.length_eq_zero_iff.1 HN.out
  go_enter Tryz.func75,Tryz.ntmps75
  go_wp2_with fail
  exact bodyPost_ret (v:=.tuple #[]) (by simp[results,Tryz.results75,go_sem]) rfl ⟨rfl,bN (Below.refl _ _),Nat.le_refl _,v0,_,ds,by rw[if_pos hl.out,<-hl.out];exact H.out⟩
 ·have al:(0:Int)<(n:Int):=by omega
  have hl:Hid (last≠[]):=fun e=>h0 (by rw[<-HN.out,e];rfl)
  clear h0
  go_enter Tryz.func75,Tryz.ntmps75
  go_wp2_with fail
  have ag:Below w.heap.size w (w.alloc (.cells #[.slice A n c] 36)):=(Below.refl _ _).alloc (Nat.le_refl _) _
  have a0:=(a4 (bg H.out ag)).1
  clear ag
  have am:Hid (v0.ownBlock≠some d):=aD H.out.2.2.1 H.out.2.1 neS
  go_region_law (refine Rg.i6 fitsO sliceE (by rfl) (.tmp 12) (.tmp 17) (by rfl) B v0 ds [(A,n,c)] (by rfl) (Rg.own_below H.out.2.2.1 ((Below.refl _ _).drew.alloc (Nat.le_refl _) _)) _ _ (by rfl) (Rg.av _ _ [(A,n,c)] _ (by rfl)) (Nat.zero_lt_succ _) ak.out (Nat.le_trans af.out (by simp)) ?_;intro g cap W5 ai ae aj;have an:=zh ai;have aa:=zh ae;have ao:=zh aj;obtain⟨e0,e1,e2,k0,k1,k2⟩:=pO H.out ((Below.refl _ _).drew.alloc (Nat.le_refl _) _) ae am.out;clear ai ae aj)
  all_goals (
   have ah:=nr H.out.2.2.1 af.out ((Below.refl _ _).drew.alloc (Nat.le_refl _) _) aa.out
   have ab:Hid (w.heap.size<=W5.heap.size):=Nat.le_trans (by simp) aa.out.size
   have ac:=zh ah
   have HD:=zh (aee (w:=w) (g:=g) (n:=ds.length+1) (cap:=cap) H.out HN.out an.out (grown_of ((Below.refl _ _).drew.alloc (Nat.le_refl _) _) aa.out) (ao.out.imp id (fun h=>by rw[h];simp)))
   clear ah
   go_wp2_with fail
   exact bodyPost_ret (v:=.tuple #[]) (by simp[results,Tryz.results75,go_sem]) rfl ⟨rfl,fL (fL (bN ac.out) _) _,by simpa using ab.out,_,_,_,by rw[if_neg hl.out];exact HD.out⟩)
end
end Go.Proofs.YtkaeamjnphaadaaGreatDoor
