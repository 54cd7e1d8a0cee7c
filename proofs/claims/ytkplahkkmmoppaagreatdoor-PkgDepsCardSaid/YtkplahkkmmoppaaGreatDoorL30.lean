/- Part 30 of what the laws lean on. -/
import Derived.Test.YtkplahkkmmoppaaGreatDoorL16
set_option maxRecDepth 100000
set_option maxHeartbeats 1600000
namespace Go.Proofs.YtkplahkkmmoppaaGreatDoor
open Go.RowKit
theorem spanR : SpanT 181:=⟨by kernel_rfl,by kernel_rfl,by kernel_rfl,by kernel_rfl⟩
end Go.Proofs.YtkplahkkmmoppaaGreatDoor
namespace Go.Proofs.YtkplahkkmmoppaaGreatDoor
open Go.RowKit
attribute [local go_sem ↓] Go.wp_at_zero Go.wp_at_succ
theorem sameRange_any (A : Option Addr) (c : Nat) (l : List Rs.Sp) (B : Option Addr) (d : Nat) (m : List Rs.Sp) (w : World) (hr : Rs.SRow w A l) (hq : Rs.SRow w B m) (hl : l.length≤100000) (_hm : m.length≤100000) :
  Calls Tryz.prog 77 #[.slice A l.length c,.slice B m.length d] w fun e w'=>e = .returned (.bool (decide (l=m)))∧Below w.heap.size w w':=by
 have HR:=Lib.hid hr
 have HQ:=Lib.hid hq
 clear hr hq
 obtain ⟨X,hX⟩ : ∃ X,decide (l=m)=X:=⟨_,rfl⟩
 rw [hX]
 have HX:=Lib.hid hX
 clear hX
 by_cases hlen : l.length=m.length
 ·have HL:=Lib.hid hlen
  have hd : ((l.length : Int) != m.length)=false:=by rw [hlen];simp
  clear hlen
  go_enter Tryz.func77,Tryz.ntmps77
  go_wp2_with fail
  clear hd
  go_loopw [5] (fun i wr=>∃ k : Nat,k≤l.length∧i = .int .i64 k∧Hid (l.take k=m.take k)∧∃ n,wr=w.drewN n) (fun i _=>l.length - (intOf i).toNat)
  case atStart=>exact ⟨0,Nat.zero_le _,rfl,rfl,0,rfl⟩
  case round =>
   obtain ⟨k,hk,rfl,HT,n,rfl⟩:=hrel
   by_cases hlt : k < l.length
   ·have hlt2 : k < m.length:=by have:=HL.out;omega
    obtain ⟨ad,lo,hi,li,hn,rfl,hs,_,c0,c1,c2,c3⟩:=srow_at HR.out k hlt
    obtain ⟨ae,lo',hi',li',hn',rfl,hs',_,e0,e1,e2,e3⟩:=srow_at HQ.out k hlt2
    have hr1:=neq_span spanR lo hi li hn lo' hi' li' hn'
    have hr2 : ∀ (x y : Operand) (W : World),(eqGuard .neq 181 x y (.agg #[.string ⟨lo.toArray⟩,.string ⟨hi.toArray⟩,.bool li,.bool hn]) (.agg #[.string ⟨lo'.toArray⟩,.string ⟨hi'.toArray⟩,.bool li',.bool hn'])).run Tryz.prog W = .ok () W:=fun x y W=>grd_span spanR .neq x y _ _ W
    by_cases he : (Rs.Sp.mk lo hi li hn)=⟨lo',hi',li',hn'⟩
    ·rw [decide_eq_true he] at hr1
     have HT2 : Hid (l.take (k + 1)=m.take (k + 1)):=take_eq_succ hlt hlt2 HT.out (by rw [hs,hs',he])
     clear hs hs' he HT
     go_wp2_with fail
     go_quiet (fail)
     clear hr1 hr2 c0 c1 c2 c3 e0 e1 e2 e3
     go_wp2_with fail
     go_roundw
     case rel=>exact ⟨k + 1,by omega,by go_num,HT2,_,rfl⟩
     case measure=>simp [intOf];omega
    ·rw [decide_eq_false he] at hr1
     have HF : Hid (X=false):=by show _=_;rw [← HX.out];exact ne_at hlt hlt2 (by rw [hs,hs'];exact he)
     clear hs hs' he HT
     go_wp2_with fail
     go_quiet (fail)
     clear hr1 hr2 c0 c1 c2 c3 e0 e1 e2 e3
     go_wp2_with fail
     go_ret
     exact ⟨by rw [HF.out];rfl,below_drewN (below_drewN (Below.refl _ _) _) _⟩
   ·obtain rfl : k=l.length:=by omega
    have HF : Hid (X=true):=by
     show _=_
     have:=HT.out
     rw [List.take_length,HL.out,List.take_length] at this
     rw [← HX.out];exact decide_eq_true this
    clear HT
    go_wp2_with fail
    go_ret
    exact ⟨by rw [HF.out];rfl,below_drewN (Below.refl _ _) _⟩
 ·have hd : ((l.length : Int) != m.length)=true:=by simp;omega
  have HF : Hid (X=false):=by show _=_;rw [← HX.out];exact decide_eq_false fun h=>hlen (by rw [h])
  go_enter Tryz.func77,Tryz.ntmps77
  go_wp2_with fail
  go_ret
  exact ⟨by rw [HF.out];rfl,Below.refl _ _⟩
end Go.Proofs.YtkplahkkmmoppaaGreatDoor
namespace Go.Proofs.YtkplahkkmmoppaaGreatDoor
open Go.RowKit Rs
section
variable {w0 u u' : World} {L : List Ent}
variable {A B : Option Addr} {n m : Nat}
theorem s_sameRange (h : St w0 u L) (i j : Nat) {l k : List Sp} (hi : L[i]? = some ⟨A,n,l⟩) (hj : L[j]? = some ⟨B,m,k⟩) (hn : n≤1000) (hm : m≤1000) (ca cb : Nat) (b : Bool) (hb : decide (l=k)=b) :
  Calls Tryz.prog 77 #[.slice A n ca,.slice B m cb] u (BoolRet w0 L b):=by
 obtain ⟨h1,rfl⟩:=st_row h i hi
 obtain ⟨h2,rfl⟩:=st_row h j hj
 exact (sameRange_any A ca l B cb k u h1 h2 (by omega) (by omega)).mono fun _ _=>ret_bool h hb
end
end Go.Proofs.YtkplahkkmmoppaaGreatDoor
namespace Go.Proofs.YtkplahkkmmoppaaGreatDoor
open Go.RowKit Rs At
theorem refAll_any (w : World) : Calls Tryz.prog 78 #[] w (SpansRet w (allR.map spOf)):=by
 go_enter Tryz.func78,Tryz.ntmps78
 go_wp2_with fail
 go_ret
 refine ⟨⟨some ⟨w.heap.size,0,none⟩,1,rfl,fun _=>⟨_,rfl,by simp,fun i hi=>?_⟩,Nat.le_refl _,fun a ha=>by cases ha;exact Nat.le_refl _⟩,(Below.refl _ _).alloc (Nat.le_refl _) _⟩
 have hi2 : i < 1:=hi
 obtain rfl : i=0:=by omega
 have e : ∀ j,((⟨w.heap.size,0,none⟩ : Addr).add (0 * 4)).add j=⟨w.heap.size,j,none⟩:=fun j=>by
  rw [Nat.zero_mul,Rg.add_zero];unfold Addr.add;split <;> simp_all
 refine ⟨?_,?_,?_,?_⟩ <;> (rw [e,World.cell?_alloc_mark];rfl)
end Go.Proofs.YtkplahkkmmoppaaGreatDoor
namespace Go.Proofs.YtkplahkkmmoppaaGreatDoor
open Go.RowKit Rs At
attribute [local go_sem ↓] Go.wp_at_zero Go.wp_at_succ
theorem s_refAll {w0 u : World} {L : List Ent} (h : St w0 u L) : Calls Tryz.prog 78 #[] u (RowRet w0 L (allR.map spOf)):=(refAll_any u).mono fun _ _ hr=>ret_row h hr
end Go.Proofs.YtkplahkkmmoppaaGreatDoor
