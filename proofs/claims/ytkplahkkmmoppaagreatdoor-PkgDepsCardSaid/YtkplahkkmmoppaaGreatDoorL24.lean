/- Part 24 of what the laws lean on. -/
import Derived.Test.YtkplahkkmmoppaaGreatDoorL23
set_option maxRecDepth 100000
set_option maxHeartbeats 6400000
namespace Go.Proofs.YtkplahkkmmoppaaGreatDoor
open Go.RowKit
theorem mgn_cons (l : List UInt8) : l=if Wm.sgnd l then 45 :: Wm.mgn l else Wm.mgn l:=by
 unfold Wm.mgn Wm.sgnd
 cases l with
 | nil=>rfl
 | cons c t =>
  by_cases hc : c=45
  ·subst hc;simp
  ·simp [hc]
theorem pieces_sgn (l : List UInt8) : Vm.has 112 l=Vm.has 112 (Wm.mgn l)∧Wm.mgn (Vm.fst 112 l)=Vm.fst 112 (Wm.mgn l)∧Wm.sgnd (Vm.fst 112 l)=Wm.sgnd l∧Vm.snd 112 l=Vm.snd 112 (Wm.mgn l):=by
 have hl:=mgn_cons l
 cases hs : Wm.sgnd l
 ·have hm : Wm.mgn l=l:=by unfold Wm.mgn;rw [hs];rfl
  rw [hm]
  have hf : Wm.sgnd (Vm.fst 112 l)=false:=by
   unfold Vm.fst Wm.sgnd at *
   cases l with
   | nil=>rfl
   | cons c t =>
    rw [List.takeWhile_cons]
    cases c != 112
    ·rfl
    ·exact hs
  refine ⟨rfl,?_,hf,rfl⟩
  unfold Wm.mgn;rw [hf];rfl
 ·rw [hs] at hl
  simp only [if_true] at hl
  generalize Wm.mgn l=t at *
  subst hl
  have h1 : Vm.fst 112 (45 :: t)=45 :: Vm.fst 112 t:=by unfold Vm.fst;rw [List.takeWhile_cons];rfl
  refine ⟨?_,?_,?_,?_⟩
  ·unfold Vm.has;simp
  ·rw [h1];rfl
  ·rw [h1];rfl
  ·unfold Vm.snd;rw [List.dropWhile_cons];rfl
def refRange (m n : Nat) (neg : Bool) : Bool:=decide (m≤9007199254740991) && (decide (n≤5000) && (decide (-1074≤Wm.sg neg n) && decide ((m.log2 : Int) + 1 + Wm.sg neg n≤1024)))
theorem refRange_eq (l : List UInt8) : refRange (Vm.num (Wm.mgn (Vm.fst 112 l))) (Vm.num (Wm.mgn (Vm.snd 112 l))) (Wm.sgnd (Vm.snd 112 l))=Wm.rangeOk (Wm.nmb (Vm.fst 112 l)) (Wm.nmb (Vm.snd 112 l)):=by
 generalize Vm.fst 112 l=a
 generalize Vm.snd 112 l=b
 have hsg : Wm.sg (Wm.sgnd b) (Vm.num (Wm.mgn b))=if Wm.sgnd b then -(Vm.num (Wm.mgn b) : Int) else Vm.num (Wm.mgn b):=by unfold Wm.sg;cases Wm.sgnd b <;> simp
 unfold refRange
 rw [hsg]
 unfold Wm.nmb
 generalize Vm.num (Wm.mgn a)=m at *
 generalize Vm.num (Wm.mgn b)=n at *
 by_cases hm : m≤9007199254740991
 ·rw [decide_eq_true hm,Bool.true_and]
  have hF : ∀ g : Bool,(if g=true then (if m≤9223372036854775808 then -(m : Int) else -9223372036854775808) else (if m < 9223372036854775808 then (m : Int) else 9223372036854775807))=if g then -(m : Int) else m:=by
   intro g;cases g <;> simp only [Bool.false_eq_true,if_false,if_true] <;> rw [if_pos (by omega)]
  rw [hF]
  rw [Wm.rangeOk_mid (by split <;> omega) (by split <;> omega)]
  have hna : (if Wm.sgnd a=true then -(m : Int) else m).natAbs=m:=by split <;> omega
  rw [hna]
  rw [Bool.eq_iff_iff]
  simp only [Bool.and_eq_true,decide_eq_true_eq]
  cases Wm.sgnd b
  ·simp only [Bool.false_eq_true,if_false]
   split <;> omega
  ·simp only [if_true]
   split <;> omega
 ·rw [decide_eq_false hm,Bool.false_and]
  symm
  cases Wm.sgnd a
  ·simp only [Bool.false_eq_true,if_false]
   exact Wm.rangeOk_hi (by split <;> omega)
  ·simp only [if_true]
   exact Wm.rangeOk_lo (by split <;> omega)
end Go.Proofs.YtkplahkkmmoppaaGreatDoor
namespace Go.Proofs.YtkplahkkmmoppaaGreatDoor
open Go.RowKit
namespace Wm
theorem sub_zero {r : Nat} (h : 0 < r) (hi : r < 9218868437227405312) : Ieee.double.sub 0 r=some (word true r):=by
 obtain ⟨a1,a2,a3⟩:=rung_word false (r:=r) (by omega)
 have a1' : rung r=r:=a1
 have a2' : neg r=false:=a2
 have e0 : Ieee.double.read 0 = .number false 0 (-1074):=by
  have:=read_number 0 (by decide) (by decide)
  exact this
 have e1:=read_number r a3 (by rw [a1'];exact hi)
 rw [a1',a2'] at e1
 unfold Ieee.Format.sub
 rw [e0,e1]
 have hmin : min (-1074 : Int) (-1074 + (upOf r : Int)) = -1074:=by omega
 have hm:=magOf_pos h
 unfold Ieee.Datum.opposite Ieee.Datum.sum
 simp only [hmin,signed_eq]
 have t1 : ((-1074 : Int) - -1074).toNat=0:=rfl
 have t2 : ((-1074 : Int) + (upOf r : Int) - -1074).toNat=upOf r:=by omega
 rw [t1,t2]
 have hp : 0 < magOf r * 2 ^ upOf r:=Nat.mul_pos hm (Nat.two_pow_pos _)
 have tot : (if false=true then (-1 : Int) else 1) * ((0 * 2 ^ 0 : Nat) : Int) + (if (!false)=true then (-1 : Int) else 1) * ((magOf r * 2 ^ upOf r : Nat) : Int) = -((magOf r * 2 ^ upOf r : Nat) : Int):=by simp
 rw [tot]
 generalize hM : magOf r * 2 ^ upOf r=M at *
 rw [if_neg (by omega),decide_eq_true (by omega),Int.natAbs_neg,Int.natAbs_natCast]
 show some (Ieee.double.nearest true M (-1074))=_
 rw [← hM]
 have hu : upOf r≤2045:=by unfold upOf;split <;> omega
 have hlog:=log2_lt53 hm (magOf_lt r)
 rw [nearest_exact true (magOf r) (upOf r) (-1074) hm (magOf_lt r) (by omega) (by omega),rungOf_self h]
end Wm
end Go.Proofs.YtkplahkkmmoppaaGreatDoor
namespace Go.Proofs.YtkplahkkmmoppaaGreatDoor.Wm
def top (n : Bool) : Int:=if n then 9223372036854775808 else 0
end Go.Proofs.YtkplahkkmmoppaaGreatDoor.Wm
namespace Go.Proofs.YtkplahkkmmoppaaGreatDoor
open Go.RowKit
theorem refVal (l : List UInt8) (h : formOk l=true) (hr : Wm.rangeOk (Wm.nmb (Vm.fst 112 l)) (Wm.nmb (Vm.snd 112 l))=true) :
  Wm.prodVal (Wm.nmb (Vm.fst 112 l)) (Wm.nmb (Vm.snd 112 l))=Wm.word (Wm.sgnd l) (Wm.rungOf (Vm.num (Vm.fst 112 (Wm.mgn l))) (Wm.sg (Wm.sgnd (Vm.snd 112 l)) (Vm.num (Wm.mgn (Vm.snd 112 l)))))∧Vm.num (Vm.fst 112 (Wm.mgn l)) % 2=1:=by
 obtain ⟨q1,q2,q3,q4⟩:=pieces_sgn l
 rw [← q2,← q3]
 have hf:=h
 unfold formOk at hf
 simp only [Bool.and_eq_true] at hf
 obtain ⟨_,h2,_,h4⟩:=hf
 have hodd:=odd_ne _ h2 h4
 have hrr:=refRange_eq l
 rw [hr] at hrr
 unfold refRange at hrr
 simp only [Bool.and_eq_true,decide_eq_true_eq] at hrr
 obtain ⟨r1,r2,_⟩:=hrr
 generalize Vm.fst 112 l=a at *
 generalize Vm.snd 112 l=b at *
 have hF : Wm.nmb a=if Wm.sgnd a then -(Vm.num (Wm.mgn a) : Int) else Vm.num (Wm.mgn a):=by
  unfold Wm.nmb;cases Wm.sgnd a <;> simp only [Bool.false_eq_true,if_false,if_true] <;> rw [if_pos (by omega)]
 have hP : Wm.nmb b=Wm.sg (Wm.sgnd b) (Vm.num (Wm.mgn b)):=by
  unfold Wm.nmb Wm.sg;cases Wm.sgnd b <;> simp only [Bool.false_eq_true,if_false,if_true] <;> rw [if_pos (by omega)] <;> omega
 rw [hP]
 rw [hF] at hodd ⊢
 unfold Wm.prodVal
 generalize Vm.num (Wm.mgn a)=m at *
 cases Wm.sgnd a
 ·simp only [Bool.false_eq_true,if_false] at hodd ⊢
  rw [decide_eq_false (by omega),Int.natAbs_natCast]
  exact ⟨rfl,by omega⟩
 ·simp only [if_true] at hodd ⊢
  rw [decide_eq_true (by omega),Int.natAbs_neg,Int.natAbs_natCast]
  exact ⟨rfl,by omega⟩
theorem outW_fin (l : List UInt8) (hn : l ≠ [110,97,110]) : outW l < Wm.W∧Wm.nan (outW l)=false:=by
 have h00 : (0 : Nat) < Wm.W∧Wm.nan 0=false:=⟨by decide,by decide⟩
 rcases lit_cases l with rfl | rfl | rfl | rfl | rfl | ⟨_,_,_,_,_,he,hv⟩
 ·exact ⟨by decide +kernel,by decide +kernel⟩
 ·exact ⟨by decide +kernel,by decide +kernel⟩
 ·exact absurd rfl hn
 ·exact ⟨by decide +kernel,by decide +kernel⟩
 ·exact ⟨by decide +kernel,by decide +kernel⟩
 ·unfold outW
  by_cases h : errW l=0
  ·rw [if_pos h,hv]
   rw [he] at h
   unfold prodOf
   rw [if_pos h]
   unfold prodErr at h
   cases hf : formOk l
   ·rw [hf] at h;simp at h
   ·rw [hf] at h
    simp only [if_true] at h
    cases hr : Wm.rangeOk (Wm.nmb (Vm.fst 112 l)) (Wm.nmb (Vm.snd 112 l))
    ·rw [hr] at h;simp at h
    ·obtain ⟨v1,v2⟩:=refVal l hf hr
     rw [v1]
     have hrr:=refRange_eq l
     rw [hr] at hrr
     unfold refRange at hrr
     simp only [Bool.and_eq_true,decide_eq_true_eq] at hrr
     obtain ⟨r1,r2,r3,r4⟩:=hrr
     obtain ⟨q1,q2,q3,q4⟩:=pieces_sgn l
     rw [q2] at r1 r4
     have hb:=Wm.rungOf_lt (k:=Vm.num (Vm.fst 112 (Wm.mgn l))) (e:=Wm.sg (Wm.sgnd (Vm.snd 112 l)) (Vm.num (Wm.mgn (Vm.snd 112 l)))) (by omega) (by omega) (by omega)
     have hfin : Fin (Wm.rungOf (Vm.num (Vm.fst 112 (Wm.mgn l))) (Wm.sg (Wm.sgnd (Vm.snd 112 l)) (Vm.num (Wm.mgn (Vm.snd 112 l))))):=hb
     exact ⟨(fin_word hfin _).1,(fin_word hfin _).2.1⟩
  ·rw [if_neg h];exact h00
theorem outW_lt (l : List UInt8) : outW l < Wm.W:=by
 by_cases hn : l = [110,97,110]
 ·subst hn;decide +kernel
 ·exact (outW_fin l hn).1
end Go.Proofs.YtkplahkkmmoppaaGreatDoor
namespace Go.Proofs.YtkplahkkmmoppaaGreatDoor
open Go.RowKit Rs At Pg
namespace Pg
def AFr (B : Nat) (A : Option Addr) : Prop:=∀ a,A=some a → B≤a.block
def PRows (B : Nat) (u : World) (p : Pk) (D C G : Option Addr) : Prop:=(Pg.DRowF B u D p.deps∧AFr B D)∧(ARow u C p.confl∧AFr B C)∧(GRow u G p.prov∧AFr B G)
abbrev pCells (p : Pk) (D C G : Option Addr) (dc cc gc : Nat) : Array Value:=#[.string ⟨p.name.toArray⟩,.string ⟨p.ver.toArray⟩,.slice D p.deps.length dc,.slice C p.confl.length cc,.slice G p.prov.length gc,.float .f64 p.wt]
def PBlk (T : TypeId) (b B : Nat) (p : Pk) (u : World) : Prop:=∃ D dc C cc G gc,u.heap[b]? = some (.cells (pCells p D C G dc cc gc) T (0,0))∧PRows B u p D C G
theorem far_of {B b : Nat} {A : Option Addr} {α : Type} {l : List α} (h : AFr B A) (hb : b < B) : 0 < l.length → ∀ a,A=some a → some b ≠ some a.block:=fun _ a ha e=>by
 have:=h a ha
 have:=Option.some.inj e
 omega
theorem drowF_but {B b : Nat} {w u : World} {A : Option Addr} {t : List (List Atm)} (h : Pg.DRowF B w A t) (hA : AFr B A) (hb : But (some b) w u) (hlt : b < B) (hg : ∀ j x,w.cell? ⟨b,j,none⟩=some x → NoB x) : Pg.DRowF B u A t:=by
 obtain ⟨ds,h1,h2,h3⟩:=h
 refine ⟨ds,row_but h1 hb (far_of hA hlt),⟨h2.1,fun i d l e1 e2=>⟨(h2.2 i d l e1 e2).1,arow_but (h2.2 i d l e1 e2).2 hb (far_of (fun a ha=>h3 i d e1 a ha) hlt) (fun g hg2=>by cases hg2;exact hg)⟩⟩,h3⟩
theorem pRows_but {B b : Nat} {w u : World} {p : Pk} {D C G : Option Addr} (h : PRows B w p D C G) (hb : But (some b) w u) (hlt : b < B) (hg : ∀ j x,w.cell? ⟨b,j,none⟩=some x → NoB x) : PRows B u p D C G :=
 ⟨⟨drowF_but h.1.1 h.1.2 hb hlt hg,h.1.2⟩,⟨arow_but h.2.1.1 hb (far_of h.2.1.2 hlt) (fun g hg2=>by cases hg2;exact hg),h.2.1.2⟩,⟨row_but h.2.2.1 hb (far_of h.2.2.2 hlt),h.2.2.2⟩⟩
theorem drowF_below {B : Nat} {w u : World} {A : Option Addr} {t : List (List Atm)} (h : Pg.DRowF B w A t) (hb : Below w.heap.size w u) : Pg.DRowF B u A t:=by
 obtain ⟨ds,h1,h2,h3⟩:=h
 exact ⟨ds,Rg.row_below h1 hb,din_below h2 hb,h3⟩
theorem pRows_below {B : Nat} {w u : World} {p : Pk} {D C G : Option Addr} (h : PRows B w p D C G) (hb : Below w.heap.size w u) : PRows B u p D C G :=
 ⟨⟨drowF_below h.1.1 hb,h.1.2⟩,⟨arow_below h.2.1.1 hb,h.2.1.2⟩,⟨Rg.row_below h.2.2.1 hb,h.2.2.2⟩⟩
theorem block_lt {u : World} {b : Nat} {o : Obj} (h : u.heap[b]? = some o) : b < u.heap.size:=(Array.getElem?_eq_some_iff.1 h).1
theorem pblk_below {T : TypeId} {b B : Nat} {p : Pk} {u u' : World} (h : PBlk T b B p u) (hb : Below u.heap.size u u') : PBlk T b B p u':=by
 obtain ⟨D,dc,C,cc,G,gc,h1,h2⟩:=h
 exact ⟨D,dc,C,cc,G,gc,(hb.block _ (block_lt h1)).trans h1,pRows_below h2 hb⟩
theorem pblk_lt {T : TypeId} {b B : Nat} {p : Pk} {u : World} (h : PBlk T b B p u) : b < u.heap.size:=by
 obtain ⟨D,dc,C,cc,G,gc,h1,_⟩:=h
 exact block_lt h1
theorem pblk_cell {T : TypeId} {b B : Nat} {p : Pk} {u : World} (h : PBlk T b B p u) : ∃ x0 x1 x2 x3 x4 x5,(u.cell? ⟨b,0,none⟩=some x0∧u.frozen? ⟨b,0,none⟩=false)∧(u.cell? ⟨b,1,none⟩=some x1∧u.frozen? ⟨b,1,none⟩=false)∧(u.cell? ⟨b,2,none⟩=some x2∧u.frozen? ⟨b,2,none⟩=false)∧(u.cell? ⟨b,3,none⟩=some x3∧u.frozen? ⟨b,3,none⟩=false)∧(u.cell? ⟨b,4,none⟩=some x4∧u.frozen? ⟨b,4,none⟩=false)∧(u.cell? ⟨b,5,none⟩=some x5∧u.frozen? ⟨b,5,none⟩=false):=by
 obtain ⟨D,dc,C,cc,G,gc,h1,_⟩:=h
 have c : ∀ j v,(pCells p D C G dc cc gc)[j]? = some v → u.cell? ⟨b,j,none⟩=some v:=fun j v hv=>(cell_of_row u b j _ T (0,0) h1).trans hv
 have z : ∀ j,u.frozen? ⟨b,j,none⟩=false:=fun j=>by simp [World.frozen?,h1]
 exact ⟨_,_,_,_,_,_,⟨c 0 _ rfl,z 0⟩,⟨c 1 _ rfl,z 1⟩,⟨c 2 _ rfl,z 2⟩,⟨c 3 _ rfl,z 3⟩,⟨c 4 _ rfl,z 4⟩,c 5 _ rfl,z 5⟩
theorem six_nob {T : TypeId} {b : Nat} {p : Pk} {u : World} {D C G : Option Addr} {dc cc gc : Nat} (h : u.heap[b]? = some (.cells (pCells p D C G dc cc gc) T (0,0))) : ∀ j x,u.cell? ⟨b,j,none⟩=some x → NoB x:=fun j x hx y e=>by
 rw [cell_of_row u b j _ T (0,0) h] at hx
 subst e
 have hm:=Array.mem_of_getElem? hx
 simp [pCells] at hm
theorem set_heap {u : World} {b j : Nat} {cs : Array Value} {T : TypeId} {x : Value} (h : u.heap[b]? = some (.cells cs T (0,0))) : (u.setCell ⟨b,j,none⟩ x).heap[b]? = some (.cells (cs.setIfInBounds j x) T (0,0)):=by
 simp [World.setCell,Array.getElem?_modify,h]
theorem pblk_name {T : TypeId} {b B : Nat} {p : Pk} {u : World} (h : PBlk T b B p u) (hlt : b < B) (x : List UInt8) : PBlk T b B { p with name:=x } (u.setCell ⟨b,0,none⟩ (.string ⟨x.toArray⟩)):=by
 obtain ⟨D,dc,C,cc,G,gc,h1,h2⟩:=h
 exact ⟨D,dc,C,cc,G,gc,(set_heap h1).trans rfl,pRows_but (p:=p) h2 (but_set u ⟨b,0,none⟩ _) hlt (six_nob h1)⟩
theorem pblk_ver {T : TypeId} {b B : Nat} {p : Pk} {u : World} (h : PBlk T b B p u) (hlt : b < B) (x : List UInt8) : PBlk T b B { p with ver:=x } (u.setCell ⟨b,1,none⟩ (.string ⟨x.toArray⟩)):=by
 obtain ⟨D,dc,C,cc,G,gc,h1,h2⟩:=h
 exact ⟨D,dc,C,cc,G,gc,(set_heap h1).trans rfl,pRows_but (p:=p) h2 (but_set u ⟨b,1,none⟩ _) hlt (six_nob h1)⟩
theorem pblk_wt {T : TypeId} {b B : Nat} {p : Pk} {u : World} (h : PBlk T b B p u) (hlt : b < B) (x : Nat) : PBlk T b B { p with wt:=x } (u.setCell ⟨b,5,none⟩ (.float .f64 x)):=by
 obtain ⟨D,dc,C,cc,G,gc,h1,h2⟩:=h
 exact ⟨D,dc,C,cc,G,gc,(set_heap h1).trans rfl,pRows_but (p:=p) h2 (but_set u ⟨b,5,none⟩ _) hlt (six_nob h1)⟩
theorem pblk_deps {T : TypeId} {b B : Nat} {p : Pk} {u : World} (h : PBlk T b B p u) (hlt : b < B) {A : Option Addr} {c : Nat} {l : List (List Atm)} (hr : Pg.DRowF B u A l) (hA : AFr B A) : PBlk T b B { p with deps:=l } (u.setCell ⟨b,2,none⟩ (.slice A l.length c)):=by
 obtain ⟨D,dc,C,cc,G,gc,h1,h2⟩:=h
 exact ⟨A,c,C,cc,G,gc,(set_heap h1).trans rfl,pRows_but (p:={ p with deps:=l }) ⟨⟨hr,hA⟩,h2.2⟩ (but_set u ⟨b,2,none⟩ _) hlt (six_nob h1)⟩
theorem pblk_confl {T : TypeId} {b B : Nat} {p : Pk} {u : World} (h : PBlk T b B p u) (hlt : b < B) {A : Option Addr} {c : Nat} {l : List Atm} (hr : ARow u A l) (hA : AFr B A) : PBlk T b B { p with confl:=l } (u.setCell ⟨b,3,none⟩ (.slice A l.length c)):=by
 obtain ⟨D,dc,C,cc,G,gc,h1,h2⟩:=h
 exact ⟨D,dc,A,c,G,gc,(set_heap h1).trans rfl,pRows_but (p:={ p with confl:=l }) ⟨h2.1,⟨hr,hA⟩,h2.2.2⟩ (but_set u ⟨b,3,none⟩ _) hlt (six_nob h1)⟩
theorem pblk_prov {T : TypeId} {b B : Nat} {p : Pk} {u : World} (h : PBlk T b B p u) (hlt : b < B) {A : Option Addr} {c : Nat} {l : List Gv} (hr : GRow u A l) (hA : AFr B A) : PBlk T b B { p with prov:=l } (u.setCell ⟨b,4,none⟩ (.slice A l.length c)):=by
 obtain ⟨D,dc,C,cc,G,gc,h1,h2⟩:=h
 exact ⟨D,dc,C,cc,A,c,(set_heap h1).trans rfl,pRows_but (p:={ p with prov:=l }) ⟨h2.1,h2.2.1,⟨hr,hA⟩⟩ (but_set u ⟨b,4,none⟩ _) hlt (six_nob h1)⟩
end Pg
theorem Pg.run_store_float {P : Program} {w : World} {a : Addr} {k : FloatKind} {f : Nat} {m : Mode} : (store a (.float k f) m).run P w=stored P w a (.float k f) m:=run_store P w a _ m rfl
def Pg.TakeRet (b B : Nat) (w : World) (i : Int) (R : Except Int Pk) (e : Ending) (w' : World) : Prop:=Below b w w'∧match R with
 | .ok q=>e = .returned (.tuple #[])∧PBlk 34 b B q w'
 | .error k=>e=panAt i k
attribute [local go_sem ↓] Go.wp_at_zero Go.wp_at_succ
attribute [local go_sem] Pg.run_store_float
theorem pkgTake_any (b B : Nat) (key t : List UInt8) (i : Int) (p : Pk) (w : World) (hk : KOk w) (hp : Pg.PBlk 34 b B p w) (hlt : b < B) (hB : B≤w.heap.size) (ht : t.length≤1000) :
  Calls Tryz.prog 111 #[.pointer (some ⟨b,0,none⟩),.string ⟨key.toArray⟩,.agg #[.string ⟨t.toArray⟩,.int .i64 i]] w (Pg.TakeRet b B w i (takeR p key t)):=by
 obtain ⟨R,hR⟩ : ∃ R,takeR p key t=R:=⟨_,rfl⟩
 rw [hR]
 unfold takeR at hR
 obtain ⟨V,hV⟩ : ∃ V,w.alloc (.cells #[.string ⟨t.toArray⟩,.int .i64 i] 170)=V:=⟨_,rfl⟩
 have HB : Hid (Below w.heap.size w V):=alloc_low hV
 have HW : Hid (b < w.heap.size):=pblk_lt hp
 have HBb : Hid (Below b w V):=HB.out.mono (Nat.le_of_lt HW.out)
 have HK : Hid (KOk V):=kOk_below hk HB.out
 have HM : Hid (MaxOk V):=maxOk_below hk.1 HB.out
 have HPV:=Lib.hid (pblk_below hp HB.out)
 have HVB : Hid (B≤V.heap.size):=Nat.le_trans hB HB.out.size
 have HVb : Hid (b≤V.heap.size):=Nat.le_of_lt (Nat.lt_of_lt_of_le hlt HVB.out)
 have HLT:=Lib.hid hlt
 have HT:=Lib.hid ht
 obtain ⟨c0,c1⟩:=cell_pair hV (Below.refl _ _)
 clear hk hp hlt hB ht
 by_cases h0 : key=kPkg
 ·rw [if_pos h0] at hR
  have d0 : (key == [80,97,99,107,97,103,101])=true:=beq_iff_eq.2 h0
  clear h0
  have HC:=Lib.hid (valueName_any t i V (by have:=HT.out;omega))
  obtain ⟨y,hy⟩ : ∃ y,nameB t=y:=⟨_,rfl⟩
  rw [hy] at HC hR
  have HR:=Lib.hid hR
  clear hR hy
  go_enter Tryz.func111,Tryz.ntmps111
  go_wp2_with fail
  clear hV
  refine HC.out.mono ?_
  rintro _ u ⟨rfl,hb⟩
  have HU:=Lib.hid hb
  clear hb HC c0 c1
  cases y
  ·have HF : Hid (R = .error 3):=HR.out.symm
   go_wp2_with fail
   exact ⟨rfl,HBb.out.trans (HU.out.mono HVb.out),by rw [HF.out]⟩
  ·have HF : Hid (R = .ok { p with name:=t }):=HR.out.symm
   have HPU:=Lib.hid (pblk_below HPV.out HU.out)
   obtain ⟨x0,x1,x2,x3,x4,x5,⟨e0,z0⟩,⟨e1,z1⟩,⟨e2,z2⟩,⟨e3,z3⟩,⟨e4,z4⟩,⟨e5,z5⟩⟩:=pblk_cell HPU.out
   go_wp2_with fail
   go_end0
   refine ⟨(HBb.out.trans (HU.out.mono HVb.out)).setCell (Nat.le_refl _) _,?_⟩
   rw [HF.out]
   exact ⟨rfl,pblk_name HPU.out HLT.out t⟩
 rw [if_neg h0] at hR
 have d0 : (key == [80,97,99,107,97,103,101])=false:=beq_eq_false_iff_ne.2 h0
 clear h0
 by_cases h1 : key=kVer
 ·rw [if_pos h1] at hR
  have d1 : (key == [86,101,114,115,105,111,110])=true:=beq_iff_eq.2 h1
  clear h1
  have HC:=Lib.hid (valueVersion_any t i V HM.out)
  obtain ⟨y,hy⟩ : ∃ y,Vm.check t=y:=⟨_,rfl⟩
  obtain ⟨cv,hcv⟩ : ∃ y,canonOf t=y:=⟨_,rfl⟩
  rw [hy,hcv] at HC hR
  have HR:=Lib.hid hR
  clear hR hy hcv
  go_enter Tryz.func111,Tryz.ntmps111
  go_wp2_with fail
  clear hV
  refine HC.out.mono ?_
  rintro _ u ⟨rfl,hb⟩
  have HU:=Lib.hid hb
  clear hb HC c0 c1
  by_cases hy : y=0
  case neg =>
   have HF : Hid (R = .error y):=by show _=_;rw [← HR.out,if_neg hy]
   rw [if_neg hy]
   clear hy
   go_wp2_with fail
   exact ⟨rfl,HBb.out.trans (HU.out.mono HVb.out),by rw [HF.out]⟩
  have HF : Hid (R = .ok { p with ver:=cv }):=by show _=_;rw [← HR.out,if_pos hy]
  rw [if_pos hy]
  clear hy
  have HPU:=Lib.hid (pblk_below HPV.out HU.out)
  obtain ⟨x0,x1,x2,x3,x4,x5,⟨e0,z0⟩,⟨e1,z1⟩,⟨e2,z2⟩,⟨e3,z3⟩,⟨e4,z4⟩,⟨e5,z5⟩⟩:=pblk_cell HPU.out
  go_wp2_with fail
  go_end0
  refine ⟨(HBb.out.trans (HU.out.mono HVb.out)).setCell (Nat.le_refl _) _,?_⟩
  rw [HF.out]
  exact ⟨rfl,pblk_ver HPU.out HLT.out cv⟩
 rw [if_neg h1] at hR
 have d1 : (key == [86,101,114,115,105,111,110])=false:=beq_eq_false_iff_ne.2 h1
 clear h1
 by_cases h2 : key=kDep
 ·rw [if_pos h2] at hR
  have d2 : (key == [68,101,112,101,110,100,115])=true:=beq_iff_eq.2 h2
  clear h2
  have HC : Hid (Calls Tryz.prog 157 #[.agg #[.string ⟨t.toArray⟩,.int .i64 i],.string ⟨#[59,32]⟩,.int .i64 16,.func (.func 158) #[] #[]] V (Pg.PartsRet (fun u A l=>Pg.DRowF V.heap.size u A l) V i (partsR depR semi 16 t))):=partsDeps_any t semi i 16 V HM.out HT.out (by decide) (by decide)
  obtain ⟨E,hE⟩ : ∃ E,partsR depR semi 16 t=E:=⟨_,rfl⟩
  rw [hE] at HC hR
  have HR:=Lib.hid hR
  clear hR hE
  go_enter Tryz.func111,Tryz.ntmps111
  go_wp2_with fail
  clear hV
  refine HC.out.mono ?_
  rintro r u ⟨hb,hr⟩
  have HU:=Lib.hid hb
  clear hb HC c0 c1
  cases E with
  | error k =>
   have HF : Hid (R = .error k):=HR.out.symm
   obtain rfl : r=panAt i k:=hr
   go_wp2_with fail
   exact ⟨rfl,HBb.out.trans (HU.out.mono HVb.out),by rw [HF.out]⟩
  | ok l =>
   have HF : Hid (R = .ok { p with deps:=l }):=HR.out.symm
   obtain ⟨A,n,c,rfl,hn,hrow,hf⟩:=hr
   subst hn
   have HRW:=Lib.hid (drowF_mono hrow HVB.out)
   have HFR : Hid (AFr B A):=fun a ha=>Nat.le_trans HVB.out (hf a ha)
   clear hrow hf
   have HPU:=Lib.hid (pblk_below HPV.out HU.out)
   obtain ⟨x0,x1,x2,x3,x4,x5,⟨e0,z0⟩,⟨e1,z1⟩,⟨e2,z2⟩,⟨e3,z3⟩,⟨e4,z4⟩,⟨e5,z5⟩⟩:=pblk_cell HPU.out
   go_wp2_with fail
   go_end0
   refine ⟨(HBb.out.trans (HU.out.mono HVb.out)).setCell (Nat.le_refl _) _,?_⟩
   rw [HF.out]
   exact ⟨rfl,pblk_deps HPU.out HLT.out HRW.out HFR.out⟩
 rw [if_neg h2] at hR
 have d2 : (key == [68,101,112,101,110,100,115])=false:=beq_eq_false_iff_ne.2 h2
 clear h2
 by_cases h3 : key=kCon
 ·rw [if_pos h3] at hR
  have d3 : (key == [67,111,110,102,108,105,99,116,115])=true:=beq_iff_eq.2 h3
  clear h3
  have HC : Hid (Calls Tryz.prog 159 #[.agg #[.string ⟨t.toArray⟩,.int .i64 i],.string ⟨#[59,32]⟩,.int .i64 16,.func (.func 160) #[] #[]] V (Pg.PartsRet (ARow) V i (partsR atomR semi 16 t))):=partsAtoms_any t semi i 16 V HM.out HT.out (by decide) (by decide)
  obtain ⟨E,hE⟩ : ∃ E,partsR atomR semi 16 t=E:=⟨_,rfl⟩
  rw [hE] at HC hR
  have HR:=Lib.hid hR
  clear hR hE
  go_enter Tryz.func111,Tryz.ntmps111
  go_wp2_with fail
  clear hV
  refine HC.out.mono ?_
  rintro r u ⟨hb,hr⟩
  have HU:=Lib.hid hb
  clear hb HC c0 c1
  cases E with
  | error k =>
   have HF : Hid (R = .error k):=HR.out.symm
   obtain rfl : r=panAt i k:=hr
   go_wp2_with fail
   exact ⟨rfl,HBb.out.trans (HU.out.mono HVb.out),by rw [HF.out]⟩
  | ok l =>
   have HF : Hid (R = .ok { p with confl:=l }):=HR.out.symm
   obtain ⟨A,n,c,rfl,hn,hrow,hf⟩:=hr
   subst hn
   have HRW:=Lib.hid (hrow)
   have HFR : Hid (AFr B A):=fun a ha=>Nat.le_trans HVB.out (hf a ha)
   clear hrow hf
   have HPU:=Lib.hid (pblk_below HPV.out HU.out)
   obtain ⟨x0,x1,x2,x3,x4,x5,⟨e0,z0⟩,⟨e1,z1⟩,⟨e2,z2⟩,⟨e3,z3⟩,⟨e4,z4⟩,⟨e5,z5⟩⟩:=pblk_cell HPU.out
   go_wp2_with fail
   go_end0
   refine ⟨(HBb.out.trans (HU.out.mono HVb.out)).setCell (Nat.le_refl _) _,?_⟩
   rw [HF.out]
   exact ⟨rfl,pblk_confl HPU.out HLT.out HRW.out HFR.out⟩
 rw [if_neg h3] at hR
 have d3 : (key == [67,111,110,102,108,105,99,116,115])=false:=beq_eq_false_iff_ne.2 h3
 clear h3
 by_cases h4 : key=kPro
 ·rw [if_pos h4] at hR
  have d4 : (key == [80,114,111,118,105,100,101,115])=true:=beq_iff_eq.2 h4
  clear h4
  have HC : Hid (Calls Tryz.prog 161 #[.agg #[.string ⟨t.toArray⟩,.int .i64 i],.string ⟨#[59,32]⟩,.int .i64 16,.func (.func 162) #[] #[]] V (Pg.PartsRet (GRow) V i (partsR gvR semi 16 t))):=partsGives_any t semi i 16 V HM.out HT.out (by decide) (by decide)
  obtain ⟨E,hE⟩ : ∃ E,partsR gvR semi 16 t=E:=⟨_,rfl⟩
  rw [hE] at HC hR
  have HR:=Lib.hid hR
  clear hR hE
  go_enter Tryz.func111,Tryz.ntmps111
  go_wp2_with fail
  clear hV
  refine HC.out.mono ?_
  rintro r u ⟨hb,hr⟩
  have HU:=Lib.hid hb
  clear hb HC c0 c1
  cases E with
  | error k =>
   have HF : Hid (R = .error k):=HR.out.symm
   obtain rfl : r=panAt i k:=hr
   go_wp2_with fail
   exact ⟨rfl,HBb.out.trans (HU.out.mono HVb.out),by rw [HF.out]⟩
  | ok l =>
   have HF : Hid (R = .ok { p with prov:=l }):=HR.out.symm
   obtain ⟨A,n,c,rfl,hn,hrow,hf⟩:=hr
   subst hn
   have HRW:=Lib.hid (hrow)
   have HFR : Hid (AFr B A):=fun a ha=>Nat.le_trans HVB.out (hf a ha)
   clear hrow hf
   have HPU:=Lib.hid (pblk_below HPV.out HU.out)
   obtain ⟨x0,x1,x2,x3,x4,x5,⟨e0,z0⟩,⟨e1,z1⟩,⟨e2,z2⟩,⟨e3,z3⟩,⟨e4,z4⟩,⟨e5,z5⟩⟩:=pblk_cell HPU.out
   go_wp2_with fail
   go_end0
   refine ⟨(HBb.out.trans (HU.out.mono HVb.out)).setCell (Nat.le_refl _) _,?_⟩
   rw [HF.out]
   exact ⟨rfl,pblk_prov HPU.out HLT.out HRW.out HFR.out⟩
 rw [if_neg h4] at hR
 have d4 : (key == [80,114,111,118,105,100,101,115])=false:=beq_eq_false_iff_ne.2 h4
 clear h4
 by_cases h5 : key=kWei
 ·rw [if_pos h5] at hR
  have d5 : (key == [87,101,105,103,104,116])=true:=beq_iff_eq.2 h5
  clear h5
  have HC : Hid (Calls Tryz.prog 163 #[.agg #[.string ⟨t.toArray⟩,.int .i64 i]] V fun r w'=>Below V.heap.size V w'∧match wtR t with | .ok f=>r = .returned (.float .f64 f) | .error k=>r=panAt i k):=(valueWeight_any t i V HT.out HK.out (outW_lt t)).mono fun r w' ⟨h1,h2⟩=>by
   refine ⟨h2,?_⟩
   unfold wtR
   by_cases a0 : errW t=0
   ·rw [if_pos a0] at h1 ⊢
    by_cases a1 : chkW (outW t)=0
    ·rw [if_pos a1] at h1 ⊢;exact h1
    ·rw [if_neg a1] at h1 ⊢;exact h1
   ·rw [if_neg a0] at h1 ⊢;exact h1
  obtain ⟨E,hE⟩ : ∃ E,wtR t=E:=⟨_,rfl⟩
  rw [hE] at HC hR
  have HR:=Lib.hid hR
  clear hR hE
  go_enter Tryz.func111,Tryz.ntmps111
  go_wp2_with fail
  clear hV
  refine HC.out.mono ?_
  rintro r u ⟨hb,hr⟩
  have HU:=Lib.hid hb
  clear hb HC c0 c1
  cases E with
  | error k =>
   have HF : Hid (R = .error k):=HR.out.symm
   obtain rfl : r=panAt i k:=hr
   go_wp2_with fail
   exact ⟨rfl,HBb.out.trans (HU.out.mono HVb.out),by rw [HF.out]⟩
  | ok f =>
   have HF : Hid (R = .ok { p with wt:=f }):=HR.out.symm
   obtain rfl : r = .returned (.float .f64 f):=hr
   have HPU:=Lib.hid (pblk_below HPV.out HU.out)
   obtain ⟨x0,x1,x2,x3,x4,x5,⟨e0,z0⟩,⟨e1,z1⟩,⟨e2,z2⟩,⟨e3,z3⟩,⟨e4,z4⟩,⟨e5,z5⟩⟩:=pblk_cell HPU.out
   go_wp2_with fail
   go_end0
   refine ⟨(HBb.out.trans (HU.out.mono HVb.out)).setCell (Nat.le_refl _) _,?_⟩
   rw [HF.out]
   exact ⟨rfl,pblk_wt HPU.out HLT.out f⟩
 rw [if_neg h5] at hR
 have d5 : (key == [87,101,105,103,104,116])=false:=beq_eq_false_iff_ne.2 h5
 clear h5
 have HF : Hid (R = .ok p):=hR.symm
 clear hR
 go_enter Tryz.func111,Tryz.ntmps111
 go_wp2_with fail
 go_end0
 refine ⟨HBb.out,?_⟩
 rw [HF.out]
 exact ⟨rfl,HPV.out⟩
end Go.Proofs.YtkplahkkmmoppaaGreatDoor
namespace Go.Proofs.YtkplahkkmmoppaaGreatDoor.Sz
open Go.RowKit Go.Maps
theorem zeroI (w : World) : (zeroValue 3).run Tryz.prog w = .ok (.int .i64 0) w:=by kernel_rfl
def KMap (w : World) (b : Nat) (ks : List (List UInt8)) : Prop:=∃ (n : Nat) (D : DataW Unit),w.ownsMap Tryz.prog 9 (plainElem Tryz.prog 3) b n D∧n≤ks.length∧∀ k : List UInt8,k.length≤140737488355328 → Maps.has D (.string k)=(placeOf ks k).isSome∧∀ p : Nat,placeOf ks k=some p → D.atKey (.string k) (.lit (.int .i64 0)) = .lit (.int .i64 p)
theorem place_snoc (ks : List (List UInt8)) (x k : List UInt8) : placeOf (ks ++ [x]) k=match placeOf ks k with | some p=>some p | none=>if x=k then some ks.length else none:=by
 unfold placeOf
 rw [List.findIdx?_append]
 cases h : ks.findIdx? (· == k) with
 | some p=>simp
 | none=>by_cases e : x=k <;> simp [e,List.findIdx?_cons]
theorem place_lt {ks : List (List UInt8)} {k : List UInt8} {p : Nat} (h : placeOf ks k=some p) : p < ks.length:=by
 unfold placeOf at h
 obtain ⟨h1,_⟩:=List.findIdx?_eq_some_iff_getElem.1 h
 exact h1
theorem kmap_made (w : World) : KMap (w.alloc (.map #[] 0)) w.heap.size []:=⟨0,_,World.ownsMap_made w _ _ _,Nat.le_refl _,fun _k _=>⟨rfl,fun p h=>by cases h⟩⟩
theorem kmap_look {w : World} {b : Nat} {ks : List (List UInt8)} (h : KMap w b ks) {k : List UInt8} (hk : k.length≤140737488355328) :
  (Instr.lookup 256 (.map (some b)) (.string ⟨k.toArray⟩) true).run Tryz.prog w = .ok (.tuple #[.int .i64 ((placeOf ks k).getD 0 : Nat),.bool (placeOf ks k).isSome]) w:=by
 obtain ⟨n,D,hown,_,hh⟩:=h
 obtain ⟨v,ps,hrun,hv⟩:=hown.look_ok keyLaw Tryz.underlying256 (zeroI w) (plainElem_int Tryz.underlying3 (by decide)) (keyOf_txt hk)
 obtain ⟨c,rfl,hc,_⟩:=plainElem_int_inv Tryz.underlying3 hv
 obtain ⟨h1,h2⟩:=hh k hk
 have hc1 : D.atKey (.string k) (.lit (.int .i64 0)) = .lit (.int .i64 c):=congrArg Prod.fst hc
 rw [hrun,h1]
 cases hp : placeOf ks k with
 | some p =>
  rw [h2 p hp] at hc1
  have e:=(Lit.int.inj (DataW.lit.inj hc1)).2
  rw [← e];rfl
 | none =>
  rw [hp] at h1
  rw [Maps.atKey_of_not_has h1] at hc1
  have e:=(Lit.int.inj (DataW.lit.inj hc1)).2
  rw [← e];rfl
theorem kmap_put {w : World} {b : Nat} {ks : List (List UInt8)} (h : KMap w b ks) {k : List UInt8} (hk : k.length≤140737488355328) (hl : ks.length≤1000000) (hn : placeOf ks k=none) :
  ∃ w',(Instr.mapUpdate 256 (.map (some b)) (.string ⟨k.toArray⟩) (.int .i64 ks.length)).run Tryz.prog w = .ok () w'∧KMap w' b (ks ++ [k])∧w.mapTurned w' b:=by
 obtain ⟨n,D,hown,hn2,hh⟩:=h
 obtain ⟨w',hrun,hown',ht⟩:=hown.store keyLaw Tryz.underlying256 (by unfold maxLen;omega) (keyOf_txt hk) (val:=.int .i64 ks.length) (plainElem_int Tryz.underlying3 (by
  have h1 : IntKind.i64.min = -9223372036854775808:=rfl
  have h2 : IntKind.i64.max=9223372036854775807:=rfl
  unfold Lit.wf
  rw [Bool.and_eq_true,decide_eq_true_eq,decide_eq_true_eq,h1,h2];omega))
 refine ⟨w',hrun,⟨n + 1,_,hown',by rw [List.length_append];simp;omega,fun x hx=>?_⟩,ht⟩
 rw [place_snoc]
 by_cases e : x=k
 ·subst e
  rw [Maps.has_put_same hown.isMap (by trivial),hn,if_pos rfl]
  refine ⟨rfl,fun p hp=>?_⟩
  rw [Maps.atKey_put_same hown.isMap (by trivial),Option.some.inj hp]
 ·rw [Maps.has_put_other (by intro h;exact e (Lit.string.inj h)),(hh x hx).1]
  have ek : ¬ k=x:=fun h=>e h.symm
  rw [if_neg ek]
  refine ⟨by cases placeOf ks x <;> rfl,fun p hp=>?_⟩
  rw [Maps.atKey_put_other (by intro h;exact e (Lit.string.inj h))]
  refine (hh x hx).2 p ?_
  cases hq : placeOf ks x with
  | none=>rw [hq] at hp;exact hp
  | some q=>rw [hq] at hp;exact hp
theorem kmap_skip {w : World} {b : Nat} {ks : List (List UInt8)} (h : KMap w b ks) {k : List UInt8} {q : Nat} (hn : placeOf ks k=some q) : KMap w b (ks ++ [k]):=by
 obtain ⟨n,D,hown,hn2,hh⟩:=h
 refine ⟨n,D,hown,by rw [List.length_append];simp;omega,fun x hx=>?_⟩
 obtain ⟨h1,h2⟩:=hh x hx
 rw [place_snoc,h1]
 cases hp : placeOf ks x with
 | some p=>exact ⟨rfl,fun p' hp'=>h2 p' (by rw [hp];exact hp')⟩
 | none =>
  have ek : ¬ k=x:=fun e=>by subst e;rw [hn] at hp;cases hp
  dsimp only
  rw [if_neg ek]
  exact ⟨rfl,fun p' hp'=>by cases hp'⟩
theorem kmap_below {w w' : World} {b B : Nat} {ks : List (List UInt8)} (h : KMap w b ks) (hb : Below B w w') (hlt : b < B) : KMap w' b ks:=by
 obtain ⟨n,D,⟨es,clock,hh,r⟩,h2⟩:=h
 exact ⟨n,D,⟨es,clock,(hb.block b hlt).trans hh,r⟩,h2⟩
end Go.Proofs.YtkplahkkmmoppaaGreatDoor.Sz
namespace Go.Proofs.YtkplahkkmmoppaaGreatDoor
open Go.RowKit Go.Maps Sz
attribute [local go_sem ↓] Go.wp_at_zero Go.wp_at_succ
def Sz.ShortT (l : List (List UInt8)) : Prop:=∀ k ∈ l,k.length≤140737488355328
theorem firstPlaces_any (A : Option Addr) (n c : Nat) (l : List (List UInt8)) (w : World) (hn : l.length=n) (hr : Rg.Row encT 1 w A l) (hl : n≤100000) (hs : Sz.ShortT l) :
  Calls Tryz.prog 201 #[.slice A n c] w fun e w'=>e = .returned (.map (some w.heap.size))∧KMap w' w.heap.size l∧w.heap.size < w'.heap.size∧Below w.heap.size w w':=by
 obtain ⟨W1,hW1⟩ : ∃ W,w.alloc (.map #[] 0)=W:=⟨_,rfl⟩
 have HBW : Hid (Below w.heap.size w W1):=alloc_low hW1
 have HK0 : Hid (KMap W1 w.heap.size []):=by show KMap _ _ _;rw [← hW1];exact kmap_made w
 have HSZ : Hid (w.heap.size < W1.heap.size):=by show _ < _;rw [← hW1];simp
 have hmk : (Instr.makeMap 256 none).run Tryz.prog w = .ok (.map (some w.heap.size)) W1:=by rw [← hW1];rfl
 have HR:=Lib.hid hr
 have HN:=Lib.hid hn
 have HS:=Lib.hid hs
 clear hr hn hs
 go_enter Tryz.func201,Tryz.ntmps201
 go_wp2_with fail
 clear hW1 hmk
 go_loopw [11] (fun i wr=>∃ k : Nat,k≤n∧i = .int .i64 k∧Hid (Below w.heap.size w wr∧w.heap.size < wr.heap.size)∧Hid (KMap wr w.heap.size (l.take k))) (fun i _=>n - (intOf i).toNat)
 case atStart=>exact ⟨0,Nat.zero_le _,rfl,⟨HBW.out,HSZ.out⟩,HK0.out⟩
 case round =>
  obtain ⟨k,hk,rfl,HW,HH⟩:=hrel
  by_cases hlt : k < n
  ·have hlr : k < l.length:=by rw [HN.out];exact hlt
   obtain ⟨ad,rfl,_,c0⟩:=Sz.txt_at (Rg.row_below HR.out HW.out.1) k hlr
   have ht : l.take (k + 1)=l.take k ++ [l[k]]:=List.take_succ_eq_append_getElem hlr
   have hsx : l[k].length≤140737488355328:=HS.out _ (List.getElem_mem hlr)
   obtain ⟨x,hx⟩ : ∃ x,l[k]=x:=⟨_,rfl⟩
   rw [hx] at c0 ht hsx
   have hlk:=kmap_look HH.out hsx
   have hlen : (l.take k).length=k:=by rw [List.length_take];omega
   cases hp : placeOf (l.take k) x with
   | some p =>
    rw [hp] at hlk
    have HE : Hid (KMap wr w.heap.size (l.take (k + 1))):=by show KMap _ _ _;rw [ht];exact kmap_skip HH.out hp
    have HK:=Lib.hid hk
    clear ht hx hp hlen hsx
    dsimp only [Option.getD,Option.isSome] at hlk
    go_wp2_with fail
    go_roundw
    case rel=>exact ⟨k + 1,by omega,by go_num,HW,HE⟩
    case measure=>simp [intOf];omega
   | none =>
    rw [hp] at hlk
    obtain ⟨w2,hrun,hk2,hturn⟩:=kmap_put HH.out hsx (by omega) hp
    rw [hlen] at hrun
    rw [← ht] at hk2
    have HE:=Lib.hid hk2
    have HW2 : Hid (Below w.heap.size w w2∧w.heap.size < w2.heap.size):=by
     have hg:=hturn.grown
     exact ⟨HW.out.1.grown hg (Nat.le_of_lt HW.out.2) (fun j hj=>by have:=Option.some.inj hj;omega),Nat.lt_of_lt_of_le HW.out.2 hg.size⟩
    clear ht hx hp hlen hsx hk2 hturn
    dsimp only [Option.getD,Option.isSome] at hlk
    go_wp2_with fail
    go_roundw
    case rel=>exact ⟨k + 1,by omega,by go_num,HW2,HE⟩
    case measure=>simp [intOf];omega
  ·obtain rfl : k=n:=by omega
   have HE : Hid (KMap wr w.heap.size l):=by
    have h:=HH.out
    rw [List.take_of_length_le (by rw [HN.out];exact Nat.le_refl _)] at h
    exact h
   go_wp2_with fail
   go_ret
   exact ⟨rfl,HE.out,HW.out.2,HW.out.1⟩
theorem Sz.ordP_cons (ks : List (List UInt8)) (i : Nat) (x : Int) (f : Fld) (l : List Fld) : ordP ks i x (f :: l)=match placeOf ks f.key with
  | none=>((i : Int),10)
  | some p=>if x < p then ordP ks (i + 1) p l else ((i : Int),7):=by rw [ordP];rfl
def Sz.OrdRet (w : World) (X : Int × Int) (e : Ending) (w' : World) : Prop:=Below w.heap.size w w'∧if X.2=0 then e = .returned (.tuple #[]) else e=panAt X.1 X.2
theorem requireOrder_any (A : Option Addr) (n c : Nat) (l : List Fld) (B : Option Addr) (m d : Nat) (ks : List (List UInt8)) (w : World) (hn : l.length=n) (hr : Rg.Row encF 3 w A l) (hl : n≤100000) (hs : Sz.Short l) (hm : ks.length=m) (hk : Rg.Row encT 1 w B ks) (hml : m≤100000) (hks : Sz.ShortT ks) :
  Calls Tryz.prog 153 #[.slice A n c,.slice B m d] w (Sz.OrdRet w (ordP ks 0 (-1) l)):=by
 obtain ⟨R,hR⟩ : ∃ R,ordP ks 0 (-1) l=R:=⟨_,rfl⟩
 rw [hR]
 have HG:=Lib.hid hR
 have HFP:=Lib.hid (firstPlaces_any B m d ks w hm hk hml hks)
 have HR:=Lib.hid hr
 have HN:=Lib.hid hn
 have HS:=Lib.hid hs
 have HM : Hid (ks.length≤100000):=by show _≤_;rw [hm];exact hml
 clear hR hr hn hs hm hk hks hml
 go_enter Tryz.func153,Tryz.ntmps153
 go_wp2_with fail
 refine HFP.out.mono ?_
 rintro _ u ⟨rfl,hmp,hsz,hb⟩
 have HMP:=Lib.hid hmp
 have HSZ:=Lib.hid hsz
 have HB:=Lib.hid hb
 clear hmp hsz hb HFP
 go_wp2_with fail
 go_loopw [5,14] (fun v i wr=>∃ (k : Nat) (x : Int),k≤n∧i = .int .i64 k∧v = .int .i64 x ∧ -1≤x∧x≤1000000∧Hid (Below u.heap.size u wr)∧Hid (ordP ks k x (l.drop k)=R)) (fun _ i _=>n - (intOf i).toNat)
 case atStart=>exact ⟨0,-1,Nat.zero_le _,rfl,rfl,by decide,by decide,Below.refl _ _,HG.out⟩
 case round =>
  obtain ⟨k,x,hk,rfl,rfl,hx0,hx1,HW,HH⟩:=hrel
  by_cases hlt : k < n
  ·have hlr : k < l.length:=by rw [HN.out];exact hlt
   obtain ⟨ad,rfl,_,c0,c1,c2⟩:=field_at (Rg.row_below HR.out (HB.out.trans (HW.out.mono HB.out.size))) k hlr
   have hd : l.drop k=l[k] :: l.drop (k + 1):=List.drop_eq_getElem_cons hlr
   obtain ⟨s1,_⟩:=short_at HS.out k hlr
   have hh:=HH.out
   rw [hd,ordP_cons] at hh
   obtain ⟨f,hf⟩ : ∃ f,l[k]=f:=⟨_,rfl⟩
   rw [hf] at c0 c1 c2 hh s1
   obtain ⟨fk,fv,fl⟩:=f
   dsimp only at c0 c1 c2 hh s1
   obtain ⟨V,hV⟩ : ∃ V,wr.alloc (.cells #[.string ⟨fk.toArray⟩,.string ⟨fv.toArray⟩,.int .i64 fl] 82)=V:=⟨_,rfl⟩
   have HV1 : Hid (Below u.heap.size u V):=HW.out.trans ((alloc_low hV).mono HW.out.size)
   obtain ⟨v0,v1,v2,_⟩:=cell_three hV (Below.refl _ _)
   have hlk:=kmap_look (kmap_below HMP.out HV1.out HSZ.out) s1
   have HRV : Hid (Below w.heap.size w V):=HB.out.trans (HV1.out.mono HB.out.size)
   clear hd hf s1
   cases hp : placeOf ks fk with
   | none =>
    rw [hp] at hlk hh
    dsimp only [Option.getD,Option.isSome] at hlk hh
    have HE : Hid (R=((k : Int),10)):=hh.symm
    clear hh hp
    go_wp2_with fail
    clear hV
    refine (requireAt_no _).mono ?_
    rintro _ z ⟨rfl,rfl⟩
    go_wp2_with fail
    exact ⟨rfl,by show OrdRet w R _ _;rw [HE.out];exact ⟨HRV.out,rfl⟩⟩
   | some p =>
    have hpl:=place_lt hp
    have hm1 : p≤100000:=Nat.le_trans (Nat.le_of_lt hpl) HM.out
    rw [hp] at hlk hh
    dsimp only [Option.getD,Option.isSome] at hlk hh
    clear hp hpl
    by_cases hgt : x < p
    ·have d0 : decide (x < (p : Int))=true:=decide_eq_true hgt
     have HE : Hid (ordP ks (k + 1) p (l.drop (k + 1))=R):=by rw [if_pos hgt] at hh;exact hh
     clear hh
     go_wp2_with fail
     clear hV
     refine (requireAt_yes _).mono ?_
     rintro _ z ⟨rfl,rfl⟩
     go_wp2_with fail
     refine (requireAt_yes _).mono ?_
     rintro _ z ⟨rfl,rfl⟩
     go_wp2_with fail
     go_roundw
     case rel=>exact ⟨k + 1,p,by omega,by go_num,rfl,by omega,by omega,HV1,HE⟩
     case measure=>simp [intOf];omega
    ·have d0 : decide (x < (p : Int))=false:=decide_eq_false hgt
     have HE : Hid (R=((k : Int),7)):=by rw [if_neg hgt] at hh;exact hh.symm
     clear hh
     go_wp2_with fail
     clear hV
     refine (requireAt_yes _).mono ?_
     rintro _ z ⟨rfl,rfl⟩
     go_wp2_with fail
     refine (requireAt_no _).mono ?_
     rintro _ z ⟨rfl,rfl⟩
     go_wp2_with fail
     exact ⟨rfl,by show OrdRet w R _ _;rw [HE.out];exact ⟨HRV.out,rfl⟩⟩
  ·obtain rfl : k=n:=by omega
   have HE : Hid (R=(0,0)):=by show _=_;rw [← HH.out,List.drop_eq_nil_of_le (by rw [HN.out];exact Nat.le_refl _)];rfl
   go_wp2_with fail
   go_end0
   show OrdRet w R _ _
   rw [HE.out]
   exact ⟨HB.out.trans (HW.out.mono HB.out.size),rfl⟩
theorem sOrder_placed (p q : Addr) (x y k n : Int) (w : World) (hc : ∀ u,Below w.heap.size w u → u.cell? p=some (.int .i64 x)) (hz : ∀ u,Below w.heap.size w u → u.frozen? p=false) (hc2 : ∀ u,Below w.heap.size w u → (u.setCell p (.int .i64 k)).cell? q=some (.int .i64 y)) (hz2 : ∀ u,Below w.heap.size w u → (u.setCell p (.int .i64 k)).frozen? q=false) :
  CallsD Tryz.prog 152 #[.pointer (some p),.pointer (some q)] (.panicking [{ v:=.iface 164 (.agg #[.int .i64 k,.int .i64 n]),recovered:=false }]) w fun e u' w' =>
   e = .returned (.tuple #[])∧u' = .panicking [{ v:=.iface 164 (.agg #[.int .i64 k,.int .i64 n]),recovered:=true }]∧∃ u,Below w.heap.size w u∧w'=(u.setCell p (.int .i64 k)).setCell q (.int .i64 n):=by
 refine callsD_of_wpS Tryz.func152 rfl fun c₀ cs hu=>?_
 apply wpS_region
 simp [wpOpsS,go_sem,recoverD,hu,Tryz.ntmps152]
 refine (raisedAt_placed k n _).mono ?_
 rintro e w' ⟨rfl,hb⟩
 simp [go_sem,hc _ hb,hz _ hb,hc2 _ hb,hz2 _ hb,bodyPostS,results,Tryz.results152]
 exact ⟨w',hb,rfl⟩
theorem sOrder_idle (p q : Addr) (x y : Int) (w : World) (hc : w.cell? p=some (.int .i64 x)) (hz : w.frozen? p=false) (hc2 : (w.setCell p (.int .i64 0)).cell? q=some (.int .i64 y)) (hz2 : (w.setCell p (.int .i64 0)).frozen? q=false) :
  CallsD Tryz.prog 152 #[.pointer (some p),.pointer (some q)] .returning w fun e u' w'=>e = .returned (.tuple #[])∧u' = .returning∧w'=(w.setCell p (.int .i64 0)).setCell q (.int .i64 0):=by
 refine callsD_of_wpS Tryz.func152 rfl fun c₀ cs hu=>?_
 apply wpS_region
 simp [wpOpsS,go_sem,recoverD,hu,Tryz.ntmps152]
 refine (raisedAt_nil _).mono ?_
 rintro e w' ⟨rfl,rfl⟩
 cases c₀
 simp_all [go_sem,bodyPostS,results,Tryz.results152]
theorem Sz.ordP_zero (ks : List (List UInt8)) : ∀ (l : List Fld) (i : Nat) (x : Int),(ordP ks i x l).2=0 → (ordP ks i x l).1=0
 | [],i,x,_=>rfl
 | f :: l,i,x,h=>by
  rw [ordP_cons] at h ⊢
  cases hp : placeOf ks f.key with
  | none=>rw [hp] at h;cases h
  | some p =>
   rw [hp] at h
   dsimp only at h ⊢
   by_cases hx : x < p
   ·rw [if_pos hx] at h ⊢;exact ordP_zero ks l _ _ h
   ·rw [if_neg hx] at h;cases h
def Sz.OrderRet (w : World) (X : Int × Int) (e : Ending) (w' : World) : Prop:=e = .returned (.tuple #[.int .i64 X.1,.int .i64 X.2])∧Below w.heap.size w w'
theorem stanzaOrder_any (A : Option Addr) (n c : Nat) (l : List Fld) (B : Option Addr) (m d : Nat) (ks : List (List UInt8)) (w : World) (hn : l.length=n) (hr : Rg.Row encF 3 w A l) (hl : n≤100000) (hs : Sz.Short l) (hm : ks.length=m) (hk : Rg.Row encT 1 w B ks) (hml : m≤100000) (hks : Sz.ShortT ks) :
  Calls Tryz.prog 108 #[.slice A n c,.slice B m d] w (Sz.OrderRet w (ordP ks 0 (-1) l)):=by
 have hmf : ∀ (fn : Fn) (first cap : Array Value) (w : World),(Instr.makeFunc fn first cap).run Tryz.prog w = .ok (.func fn first cap) w:=fun _ _ _ _=>rfl
 obtain ⟨W1,hW1⟩ : ∃ W,w.alloc (.cells #[.int .i64 0] 3)=W:=⟨_,rfl⟩
 obtain ⟨W2,hW2⟩ : ∃ W,W1.alloc (.cells #[.int .i64 0] 36)=W:=⟨_,rfl⟩
 have HPC : Hid (∀ u,Below W2.heap.size W2 u → P2 w.heap.size u):=fun u hb=>p2_of hW1 hW2 hb
 have hs1 : W1.heap.size=w.heap.size + 1:=by rw [← hW1];simp
 have HBW : Hid (Below w.heap.size w W2):=(alloc_low hW1).trans ((alloc_low hW2).mono (alloc_low hW1).size)
 have HRO:=Lib.hid (requireOrder_any A n c l B m d ks W2 hn (Rg.row_below hr HBW.out) hl hs hm (Rg.row_below hk HBW.out) hml hks)
 obtain ⟨X,hX⟩ : ∃ X,ordP ks 0 (-1) l=X:=⟨_,rfl⟩
 rw [hX]
 have HX0 : Hid (X.2=0 → X.1=0):=by rw [← hX];exact ordP_zero ks l 0 (-1)
 rw [hX] at HRO
 clear hX hn hr hl hs hm hk hml hks
 go_enter_defers Tryz.func108,Tryz.ntmps108
 go_wp2_with fail
 clear hW1 hW2
 refine HRO.out.mono ?_
 rintro e z1 ⟨hb,hr⟩
 have HB:=Lib.hid hb
 clear hb HRO
 obtain ⟨n,k⟩:=X
 dsimp only at hr HX0
 by_cases hk : k=0
 ·subst hk
  obtain rfl:=HX0.out rfl
  obtain rfl : e = .returned (.tuple #[]):=by rw [if_pos rfl] at hr;exact hr
  obtain ⟨c0,f0,c1,f1⟩:=p2_cells (HPC.out _ HB.out)
  obtain ⟨d0,g0,d1,g1⟩:=p2_after (HPC.out _ HB.out) (.int .i64 0)
  have HP2:=Lib.hid (p2_again (HPC.out _ HB.out))
  have HBV : Hid (Below w.heap.size w ((z1.setCell ⟨w.heap.size,0,none⟩ (.int .i64 0)).setCell ⟨w.heap.size + 1,0,none⟩ (.int .i64 0))):=((HBW.out.trans (HB.out.mono HBW.out.size)).setCell (Nat.le_refl _) _).setCell (Nat.le_succ _) _
  clear hr
  go_wp2_with fail
  generalize (z1.setCell ⟨w.heap.size,0,none⟩ (.int .i64 0)).setCell ⟨w.heap.size + 1,0,none⟩ (.int .i64 0)=V at *
  obtain ⟨k0,m0,k1,m1⟩:=p2_cells HP2.out
  obtain ⟨l0,o0,l1,o1⟩:=p2_after HP2.out (.int .i64 0)
  obtain ⟨q0,q1⟩:=p2_both HP2.out (.int .i64 0) (.int .i64 0)
  refine leaves_cons (f:=152) (args:=#[.pointer (some ⟨w.heap.size,0,none⟩),.pointer (some ⟨w.heap.size + 1,0,none⟩)]) (by simp) (by simp [go_sem]) ?_
  refine (sOrder_idle ⟨w.heap.size,0,none⟩ ⟨w.heap.size + 1,0,none⟩ 0 0 _ k0 m0 l1 o1).mono ?_
  rintro e u' w3 ⟨rfl,rfl,rfl⟩
  simp [Leaves,settle,results,Tryz.results108,go_sem,q0,q1]
  exact ⟨rfl,(HBV.out.setCell (Nat.le_refl _) _).setCell (Nat.le_succ _) _⟩
 ·obtain rfl : e=panAt n k:=by rw [if_neg hk] at hr;exact hr
  clear hr hk
  go_wp2_with fail
  refine leaves_cons (f:=152) (args:=#[.pointer (some ⟨w.heap.size,0,none⟩),.pointer (some ⟨w.heap.size + 1,0,none⟩)]) (by simp) (by simp [go_sem]) ?_
  refine (sOrder_placed ⟨w.heap.size,0,none⟩ ⟨w.heap.size + 1,0,none⟩ 0 0 n k _ (fun u hb=>(p2_cells (HPC.out _ (HB.out.trans (hb.mono HB.out.size)))).1) (fun u hb=>(p2_cells (HPC.out _ (HB.out.trans (hb.mono HB.out.size)))).2.1) (fun u hb=>(p2_after (HPC.out _ (HB.out.trans (hb.mono HB.out.size))) _).2.2.1) (fun u hb=>(p2_after (HPC.out _ (HB.out.trans (hb.mono HB.out.size))) _).2.2.2)).mono ?_
  rintro e u' w3 ⟨rfl,rfl,u,hb,rfl⟩
  have HBU:=Lib.hid (HB.out.trans (hb.mono HB.out.size))
  obtain ⟨q0,q1⟩:=p2_both (HPC.out _ HBU.out) (.int .i64 n) (.int .i64 k)
  simp [Leaves,settle,results,Tryz.results108,go_sem,q0,q1]
  exact ⟨rfl,((HBW.out.trans (HBU.out.mono HBW.out.size)).setCell (Nat.le_refl _) _).setCell (Nat.le_succ _) _⟩
end Go.Proofs.YtkplahkkmmoppaaGreatDoor
namespace Go.Proofs.YtkplahkkmmoppaaGreatDoor
open Go.RowKit Go.Maps Sz
attribute [local go_sem ↓] Go.wp_at_zero Go.wp_at_succ
variable {TO TF : TypeId}
def Sz.Tri (b : Nat) (k v : List UInt8) (n : Int) (T : TypeId) (u : World) : Prop:=u.heap[b]? = some (.cells #[.string ⟨k.toArray⟩,.string ⟨v.toArray⟩,.int .i64 n] T (0,0))
theorem Sz.tri_new {w W1 : World} {k v : List UInt8} {n : Int} {T : TypeId} (h : w.alloc (.cells #[.string ⟨k.toArray⟩,.string ⟨v.toArray⟩,.int .i64 n] T)=W1) : Tri w.heap.size k v n T W1:=by
 subst h;exact heap_alloc_new w _
theorem Sz.tri_cells {b : Nat} {k v : List UInt8} {n : Int} {T : TypeId} {u : World} (h : Tri b k v n T u) : u.cell? ⟨b,0,none⟩=some (.string ⟨k.toArray⟩)∧u.cell? ⟨b,1,none⟩=some (.string ⟨v.toArray⟩)∧u.cell? ⟨b,2,none⟩=some (.int .i64 n)∧u.frozen? ⟨b,0,none⟩=false∧u.frozen? ⟨b,1,none⟩=false∧u.frozen? ⟨b,2,none⟩=false:=by
 unfold Tri at h
 refine ⟨?_,?_,?_,?_,?_,?_⟩ <;> simp [World.cell?,World.frozen?,h]
end Go.Proofs.YtkplahkkmmoppaaGreatDoor
namespace Go.Proofs
open Go.Shelf
def Tryz.lays166_ren : Go.Shelf.Ren:=⟨fun | 166=>87 | 240=>135 | 276=>185 | n=>n,fun | 0=>0 | 3=>3 | 4=>4 | 5=>5 | 9=>9 | 20=>20 | 37=>140 | 70=>139 | 72=>142 | 75=>144 | 80=>106 | 164=>246 | n=>n,fun | n=>n⟩
theorem Tryz.lays166 : Go.Proofs.Lays.n166 Tryz.prog Tryz.lays166_ren:={
 mixed:=by kernel_rfl
 f166:=Tryz.func87.trans (congrArg some (by kernel_rfl))
 f240:=Tryz.func135.trans (congrArg some (by kernel_rfl))
 f276:=Tryz.func185.trans (congrArg some (by kernel_rfl))
 t0:=Tryz.underlying0
 a0:=Tryz.isAgg0
 z0:=Tryz.sizeOf0
 v0:=Tryz.zeroValue0
 t3:=Tryz.underlying3
 a3:=Tryz.isAgg3
 z3:=Tryz.sizeOf3
 v3:=Tryz.zeroValue3
 t4:=Tryz.underlying4
 a4:=Tryz.isAgg4
 z4:=Tryz.sizeOf4
 v4:=Tryz.zeroValue4
 t9:=Tryz.underlying9
 a9:=Tryz.isAgg9
 z9:=Tryz.sizeOf9
 v9:=Tryz.zeroValue9
 t20:=Tryz.underlying20
 a20:=Tryz.isAgg20
 z20:=Tryz.sizeOf20
 v20:=Tryz.zeroValue20
 t37:=Tryz.underlying140
 a37:=Tryz.isAgg140
 z37:=Tryz.sizeOf140
 v37:=Tryz.zeroValue140
 t70:=Tryz.underlying139
 a70:=Tryz.isAgg139
 z70:=Tryz.sizeOf139
 v70:=Tryz.zeroValue139
 t72:=Tryz.underlying142
 a72:=Tryz.isAgg142
 z72:=Tryz.sizeOf142
 v72:=Tryz.zeroValue142
 t75:=Tryz.underlying144
 a75:=Tryz.isAgg144
 z75:=Tryz.sizeOf144
 v75:=Tryz.zeroValue144
 t164:=Tryz.underlying246
 a164:=Tryz.isAgg246
 z164:=Tryz.sizeOf246
 v164:=Tryz.zeroValue246 }
theorem Tryz.Builder_Extra_166 : Builder.Extra Tryz.prog Tryz.lays166_ren where
 sizeBuilder:=by kernel_rfl
 liesBuilder:=by kernel_rfl
 t5:=Tryz.underlying5
 a5:=Tryz.isAgg5
 z5:=Tryz.sizeOf5
 v5:=Tryz.zeroValue5
 infoByte:=by kernel_rfl
 cellsByte:=by kernel_rfl
 sizeByte:=by kernel_rfl
 neB5:=by decide
open Go.RowKit in
theorem Tryz.Builder_WriteString_kc (B b : Nat) (bs : List Value) (s : ByteArray) (w : World) (h : Lib.IsBuilderF 142 5 B b bs w) (hlen : bs.length + s.size≤140737488355328) (hBw : B≤w.heap.size) :
  Calls Tryz.prog 87 #[.pointer (some ⟨b,0,none⟩),.string s] w fun e w'=>e = .returned (.tuple #[.int .i64 s.size,.nilIface])∧(Lib.BuilderAtF 142 5 B b (.pointer (some ⟨b,0,none⟩)) (bs ++ Lib.strCells s) w'∧Below B w w'∧Lib.OthersKept 5 (some b) w w')∧∀ v0,w.cell? ⟨b,1,none⟩=some v0 → ∃ v1,w'.cell? ⟨b,1,none⟩=some v1∧v0.capOf≤v1.capOf:=Any.Builder_WriteString_kc Tryz.lays166 Tryz.Builder_Extra_166 B b bs s w h hlen hBw
end Go.Proofs
