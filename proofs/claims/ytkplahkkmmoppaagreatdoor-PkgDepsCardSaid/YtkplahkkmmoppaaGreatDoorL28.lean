/- Part 28 of what the laws lean on. -/
import Derived.Test.YtkplahkkmmoppaaGreatDoorL27
set_option maxRecDepth 100000
set_option maxHeartbeats 64000000
namespace Go.Proofs.YtkplahkkmmoppaaGreatDoor
open Go.RowKit Rs At Pg
namespace Pg
theorem step_app_pure {α : Type} {P : Program} {enc : α → List Value} {K : Nat} {ST T : TypeId} {w : World} {κ : Value → Prop} (hT : Rg.SliceT P enc K ST T) (hk : ∀ i,P.info? T=some i → ∀ z,i.zero=some z → ∀ u ∈ z.cells,κ u) (hke : ∀ x,∀ u ∈ enc x,κ u)
  {ops : Array Oper} {o : Oper} {a : Act} {G : Act → World → Prop} {Q : Exit → Act → World → Prop} {E : Prop} (hgd : o.guard=none) (sl x : Operand)
  (ho : o.op = .call { callee:=.builtin .append,args:=#[sl,x],argTypes:=#[ST,ST] })
  (B : Nat) (v : Value) (l m : List α) (hs : a.eval sl=v) (hown : Rg.Own enc K w B T v l) (hp : Pure κ w v) (ad : Addr) (c : Nat) (hx : a.eval x = .slice (some ad) m.length c)
  (hnews : ∀ j u,(Rg.flat enc m)[j]? = some u → w.cell? (ad.add j)=some u) (hm : 0 < m.length) (hsz : l.length + m.length≤1000000) (hB : B≤w.heap.size)
  (h : ∀ v' w',Rg.Own enc K w' B T v' (l ++ m) → Pure κ w' v' → w.grownBy w' v.ownBlock → w.heap.size≤w'.heap.size → G (a.put o.dst v') w') : if Region.wanted o (yielded ops a.tmps)=true then Oper.wp P o a w G Q else E:=by
 obtain ⟨i,z,hi,hz0,hz1,hz2,hb⟩:=hT.info
 have hbytes : (l.length + m.length) * i.bytes≤140737488355328:=by
  have : (l.length + m.length) * i.bytes≤1000000 * 1000:=Nat.mul_le_mul hsz hb
  omega
 have h63 : l.length + m.length≤maxLen:=by unfold maxLen;omega
 have hw : Region.wanted o (yielded ops a.tmps)=true:=by simp [Region.wanted,hgd]
 rw [if_pos hw]
 obtain ⟨g,cap,w',hr,h2,h3,_,_⟩:=run_append_lies (P:=P) w ST o.type B T i z K i.bytes hT.under hi hz0 hz2 rfl hz1 hT.pos v l.length (Rg.flat enc l) hown ad m.length c (Rg.flat enc m) (Rg.flat_len hT.fits m) hnews (Rg.flat_ones hT.fits m) hm h63 hbytes hB _ rfl
 have h6:=pure_run ST o.type B T i z K i.bytes hT.under hi hz0 hz2 rfl l.length (Rg.flat enc l) hown ad m.length c (Rg.flat enc m) (Rg.flat_len hT.fits m) hnews (Rg.flat_ones hT.fits m) hm h63 hbytes hr hp (fun u hu=>by
  obtain ⟨y,_,hy⟩:=List.mem_flatMap.1 hu
  exact hke y u hy) (hk i hi z hz0)
 unfold Oper.wp execOp
 simp only [ho,resolve,invoke,builtin,Sem.run_bind,Sem.run_pure,Result.andThen_ok,List.map_toArray,List.map_cons,List.map_nil,hs,hx,hr]
 refine h _ w' ?_ h6 h3 h3.size
 unfold Rg.Own
 rw [Rg.flat_app,List.length_append]
 exact h2
theorem own_set {α : Type} {enc : α → List Value} {K B b j : Nat} {T : TypeId} {w : World} {v x : Value} {l : List α} (h : Rg.Own enc K w B T v l) (hb : b < B) : Rg.Own enc K (w.setCell ⟨b,j,none⟩ x) B T v l :=
 World.ownsRow.kept h (Sz.set_grown w ⟨b,j,none⟩ x) (by
  cases hv : v.ownBlock with
  | none=>exact .inl rfl
  | some g =>
   refine .inr fun e=>?_
   have h1:=(Rg.own_lt h g hv).1
   have h2:=Option.some.inj e
   simp only at h2
   omega)
theorem down_set {B b j : Nat} {T : TypeId} {w : World} {v x : Value} {ds : List Desc} {t : List (List Atm)} (h : DOwnF w B T v ds t) (hb : b < B) (hg : ∀ j x,w.cell? ⟨b,j,none⟩=some x → NoB x) : DOwnF (w.setCell ⟨b,j,none⟩ x) B T v ds t:=by
 refine ⟨own_set h.1 hb,⟨h.2.1.1,fun i d l e1 e2=>⟨(h.2.1.2 i d l e1 e2).1,arow_but (h.2.1.2 i d l e1 e2).2 (but_set w ⟨b,j,none⟩ x) (far_of (fun a ha=>h.2.2.1 i d e1 a ha) hb) (fun g e=>by cases e;exact hg)⟩⟩,h.2.2.1,fun g hgv k u hu=>?_⟩
 have h1:=(Rg.own_lt h.1 g hgv).1
 rw [World.cell?_setCell_far _ _ _ _ (by show b ≠ g;omega)] at hu
 exact h.2.2.2 g hgv k u hu
theorem heap_kept {w u : World} {b : Nat} {o : Obj} (h : w.heap[b]? = some o) {B : Nat} (hb : Below B w u) (hlt : b < B) : u.heap[b]? = some o:=(hb.block _ hlt).trans h
theorem heap_grown {w u : World} {b : Nat} {o : Obj} {r : Option Nat} (h : w.heap[b]? = some o) (hg : w.grownBy u r) (hne : r ≠ some b) : u.heap[b]? = some o:=(hg.block b (block_lt h) (fun e=>hne e.symm)).trans h
theorem own_far {α : Type} {enc : α → List Value} {K B b : Nat} {T : TypeId} {w : World} {v : Value} {l : List α} (h : Rg.Own enc K w B T v l) (hb : b < B) : v.ownBlock ≠ some b:=fun e=>by
 have:=(Rg.own_lt h b e).1
 omega
theorem row_sel {α : Type} {enc : α → List Value} {K : Nat} {w u : World} {A : Option Addr} {l : List α} (h : Rg.Row enc K w A l) (hs : w.heap.size≤u.heap.size) (hk : 0 < l.length → ∀ a,A=some a → a.block < w.heap.size → u.heap[a.block]? = w.heap[a.block]?) : Rg.Row enc K u A l:=fun h0=>by
 obtain ⟨a,e,hl,hc⟩:=h h0
 refine ⟨a,e,Nat.lt_of_lt_of_le hl hs,fun i hi j v hv=>?_⟩
 have h1:=hc i hi j v hv
 rw [World.cell?_of_block]
 ·exact h1
 ·have : (if j=0 then a.add (i * K) else (⟨(a.add (i * K)).block,(a.add (i * K)).off + j,none⟩ : Addr)).block=a.block:=by split <;> simp [add_block]
  rw [this]
  exact hk h0 a e hl
theorem srow_sel {w u : World} {A : Option Addr} {l : List Sp} (h : SRow w A l) (hs : w.heap.size≤u.heap.size) (hk : 0 < l.length → ∀ a,A=some a → a.block < w.heap.size → u.heap[a.block]? = w.heap[a.block]?) : SRow u A l:=fun h0=>by
 obtain ⟨a,e,hl,hc⟩:=h h0
 have hk:=hk h0 a e hl
 refine ⟨a,e,Nat.lt_of_lt_of_le hl hs,fun i hi=>?_⟩
 obtain ⟨c0,c1,c2,c3⟩:=hc i hi
 refine ⟨?_,?_,?_,?_⟩
 ·rw [World.cell?_of_block (by simpa [add_block] using hk)];exact c0
 ·rw [World.cell?_of_block (by simpa [add_block] using hk)];exact c1
 ·rw [World.cell?_of_block (by simpa [add_block] using hk)];exact c2
 ·rw [World.cell?_of_block (by simpa [add_block] using hk)];exact c3
theorem arow_sel {S : Nat → Prop} {w u : World} {A : Option Addr} {l : List Atm} (h : ARow w A l) (hs : w.heap.size≤u.heap.size) (hk : ∀ k,k < w.heap.size → ¬ S k → u.heap[k]? = w.heap[k]?) (hA : ∀ a,A=some a → ¬ S a.block) (hg : ∀ g,S g → ∀ j x,w.cell? ⟨g,j,none⟩=some x → NoB x) : ARow u A l:=by
 obtain ⟨ds,h1,h2,h3⟩:=h
 refine ⟨ds,row_sel h1 hs (fun _ a ha hl=>hk _ hl (hA a ha)),h2,fun i d a e1 e2=>⟨(h3 i d a e1 e2).1,(h3 i d a e1 e2).2.1,srow_sel (h3 i d a e1 e2).2.2 hs (fun h0 q hq hl=>hk _ hl (fun hS=>srow_nob (h3 i d a e1 e2).2.2 (hg _ hS) h0 q hq rfl))⟩⟩
theorem but_low {b2 : Nat} {wc wr u : World} (h : But (some b2) wc wr) (hb : Below wc.heap.size wr u) : But (some b2) wc u:=⟨Nat.le_trans h.1 hb.size,fun k hk hr=>(hb.block k hk).trans (h.2 k hk hr)⟩
theorem but_set2 {b2 j : Nat} {wc wr : World} {x : Value} (h : But (some b2) wc wr) : But (some b2) wc (wr.setCell ⟨b2,j,none⟩ x):=but_trans h (but_set wr ⟨b2,j,none⟩ x)
theorem own_is {α : Type} {enc : α → List Value} {K B : Nat} {T : TypeId} {w : World} {v : Value} {l : List α} (h : Rg.Own enc K w B T v l) : IsSl v:=by
 rcases h.2 with ⟨rfl,_⟩ | ⟨g,cap,cur,rfl,_⟩
 ·exact ⟨_,_,_,rfl⟩
 ·exact ⟨_,_,_,rfl⟩
theorem six_nobV {u : World} {b : Nat} {T : TypeId} {s0 s1 : ByteArray} {v2 v3 v4 : Value} {f : Nat} (h : u.heap[b]? = some (.cells #[.string s0,.string s1,v2,v3,v4,.float .f64 f] T (0,0))) (h2 : IsSl v2) (h3 : IsSl v3) (h4 : IsSl v4) : ∀ j x,u.cell? ⟨b,j,none⟩=some x → NoB x:=fun j x hx y e=>by
 rw [cell_of_row u b j _ T (0,0) h] at hx
 subst e
 have hm:=Array.mem_of_getElem? hx
 obtain ⟨_,_,_,q2⟩:=h2
 obtain ⟨_,_,_,q3⟩:=h3
 obtain ⟨_,_,_,q4⟩:=h4
 subst q2 q3 q4
 simp at hm
theorem isl (A : Option Addr) (n c : Nat) : IsSl (.slice A n c):=⟨_,_,_,rfl⟩
abbrev six (u : World) (b : Nat) (x0 x1 x2 x3 x4 x5 : Value) : World:=(((((u.setCell ⟨b,0,none⟩ x0).setCell ⟨b,1,none⟩ x1).setCell ⟨b,2,none⟩ x2).setCell ⟨b,3,none⟩ x3).setCell ⟨b,4,none⟩ x4).setCell ⟨b,5,none⟩ x5
theorem six_heap {u : World} {b : Nat} {T : TypeId} (h : u.heap[b]? = some (.cells zeroC T (0,0))) (x0 x1 x2 x3 x4 x5 : Value) : (six u b x0 x1 x2 x3 x4 x5).heap[b]? = some (.cells #[x0,x1,x2,x3,x4,x5] T (0,0)):=(set_heap (set_heap (set_heap (set_heap (set_heap (set_heap h)))))).trans rfl
theorem six_but (u : World) (b : Nat) (x0 x1 x2 x3 x4 x5 : Value) : But (some b) u (six u b x0 x1 x2 x3 x4 x5) :=
 but_trans (but_trans (but_trans (but_trans (but_trans (but_set u ⟨b,0,none⟩ _) (but_set _ ⟨b,1,none⟩ _)) (but_set _ ⟨b,2,none⟩ _)) (but_set _ ⟨b,3,none⟩ _)) (but_set _ ⟨b,4,none⟩ _)) (but_set _ ⟨b,5,none⟩ _)
theorem six_below {B : Nat} {w u : World} {b : Nat} (h : Below B w u) (hb : B≤b) (x0 x1 x2 x3 x4 x5 : Value) : Below B w (six u b x0 x1 x2 x3 x4 x5) :=
 (((((h.setCell (p:=⟨b,0,none⟩) hb _).setCell (p:=⟨b,1,none⟩) hb _).setCell (p:=⟨b,2,none⟩) hb _).setCell (p:=⟨b,3,none⟩) hb _).setCell (p:=⟨b,4,none⟩) hb _).setCell (p:=⟨b,5,none⟩) hb _
def CutTo (TP : TypeId) (U : World) (b : Nat) (nm vr : List UInt8) (cn : Nat) (confl : List Atm) (wt : Nat) (v : Value) (wx : World) : Prop :=
 ∃ b2 C2 cc2,v = .pointer (some ⟨b2,0,none⟩)∧U.heap.size≤b2∧b2 < wx.heap.size∧wx.heap[b2]? = some (.cells #[.string ⟨nm.toArray⟩,.string ⟨vr.toArray⟩,.slice none 0 0,.slice C2 cn cc2,.slice none 0 0,.float .f64 wt] TP (0,0))∧Below U.heap.size U wx ∧
  ∀ x : World,wx.heap.size≤x.heap.size → (∀ k,k < wx.heap.size → k ≠ b2 → k ≠ b + 1 → x.heap[k]? = wx.heap[k]?) → ARow x C2 confl
theorem cut_late {TP : TypeId} {U u3 : World} {b : Nat} {nm vr : List UInt8} {cn : Nat} {confl : List Atm} {wt : Nat} {C2 : Option Addr} {cc2 : Nat} (_ : U.heap.size=b + 2) (hb : Below U.heap.size U u3) (hr : ARow u3 C2 confl) (hf : ∀ a,C2=some a → b + 2≤a.block) (hz : u3.heap[b + 1]? = some (.cells zeroC TP (0,0))) :
  CutTo TP U b nm vr cn confl wt (.pointer (some ⟨u3.heap.size,0,none⟩)) (u3.alloc (.cells #[.string ⟨nm.toArray⟩,.string ⟨vr.toArray⟩,.slice none 0 0,.slice C2 cn cc2,.slice none 0 0,.float .f64 wt] TP)):=by
 refine ⟨u3.heap.size,C2,cc2,rfl,hb.size,by simp,heap_alloc_new u3 _,hb.alloc hb.size _,fun x hs hk=>?_⟩
 have hs2 : u3.heap.size≤x.heap.size:=Nat.le_trans (by simp) hs
 refine arow_sel (S:=fun k=>k=b + 1) hr hs2 (fun k hk1 hk2=>?_) (fun a ha e=>by have:=hf a ha;omega) (fun g hg=>by subst hg;exact zero_nob hz)
 rw [hk k (Nat.lt_of_lt_of_le hk1 (by simp)) (by omega) hk2]
 exact Below.heap_alloc u3 _ k hk1
theorem cut_soon {TP : TypeId} {U u3 wx : World} {b b2 : Nat} {nm vr : List UInt8} {cn : Nat} {confl : List Atm} {wt : Nat} {C2 : Option Addr} {cc2 : Nat} (_ : U.heap.size=b + 2) (hb2 : b2=b + 2) (hb : Below U.heap.size U u3) (hr : ARow u3 C2 confl) (hf : ∀ a,C2=some a → b + 3≤a.block) (hz : u3.heap[b + 1]? = some (.cells zeroC TP (0,0))) (hz2 : u3.heap[b2]? = some (.cells zeroC TP (0,0)))
  (hw : But (some b2) u3 wx) (hwb : Below b2 u3 wx) (hc : wx.heap[b2]? = some (.cells #[.string ⟨nm.toArray⟩,.string ⟨vr.toArray⟩,.slice none 0 0,.slice C2 cn cc2,.slice none 0 0,.float .f64 wt] TP (0,0))) :
  CutTo TP U b nm vr cn confl wt (.pointer (some ⟨b2,0,none⟩)) wx:=by
 refine ⟨b2,C2,cc2,rfl,by omega,block_lt hc,hc,hb.trans (hwb.mono (by omega)),fun x hs hk=>?_⟩
 refine arow_sel (S:=fun k=>k=b + 1 ∨ k=b2) hr (Nat.le_trans hw.1 hs) (fun k hk1 hk2=>?_) (fun a ha e=>by have:=hf a ha;omega) (fun g hg=>by
  rcases hg with rfl | rfl
  ·exact zero_nob hz
  ·exact zero_nob hz2)
 rw [hk k (Nat.lt_of_lt_of_le hk1 hw.1) (fun e=>hk2 (Or.inr e)) (fun e=>hk2 (Or.inl e))]
 exact hw.2 k hk1 (fun e=>hk2 (Or.inr (Option.some.inj e).symm))
section
variable {P : Program} {ops : Array Oper} {L : List Oper} {md : Region.Mode} {Q : Exit → Act → World → Prop} {S : World → Prop} {fuel : Nat} {listed : Array Bool} {a : Act} {w : World}
theorem two_at (hL : L.toArray=ops) (i j : Nat) {oi oj : Oper} (hi : L[i]? = some oi) (hj : L[j]? = some oj) (hr : Region.ready md L.toArray listed = [i,j]) (hw : Region.wanted oi (yielded L.toArray a.tmps)=true) (hv : Region.wanted oj (yielded L.toArray a.tmps)=true)
  (h : ∀ K : Act → World → Prop,Shut (∀ a w,S w → (S w → wpAnyH P md ops Q S fuel (listed.setIfInBounds i true) a w) → K a w) → Oper.wp P oi a w K Q)
  (k : ∀ K : Act → World → Prop,Shut (∀ a w,S w → (S w → wpAnyH P md ops Q S fuel (listed.setIfInBounds j true) a w) → K a w) → Oper.wp P oj a w K Q) : wpAnyH P md ops Q S (fuel + 1) listed a w:=by
 subst hL
 refine wpAnyH_ready (rs:=[i,j]) hr (by simp) (AllReadyH.cons (by simpa using hi) (fun K hK=>?_) (AllReadyH.cons (by simpa using hj) (fun K hK=>?_) AllReadyH.nil))
 ·rw [if_pos hw]
  exact h K hK
 ·rw [if_pos hv]
  exact k K hK
theorem next_if (hL : L.toArray=ops) (i : Nat) {oi : Oper} (hi : L[i]? = some oi) (hr : Region.ready md L.toArray listed = [i]) (hw : Region.wanted oi (yielded L.toArray a.tmps)=true)
  (h : ∀ K : Act → World → Prop,Shut (∀ a w,S w → (S w → wpAnyH P md ops Q S fuel (listed.setIfInBounds i true) a w) → K a w) → if Region.wanted oi (yielded L.toArray a.tmps)=true then Oper.wp P oi a w K Q else True) : wpAnyH P md ops Q S (fuel + 1) listed a w :=
 next_at hL i hi hr hw (fun K hK=>by
  have:=h K hK
  rwa [if_pos hw] at this)
end
end Pg
def Pg.PSmall (p : Pk) : Prop:=p.deps.length≤1000∧(∀ d ∈ p.deps,d.length≤1000∧ASmall d)∧p.confl.length≤1000∧ASmall p.confl∧p.prov.length≤1000
theorem Pg.four_of {u : World} {b : Nat} {x0 x1 x2 x3 x4 x5 : Value} (h : u.cell? ⟨b,0,none⟩=some x0∧u.cell? ⟨b,1,none⟩=some x1∧u.cell? ⟨b,2,none⟩=some x2∧u.cell? ⟨b,3,none⟩=some x3∧u.cell? ⟨b,4,none⟩=some x4∧u.cell? ⟨b,5,none⟩=some x5) : u.cell? ⟨b,0,none⟩=some x0∧u.cell? ⟨b,1,none⟩=some x1∧u.cell? ⟨b,3,none⟩=some x3∧u.cell? ⟨b,5,none⟩=some x5:=⟨h.1,h.2.1,h.2.2.2.1,h.2.2.2.2.2⟩
attribute [local go_sem ↓] Go.wp_at_zero Go.wp_at_succ
attribute [local go_sem] Pg.run_store_float
theorem Pg.res_to6 {u : World} {b : Nat} (h : u.heap[b]? = some (.cells zeroC 34 (0,0))) (p : Pk) (D C G : Option Addr) (dc cc gc : Nat) {tmps : Array Value} (ht : tmps.getD 2 undef = .pointer (some ⟨b,0,none⟩)) :
  (results Tryz.f11 tmps).run Tryz.prog (stP u b p D C G dc cc gc) = .ok (.agg (pCells p D C G dc cc gc)) (stP u b p D C G dc cc gc):=by
 obtain ⟨g0,g1,g2,g3,g4,g5⟩:=six_cells (stP_heap h p D C G dc cc gc)
 have hr : Tryz.f11.results = #[.cell 2 34]:=Tryz.results11
 simp only [results,hr]
 generalize stP u b p D C G dc cc gc=V at *
 simp only [Array.getD_eq_getD_getElem?] at ht ⊢
 simp [go_sem,ht,g0,g1,g2,g3,g4,g5]
theorem to6_any (p : Pk) (D C G : Option Addr) (dn dc cn cc gn gc : Nat) (w : World) (hd : Pg.DRow w D p.deps) (hdn : p.deps.length=dn) (hc : ARow w C p.confl) (hcn : p.confl.length=cn) (hg : GRow w G p.prov) (hgn : p.prov.length=gn) (hf : PSmall p) :
  Calls Tryz.prog 11 #[.agg #[.string ⟨p.name.toArray⟩,.string ⟨p.ver.toArray⟩,.slice D dn dc,.slice C cn cc,.slice G gn gc,.float .f64 p.wt]] w fun e w'=>∃ D' dc' C' cc' G' gc',e = .returned (.agg #[.string ⟨p.name.toArray⟩,.string ⟨p.ver.toArray⟩,.slice D' dn dc',.slice C' cn cc',.slice G' gn gc',.float .f64 p.wt])∧Pg.DRow w' D' p.deps∧ARow w' C' p.confl∧GRow w' G' p.prov∧Below w.heap.size w w':=by
 obtain ⟨nm,vr,deps,confl,prov,wt⟩:=p
 obtain ⟨f1,f2,f3,f4,f5⟩:=hf
 dsimp only at hd hdn hc hcn hg hgn f1 f2 f3 f4 f5 ⊢
 rw [hdn] at f1
 rw [hcn] at f3
 rw [hgn] at f5
 obtain ⟨b,hb⟩ : ∃ b,w.heap.size=b:=⟨_,rfl⟩
 obtain ⟨V,hV⟩ : ∃ V,w.alloc (.cells #[.string ⟨nm.toArray⟩,.string ⟨vr.toArray⟩,.slice D dn dc,.slice C cn cc,.slice G gn gc,.float .f64 wt] 27)=V:=⟨_,rfl⟩
 have hs1 : V.heap.size=b + 1:=by rw [← hV,← hb];simp
 obtain ⟨U,hU⟩ : ∃ U,V.alloc (.cells zeroC 34)=U:=⟨_,rfl⟩
 have HV : Hid (Below w.heap.size w V):=alloc_low hV
 have HVU : Hid (Below V.heap.size V U):=alloc_low hU
 have HU : Hid (Below w.heap.size w U):=HV.out.trans (HVU.out.mono HV.out.size)
 have HY:=Lib.hid (fun W (h : Below U.heap.size U W)=>cell_six hV (HVU.out.trans (h.mono HVU.out.size)))
 have HZ : Hid (∀ W,Below U.heap.size U W → W.heap[b + 1]? = some (.cells zeroC 34 (0,0))):=fun W h=>(h.block _ (by rw [← hU,← hs1];simp)).trans (by rw [← hU,← hs1];exact heap_alloc_new V _)
 have HUS : Hid (U.heap.size=b + 2):=by show _=_;rw [← hU];simp [hs1]
 have HWB : Hid (w.heap.size=b):=hb
 rw [hb] at HY
 have HD : Hid (Pg.DRow U D deps):=drowD_below hd HU.out
 have HG : Hid (GRow U G prov):=Rg.row_below hg HU.out
 have HC : Hid (∀ W,Below U.heap.size U W → Calls Tryz.prog 37 #[.slice C cn cc] W fun e w'=>∃ C2 d,e = .returned (.slice C2 cn d)∧ARow w' C2 confl∧(∀ a,C2=some a → W.heap.size≤a.block)∧Below W.heap.size W w'):=fun W h=>toAll4_any C cn cc confl W hcn (arow_below (arow_below hc HU.out) h) f3 f4
 have HDN:=Lib.hid hdn
 have HCN:=Lib.hid hcn
 have HGN:=Lib.hid hgn
 have HF2:=Lib.hid f2
 have HB0 : Hid (Below U.heap.size U U.drew):=(Below.refl _ _).drew
 obtain ⟨y0,y1,y2,y3,y4,y5⟩:=HY.out _ HB0.out
 clear hd hdn hc hcn hg hgn f2 f4
 have HB0a : Hid (Below U.heap.size U (U.alloc (.cells #[.string ⟨#[]⟩,.string ⟨#[]⟩,.slice none 0 0,.slice none 0 0,.slice none 0 0,.float .f64 0] 34)).drew):=((Below.refl _ _).alloc (Nat.le_refl _) _).drew
 have HB0b : Hid (Below U.heap.size U (U.alloc (.cells #[.string ⟨#[]⟩,.string ⟨#[]⟩,.slice none 0 0,.slice none 0 0,.slice none 0 0,.float .f64 0] 34))):=(Below.refl _ _).alloc (Nat.le_refl _) _
 have hZ2 : Hid (∀ W,Below (U.alloc (.cells zeroC 34)).drew.heap.size (U.alloc (.cells zeroC 34)).drew W → W.heap[U.heap.size]? = some (.cells zeroC 34 (0,0))):=fun W h=>(h.block _ (by simp)).trans (heap_alloc_new U (.cells zeroC 34))
 go_enter Tryz.func11,Tryz.ntmps11
 go_upto_region 1 with fail
 clear hV hU hb hs1
 go_cut [3] (fun v wx=>Hid (CutTo 34 U b nm vr cn confl wt v wx))
 case first =>
  go_region_held3 (fun u=>u.cell? ⟨b,0,none⟩=some (.string ⟨nm.toArray⟩)∧u.cell? ⟨b,1,none⟩=some (.string ⟨vr.toArray⟩)∧u.cell? ⟨b,3,none⟩=some (.slice C cn cc)∧u.cell? ⟨b,5,none⟩=some (.float .f64 wt))
   (first
    | with_reducible exact four_of (HY.out _ HB0.out)
    | with_reducible exact four_of (HY.out _ HB3.out)
    | with_reducible exact four_of (HY.out _ (HB3.out.alloc HB3.out.size _))
    | with_reducible exact four_of (HY.out _ HB0a.out)
    | with_reducible exact four_of (HY.out _ HB4.out)
    | with_reducible exact four_of (HY.out _ HB0b.out)
    | exact four_of (HY.out _ (Below.setCell (Below.setCell (Below.setCell (Below.setCell (Below.setCell (Below.setCell HB4.out (p:=⟨U.heap.size,0,none⟩) (Nat.le_refl _) _) (p:=⟨U.heap.size,1,none⟩) (Nat.le_refl _) _) (p:=⟨U.heap.size,2,none⟩) (Nat.le_refl _) _) (p:=⟨U.heap.size,3,none⟩) (Nat.le_refl _) _) (p:=⟨U.heap.size,4,none⟩) (Nat.le_refl _) _) (p:=⟨U.heap.size,5,none⟩) (Nat.le_refl _) _))
    | (go_keep))
   (first
    | (go_at_call 37;refine (HC.out _ (by first | with_reducible exact HB0.out | with_reducible exact HB0a.out)).mono ?_;rintro _ u3 ⟨C2,cc2,rfl,hr2,hf2,hb2⟩;have HR2:=Lib.hid hr2;have HF2:=Lib.hid hf2;(first
      | (have hb3 : Below U.drew.heap.size U.drew u3:=(by with_reducible exact hb2);have HB3:=Lib.hid (HB0.out.trans (hb3.mono HB0.out.size));clear hb3)
      | (have hb3 : Below (U.alloc (.cells #[.string ⟨#[]⟩,.string ⟨#[]⟩,.slice none 0 0,.slice none 0 0,.slice none 0 0,.float .f64 0] 34)).drew.heap.size (U.alloc (.cells #[.string ⟨#[]⟩,.string ⟨#[]⟩,.slice none 0 0,.slice none 0 0,.slice none 0 0,.float .f64 0] 34)).drew u3:=(by with_reducible exact hb2);have HB4:=Lib.hid (HB0a.out.trans (hb3.mono HB0a.out.size));have HZ4:=Lib.hid (hZ2.out _ hb3);clear hb3;obtain ⟨e0,e1,e2,e3,e4,e5⟩:=six_cells HZ4.out;have z0:=six_free HZ4.out 0;have z1:=six_free HZ4.out 1;have z2:=six_free HZ4.out 2;have z3:=six_free HZ4.out 3;have z4:=six_free HZ4.out 4;have z5:=six_free HZ4.out 5));clear hr2 hf2 hb2))
  ·go_wp2_with fail
   go_meet
   case rel=>exact cut_late HUS.out HB3.out HR2.out (fun a ha=>Nat.le_trans (Nat.le_of_eq HUS.out.symm) (HF2.out a ha)) (HZ.out _ HB3.out)
  ·go_wp2_with fail
   go_meet
   case rel=>exact cut_soon HUS.out HUS.out HB4.out HR2.out (fun a ha=>Nat.le_trans (by have:=HUS.out;simp;omega) (HF2.out a ha)) (HZ.out _ HB4.out) HZ4.out (six_but u3 U.heap.size _ _ _ _ _ _) (six_below (Below.refl _ _) (Nat.le_refl _) _ _ _ _ _ _) (six_heap HZ4.out _ _ _ _ _ _)
 case rest =>
 obtain ⟨b2,C2,cc2,rfl,hb2,hlt2,hc2,hbw,hsafe⟩:=hcut
 have HB2 : Hid (U.heap.size≤b2∧b2 < wc.heap.size):=⟨hb2,hlt2⟩
 have HUW : Hid (U.heap.size≤wc.heap.size):=hbw.size
 have HH2:=Lib.hid hc2
 have HWC:=Lib.hid hbw
 have HSF:=Lib.hid hsafe
 clear hb2 hlt2 hc2 hbw hsafe y0 y1 y2 y3 y4 y5 HB0 HB0a HB0b HC hZ2
 go_wp2_with fail
 go_loopw [4] (fun i wr=>∃ (k : Nat) (v : Value) (ds : List Desc),k≤dn∧i = .int .i64 k∧Hid (wr.heap[b2]? = some (.cells #[.string ⟨nm.toArray⟩,.string ⟨vr.toArray⟩,v,.slice C2 cn cc2,.slice none 0 0,.float .f64 wt] 34 (0,0)))∧Hid (DOwnF wr wc.heap.size 70 v ds (deps.take k))∧Hid (Below U.heap.size U wr)∧Hid (But (some b2) wc wr)) (fun i _=>dn - (intOf i).toNat)
 case atStart=>exact ⟨0,.slice none 0 0,[],Nat.zero_le _,rfl,HH2,down_nil _ _ _,HWC,but_below (Below.refl _ _)⟩
 case round =>
  obtain ⟨k,v,ds,hk,rfl,HH,HO,HBU,HBT⟩:=hrel
  obtain ⟨y0,y1,y2,y3,y4,y5⟩:=HY.out _ HBU.out
  by_cases hlt : k < dn
  ·have hlr : k < deps.length:=by rw [HDN.out];exact hlt
   obtain ⟨ad,C1,m,d,rfl,hm,hs,hc⟩:=drowD_at HD.out k hlr
   have q0:=hc _ HBU.out
   have hff:=HF2.out _ (List.getElem_mem hlr)
   have hsn : deps.take (k + 1)=deps.take k ++ [deps[k]]:=by rw [List.take_succ_eq_append_getElem hlr]
   have HSZ : Hid (ds.length + 1≤1000000):=by
    have h1:=HO.out.2.1.1
    rw [List.length_take] at h1
    show _≤_
    omega
   obtain ⟨a,ha⟩ : ∃ a,deps[k]=a:=⟨_,rfl⟩
   rw [ha] at hm hs hff hsn
   have HSN:=Lib.hid hsn
   have HM:=Lib.hid hm
   have HCL : Hid (∀ W,Below wr.heap.size wr W → Calls Tryz.prog 37 #[.slice C1 m d] W fun e w'=>∃ C2 d,e = .returned (.slice C2 m d)∧ARow w' C2 a∧(∀ x,C2=some x → W.heap.size≤x.block)∧Below W.heap.size W w'):=fun W h=>toAll4_any C1 m d a W hm (arow_below (arow_below hs HBU.out) h) (by rw [← hm];exact hff.1) hff.2
   have HCD : Hid (∀ W,Below U.heap.size U W → W.cell? ⟨b,2,none⟩=some (.slice (some ad) dn dc)∧W.cell? (ad.add k)=some (.slice C1 m d)):=fun W h=>⟨(HY.out _ h).2.2.1,hc _ h⟩
   have HCO : Hid (∀ W,Below wr.heap.size wr W → W.heap[b2]? = some (.cells #[.string ⟨nm.toArray⟩,.string ⟨vr.toArray⟩,v,.slice C2 cn cc2,.slice none 0 0,.float .f64 wt] 34 (0,0))):=fun W h=>heap_kept HH.out h (block_lt HH.out)
   have HBd : Hid (Below wr.heap.size wr wr.drew):=(Below.refl _ _).drew
   have HBUd : Hid (Below U.heap.size U wr.drew):=HBU.out.drew
   obtain ⟨e0,e1,e2,e3,e4,e5⟩:=six_cells (HCO.out _ HBd.out)
   obtain ⟨q2,q3⟩:=HCD.out _ HBUd.out
   clear ha hm hs hff hsn hc y0 y1 y3 y4 y5 e0 e1 e3 e4 e5
   go_wp2_with fail
   go_region_law
    (first
     | (refine Pg.step_app_pure sliceD6 zeroD_sl encO_sl (by rfl) (.tmp 24) (.tmp 31) (by rfl) wc.heap.size v ds [(C3,m,c3)] (by rfl) (down_below HO.out HB3a.out).1 (down_below HO.out HB3a.out).2.2.2 _ _ (by rfl) (Rg.news_new _ _ [(C3,m,c3)] _ (by rfl)) (Nat.zero_lt_succ _) HSZ.out HSB.out ?_;intro v5 W5 ho5 hp5 hg5 hz5;obtain ⟨A5,n5,k5,rfl⟩:=own_is ho5;have HO5:=Lib.hid (down_add (down_below HO.out HB3a.out) (arow_below HR3.out ((Below.refl _ _).alloc (Nat.le_refl _) _)) HM.out HF3.out ho5 hp5 hg5);have HG5:=Lib.hid (Rg.grown_below (down_below HO.out HB3a.out).1 HSB.out hg5);have HH5:=Lib.hid (heap_grown (HCO.out _ HB3a.out) hg5 (own_far (down_below HO.out HB3a.out).1 HB2.out.2));have HBU5:=Lib.hid (HBU3a.out.trans (HG5.out.mono HUW.out));have HBU6 : Hid (Below U.heap.size U (W5.setCell ⟨b2,2,none⟩ (.slice A5 n5 k5))):=(HBU5.out.setCell HB2.out.1 _);obtain ⟨x0,x1,x2,x3,x4,x5⟩:=six_cells HH5.out;have z2:=six_free HH5.out 2;clear ho5 hp5 hg5 hz5 x0 x1 x3 x4 x5)
     | (rw [if_pos (by rfl)];go_simp;go_at_call 37;refine (HCL.out _ HBd.out).mono ?_;rintro _ u3 ⟨C3,c3,rfl,hr3,hf3,hb3⟩;have HB3:=Lib.hid (HBd.out.trans (hb3.mono HBd.out.size));have HBU3:=Lib.hid (HBUd.out.trans (hb3.mono HBUd.out.size));have HB3a : Hid (Below wr.heap.size wr (u3.alloc (.cells #[.slice C3 m c3] 70))):=HB3.out.alloc HB3.out.size _;have HBU3a : Hid (Below U.heap.size U (u3.alloc (.cells #[.slice C3 m c3] 70))):=HBU3.out.alloc HBU3.out.size _;have HR3:=Lib.hid hr3;have HF3 : Hid (∀ a,C3=some a → wc.heap.size≤a.block):=(fun a ha=>Nat.le_trans (Nat.le_trans HBT.out.1 HBd.out.size) (hf3 a ha));have HSB : Hid (wc.heap.size≤(u3.alloc (.cells #[.slice C3 m c3] 70)).heap.size):=Nat.le_trans HBT.out.1 HB3a.out.size;obtain ⟨_,_,g2,_,_,_⟩:=six_cells (HCO.out _ HB3.out);obtain ⟨_,_,g3,_,_,_⟩:=six_cells (HCO.out _ HB3a.out);clear hr3 hf3 hb3;go_wp2_with fail))
   all_goals (
    have HBT6:=Lib.hid (but_set2 (j:=2) (x:=.slice A5 n5 k5) (but_low HBT.out ((HB3a.out.mono HBT.out.1).trans HG5.out)))
    have HH6 : Hid ((W5.setCell ⟨b2,2,none⟩ (.slice A5 n5 k5)).heap[b2]? = some (.cells #[.string ⟨nm.toArray⟩,.string ⟨vr.toArray⟩,.slice A5 n5 k5,.slice C2 cn cc2,.slice none 0 0,.float .f64 wt] 34 (0,0))):=(set_heap HH5.out).trans rfl
    have HO6 : Hid (DOwnF (W5.setCell ⟨b2,2,none⟩ (.slice A5 n5 k5)) wc.heap.size 70 (.slice A5 n5 k5) (ds ++ [(C3,m,c3)]) (deps.take (k + 1))):=by
     show DOwnF _ _ _ _ _ _
     rw [HSN.out]
     exact down_set HO5.out HB2.out.2 (six_nobV HH5.out (own_is HO.out.1) (isl _ _ _) (isl _ _ _))
    generalize W5.setCell ⟨b2,2,none⟩ (.slice A5 n5 k5)=W6 at *
    clear HO5 HG5 HH5 HBU5 HB3 HB3a HBU3 HBU3a HR3 HF3 HSB g2 g3 x2 z2 HH HO HBT
    go_wp2_with fail
    go_roundw
    case rel=>exact ⟨k + 1,.slice A5 n5 k5,_,by omega,by go_num,HH6,HO6,HBU6,HBT6⟩
    case measure=>simp [intOf];omega)
  ·obtain rfl : k=dn:=by omega
   have ho:=HO.out
   rw [List.take_of_length_le (by rw [HDN.out];exact Nat.le_refl _)] at ho
   obtain ⟨D2,dc2,rfl,hr,hf⟩:=down_row ho
   have HRD:=Lib.hid hr
   have HFD:=Lib.hid hf
   have HWS : Hid (wc.heap.size≤wr.heap.size):=HBT.out.1
   clear ho hr hf HO
   go_wp2_with fail
   clear y0 y1 y2 y3 y4 y5
   obtain ⟨z1,hz1⟩ : ∃ z1,z1=wr:=⟨_,rfl⟩
   subst hz1
   go_loopw [5] (fun i ws=>∃ (j : Nat) (g : Value),j≤gn∧i = .int .i64 j∧Hid (ws.heap[b2]? = some (.cells #[.string ⟨nm.toArray⟩,.string ⟨vr.toArray⟩,.slice D2 deps.length dc2,.slice C2 cn cc2,g,.float .f64 wt] 34 (0,0)))∧Hid (Rg.Own encG 2 ws z1.heap.size 72 g (prov.take j))∧Hid (Below U.heap.size U ws)∧Hid (But (some b2) z1 ws)) (fun i _=>gn - (intOf i).toNat)
   case atStart=>exact ⟨0,.slice none 0 0,Nat.zero_le _,rfl,HH,Rg.own_nil _ _ _,HBU,but_below (Below.refl _ _)⟩
   case round =>
    obtain ⟨j,g,hj,rfl,HHs,HOs,HBS,HBs⟩:=hrel
    obtain ⟨y0,y1,y2,y3,y4,y5⟩:=HY.out _ HBS.out
    by_cases hlt : j < gn
    ·have hlr : j < prov.length:=by rw [HGN.out];exact hlt
     obtain ⟨ad,rfl,hc⟩:=grow_at HG.out j hlr
     have hsn : prov.take (j + 1)=prov.take j ++ [prov[j]]:=by rw [List.take_succ_eq_append_getElem hlr]
     have HSZ : Hid ((prov.take j).length + 1≤1000000):=by
      rw [List.length_take]
      show _≤_
      omega
     obtain ⟨a,ha⟩ : ∃ a,prov[j]=a:=⟨_,rfl⟩
     rw [ha] at hc hsn
     obtain ⟨gnm,gvr⟩:=a
     dsimp only at hc
     have HSN:=Lib.hid hsn
     have HCD:=Lib.hid (fun W (h : Below U.heap.size U W)=>And.intro (HY.out _ h).2.2.2.2.1 (hc _ h))
     have HBa : Hid (Below wr.heap.size wr (wr.alloc (.cells #[.string ⟨gnm.toArray⟩,.string ⟨gvr.toArray⟩] 72))):=(Below.refl _ _).alloc (Nat.le_refl _) _
     have HBad : Hid (Below wr.heap.size wr (wr.alloc (.cells #[.string ⟨gnm.toArray⟩,.string ⟨gvr.toArray⟩] 72)).drew):=HBa.out.drew
     have HBUa : Hid (Below U.heap.size U (wr.alloc (.cells #[.string ⟨gnm.toArray⟩,.string ⟨gvr.toArray⟩] 72))):=HBS.out.alloc HBS.out.size _
     have HBUad : Hid (Below U.heap.size U (wr.alloc (.cells #[.string ⟨gnm.toArray⟩,.string ⟨gvr.toArray⟩] 72)).drew):=HBUa.out.drew
     have HSB : Hid (z1.heap.size≤(wr.alloc (.cells #[.string ⟨gnm.toArray⟩,.string ⟨gvr.toArray⟩] 72)).heap.size):=Nat.le_trans HBs.out.1 HBa.out.size
     have HCO : Hid (∀ W,Below wr.heap.size wr W → W.heap[b2]? = some (.cells #[.string ⟨nm.toArray⟩,.string ⟨vr.toArray⟩,.slice D2 deps.length dc2,.slice C2 cn cc2,g,.float .f64 wt] 34 (0,0))):=fun W h=>heap_kept HHs.out h (block_lt HHs.out)
     have HUR : Hid (U.heap.size≤z1.heap.size):=HBU.out.size
     obtain ⟨_,_,_,_,e4,_⟩:=six_cells HHs.out
     obtain ⟨_,_,_,_,g4,_⟩:=six_cells (HCO.out _ HBa.out)
     obtain ⟨q2,q3,q4⟩:=HCD.out _ HBS.out
     obtain ⟨r2,r3,r4⟩:=HCD.out _ HBUa.out
     clear ha hc hsn y0 y1 y2 y3 y5
     go_wp2_with fail
     clear y4
     refine region_named (fun ops hops=>?_)
     have HOPS:=Lib.hid hops
     have HNS:=Lib.hid (nosel_at hops (by kernel_rfl))
     have hsz:=size_at hops (n:=19) (by rfl)
     clear hops
     refine wp_region_held_drew (S:=fun u=>u.cell? ⟨b,4,none⟩=some (.slice (some ad) gn gc)∧u.cell? (ad.add (j * 2))=some (.string ⟨gnm.toArray⟩)∧u.cell? ⟨(ad.add (j * 2)).block,(ad.add (j * 2)).off + 1,none⟩=some (.string ⟨gvr.toArray⟩)) (by kernel_rfl) ?_ (fun hH0=>?_)
     ·exact HCD.out _ HBS.out.drew
     rw [hsz]
     clear hsz
     refine mv (by assumption) HOPS.out HNS.out 0 ?_
     try simp only [Act.put,mvS]
     refine mv (by assumption) HOPS.out HNS.out 2 ?_
     try simp only [Act.put,mvS]
     refine mv (by assumption) HOPS.out HNS.out 3 ?_
     try simp only [Act.put,mvS]
     refine mv (by assumption) HOPS.out HNS.out 4 ?_
     try simp only [Act.put,mvS]
     refine mv (by assumption) HOPS.out HNS.out 5 ?_
     try simp only [Act.put,mvS]
     refine mv (by assumption) HOPS.out HNS.out 6 ?_
     try simp only [Act.put,mvS]
     refine mv (by assumption) HOPS.out HNS.out 7 ?_
     try simp only [Act.put,mvS]
     refine mv (by assumption) HOPS.out HNS.out 8 ?_
     try simp only [Act.put,mvS]
     refine mv (by assumption) HOPS.out HNS.out 9 ?_
     try simp only [Act.put,mvS]
     refine mv (by assumption) HOPS.out HNS.out 10 ?_
     try simp only [Act.put,mvS]
     refine mv (by assumption) HOPS.out HNS.out 11 ?_
     try simp only [Act.put,mvS]
     refine mv (by assumption) HOPS.out HNS.out 12 ?_
     try simp only [Act.put,mvS]
     refine mv (by assumption) HOPS.out HNS.out 13 ?_
     try simp only [Act.put,mvS]
     refine mv (by assumption) HOPS.out HNS.out 14 ?_
     try simp only [Act.put,mvS]
     refine two_at HOPS.out 1 15 rfl rfl (by kernel_rfl) (by rfl) (by rfl) (fun K hK=>?_) (fun K hK=>?_)
     ·go_simp
      refine hK.out _ _ ?_ (fun hH1=>?_)
      ·exact HCD.out _ HBS.out.drew
      clear hK K hH1
      try simp only [Act.put,mvS]
      refine next_at HOPS.out 15 rfl (by kernel_rfl) (by rfl) (fun K hK=>?_)
      go_simp
      refine hK.out _ _ ?_ (fun hH2=>?_)
      ·exact HCD.out _ HBUad.out
      clear hK K hH2
      try simp only [Act.put,mvS]
      refine next_if HOPS.out 16 rfl (by kernel_rfl) (by rfl) (fun K hK=>?_)
      refine Rg.step_app sliceG (by rfl) (.tmp 42) (.tmp 56) (by rfl) z1.heap.size g (prov.take j) [(⟨gnm,gvr⟩ : Gv)] (by rfl) (Rg.own_below HOs.out HBad.out) _ _ (by rfl) (Rg.news_new wr _ [(⟨gnm,gvr⟩ : Gv)] _ (by rfl)) (Nat.zero_lt_succ _) HSZ.out HSB.out ?_
      intro v5 W5 ho5 hg5 hz5
      obtain ⟨A5,n5,k5,rfl⟩:=own_is ho5
      have HO5:=Lib.hid ho5
      have HG5:=Lib.hid (Rg.grown_below (Rg.own_below HOs.out HBad.out) HSB.out hg5)
      have HH5:=Lib.hid (heap_grown (HCO.out _ HBad.out) hg5 (own_far (Rg.own_below HOs.out HBad.out) (Nat.lt_of_lt_of_le HB2.out.2 HWS.out)))
      have HBU5:=Lib.hid (HBUad.out.trans (HG5.out.mono HUR.out))
      have HBU6 : Hid (Below U.heap.size U (W5.setCell ⟨b2,4,none⟩ (.slice A5 n5 k5))):=(HBU5.out.setCell HB2.out.1 _)
      obtain ⟨x0,x1,x2,x3,x4,x5⟩:=six_cells HH5.out
      have z4:=six_free HH5.out 4
      clear ho5 hg5 hz5 x0 x1 x2 x3 x5
      refine hK.out _ _ ?_ (fun hH3=>?_)
      ·exact HCD.out _ HBU5.out
      clear hK K
      try simp only [Act.put,mvS]
      refine mv (by assumption) HOPS.out HNS.out 17 ?_
      try simp only [Act.put,mvS]
      clear hH3
      refine next_at HOPS.out 18 rfl (by kernel_rfl) (by rfl) (fun K hK=>?_)
      go_simp
      refine hK.out _ _ ?_ (fun hH4=>?_)
      ·exact HCD.out _ HBU6.out
      clear hK K hH4
      try simp only [Act.put,mvS]
      refine done_at HOPS.out (by kernel_rfl) ?_
      have HBT6:=Lib.hid (but_set2 (j:=4) (x:=.slice A5 n5 k5) (but_low HBs.out ((HBad.out.mono HBs.out.1).trans HG5.out)))
      have HH6 : Hid ((W5.setCell ⟨b2,4,none⟩ (.slice A5 n5 k5)).heap[b2]? = some (.cells #[.string ⟨nm.toArray⟩,.string ⟨vr.toArray⟩,.slice D2 deps.length dc2,.slice C2 cn cc2,.slice A5 n5 k5,.float .f64 wt] 34 (0,0))):=(set_heap HH5.out).trans rfl
      have HO6 : Hid (Rg.Own encG 2 (W5.setCell ⟨b2,4,none⟩ (.slice A5 n5 k5)) z1.heap.size 72 (.slice A5 n5 k5) (prov.take (j + 1))):=by
       show Rg.Own _ _ _ _ _ _ _
       rw [HSN.out]
       exact own_set HO5.out (Nat.lt_of_lt_of_le HB2.out.2 HWS.out)
      generalize W5.setCell ⟨b2,4,none⟩ (.slice A5 n5 k5)=W6 at *
      clear HO5 HG5 HH5 HBU5 HBa HBUa HBad HBUad HSB e4 g4 q2 q3 q4 r2 r3 r4 x4 z4 HHs HOs HBs
      go_wp2_with fail
      go_roundw
      case rel=>exact ⟨j + 1,.slice A5 n5 k5,by omega,by go_num,HH6,HO6,HBU6,HBT6⟩
      case measure=>simp [intOf];omega
     ·go_simp
      refine hK.out _ _ ?_ (fun hH5=>?_)
      ·exact HCD.out _ HBUad.out
      clear hK K hH5
      try simp only [Act.put,mvS]
      refine next_at HOPS.out 1 rfl (by kernel_rfl) (by rfl) (fun K hK=>?_)
      go_simp
      refine hK.out _ _ ?_ (fun hH6=>?_)
      ·exact HCD.out _ HBUad.out
      clear hK K hH6
      try simp only [Act.put,mvS]
      refine next_if HOPS.out 16 rfl (by kernel_rfl) (by rfl) (fun K hK=>?_)
      refine Rg.step_app sliceG (by rfl) (.tmp 42) (.tmp 56) (by rfl) z1.heap.size g (prov.take j) [(⟨gnm,gvr⟩ : Gv)] (by rfl) (Rg.own_below HOs.out HBad.out) _ _ (by rfl) (Rg.news_new wr _ [(⟨gnm,gvr⟩ : Gv)] _ (by rfl)) (Nat.zero_lt_succ _) HSZ.out HSB.out ?_
      intro v5 W5 ho5 hg5 hz5
      obtain ⟨A5,n5,k5,rfl⟩:=own_is ho5
      have HO5:=Lib.hid ho5
      have HG5:=Lib.hid (Rg.grown_below (Rg.own_below HOs.out HBad.out) HSB.out hg5)
      have HH5:=Lib.hid (heap_grown (HCO.out _ HBad.out) hg5 (own_far (Rg.own_below HOs.out HBad.out) (Nat.lt_of_lt_of_le HB2.out.2 HWS.out)))
      have HBU5:=Lib.hid (HBUad.out.trans (HG5.out.mono HUR.out))
      have HBU6 : Hid (Below U.heap.size U (W5.setCell ⟨b2,4,none⟩ (.slice A5 n5 k5))):=(HBU5.out.setCell HB2.out.1 _)
      obtain ⟨x0,x1,x2,x3,x4,x5⟩:=six_cells HH5.out
      have z4:=six_free HH5.out 4
      clear ho5 hg5 hz5 x0 x1 x2 x3 x5
      refine hK.out _ _ ?_ (fun hH7=>?_)
      ·exact HCD.out _ HBU5.out
      clear hK K
      try simp only [Act.put,mvS]
      refine mv (by assumption) HOPS.out HNS.out 17 ?_
      try simp only [Act.put,mvS]
      clear hH7
      refine next_at HOPS.out 18 rfl (by kernel_rfl) (by rfl) (fun K hK=>?_)
      go_simp
      refine hK.out _ _ ?_ (fun hH8=>?_)
      ·exact HCD.out _ HBU6.out
      clear hK K hH8
      try simp only [Act.put,mvS]
      refine done_at HOPS.out (by kernel_rfl) ?_
      have HBT6:=Lib.hid (but_set2 (j:=4) (x:=.slice A5 n5 k5) (but_low HBs.out ((HBad.out.mono HBs.out.1).trans HG5.out)))
      have HH6 : Hid ((W5.setCell ⟨b2,4,none⟩ (.slice A5 n5 k5)).heap[b2]? = some (.cells #[.string ⟨nm.toArray⟩,.string ⟨vr.toArray⟩,.slice D2 deps.length dc2,.slice C2 cn cc2,.slice A5 n5 k5,.float .f64 wt] 34 (0,0))):=(set_heap HH5.out).trans rfl
      have HO6 : Hid (Rg.Own encG 2 (W5.setCell ⟨b2,4,none⟩ (.slice A5 n5 k5)) z1.heap.size 72 (.slice A5 n5 k5) (prov.take (j + 1))):=by
       show Rg.Own _ _ _ _ _ _ _
       rw [HSN.out]
       exact own_set HO5.out (Nat.lt_of_lt_of_le HB2.out.2 HWS.out)
      generalize W5.setCell ⟨b2,4,none⟩ (.slice A5 n5 k5)=W6 at *
      clear HO5 HG5 HH5 HBU5 HBa HBUa HBad HBUad HSB e4 g4 q2 q3 q4 r2 r3 r4 x4 z4 HHs HOs HBs
      go_wp2_with fail
      go_roundw
      case rel=>exact ⟨j + 1,.slice A5 n5 k5,by omega,by go_num,HH6,HO6,HBU6,HBT6⟩
      case measure=>simp [intOf];omega
    ·obtain rfl : j=gn:=by omega
     have ho:=HOs.out
     rw [List.take_of_length_le (by rw [HGN.out];exact Nat.le_refl _)] at ho
     obtain ⟨G2,gc2,rfl,hr,hf⟩:=gown_row ho
     have HRG:=Lib.hid hr
     have HFG:=Lib.hid hf
     have HZR : Hid (wr.heap[b + 1]? = some (.cells zeroC 34 (0,0))):=HZ.out _ HBS.out
     obtain ⟨c0,c1,c2,c3,c4,c5⟩:=six_cells HHs.out
     obtain ⟨k0,k1,k2,k3,k4,k5⟩:=six_cells HZR.out
     have z0:=six_free HZR.out 0
     have z1:=six_free HZR.out 1
     have z2:=six_free HZR.out 2
     have z3:=six_free HZR.out 3
     have z4:=six_free HZR.out 4
     have z5:=six_free HZR.out 5
     obtain rfl : confl.length=cn:=HCN.out
     clear ho hr hf HOs y0 y1 y2 y3 y5
     go_wp2_with fail
     (try simp only [Exit.inBlock,Exit.then])
     refine bodyPost_ret (res_to6 HZR.out ⟨nm,vr,deps,confl,prov,wt⟩ D2 C2 G2 dc2 cc2 gc2 rfl) rfl ?_
     have h1:=HB2.out.1
     have h2:=HB2.out.2
     have h3:=HUS.out
     have h4:=HWS.out
     have h5:=HWB.out
     have e1:=HDN.out
     have e3:=HGN.out
     have hsb:=stP_but wr (b + 1) ⟨nm,vr,deps,confl,prov,wt⟩ D2 C2 G2 dc2 cc2 gc2
     have t1 : Pg.DRow (stP wr (b + 1) ⟨nm,vr,deps,confl,prov,wt⟩ D2 C2 G2 dc2 cc2 gc2) D2 deps:=drowF_row (drowF_but (drowF_but HRD.out HFD.out HBs.out h2 (six_nobV HH.out (isl _ _ _) (isl _ _ _) (isl _ _ _))) HFD.out hsb (show b + 1 < wc.heap.size by omega) (zero_nob HZR.out))
     have t2 : ARow (stP wr (b + 1) ⟨nm,vr,deps,confl,prov,wt⟩ D2 C2 G2 dc2 cc2 gc2) C2 confl:=HSF.out _ (Nat.le_trans h4 (Nat.le_trans HBs.out.1 hsb.1)) (fun i hi n2 n1=>(hsb.2 i (Nat.lt_of_lt_of_le hi (Nat.le_trans h4 HBs.out.1)) (fun e=>n1 (Option.some.inj e).symm)).trans ((HBs.out.2 i (Nat.lt_of_lt_of_le hi h4) (fun e=>n2 (Option.some.inj e).symm)).trans (HBT.out.2 i hi (fun e=>n2 (Option.some.inj e).symm))))
     have t3 : GRow (stP wr (b + 1) ⟨nm,vr,deps,confl,prov,wt⟩ D2 C2 G2 dc2 cc2 gc2) G2 prov:=row_but HRG.out hsb (fun _ a ha e=>by have:=HFG.out a ha;have:=Option.some.inj e;omega)
     have t4 : Below w.heap.size w (stP wr (b + 1) ⟨nm,vr,deps,confl,prov,wt⟩ D2 C2 G2 dc2 cc2 gc2):=stP_below (HU.out.trans (HBS.out.mono HU.out.size)) (show w.heap.size≤b + 1 by omega) _ _ _ _ _ _ _
     refine ⟨D2,dc2,C2,cc2,G2,⟨gc2,by rw [← e1,← e3]⟩,t1,t2,t3,t4⟩
end Go.Proofs.YtkplahkkmmoppaaGreatDoor
namespace Go.Proofs.YtkplahkkmmoppaaGreatDoor
open Go.RowKit Rs At Pg
namespace Pg
theorem fewAs_all {l : List Atm} (h : fewAs l=true) : l.length≤30∧AFew l∧ASmall l:=by
 unfold fewAs at h
 rw [Bool.and_eq_true,decide_eq_true_eq] at h
 have hh:=List.all_eq_true.1 h.2
 have e : ∀ a ∈ l,a.name.length≤100∧a.rng.length≤80:=fun a ha=>by
  have h1:=hh a ha
  unfold fewA at h1
  rw [Bool.and_eq_true,decide_eq_true_eq] at h1
  exact ⟨h1.1,few_len h1.2⟩
 exact ⟨h.1,fun a ha=>⟨Nat.le_trans (e a ha).1 (by decide),Nat.le_trans (e a ha).2 (by decide)⟩,fun a ha=>Nat.le_trans (e a ha).2 (by decide)⟩
theorem fewP_all {p : Pk} (h : fewP p=true) (hw : p.wt < Wm.W) : PFew p∧PSmall p:=by
 unfold fewP at h
 simp only [Bool.and_eq_true,decide_eq_true_eq] at h
 obtain ⟨h1,h2,h3,h4,h5,h6,h7⟩:=h
 obtain ⟨c1,c2,c3⟩:=fewAs_all h5
 have hd:=List.all_eq_true.1 h6
 have hg:=List.all_eq_true.1 h7
 refine ⟨⟨Nat.le_trans h1 (by decide),by omega,fun d hm=>?_,by omega,c2,by omega,fun g hm=>?_,hw⟩,by omega,fun d hm=>?_,by omega,c3,by omega⟩
 ·obtain ⟨q1,q2,_⟩:=fewAs_all (hd d hm)
  exact ⟨by omega,q2⟩
 ·have h8:=hg g hm
  unfold fewG at h8
  rw [Bool.and_eq_true,decide_eq_true_eq,decide_eq_true_eq] at h8
  exact ⟨Nat.le_trans h8.1 (by decide),Nat.le_trans h8.2 (by decide)⟩
 ·obtain ⟨q1,_,q3⟩:=fewAs_all (hd d hm)
  exact ⟨by omega,q3⟩
end Pg
end Go.Proofs.YtkplahkkmmoppaaGreatDoor
namespace Go.Proofs.YtkplahkkmmoppaaGreatDoor
open Go.RowKit Rs At Pg
attribute [local go_sem ↓] Go.wp_at_zero Go.wp_at_succ
theorem refVersion_any (v : List UInt8) (w : World) : Calls Tryz.prog 42 #[.string ⟨v.toArray⟩] w fun e w'=>e = .returned (.int .i64 (verE v))∧Below w.heap.size w w':=by
 have HC:=Lib.hid (refCanon_any v w)
 obtain ⟨R,hR⟩ : ∃ R,verE v=R:=⟨_,rfl⟩
 rw [hR]
 unfold verE at hR
 have hcn : Vm.check v=0 → canonOf v=Vm.canon v:=fun h=>by rw [canonOf,if_pos h]
 obtain ⟨k,hk⟩ : ∃ k,Vm.check v=k:=⟨_,rfl⟩
 rw [hk] at HC hR hcn
 by_cases h0 : k=0
 ·rw [if_pos h0,← hcn h0] at hR
  subst h0
  obtain ⟨x,hx⟩ : ∃ x,canonOf v=x:=⟨_,rfl⟩
  rw [hx] at HC hR
  clear hx hcn hk
  by_cases hv : x=v
  ·rw [if_pos hv] at hR
   subst hR
   have e : (x == v)=true:=by simpa using hv
   clear hv
   go_enter Tryz.func42,Tryz.ntmps42
   go_wp2_with fail
   refine HC.out.mono ?_
   rintro _ u ⟨rfl,hb⟩
   have HB:=Lib.hid hb
   clear hb
   go_wp2_with fail
   go_ret
   exact ⟨rfl,HB.out⟩
  ·rw [if_neg hv] at hR
   subst hR
   have e : (x == v)=false:=beq_eq_false_iff_ne.2 hv
   clear hv
   go_enter Tryz.func42,Tryz.ntmps42
   go_wp2_with fail
   refine HC.out.mono ?_
   rintro _ u ⟨rfl,hb⟩
   have HB:=Lib.hid hb
   clear hb
   go_wp2_with fail
   go_ret
   exact ⟨rfl,HB.out⟩
 ·rw [if_neg h0] at hR
  subst hR
  clear hcn hk
  go_enter Tryz.func42,Tryz.ntmps42
  go_wp2_with fail
  refine HC.out.mono ?_
  rintro _ u ⟨rfl,hb⟩
  have HB:=Lib.hid hb
  clear hb
  go_wp2_with fail
  go_ret
  exact ⟨rfl,HB.out⟩
theorem refAtoms_any (A : Option Addr) (n c : Nat) (l : List Atm) (w : World) (hw : MaxOk w) (hn : l.length=n) (hr : ARow w A l) (hl : n≤1000000) (hf : AFew l) :
  Calls Tryz.prog 43 #[.slice A n c] w fun e w'=>e = .returned (.int .i64 (atomsE l))∧Below w.heap.size w w':=by
 obtain ⟨R,hR⟩ : ∃ R,atomsE l=R:=⟨_,rfl⟩
 rw [hR]
 have HX:=Lib.hid hR
 have HR:=Lib.hid hr
 have HN:=Lib.hid hn
 have HF:=Lib.hid hf
 have HM:=Lib.hid hw
 clear hr hn hf hw hR
 go_enter Tryz.func43,Tryz.ntmps43
 go_wp2_with fail
 go_loopw [3] (fun i wr=>∃ k : Nat,k≤n∧i = .int .i64 k∧Hid (atomsE (l.drop k)=R)∧Hid (Below w.heap.size w wr)) (fun i _=>n - (intOf i).toNat)
 case atStart=>exact ⟨0,Nat.zero_le _,rfl,HX,Below.refl _ _⟩
 case round =>
  obtain ⟨k,hk,rfl,HH,HB⟩:=hrel
  by_cases hlt : k < n
  ·have hlr : k < l.length:=by rw [HN.out];exact hlt
   obtain ⟨ad,C,m,d,rfl,hm,hs,hc⟩:=arow_at HR.out k hlr
   obtain ⟨c0,c1⟩:=hc _ HB.out
   have hff:=afew_at HF.out k hlr
   obtain ⟨a,ha⟩ : ∃ a,l[k]=a:=⟨_,rfl⟩
   have h1:=HH.out
   rw [List.drop_eq_getElem_cons hlr,ha] at h1
   unfold atomsE at h1
   rw [ha] at hm hs c0 hff
   obtain ⟨nm,r⟩:=a
   dsimp only at hm hs c0 hff
   obtain ⟨x,hx⟩ : ∃ x,checkA ⟨nm,r⟩=x:=⟨_,rfl⟩
   have ht:=refCheckAtom_any nm C m d r wr (maxOk_below HM.out HB.out) hff.1 hm (srow_below hs HB.out) (by rw [← hm];exact hff.2)
   rw [hx] at ht h1
   have HT:=Lib.hid ht
   have H1:=Lib.hid h1
   clear hc ha hm hs hff h1 ht hx HH
   go_wp2_with fail
   refine HT.out.mono ?_
   rintro _ u2 ⟨rfl,hs2⟩
   have HB2 : Hid (Below w.heap.size w u2):=HB.out.trans (hs2.mono HB.out.size)
   clear hs2 HT c0 c1
   by_cases h0 : x=0
   ·have H2 : Hid (atomsE (l.drop (k + 1))=R):=by have h:=H1.out;rw [if_pos h0] at h;exact h
    subst h0
    clear H1
    go_wp2_with fail
    go_roundw
    case rel=>exact ⟨k + 1,by omega,by go_num,H2,HB2⟩
    case measure=>simp [intOf];omega
   ·have H2 : Hid (x=R):=by have h:=H1.out;rw [if_neg h0] at h;exact h
    clear H1
    go_wp2_with fail
    go_ret
    exact ⟨by rw [H2.out];rfl,HB2.out⟩
  ·obtain rfl : k=n:=by omega
   have H2 : Hid (R=0):=by
    show _=_
    rw [← HH.out,List.drop_eq_nil_of_le (by rw [HN.out];exact Nat.le_refl _)];rfl
   go_wp2_with fail
   go_ret
   exact ⟨by rw [H2.out];rfl,HB.out⟩
theorem refCheckPkg_any (p : Pk) (D C G : Option Addr) (dn dc cn cc gn gc : Nat) (w : World) (hw : MaxOk w) (hd : Pg.DRow w D p.deps) (hdn : p.deps.length=dn) (hc : ARow w C p.confl) (hcn : p.confl.length=cn) (hg : GRow w G p.prov) (hgn : p.prov.length=gn) (hf : PFew p) :
  Calls Tryz.prog 13 #[.agg #[.string ⟨p.name.toArray⟩,.string ⟨p.ver.toArray⟩,.slice D dn dc,.slice C cn cc,.slice G gn gc,.float .f64 p.wt]] w fun e w'=>e = .returned (.int .i64 (checkP p))∧Below w.heap.size w w':=by
 obtain ⟨nm,v,deps,confl,prov,wt⟩:=p
 dsimp only at hd hdn hc hcn hg hgn ⊢
 obtain ⟨f1,f2,f3,f4,f5,f6,f7,f8⟩:=hf
 dsimp only at f1 f2 f3 f4 f5 f6 f7 f8
 obtain ⟨R,hR⟩ : ∃ R,checkP ⟨nm,v,deps,confl,prov,wt⟩=R:=⟨_,rfl⟩
 rw [hR]
 unfold checkP at hR
 dsimp only at hR
 obtain ⟨x1,hx1⟩ : ∃ x,verE v=x:=⟨_,rfl⟩
 obtain ⟨x2,hx2⟩ : ∃ x,depsE deps=x:=⟨_,rfl⟩
 obtain ⟨x3,hx3⟩ : ∃ x,atomsE confl=x:=⟨_,rfl⟩
 obtain ⟨x4,hx4⟩ : ∃ x,givesE prov=x:=⟨_,rfl⟩
 obtain ⟨x5,hx5⟩ : ∃ x,chkW wt=x:=⟨_,rfl⟩
 rw [hx1,hx2,hx3,hx4,hx5,hdn,hcn,hgn] at hR
 have hdl : dn≤1000000:=by omega
 have hcl : cn≤1000000:=by omega
 have hgl : gn≤1000000:=by omega
 obtain ⟨W1,hW1⟩ : ∃ W,w.alloc (.cells #[.string ⟨nm.toArray⟩,.string ⟨v.toArray⟩,.slice D dn dc,.slice C cn cc,.slice G gn gc,.float .f64 wt] 27)=W:=⟨_,rfl⟩
 have HB1 : Hid (Below w.heap.size w W1):=alloc_low hW1
 obtain ⟨b,hb⟩ : ∃ b,w.heap.size=b:=⟨_,rfl⟩
 have HY:=Lib.hid (fun W (h : Below W1.heap.size W1 W)=>cell_six hW1 h)
 rw [hb] at HY
 have HM:=Lib.hid (maxOk_below hw HB1.out)
 have HD:=Lib.hid (drowD_below hd HB1.out)
 have HDN:=Lib.hid hdn
 have HC:=Lib.hid (arow_below hc HB1.out)
 have HCN:=Lib.hid hcn
 have HG : Hid (GRow W1 G prov):=Rg.row_below hg HB1.out
 have HGN:=Lib.hid hgn
 have HF3:=Lib.hid f3
 have HF5:=Lib.hid f5
 have HF7:=Lib.hid f7
 have HF8:=Lib.hid f8
 have HX2:=Lib.hid hx2
 have HX3:=Lib.hid hx3
 have HX4:=Lib.hid hx4
 have HX5:=Lib.hid hx5
 have HN:=Lib.hid (refName_any nm W1 f1)
 have HV:=Lib.hid (refVersion_any v W1)
 rw [hx1] at HV
 have HR:=Lib.hid hR
 have HBb : Hid (Below b w W1):=by show Below _ _ _;rw [← hb];exact HB1.out
 have HTR : Hid (∀ u,Below W1.heap.size W1 u → Below w.heap.size w u):=fun u h=>HB1.out.trans (h.mono HB1.out.size)
 clear hw hd hdn hc hcn hg hgn f1 f2 f3 f4 f5 f6 f7 f8 hx1 hx2 hx3 hx4 hx5 hR
 obtain ⟨c0,c1,c2,c3,c4,c5⟩:=HY.out _ (Below.refl _ _)
 go_enter Tryz.func13,Tryz.ntmps13
 go_wp2_with fail
 clear hW1 hb
 refine HN.out.mono ?_
 rintro _ z ⟨rfl,rfl⟩
 cases hnb : nameB nm
 ·have HE : Hid (R=3):=by have h:=HR.out;rw [hnb,if_pos rfl] at h;exact h.symm
  clear hnb
  go_wp2_with fail
  go_ret
  exact ⟨by rw [HE.out];rfl,HTR.out _ (Below.refl _ _)⟩
 have h:=HR.out
 rw [hnb,if_neg (by decide)] at h
 have HR1:=Lib.hid h
 clear h
 clear hnb HR HN
 go_wp2_with fail
 refine HV.out.mono ?_
 rintro _ u ⟨rfl,hb⟩
 have HU:=Lib.hid hb
 clear hb c0 c1 c2 c3 c4 c5 HV
 obtain ⟨c0,c1,c2,c3,c4,c5⟩:=HY.out _ HU.out
 by_cases h1 : x1=0
 case neg =>
  have HE : Hid (R=x1):=by have h:=HR1.out;rw [if_pos h1] at h;exact h.symm
  clear HR1
  go_wp2_with fail
  go_ret
  exact ⟨by rw [HE.out];rfl,HTR.out _ HU.out⟩
 subst h1
 have h:=HR1.out
 rw [if_neg (by simp)] at h
 have HR2:=Lib.hid h
 clear h
 clear HR1
 by_cases hl1 : 16 < dn
 ·have HE : Hid (R=4):=by have h:=HR2.out;rw [if_pos hl1] at h;exact h.symm
  have p1 : (16 : Int) < (dn : Int):=by omega
  clear HR2 hl1
  go_wp2_with fail
  go_ret
  exact ⟨by rw [HE.out];rfl,HTR.out _ HU.out⟩
 have p1 : ¬ (16 : Int) < (dn : Int):=by omega
 have h:=HR2.out
 rw [if_neg hl1] at h
 have HR3:=Lib.hid h
 clear h
 clear HR2 hl1
 go_wp2_with fail
 clear c0 c1 c2 c3 c4 c5 p1
 go_loopw [3,4] (fun e i wr=>∃ k : Nat,k≤dn∧e = .int .i64 0∧i = .int .i64 k∧Hid (depsE (deps.drop k)=x2)∧Hid (Below W1.heap.size W1 wr)) (fun _ i _=>dn - (intOf i).toNat)
 case atStart=>exact ⟨0,Nat.zero_le _,rfl,rfl,HX2.out,HU.out⟩
 case round =>
  clear HU
  obtain ⟨k,hk,rfl,rfl,HH,HW⟩:=hrel
  obtain ⟨c0,c1,c2,c3,c4,c5⟩:=HY.out _ HW.out
  by_cases hlt : k < dn
  ·have hkr : k < deps.length:=by rw [HDN.out];exact hlt
   obtain ⟨ad,B,m,d,rfl,hm,hs,hc⟩:=drowD_at HD.out k hkr
   have q0:=hc _ HW.out
   have hdr : deps.drop k=deps[k] :: deps.drop (k + 1):=List.drop_eq_getElem_cons hkr
   obtain ⟨f1,f2⟩:=dfew_at HF3.out k hkr
   have hh:=HH.out
   rw [hdr,depsE_cons] at hh
   obtain ⟨l,hl⟩ : ∃ l,deps[k]=l:=⟨_,rfl⟩
   rw [hl] at hm hs f1 f2 hh
   rw [hm] at hh
   have HS:=Lib.hid hs
   have HM':=Lib.hid hm
   have HF1:=Lib.hid f1
   have HF2:=Lib.hid f2
   have HHH:=Lib.hid hh
   clear hc hdr hl f1 f2 hs hm HH hh
   by_cases hb1 : m < 1
   ·have HE : Hid (R=4):=by
     have hh:=HHH.out
     rw [if_neg (by omega)] at hh
     have h:=HR3.out
     rw [← hh,if_pos (by decide)] at h;exact h.symm
    have p2 : (m : Int) < 1:=by omega
    clear hb1 HHH
    go_wp2_with fail
    go_ret
    exact ⟨by rw [HE.out];rfl,HTR.out _ HW.out⟩
   have p2 : ¬ (m : Int) < 1:=by omega
   by_cases hb2 : 8 < m
   ·have HE : Hid (R=4):=by
     have hh:=HHH.out
     rw [if_neg (by omega)] at hh
     have h:=HR3.out
     rw [← hh,if_pos (by decide)] at h;exact h.symm
    have p3 : (8 : Int) < (m : Int):=by omega
    clear hb1 hb2 HHH
    go_wp2_with fail
    go_ret
    exact ⟨by rw [HE.out];rfl,HTR.out _ HW.out⟩
   have p3 : ¬ (8 : Int) < (m : Int):=by omega
   obtain ⟨y,hy⟩ : ∃ y,atomsE l=y:=⟨_,rfl⟩
   have HA:=Lib.hid (refAtoms_any B m d l wr (maxOk_below HM.out HW.out) HM'.out (arow_below HS.out HW.out) (by rw [← HM'.out];exact HF1.out) HF2.out)
   have HH2 : Hid ((if y=0 then depsE (deps.drop (k + 1)) else y)=x2):=by
    have hh:=HHH.out
    rw [if_pos (by omega),hy] at hh;exact hh
   rw [hy] at HA
   clear hy HHH hb1 hb2
   go_wp2_with fail
   refine HA.out.mono ?_
   rintro _ u2 ⟨rfl,hb⟩
   have HU:=Lib.hid (HW.out.trans (hb.mono HW.out.size))
   clear hb c0 c1 c2 c3 c4 c5 q0 HA p2 p3
   by_cases h0 : y=0
   ·subst h0
    have HE : Hid (depsE (deps.drop (k + 1))=x2):=by have:=HH2.out;rw [if_pos rfl] at this;exact this
    clear HH2
    go_wp2_with fail
    go_roundw
    case rel=>exact ⟨k + 1,by omega,rfl,by go_num,HE,HU⟩
    case measure=>simp [intOf];omega
   ·have HE : Hid (R=y):=by
     have hh:=HH2.out
     rw [if_neg h0] at hh
     have h:=HR3.out
     rw [← hh,if_pos h0] at h;exact h.symm
    clear HH2
    go_wp2_with fail
    go_ret
    exact ⟨by rw [HE.out];rfl,HTR.out _ HU.out⟩
  ·obtain rfl : k=dn:=by omega
   have h2 : 0=x2:=by rw [← HH.out,List.drop_eq_nil_of_le (by rw [HDN.out];exact Nat.le_refl _)];rfl
   have h:=HR3.out
   rw [← h2,if_neg (by simp)] at h
   have HR4:=Lib.hid h
   clear h h2
   clear HR3 HH HX2
   by_cases hl2 : 16 < cn
   ·have HE : Hid (R=4):=by have h:=HR4.out;rw [if_pos hl2] at h;exact h.symm
    have p1 : (16 : Int) < (cn : Int):=by omega
    clear HR4 hl2
    go_wp2_with fail
    go_ret
    exact ⟨by rw [HE.out];rfl,HTR.out _ HW.out⟩
   have p1 : ¬ (16 : Int) < (cn : Int):=by omega
   have h:=HR4.out
   rw [if_neg hl2] at h
   have HR5:=Lib.hid h
   clear h
   have HA:=Lib.hid (refAtoms_any C cn cc confl wr (maxOk_below HM.out HW.out) HCN.out (arow_below HC.out HW.out) hcl HF5.out)
   rw [HX3.out] at HA
   clear HR4 hl2
   go_wp2_with fail
   refine HA.out.mono ?_
   rintro _ u2 ⟨rfl,hb⟩
   have HU:=Lib.hid (HW.out.trans (hb.mono HW.out.size))
   clear hb c0 c1 c2 c3 c4 c5 HA p1 HW
   obtain ⟨c0,c1,c2,c3,c4,c5⟩:=HY.out _ HU.out
   by_cases h3 : x3=0
   case neg =>
    have HE : Hid (R=x3):=by have h:=HR5.out;rw [if_pos h3] at h;exact h.symm
    clear HR5
    go_wp2_with fail
    go_ret
    exact ⟨by rw [HE.out];rfl,HTR.out _ HU.out⟩
   have h:=HR5.out
   rw [if_neg (by simp [h3])] at h
   have HR6:=Lib.hid h
   clear h
   subst h3
   clear HR5
   by_cases hl3 : 16 < gn
   ·have HE : Hid (R=4):=by have h:=HR6.out;rw [if_pos hl3] at h;exact h.symm
    have p1 : (16 : Int) < (gn : Int):=by omega
    clear HR6 hl3
    go_wp2_with fail
    go_ret
    exact ⟨by rw [HE.out];rfl,HTR.out _ HU.out⟩
   have p1 : ¬ (16 : Int) < (gn : Int):=by omega
   have h:=HR6.out
   rw [if_neg hl3] at h
   have HR7:=Lib.hid h
   clear h
   clear HR6 hl3
   go_wp2_with fail
   clear c0 c1 c2 c3 c4 c5 p1
   go_loopw [3,5] (fun e i ws=>∃ j : Nat,j≤gn∧e = .int .i64 0∧i = .int .i64 j∧Hid (givesE (prov.drop j)=x4)∧Hid (Below W1.heap.size W1 ws)) (fun _ i _=>gn - (intOf i).toNat)
   case atStart=>exact ⟨0,Nat.zero_le _,rfl,rfl,HX4.out,HU.out⟩
   case round =>
    clear HU
    obtain ⟨k,hk,rfl,rfl,HH,HW⟩:=hrel
    obtain ⟨c0,c1,c2,c3,c4,c5⟩:=HY.out _ HW.out
    by_cases hlt : k < gn
    ·have hkr : k < prov.length:=by rw [HGN.out];exact hlt
     obtain ⟨ad,rfl,hc⟩:=grow_at HG.out k hkr
     obtain ⟨q0,q1⟩:=hc _ HW.out
     have hdr : prov.drop k=prov[k] :: prov.drop (k + 1):=List.drop_eq_getElem_cons hkr
     obtain ⟨f1,f2⟩:=gfew_at HF7.out k hkr
     have hh:=HH.out
     rw [hdr,givesE_cons] at hh
     obtain ⟨a,ha⟩ : ∃ a,prov[k]=a:=⟨_,rfl⟩
     rw [ha] at q0 q1 f1 hh
     obtain ⟨gnm,gv⟩:=a
     dsimp only at q0 q1 f1
     have HNG:=Lib.hid (refName_any gnm wr f1)
     have HVG:=Lib.hid (refVersion_any gv wr)
     have HHH:=Lib.hid hh
     clear hc hdr ha f1 f2 hh HH
     obtain ⟨bn,hbn⟩ : ∃ b,nameB gnm=b:=⟨_,rfl⟩
     rw [hbn] at HNG
     cases bn
     ·have HE : Hid (R=3):=by
       have hh:=HHH.out
       rw [show giveE ⟨gnm,gv⟩=3 from by unfold giveE;rw [hbn,if_neg (by decide)],if_neg (by decide)] at hh
       have h:=HR7.out
       rw [← hh,if_pos (by decide)] at h;exact h.symm
      clear hbn HHH
      go_wp2_with fail
      refine HNG.out.mono ?_
      rintro _ z ⟨rfl,rfl⟩
      go_wp2_with fail
      go_ret
      exact ⟨by rw [HE.out];rfl,HTR.out _ HW.out⟩
     have HGE : Hid (giveE ⟨gnm,gv⟩=if gv = [] then 0 else verE gv):=by show giveE _=_;unfold giveE;rw [hbn,if_pos rfl]
     clear hbn
     by_cases hv0 : gv = []
     ·have HE : Hid (givesE (prov.drop (k + 1))=x4):=by
       have hh:=HHH.out
       rw [HGE.out,if_pos hv0,if_pos rfl] at hh;exact hh
      subst hv0
      clear HHH HGE HVG
      go_wp2_with fail
      refine HNG.out.mono ?_
      rintro _ z ⟨rfl,rfl⟩
      go_wp2_with fail
      go_roundw
      case rel=>exact ⟨k + 1,by omega,rfl,by go_num,HE,HW⟩
      case measure=>simp [intOf];omega
     have e0 : (gv == [])=false:=beq_eq_false_iff_ne.2 hv0
     have e1 : gv.isEmpty=false:=by cases gv with
      | nil=>exact absurd rfl hv0
      | cons _ _=>rfl
     obtain ⟨y,hy⟩ : ∃ y,verE gv=y:=⟨_,rfl⟩
     have HH2 : Hid ((if y=0 then givesE (prov.drop (k + 1)) else y)=x4):=by
      have hh:=HHH.out
      rw [HGE.out,if_neg hv0,hy] at hh;exact hh
     rw [hy] at HVG
     clear hy HHH HGE hv0
     go_wp2_with fail
     refine HNG.out.mono ?_
     rintro _ z ⟨rfl,rfl⟩
     go_wp2_with fail
     refine HVG.out.mono ?_
     rintro _ u2 ⟨rfl,hb⟩
     have HU:=Lib.hid (HW.out.trans (hb.mono HW.out.size))
     clear hb c0 c1 c2 c3 c4 c5 q0 q1 HVG HNG
     by_cases h0 : y=0
     ·subst h0
      have HE : Hid (givesE (prov.drop (k + 1))=x4):=by have:=HH2.out;rw [if_pos rfl] at this;exact this
      clear HH2
      go_wp2_with fail
      go_roundw
      case rel=>exact ⟨k + 1,by omega,rfl,by go_num,HE,HU⟩
      case measure=>simp [intOf];omega
     ·have HE : Hid (R=y):=by
       have hh:=HH2.out
       rw [if_neg h0] at hh
       have h:=HR7.out
       rw [← hh,if_pos h0] at h;exact h.symm
      clear HH2
      go_wp2_with fail
      go_ret
      exact ⟨by rw [HE.out];rfl,HTR.out _ HU.out⟩
    ·obtain rfl : k=gn:=by omega
     have HE : Hid (x5=R):=by
      have h2 : 0=x4:=by rw [← HH.out,List.drop_eq_nil_of_le (by rw [HGN.out];exact Nat.le_refl _)];rfl
      have h:=HR7.out
      rw [← h2,if_neg (by simp)] at h;exact h
     have HA:=Lib.hid (refCheckW_any wt HF8.out wr)
     rw [HX5.out,HE.out] at HA
     clear HR7 HH HX4 HE
     go_wp2_with fail
     refine HA.out.mono ?_
     rintro _ u2 ⟨rfl,rfl⟩
     go_wp2_with fail
     go_ret
     exact ⟨rfl,HTR.out _ HW.out⟩
end Go.Proofs.YtkplahkkmmoppaaGreatDoor
