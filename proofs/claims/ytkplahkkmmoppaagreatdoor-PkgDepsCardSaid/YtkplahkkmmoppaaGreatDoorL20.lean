/- Part 20 of what the laws lean on. -/
import Derived.Test.YtkplahkkmmoppaaGreatDoorL19
set_option maxRecDepth 100000
set_option maxHeartbeats 3200000
namespace Go.Proofs.YtkplahkkmmoppaaGreatDoor.Sz
open Go.RowKit Go.Maps
theorem set_grown (w : World) (a : Addr) (v : Value) : w.grownBy (w.setCell a v) (some a.block):=⟨rfl,rfl,rfl,by simp [World.setCell],fun k _ hk=>Below.heap_setCell _ _ _ _ (fun e=>hk (by simp [e]))⟩
section
variable {α : Type} {enc : α → List Value} {K : Nat}
theorem own_kept {w w' : World} {B : Nat} {T : TypeId} {v : Value} {l : List α} {row : Option Nat} (h : Rg.Own enc K w B T v l) (hg : w.grownBy w' row) (hne : v.ownBlock=none ∨ v.ownBlock ≠ row) : Rg.Own enc K w' B T v l:=World.ownsRow.kept h hg hne
theorem own_cells {w : World} {B : Nat} {T : TypeId} {v : Value} {l : List α} {g : Nat} (h : Rg.Own enc K w B T v l) (hg : v.ownBlock=some g) : ∃ cs fr,w.heap[g]? = some (.cells cs T fr):=by
 rcases h.2 with ⟨rfl,_⟩ | ⟨g',cap,cur,rfl,_,hgg,_⟩
 ·cases hg
 ·cases hg;exact ⟨_,_,hgg⟩
theorem own_ne {w : World} {B : Nat} {T T2 : TypeId} {v : Value} {l : List α} {b : Nat} {cs : Array Value} {fr : Nat × Nat} (h : Rg.Own enc K w B T v l) (hb : w.heap[b]? = some (.cells cs T2 fr)) (hT : T2 ≠ T) : v.ownBlock ≠ some b:=fun e=>by
 obtain ⟨cs2,fr2,hc⟩:=own_cells h e
 rw [hb] at hc
 exact hT (Obj.cells.inj (Option.some.inj hc)).2.1
theorem in_grown {w w' : World} {ds : List Desc} {t : List (List α)} {b : Nat} (h : Gr.In enc K w ds t) (hg : w.grownBy w' (some b)) (hf : Gr.Free (.slice (some ⟨b,0,none⟩) 0 0) ds t) : Gr.In enc K w' ds t :=
 ⟨h.1,fun i d l h1 h2=>⟨(h.2 i d l h1 h2).1,row_grown (h.2 i d l h1 h2).2 hg (fun h0 a ha=>by
  have:=hf i d l h1 h2 h0 a ha
  exact this)⟩⟩
theorem in_grownV {w w' : World} {ds : List Desc} {t : List (List α)} {v : Value} (h : Gr.In enc K w ds t) (hg : w.grownBy w' v.ownBlock) (hf : Gr.Free v ds t) : Gr.In enc K w' ds t :=
 ⟨h.1,fun i d l h1 h2=>⟨(h.2 i d l h1 h2).1,row_grown (h.2 i d l h1 h2).2 hg (fun h0 a ha=>hf i d l h1 h2 h0 a ha)⟩⟩
theorem in_lt {w : World} {ds : List Desc} {t : List (List α)} (h : Gr.In enc K w ds t) : ∀ (i : Nat) (d : Desc) (l : List α),ds[i]? = some d → t[i]? = some l → 0 < l.length → ∀ a,d.1=some a → a.block < w.heap.size:=fun i d l h1 h2 h0 a ha=>by
 obtain ⟨a2,e,hlt,_⟩:=(h.2 i d l h1 h2).2 h0
 rw [ha] at e;cases e;exact hlt
end
def Keeps (B d : Nat) (w w' : World) : Prop:=Below 0 w w'∧∀ k,k < B → k ≠ d → w'.heap[k]? = w.heap[k]?
theorem keeps_of {B d : Nat} {w w' : World} (h : Below B w w') : Keeps B d w w':=⟨h.mono (Nat.zero_le _),fun k hk _=>h.block k hk⟩
theorem keeps_trans {B d : Nat} {w u w' : World} (h : Keeps B d w u) (k : Keeps B d u w') : Keeps B d w w':=⟨h.1.trans k.1,fun i hi hd=>(k.2 i hi hd).trans (h.2 i hi hd)⟩
theorem keeps_set {B d j : Nat} {w u : World} (h : Keeps B d w u) (x : Value) : Keeps B d w (u.setCell ⟨d,j,none⟩ x):=⟨h.1.setCell (Nat.zero_le _) _,fun i hi hd=>(Below.heap_setCell _ _ _ _ (fun e=>hd (by simp [e]))).trans (h.2 i hi hd)⟩
theorem keeps_low {B d : Nat} {w u : World} (h : Keeps B d w u) (hd : d≤B) : Below d w u:=⟨h.1.os,h.1.tape,h.1.output,h.1.size,fun k hk=>h.2 k (Nat.lt_of_lt_of_le hk hd) (Nat.ne_of_lt hk)⟩
def DrO (w : World) (B d : Nat) (v0 v1 v2 : Value) (ds : List Desc) (acc : List (List Fld)) (last : List Fld) : Prop :=
 (∀ x ∈ ds,x.2.1≤x.2.2)∧w.heap[d]? = some (.cells #[v0,v1,v2] 197 (0,0))∧Rg.Own encO 1 w B 42 v0 ds∧Gr.In encF 3 w ds acc∧Gr.Free v0 ds acc ∧
 Rg.Own encF 3 w B 82 v1 last∧Gr.Free v1 ds acc∧Gr.Free (.slice (some ⟨d,0,none⟩) 0 0) ds acc
theorem dro_new {w : World} {B : Nat} : DrO (w.alloc (.cells #[.slice none 0 0,.slice none 0 0,.map none] 197)) B w.heap.size (.slice none 0 0) (.slice none 0 0) (.map none) [] [] [] :=
 ⟨fun x hx=>(by cases hx),heap_alloc_new _ _,Rg.own_nil _ _ _,⟨rfl,fun i d l h=>by simp at h⟩,fun i d l h=>by simp at h,Rg.own_nil _ _ _,fun i d l h=>by simp at h,fun i d l h=>by simp at h⟩
theorem dro_lt {w : World} {B d : Nat} {v0 v1 v2 : Value} {ds : List Desc} {acc : List (List Fld)} {last : List Fld} (h : DrO w B d v0 v1 v2 ds acc last) : d < w.heap.size:=(Array.getElem?_eq_some_iff.1 h.2.1).1
theorem dro_cells {w : World} {B d : Nat} {v0 v1 v2 : Value} {ds : List Desc} {acc : List (List Fld)} {last : List Fld} (h : DrO w B d v0 v1 v2 ds acc last) :
  w.cell? ⟨d,0,none⟩=some v0∧w.cell? ⟨d,1,none⟩=some v1∧w.cell? ⟨d,2,none⟩=some v2∧w.frozen? ⟨d,0,none⟩=false∧w.frozen? ⟨d,1,none⟩=false∧w.frozen? ⟨d,2,none⟩=false:=by
 have hb:=h.2.1
 refine ⟨?_,?_,?_,?_,?_,?_⟩ <;> simp [World.cell?,World.frozen?,hb]
theorem dro_below {w w' : World} {B d : Nat} {v0 v1 v2 : Value} {ds : List Desc} {acc : List (List Fld)} {last : List Fld} (h : DrO w B d v0 v1 v2 ds acc last) (hb : Below w.heap.size w w') : DrO w' B d v0 v1 v2 ds acc last:=by
 have hlt:=dro_lt h
 obtain ⟨h0,h1,h2,h3,h4,h5,h6,h7⟩:=h
 exact ⟨h0,(hb.block d hlt).trans h1,Rg.own_below h2 hb,Gr.in_below h3 hb,h4,Rg.own_below h5 hb,h6,h7⟩
theorem neS : 197 ≠ 42:=by decide
theorem neF : 197 ≠ 82:=by decide
theorem neSF : 42 ≠ 82:=by decide
theorem dro_set {w : World} {B d : Nat} {v0 v1 v2 : Value} {ds : List Desc} {acc : List (List Fld)} {last : List Fld} (h : DrO w B d v0 v1 v2 ds acc last) (j : Nat) (x : Value) {u0 u1 u2 : Value} (hj : (#[v0,v1,v2] : Array Value).setIfInBounds j x = #[u0,u1,u2]) :
  (w.setCell ⟨d,j,none⟩ x).heap[d]? = some (.cells #[u0,u1,u2] 197 (0,0))∧Rg.Own encO 1 (w.setCell ⟨d,j,none⟩ x) B 42 v0 ds∧Gr.In encF 3 (w.setCell ⟨d,j,none⟩ x) ds acc∧Rg.Own encF 3 (w.setCell ⟨d,j,none⟩ x) B 82 v1 last:=by
 obtain ⟨h0,h1,h2,h3,h4,h5,h6,h7⟩:=h
 have hg:=set_grown w ⟨d,j,none⟩ x
 refine ⟨?_,own_kept h2 hg (Or.inr (own_ne h2 h1 neS)),in_grown h3 hg h7,own_kept h5 hg (Or.inr (own_ne h5 h1 neF))⟩
 simp [World.setCell,Array.getElem?_modify,h1,hj]
theorem dro_keys {w : World} {B d : Nat} {v0 v1 v2 : Value} {ds : List Desc} {acc : List (List Fld)} {last : List Fld} (h : DrO w B d v0 v1 v2 ds acc last) (x : Value) : DrO (w.setCell ⟨d,2,none⟩ x) B d v0 v1 x ds acc last:=by
 obtain ⟨g1,g2,g3,g4⟩:=dro_set h 2 x rfl
 exact ⟨h.1,g1,g2,g3,h.2.2.2.2.1,g4,h.2.2.2.2.2.2.1,h.2.2.2.2.2.2.2⟩
theorem dro_map {w w' : World} {B d m : Nat} {v0 v1 v2 : Value} {ds : List Desc} {acc : List (List Fld)} {last : List Fld} {ks : List (List UInt8)} (h : DrO w B d v0 v1 v2 ds acc last) (hk : KSet w m ks) (ht : w.mapTurned w' m) : DrO w' B d v0 v1 v2 ds acc last:=by
 obtain ⟨n,D,⟨es,clock,hm,_⟩,_⟩:=hk
 obtain ⟨h0,h1,h2,h3,h4,h5,h6,h7⟩:=h
 have hg:=ht.grown
 have hdm : d ≠ m:=fun e=>by subst e;rw [hm] at h1;cases h1
 have n0 : v0.ownBlock ≠ some m:=fun e=>by
  obtain ⟨cs,fr,hc⟩:=own_cells h2 e
  rw [hm] at hc;cases hc
 have n1 : v1.ownBlock ≠ some m:=fun e=>by
  obtain ⟨cs,fr,hc⟩:=own_cells h5 e
  rw [hm] at hc;cases hc
 have hf : Gr.Free (.slice (some ⟨m,0,none⟩) 0 0) ds acc:=fun i dd l e1 e2 hl a ha hb=>by
  have hb2 : m=a.block:=Option.some.inj hb
  obtain ⟨a2,e,_,hc⟩:=(h3.2 i dd l e1 e2).2 hl
  rw [ha] at e;cases e
  have:=hc 0 hl 0 _ rfl
  rw [if_pos rfl] at this
  have hblk : (a.add (0 * 3)).block=m:=by rw [Rs.add_block];exact hb2.symm
  obtain ⟨q,hq⟩ : ∃ q,a.add (0 * 3)=q:=⟨_,rfl⟩
  rw [hq] at this hblk
  unfold World.cell? at this
  rw [hblk,hm] at this
  cases this
 exact ⟨h0,by rw [← h1];exact hg.block d (dro_lt ⟨h0,h1,h2,h3,h4,h5,h6,h7⟩) (fun e=>hdm (Option.some.inj e)),own_kept h2 hg (Or.inr n0),in_grown h3 hg hf,h4,own_kept h5 hg (Or.inr n1),h6,h7⟩
theorem dro_add {w w' : World} {B d g n cap : Nat} {v0 v1 v2 : Value} {ds : List Desc} {acc : List (List Fld)} {last : List Fld} {f : Fld} (h : DrO w B d v0 v1 v2 ds acc last) (ho : Rg.Own encF 3 w' B 82 (.slice (some ⟨g,0,none⟩) n cap) (last ++ [f])) (hg : w.grownBy w' v1.ownBlock) (hl : v1.ownBlock=some g ∨ w.heap.size≤g) :
  DrO (w'.setCell ⟨d,1,none⟩ (.slice (some ⟨g,0,none⟩) n cap)) B d v0 (.slice (some ⟨g,0,none⟩) n cap) v2 ds acc (last ++ [f]):=by
 have hlt:=dro_lt h
 obtain ⟨h0,h1,h2,h3,h4,h5,h6,h7⟩:=h
 have hd1 : v1.ownBlock ≠ some d:=own_ne h5 h1 neF
 have h1' : w'.heap[d]? = some (.cells #[v0,v1,v2] 197 (0,0)):=(hg.block d hlt (fun e=>hd1 e.symm)).trans h1
 have h01 : v0.ownBlock=none ∨ v0.ownBlock ≠ v1.ownBlock:=by
  cases e0 : v0.ownBlock with
  | none=>exact Or.inl rfl
  | some b0 =>
   refine Or.inr fun e=>?_
   obtain ⟨cs,fr,hc⟩:=own_cells h2 e0
   exact own_ne h5 hc neSF e.symm
 have h2' : Rg.Own encO 1 w' B 42 v0 ds:=own_kept h2 hg h01
 have h3':=in_grownV h3 hg h6
 have hs:=set_grown w' ⟨d,1,none⟩ (.slice (some ⟨g,0,none⟩) n cap)
 refine ⟨h0,?_,own_kept h2' hs (Or.inr (own_ne h2' h1' neS)),in_grown h3' hs h7,h4,own_kept ho hs (Or.inr (own_ne ho h1' neF)),?_,h7⟩
 ·simp [World.setCell,Array.getElem?_modify,h1']
 ·intro i dd l e1 e2 hl0 a ha hb
  have hb2 : g=a.block:=Option.some.inj hb
  have hal:=in_lt h3 i dd l e1 e2 hl0 a ha
  rcases hl with hl | hl
  ·exact h6 i dd l e1 e2 hl0 a ha (by rw [hl,hb2])
  ·omega
theorem dro_end {w w' : World} {B d g n cap nl cl : Nat} {A : Option Addr} {v0 v2 : Value} {ds : List Desc} {acc : List (List Fld)} {last : List Fld} (h : DrO w B d v0 (.slice A nl cl) v2 ds acc last) (hn : last.length=nl)
  (ho : Rg.Own encO 1 w' B 42 (.slice (some ⟨g,0,none⟩) n cap) (ds ++ [(A,nl,cl)])) (hg : w.grownBy w' v0.ownBlock) (hl : v0.ownBlock=some g ∨ w.heap.size≤g) :
  DrO ((w'.setCell ⟨d,0,none⟩ (.slice (some ⟨g,0,none⟩) n cap)).setCell ⟨d,1,none⟩ (.slice none 0 0)) B d (.slice (some ⟨g,0,none⟩) n cap) (.slice none 0 0) v2 (ds ++ [(A,nl,cl)]) (acc ++ [last]) []:=by
 have hlt:=dro_lt h
 obtain ⟨h0,h1,h2,h3,h4,h5,h6,h7⟩:=h
 have hd0 : v0.ownBlock ≠ some d:=own_ne h2 h1 neS
 have h1' : w'.heap[d]? = some (.cells #[v0,.slice A nl cl,v2] 197 (0,0)):=(hg.block d hlt (fun e=>hd0 e.symm)).trans h1
 obtain ⟨A2,c2,hv,hrow,hcap,_⟩:=Rg.row_own fitsF h5
 rw [hn] at hv hcap
 cases hv
 have h0' : ∀ x ∈ ds ++ [(A,nl,cl)],x.2.1≤x.2.2:=fun x hx=>by
  rcases List.mem_append.1 hx with hx | hx
  ·exact h0 x hx
  ·rw [List.mem_singleton.1 hx];exact hcap
 have hA : ∀ a,A=some a → 0 < last.length → (∃ cs fr,w.heap[a.block]? = some (.cells cs 82 fr))∧a.block < w.heap.size:=fun a ha hl0=>by
  obtain ⟨cs,fr,hc⟩:=own_cells (g:=a.block) h5 (by rw [ha];rfl)
  exact ⟨⟨cs,fr,hc⟩,(Array.getElem?_eq_some_iff.1 hc).1⟩
 have h3':=in_grownV h3 hg h4
 have hrow' : Rg.Row encF 3 w' A last:=row_grown hrow hg (fun hl0 a ha e=>by
  obtain ⟨⟨cs,fr,hc⟩,_⟩:=hA a ha hl0
  exact own_ne h2 hc (fun e=>neSF e.symm) e)
 have hin : Gr.In encF 3 w' (ds ++ [(A,nl,cl)]) (acc ++ [last]):=by
  refine ⟨by rw [List.length_append,List.length_append,h3'.1];rfl,fun i dd l e1 e2=>?_⟩
  rcases get_snoc e1 with ⟨q1,q2⟩ | ⟨q1,q2⟩
  ·rcases get_snoc e2 with ⟨_,p2⟩ | ⟨p1,_⟩
   ·exact h3'.2 i dd l q2 p2
   ·have:=h3'.1;omega
  ·rcases get_snoc e2 with ⟨p1,_⟩ | ⟨_,p2⟩
   ·have:=h3'.1;omega
   ·subst q2 p2;exact ⟨hn.symm,hrow'⟩
 have hfree : ∀ b,Gr.Free (.slice (some ⟨b,0,none⟩) 0 0) ds acc → (∀ a,A=some a → 0 < last.length → b ≠ a.block) → Gr.Free (.slice (some ⟨b,0,none⟩) 0 0) (ds ++ [(A,nl,cl)]) (acc ++ [last]):=fun b hf hb i dd l e1 e2 hl0 a ha=>by
  rcases get_snoc e1 with ⟨q1,q2⟩ | ⟨q1,q2⟩
  ·rcases get_snoc e2 with ⟨_,p2⟩ | ⟨p1,_⟩
   ·exact hf i dd l q2 p2 hl0 a ha
   ·have:=h3'.1;omega
  ·rcases get_snoc e2 with ⟨p1,_⟩ | ⟨_,p2⟩
   ·have:=h3'.1;omega
   ·subst q2 p2;exact fun e=>hb a ha hl0 (Option.some.inj e)
 have hfd:=hfree d h7 (fun a ha hl0 e=>by
  obtain ⟨⟨cs,fr,hc⟩,_⟩:=hA a ha hl0
  rw [← e,h1] at hc
  exact neF (Obj.cells.inj (Option.some.inj hc)).2.1)
 have hfg:=hfree g (fun i dd l e1 e2 hl0 a ha e=>by
  have hal:=in_lt h3 i dd l e1 e2 hl0 a ha
  have e3 : g=a.block:=Option.some.inj e
  rcases hl with hl | hl
  ·exact h4 i dd l e1 e2 hl0 a ha (by rw [hl,e3])
  ·omega) (fun a ha hl0 e=>by
  obtain ⟨⟨cs,fr,hc⟩,hlt2⟩:=hA a ha hl0
  rcases hl with hl | hl
  ·rw [← e] at hc
   exact own_ne h2 hc (fun e=>neSF e.symm) hl
  ·omega)
 have hs0:=set_grown w' ⟨d,0,none⟩ (.slice (some ⟨g,0,none⟩) n cap)
 have h1'' : (w'.setCell ⟨d,0,none⟩ (.slice (some ⟨g,0,none⟩) n cap)).heap[d]? = some (.cells #[.slice (some ⟨g,0,none⟩) n cap,.slice A nl cl,v2] 197 (0,0)):=by simp [World.setCell,Array.getElem?_modify,h1']
 have ho':=own_kept ho hs0 (Or.inr (own_ne ho h1' neS))
 have hin':=in_grown hin hs0 hfd
 have hs1:=set_grown (w'.setCell ⟨d,0,none⟩ (.slice (some ⟨g,0,none⟩) n cap)) ⟨d,1,none⟩ (.slice none 0 0)
 refine ⟨h0',?_,own_kept ho' hs1 (Or.inr (own_ne ho' h1'' neS)),in_grown hin' hs1 hfd,?_,Rg.own_nil _ _ _,fun i dd l e1 e2 hl0 a ha e=>(by cases e),hfd⟩
 ·have e : ∀ (x : World),x.heap[d]? = some (.cells #[.slice (some ⟨g,0,none⟩) n cap,.slice A nl cl,v2] 197 (0,0)) → (x.setCell ⟨d,1,none⟩ (.slice none 0 0)).heap[d]? = some (.cells #[.slice (some ⟨g,0,none⟩) n cap,.slice none 0 0,v2] 197 (0,0)):=fun x hx=>by simp [World.setCell,Array.getElem?_modify,hx]
  exact e _ h1''
 ·exact fun i dd l e1 e2 hl0 a ha e=>hfg i dd l e1 e2 hl0 a ha e
end Go.Proofs.YtkplahkkmmoppaaGreatDoor.Sz
namespace Go.Proofs.YtkplahkkmmoppaaGreatDoor
open Go.RowKit Go.Maps Sz
attribute [local go_sem ↓] Go.wp_at_zero Go.wp_at_succ
section
variable {α : Type} {P : Program} {enc : α → List Value} {K : Nat} {ST T : TypeId} {w : World}
theorem Rg.step_app_at (hf : Rg.Fits enc K) (hT : Rg.SliceT P enc K ST T) {ops : Array Oper} {o : Oper} {a : Act} {G : Act → World → Prop} {Q : Exit → Act → World → Prop} {E : Prop} (hgd : o.guard=none) (sl x : Operand)
  (ho : o.op = .call { callee:=.builtin .append,args:=#[sl,x],argTypes:=#[ST,ST] })
  (B : Nat) (v : Value) (l m : List α) (hs : a.eval sl=v) (hown : Rg.Own enc K w B T v l) (ad : Addr) (c : Nat) (hx : a.eval x = .slice (some ad) m.length c)
  (hnews : ∀ j u,(Rg.flat enc m)[j]? = some u → w.cell? (ad.add j)=some u) (hm : 0 < m.length) (hsz : l.length + m.length≤1000000) (hB : B≤w.heap.size)
  (h : ∀ g cap w',Rg.Own enc K w' B T (.slice (some ⟨g,0,none⟩) (l.length + m.length) cap) (l ++ m) → w.grownBy w' v.ownBlock → (v.ownBlock=some g ∨ g=w.heap.size) → G (a.put o.dst (.slice (some ⟨g,0,none⟩) (l.length + m.length) cap)) w') :
  if Region.wanted o (yielded ops a.tmps)=true then Oper.wp P o a w G Q else E:=by
 obtain ⟨i,z,hi,hz0,hz1,hz2,hb⟩:=hT.info
 refine step_append_lies w hgd sl x ST ho B T i z K i.bytes hT.under hi hz0 hz2 rfl hz1 hT.pos v l.length (Rg.flat enc l) hs hown ad m.length c (Rg.flat enc m) hx (Rg.flat_len hf m) hnews (Rg.flat_ones hf m) hm (by unfold maxLen;omega) (by
  have : (l.length + m.length) * i.bytes≤1000000 * 1000:=Nat.mul_le_mul hsz hb
  omega) hB _ rfl ?_
 intro g cap w' h1 h2 h3 _
 refine h g cap w' ?_ h2 h3
 unfold Rg.Own
 rw [Rg.flat_app,List.length_append]
 exact h1
end
theorem Sz.dro_far {w u W : World} {B d : Nat} {v0 v1 v2 : Value} {ds : List Desc} {acc : List (List Fld)} {last : List Fld} {row : Option Nat} (h : DrO w B d v0 v1 v2 ds acc last) (hb : Below w.heap.size w u) (hg : u.grownBy W row) (hne : row ≠ some d) :
  W.cell? ⟨d,0,none⟩=some v0∧W.cell? ⟨d,1,none⟩=some v1∧W.cell? ⟨d,2,none⟩=some v2∧W.frozen? ⟨d,0,none⟩=false∧W.frozen? ⟨d,1,none⟩=false∧W.frozen? ⟨d,2,none⟩=false:=by
 have hlt:=dro_lt h
 have hbl : W.heap[d]? = some (.cells #[v0,v1,v2] 197 (0,0)):=(hg.block d (Nat.lt_of_lt_of_le hlt hb.size) (fun e=>hne e.symm)).trans ((hb.block d hlt).trans h.2.1)
 refine ⟨?_,?_,?_,?_,?_,?_⟩ <;> simp [World.cell?,World.frozen?,hbl]
theorem Sz.own_base {α : Type} {enc : α → List Value} {K : Nat} {w u W : World} {B : Nat} {T : TypeId} {v : Value} {l : List α} (ho : Rg.Own enc K w B T v l) (hB : B≤w.heap.size) (hb : Below w.heap.size w u) (hg : u.grownBy W v.ownBlock) : Below B w W:=by
 exact (hb.mono hB).trans (Rg.grown_below (Rg.own_below ho hb) (Nat.le_trans hB hb.size) hg)
theorem Sz.grown_of {w u W : World} {row : Option Nat} (hb : Below w.heap.size w u) (hg : u.grownBy W row) : w.grownBy W row:=by
 have hbb:=hb
 have hgg:=hg
 obtain ⟨b1,b2,b3,b4,b5⟩:=hbb
 obtain ⟨g1,g2,g3,g4,g5⟩:=hgg
 refine ⟨?_,?_,?_,Nat.le_trans b4 g4,fun k hk hne=>(g5 k (Nat.lt_of_lt_of_le hk b4) hne).trans (b5 k hk)⟩
 ·first | exact g1.trans b1 | exact b1.trans g1
 ·first | exact g2.trans b2 | exact b2.trans g2
 ·first | exact g3.trans b3 | exact b3.trans g3
def Sz.EndRet (w : World) (B d : Nat) (v2 : Value) (acc : List (List Fld)) (last : List Fld) (e : Ending) (w' : World) : Prop :=
 e = .returned (.tuple #[])∧Keeps B d w w'∧w.heap.size≤w'.heap.size∧∃ u0 u1 ds,DrO w' B d u0 u1 v2 ds (if last = [] then acc else acc ++ [last]) []
theorem draftEnd_any {w : World} {B d : Nat} {v0 v1 v2 : Value} {ds : List Desc} {acc : List (List Fld)} {last : List Fld} (h : DrO w B d v0 v1 v2 ds acc last) (hsz : ds.length + 1≤1000000) (hB : B≤w.heap.size) :
  Calls Tryz.prog 132 #[.pointer (some ⟨d,0,none⟩)] w (Sz.EndRet w B d v2 acc last):=by
 obtain ⟨A,c,hv,hrow,_,_⟩:=Rg.row_own fitsF h.2.2.2.2.2.1
 obtain ⟨n,hn⟩ : ∃ n,last.length=n:=⟨_,rfl⟩
 rw [hn] at hv
 subst hv
 have H:=Lib.hid h
 have HN:=Lib.hid hn
 have HSZ:=Lib.hid hsz
 have HB0:=Lib.hid hB
 obtain ⟨d0,d1,d2,f0,f1,f2⟩:=dro_cells h
 clear h hn hsz hrow hB
 by_cases h0 : n=0
 ·subst h0
  have hl : Hid (last = []):=List.length_eq_zero_iff.1 HN.out
  go_enter Tryz.func132,Tryz.ntmps132
  go_wp2_with fail
  exact bodyPost_ret (v:=.tuple #[]) (by simp [results,Tryz.results132,go_sem]) rfl ⟨rfl,keeps_of (Below.refl _ _),Nat.le_refl _,v0,_,ds,by rw [if_pos hl.out,← hl.out];exact H.out⟩
 ·have hpos : (0 : Int) < (n : Int):=by omega
  have hl : Hid (last ≠ []):=fun e=>h0 (by rw [← HN.out,e];rfl)
  clear h0
  go_enter Tryz.func132,Tryz.ntmps132
  go_wp2_with fail
  have hbA : Below w.heap.size w (w.alloc (.cells #[.slice A n c] 42)):=(Below.refl _ _).alloc (Nat.le_refl _) _
  have a0:=(dro_cells (dro_below H.out hbA)).1
  clear hbA
  have HNE : Hid (v0.ownBlock ≠ some d):=own_ne H.out.2.2.1 H.out.2.1 neS
  go_region_law (refine Rg.step_app_at fitsO sliceE (by rfl) (.tmp 12) (.tmp 17) (by rfl) B v0 ds [(A,n,c)] (by rfl) (Rg.own_below H.out.2.2.1 ((Below.refl _ _).drew.alloc (Nat.le_refl _) _)) _ _ (by rfl) (Rg.news_new _ _ [(A,n,c)] _ (by rfl)) (Nat.zero_lt_succ _) HSZ.out (Nat.le_trans HB0.out (by simp)) ?_;intro g cap W5 ho5 hg5 hl5;have HO5:=Lib.hid ho5;have HG5:=Lib.hid hg5;have HL5:=Lib.hid hl5;obtain ⟨e0,e1,e2,k0,k1,k2⟩:=dro_far H.out ((Below.refl _ _).drew.alloc (Nat.le_refl _) _) hg5 HNE.out;clear ho5 hg5 hl5)
  all_goals (
   have HBW:=own_base H.out.2.2.1 HB0.out ((Below.refl _ _).drew.alloc (Nat.le_refl _) _) HG5.out
   have HSZ5 : Hid (w.heap.size≤W5.heap.size):=Nat.le_trans (by simp) HG5.out.size
   have HBW5:=Lib.hid HBW
   have HD:=Lib.hid (dro_end (w:=w) (g:=g) (n:=ds.length + 1) (cap:=cap) H.out HN.out HO5.out (grown_of ((Below.refl _ _).drew.alloc (Nat.le_refl _) _) HG5.out) (HL5.out.imp id (fun h=>by rw [h];simp)))
   clear HBW
   go_wp2_with fail
   exact bodyPost_ret (v:=.tuple #[]) (by simp [results,Tryz.results132,go_sem]) rfl ⟨rfl,keeps_set (keeps_set (keeps_of HBW5.out) _) _,by simpa using HSZ5.out,_,_,_,by rw [if_neg hl.out];exact HD.out⟩)
end Go.Proofs.YtkplahkkmmoppaaGreatDoor
namespace Go.Proofs.YtkplahkkmmoppaaGreatDoor
open Go.RowKit Go.Maps Sz
attribute [local go_sem ↓] Go.wp_at_zero Go.wp_at_succ
def Sz.AddRet (w : World) (B d : Nat) (v0 : Value) (ds : List Desc) (acc : List (List Fld)) (last : List Fld) (f : Fld) (e : Ending) (w' : World) : Prop :=
 Keeps B d w w'∧w.heap.size≤w'.heap.size∧if (last.map Fld.key).contains f.key then e=panAt f.line 6 else
  e = .returned (.tuple #[])∧∃ u1 m,B≤m∧DrO w' B d v0 u1 (.map (some m)) ds acc (last ++ [f])∧KSet w' m ((last ++ [f]).map Fld.key)
def Sz.FB (b : Nat) (f : Fld) (u : World) : Prop:=u.cell? ⟨b,0,none⟩=some (.string ⟨f.key.toArray⟩)∧u.cell? ⟨b,1,none⟩=some (.string ⟨f.val.toArray⟩)∧u.cell? ⟨b,2,none⟩=some (.int .i64 f.line)∧u.heap[b]? = some (.cells #[.string ⟨f.key.toArray⟩,.string ⟨f.val.toArray⟩,.int .i64 f.line] 82 (0,0))
theorem Sz.fb_of {b : Nat} {f : Fld} {u : World} (h : u.heap[b]? = some (.cells #[.string ⟨f.key.toArray⟩,.string ⟨f.val.toArray⟩,.int .i64 f.line] 82 (0,0))) : FB b f u:=by
 refine ⟨?_,?_,?_,h⟩ <;> simp [World.cell?,h]
theorem Sz.below_turned {u W : World} {B m : Nat} (hg : u.grownBy W (some m)) (hm : B≤m) (hB : B≤u.heap.size) : Below B u W:=by
 obtain ⟨g1,g2,g3,g4,g5⟩:=hg
 refine ⟨?_,?_,?_,g4,fun k hk=>g5 k (Nat.lt_of_lt_of_le hk hB) (fun e=>by have:=Option.some.inj e;omega)⟩
 ·first | exact g1 | exact g1.symm
 ·first | exact g2 | exact g2.symm
 ·first | exact g3 | exact g3.symm
theorem Sz.kset_far {w W : World} {B d m : Nat} {v0 v1 v2 : Value} {ds : List Desc} {acc : List (List Fld)} {last : List Fld} {ks : List (List UInt8)} (h : DrO w B d v0 v1 v2 ds acc last) (hk : KSet w m ks) (hg : w.grownBy W v1.ownBlock) (x : Value) : KSet (W.setCell ⟨d,1,none⟩ x) m ks:=by
 have hk0:=hk
 obtain ⟨n,D,⟨es,clock,hm,_⟩,_⟩:=hk
 have hlt : m < w.heap.size:=(Array.getElem?_eq_some_iff.1 hm).1
 have hdm : d ≠ m:=fun e=>by
  have h1:=h.2.1
  rw [e,hm] at h1;cases h1
 have n1 : v1.ownBlock ≠ some m:=fun e=>by
  obtain ⟨cs,fr,hc⟩:=own_cells h.2.2.2.2.2.1 e
  rw [hm] at hc;cases hc
 exact kset_kept hk0 (((set_grown W ⟨d,1,none⟩ x).block m (Nat.lt_of_lt_of_le hlt hg.size) (fun e=>hdm (Option.some.inj e).symm)).trans (hg.block m hlt (fun e=>n1 e.symm)))
theorem draftAdd_more {w : World} {B d : Nat} {v0 v1 v2 : Value} {ds : List Desc} {acc : List (List Fld)} {last : List Fld} (f : Fld) (h : DrO w B d v0 v1 v2 ds acc last) (hsz : last.length + 1≤1000000) (hk : f.key.length≤1000000) (hB : B≤w.heap.size)
  (hl : last ≠ []) (hm : ∃ m,v2 = .map (some m)∧B≤m∧KSet w m (last.map Fld.key)) :
  Calls Tryz.prog 133 #[.pointer (some ⟨d,0,none⟩),.agg #[.string ⟨f.key.toArray⟩,.string ⟨f.val.toArray⟩,.int .i64 f.line]] w (Sz.AddRet w B d v0 ds acc last f):=by
 obtain ⟨W1,hW1⟩ : ∃ W,w.alloc (.cells #[.string ⟨f.key.toArray⟩,.string ⟨f.val.toArray⟩,.int .i64 f.line] 82)=W:=⟨_,rfl⟩
 have HB1 : Hid (Below w.heap.size w W1):=alloc_low hW1
 have HF1 : Hid (FB w.heap.size f W1):=fb_of (by rw [← hW1];exact heap_alloc_new w _)
 have hs1 : W1.heap.size=w.heap.size + 1:=by rw [← hW1];simp
 have HLT : Hid (w.heap.size < W1.heap.size):=by show _ < _;omega
 have H1:=Lib.hid (dro_below h HB1.out)
 have HD0 : Hid (B≤w.heap.size∧d < w.heap.size):=⟨hB,dro_lt h⟩
 have HK:=Lib.hid hk
 have HSZ:=Lib.hid hsz
 obtain ⟨A,c,hv,hrow,_,_⟩:=Rg.row_own fitsF h.2.2.2.2.2.1
 obtain ⟨n,hn⟩ : ∃ n,last.length=n:=⟨_,rfl⟩
 rw [hn] at hv
 subst hv
 have HN:=Lib.hid hn
 obtain ⟨d0,d1,d2,f0,f1,f2⟩:=dro_cells H1.out
 obtain ⟨m,rfl,hbm,hks⟩:=hm
 have hmw : m < w.heap.size:=by
  obtain ⟨_,_,⟨_,_,hh,_⟩,_⟩:=hks
  exact (Array.getElem?_eq_some_iff.1 hh).1
 have HM : Hid (B≤m∧m < W1.heap.size∧w.heap.size ≠ m):=⟨hbm,by omega,by omega⟩
 have HKS : Hid (KSet W1 m (last.map Fld.key)):=kset_below hks HB1.out hmw
 have hne : ((n : Int) == 0)=false:=by
  have : last.length ≠ 0:=fun e=>hl (List.length_eq_zero_iff.1 e)
  rw [hn] at this
  simp;omega
 clear h hn hsz hk hB hrow hl hbm hks hs1 hmw
 go_enter Tryz.func133,Tryz.ntmps133
 go_wp2_with fail
 clear hW1 hne
 have HBX : Hid (Keeps B d w W1∧w.heap.size≤W1.heap.size):=⟨keeps_of <| HB1.out.mono HD0.out.1,HB1.out.size⟩
 have HX:=H1
 have HFX:=HF1
 have HLX:=HLT
 clear H1 HF1 HLT
 generalize W1=WX at *
 obtain ⟨b0,b1,b2,_⟩:=HFX.out
 obtain ⟨tw,htw⟩ : ∃ t,(last.map Fld.key).contains f.key=t:=⟨_,rfl⟩
 have HTW:=Lib.hid htw
 have l0:=kset_look (kset_below HKS.out (Below.refl WX.heap.size WX).drew (HM.out.2.1)) HK.out
 have l1:=kset_look (w:=(WX.alloc (.cells #[] 241)).drew) (kset_below HKS.out ((Below.refl WX.heap.size WX).alloc (Nat.le_refl _) (.cells #[] 241)).drew (HM.out.2.1)) HK.out
 rw [htw] at l0 l1
 clear htw
 go_region_held3 (fun w'=>w'.cell? ⟨d,2,none⟩=some (.map (some m))∧w'.cell? ⟨w.heap.size,0,none⟩=some (.string ⟨f.key.toArray⟩)) (go_keep) (fail)
 clear l0 l1
 all_goals (
  have HB3 : Hid (Below WX.heap.size WX ((WX.alloc (.cells #[] 241)).drew)):=((Below.refl WX.heap.size WX).alloc (Nat.le_refl _) (.cells #[] 241)).drew
  generalize (WX.alloc (.cells #[] 241)).drew=W3 at *
  have H3:=Lib.hid (dro_below HX.out HB3.out)
  have HF3 : Hid (FB w.heap.size f W3):=fb_of ((HB3.out.block _ HLX.out).trans HFX.out.2.2.2)
  have HK3 : Hid (KSet W3 m (last.map Fld.key)):=kset_below HKS.out HB3.out (HM.out.2.1)
  have HBW3 : Hid (Keeps B d w W3∧w.heap.size≤W3.heap.size):=⟨keeps_trans HBX.out.1 <| keeps_of (HB3.out.mono (Nat.le_trans HD0.out.1 HBX.out.2)),Nat.le_trans HBX.out.2 HB3.out.size⟩
  clear d0 d1 d2 f0 f1 f2 b0 b1 b2 HBX HKS
  obtain ⟨d0,d1,d2,f0,f1,f2⟩:=dro_cells H3.out
  obtain ⟨b0,b1,b2,_⟩:=HF3.out
  cases tw
  case true =>
   go_wp2_with fail
   refine (requireAt_no _).mono ?_
   rintro _ z ⟨rfl,rfl⟩
   go_wp2_with fail
   exact ⟨rfl,by show AddRet w B d v0 ds acc last f _ _;exact ⟨HBW3.out.1,HBW3.out.2,by rw [if_pos HTW.out]⟩⟩
  case false =>
   go_wp2_with fail
   refine (requireAt_yes _).mono ?_
   rintro _ z ⟨rfl,rfl⟩
   have hk3d : KSet W3.drew m (last.map Fld.key):=kset_kept HK3.out rfl
   obtain ⟨W5,hr5,hk5,ht5⟩:=kset_put hk3d HK.out (by rw [List.length_map];have:=HSZ.out;omega)
   have H5:=Lib.hid (dro_map (dro_below H3.out (Below.refl _ _).drew) hk3d ht5)
   have HK5:=Lib.hid hk5
   have hbm : w.heap.size ≠ m:=HM.out.2.2
   have HF5 : Hid (FB w.heap.size f W5):=fb_of ((ht5.grown.block w.heap.size (by have:=HLX.out;have:=HB3.out.size;show _ < W3.heap.size;omega) (fun e=>hbm (Option.some.inj e))).trans HF3.out.2.2.2)
   have HB5 : Hid (Keeps B d w W5∧w.heap.size≤W5.heap.size):=⟨keeps_trans HBW3.out.1 <| keeps_of <| (Below.refl _ W3).drew.trans (below_turned ht5.grown HM.out.1 (Nat.le_trans HD0.out.1 HBW3.out.2)),Nat.le_trans HBW3.out.2 ht5.grown.size⟩
   obtain ⟨e0,e1,e2,k0,k1,k2⟩:=dro_cells H5.out
   obtain ⟨g0,g1,g2,_⟩:=HF5.out
   clear hk3d hk5 ht5 hbm
   go_wp2_with fail
   go_region_held3 (fun w'=>w'.cell? ⟨d,2,none⟩=some (.map (some m))∧w'.cell? ⟨w.heap.size,0,none⟩=some (.string ⟨f.key.toArray⟩)) (go_keep) (fail)
   all_goals (
    clear d0 d1 d2 f0 f1 f2 b0 b1 b2 hr5
    have HB0 : Hid (B≤W5.heap.size):=Nat.le_trans HD0.out.1 HB5.out.2
    have hbA : Below W5.heap.size W5 (W5.alloc (.cells #[.string ⟨f.key.toArray⟩,.string ⟨f.val.toArray⟩,.int .i64 f.line] 82)):=(Below.refl _ _).alloc (Nat.le_refl _) _
    have a1:=(dro_cells (dro_below H5.out hbA)).2.1
    have HNE : Hid ((Value.slice A n c).ownBlock ≠ some d):=own_ne H5.out.2.2.2.2.2.1 H5.out.2.1 neF
    have hbB : w.heap.size < W5.heap.size:=(Array.getElem?_eq_some_iff.1 HF5.out.2.2.2).1
    have hfa:=fb_of ((hbA.block _ hbB).trans HF5.out.2.2.2)
    obtain ⟨q0,q1,q2,_⟩:=hfa
    clear hbA hbB
    go_wp2_with fail
    go_region_law (refine Rg.step_app_at fitsF sliceF (by rfl) (.tmp 42) (.tmp 44) (by rfl) B (.slice A n c) last [f] (by rfl) (Rg.own_below H5.out.2.2.2.2.2.1 ((Below.refl _ _).drew.alloc (Nat.le_refl _) _)) _ _ (by rfl) (Rg.news_new _ _ [f] _ (by rfl)) (Nat.zero_lt_succ _) HSZ.out (Nat.le_trans HB0.out (by simp)) ?_;intro g cap W6 ho6 hg6 hl6;have HO6:=Lib.hid ho6;have HG6:=Lib.hid hg6;have HL6:=Lib.hid hl6;obtain ⟨x0,x1,x2,y0,y1,y2⟩:=dro_far H5.out ((Below.refl _ _).drew.alloc (Nat.le_refl _) _) hg6 HNE.out;clear ho6 hg6 hl6)
    all_goals (
     have HGW : Hid (W5.grownBy W6 (Value.slice A n c).ownBlock):=grown_of ((Below.refl _ _).drew.alloc (Nat.le_refl _) _) HG6.out
     have HBW6:=Lib.hid (own_base H5.out.2.2.2.2.2.1 HB0.out ((Below.refl _ _).drew.alloc (Nat.le_refl _) _) HG6.out)
     have HD:=Lib.hid (dro_add H5.out HO6.out HGW.out (HL6.out.imp id (fun h=>by rw [h];simp)))
     have HKF:=Lib.hid (kset_far H5.out HK5.out HGW.out (.slice (some ⟨g,0,none⟩) (last.length + [f].length) cap))
     go_wp2_with fail
     exact bodyPost_ret (v:=.tuple #[]) (by simp [results,Tryz.results133,go_sem]) rfl ⟨keeps_set (keeps_trans HB5.out.1 (keeps_of HBW6.out)) _,Nat.le_trans HB5.out.2 (by simpa using HGW.out.size),by rw [if_neg (by rw [HTW.out];decide)];exact ⟨rfl,_,m,HM.out.1,HD.out,by rw [List.map_append];exact HKF.out⟩⟩)))
theorem draftAdd_first {w : World} {B d : Nat} {v0 v1 v2 : Value} {ds : List Desc} {acc : List (List Fld)} {last : List Fld} (f : Fld) (h : DrO w B d v0 v1 v2 ds acc last) (hsz : last.length + 1≤1000000) (hk : f.key.length≤1000000) (hB : B≤w.heap.size)
  (hl : last = []) :
  Calls Tryz.prog 133 #[.pointer (some ⟨d,0,none⟩),.agg #[.string ⟨f.key.toArray⟩,.string ⟨f.val.toArray⟩,.int .i64 f.line]] w (Sz.AddRet w B d v0 ds acc last f):=by
 obtain ⟨W1,hW1⟩ : ∃ W,w.alloc (.cells #[.string ⟨f.key.toArray⟩,.string ⟨f.val.toArray⟩,.int .i64 f.line] 82)=W:=⟨_,rfl⟩
 have HB1 : Hid (Below w.heap.size w W1):=alloc_low hW1
 have HF1 : Hid (FB w.heap.size f W1):=fb_of (by rw [← hW1];exact heap_alloc_new w _)
 have hs1 : W1.heap.size=w.heap.size + 1:=by rw [← hW1];simp
 have HLT : Hid (w.heap.size < W1.heap.size):=by show _ < _;omega
 have H1:=Lib.hid (dro_below h HB1.out)
 have HD0 : Hid (B≤w.heap.size∧d < w.heap.size):=⟨hB,dro_lt h⟩
 have HK:=Lib.hid hk
 have HSZ:=Lib.hid hsz
 obtain ⟨A,c,hv,hrow,_,_⟩:=Rg.row_own fitsF h.2.2.2.2.2.1
 obtain ⟨n,hn⟩ : ∃ n,last.length=n:=⟨_,rfl⟩
 rw [hn] at hv
 subst hv
 have HN:=Lib.hid hn
 obtain ⟨d0,d1,d2,f0,f1,f2⟩:=dro_cells H1.out
 have HD2:=Lib.hid (dro_keys (dro_below H1.out ((Below.refl W1.heap.size W1).alloc (Nat.le_refl _) (.map #[] 0))) (.map (some W1.heap.size)))
 have hds:=set_grown (W1.alloc (.map #[] 0)) ⟨d,2,none⟩ (.map (some W1.heap.size))
 have hd1 : d < W1.heap.size:=by have:=HD0.out.2;omega
 have hnd : ∀ k,k ≠ d → ((W1.alloc (.map #[] 0)).setCell ⟨d,2,none⟩ (.map (some W1.heap.size))).heap[k]? = (W1.alloc (.map #[] 0)).heap[k]?:=fun k hk=>by
  exact Below.heap_setCell _ _ _ _ (fun e=>hk (by simp [e]))
 have hks0 : KSet ((W1.alloc (.map #[] 0)).setCell ⟨d,2,none⟩ (.map (some W1.heap.size))) W1.heap.size []:=kset_kept (kset_made W1) (hnd _ (by omega))
 have hfb : FB w.heap.size f ((W1.alloc (.map #[] 0)).setCell ⟨d,2,none⟩ (.map (some W1.heap.size))):=fb_of ((hnd _ (by have:=HD0.out.2;omega)).trans ((((Below.refl W1.heap.size W1).alloc (Nat.le_refl _) (.map #[] 0)).block _ HLT.out).trans HF1.out.2.2.2))
 have hsx : ((W1.alloc (.map #[] 0)).setCell ⟨d,2,none⟩ (.map (some W1.heap.size))).heap.size=W1.heap.size + 1:=by simp [World.setCell]
 have hbx : Keeps B d w ((W1.alloc (.map #[] 0)).setCell ⟨d,2,none⟩ (.map (some W1.heap.size))):=keeps_set (keeps_of ((HB1.out.mono HD0.out.1).alloc (by have:=HD0.out;omega) _)) _
 have HM0 : Hid (B≤W1.heap.size∧w.heap.size ≠ W1.heap.size):=⟨by have:=HD0.out;omega,by omega⟩
 have HKS0:=Lib.hid hks0
 have HFX0:=Lib.hid hfb
 have HBX0:=Lib.hid hbx
 have HSX:=Lib.hid hsx
 subst hl
 obtain rfl : n=0:=by rw [← hn];rfl
 clear h hn hsz hk hB hrow hs1 hds hd1 hnd hks0 hfb hsx hbx
 have hmk : (Instr.makeMap 195 none).run Tryz.prog W1 = .ok (.map (some W1.heap.size)) (W1.alloc (.map #[] 0)):=rfl
 obtain ⟨_,_,m2,_,_,m5⟩:=dro_cells (dro_below H1.out ((Below.refl W1.heap.size W1).alloc (Nat.le_refl _) (.map #[] 0)))
 go_enter Tryz.func133,Tryz.ntmps133
 go_wp2_with fail
 clear hW1 hmk m2 m5 d0 d1 d2 f0 f1 f2
 obtain ⟨m,hm⟩ : ∃ m,W1.heap.size=m:=⟨_,rfl⟩
 obtain ⟨WX,hWX⟩ : ∃ W,(W1.alloc (.map #[] 0)).setCell ⟨d,2,none⟩ (.map (some W1.heap.size))=W:=⟨_,rfl⟩
 have HX : Hid (DrO WX B d v0 (.slice A 0 c) (.map (some m)) ds acc []):=by show DrO _ _ _ _ _ _ _ _ _;rw [← hWX,← hm];exact HD2.out
 have HKS : Hid (KSet WX m (([] : List Fld).map Fld.key)):=by show KSet _ _ _;rw [← hWX,← hm];exact HKS0.out
 have HFX : Hid (FB w.heap.size f WX):=by show FB _ _ _;rw [← hWX];exact HFX0.out
 have HBX : Hid (Keeps B d w WX∧w.heap.size≤WX.heap.size):=by
  have h1:=HLT.out
  have h2:=HSX.out
  rw [hWX] at h2
  exact ⟨by rw [← hWX];exact HBX0.out,by omega⟩
 have HLX : Hid (w.heap.size < WX.heap.size):=by
  have h1:=HLT.out
  have h2:=HSX.out
  rw [hWX] at h2
  show _ < _
  omega
 have HM : Hid (B≤m∧m < WX.heap.size∧w.heap.size ≠ m):=by
  have h2:=HSX.out
  rw [hWX] at h2
  have h3:=HM0.out
  rw [hm] at h2 h3
  exact ⟨h3.1,by omega,h3.2⟩
 rw [hWX]
 clear HD2 HM0 HKS0 HFX0 HBX0 HSX H1 HF1 HB1 HLT
 have HN0 : Hid (([] : List Fld).length=0):=rfl
 clear hWX hm HN
 have HN:=HN0
 clear HN0
 obtain ⟨d0,d1,d2,f0,f1,f2⟩:=dro_cells HX.out
 obtain ⟨b0,b1,b2,_⟩:=HFX.out
 obtain ⟨tw,htw⟩ : ∃ t,(([] : List Fld).map Fld.key).contains f.key=t:=⟨_,rfl⟩
 have HTW:=Lib.hid htw
 have l0:=kset_look (kset_below HKS.out (Below.refl WX.heap.size WX).drew (HM.out.2.1)) HK.out
 have l1:=kset_look (w:=(WX.alloc (.cells #[] 241)).drew) (kset_below HKS.out ((Below.refl WX.heap.size WX).alloc (Nat.le_refl _) (.cells #[] 241)).drew (HM.out.2.1)) HK.out
 rw [htw] at l0 l1
 clear htw
 go_region_held3 (fun w'=>w'.cell? ⟨d,2,none⟩=some (.map (some m))∧w'.cell? ⟨w.heap.size,0,none⟩=some (.string ⟨f.key.toArray⟩)) (go_keep) (fail)
 clear l0 l1
 all_goals (
  have HB3 : Hid (Below WX.heap.size WX ((WX.alloc (.cells #[] 241)).drew)):=((Below.refl WX.heap.size WX).alloc (Nat.le_refl _) (.cells #[] 241)).drew
  generalize (WX.alloc (.cells #[] 241)).drew=W3 at *
  have H3:=Lib.hid (dro_below HX.out HB3.out)
  have HF3 : Hid (FB w.heap.size f W3):=fb_of ((HB3.out.block _ HLX.out).trans HFX.out.2.2.2)
  have HK3 : Hid (KSet W3 m (([] : List Fld).map Fld.key)):=kset_below HKS.out HB3.out (HM.out.2.1)
  have HBW3 : Hid (Keeps B d w W3∧w.heap.size≤W3.heap.size):=⟨keeps_trans HBX.out.1 <| keeps_of (HB3.out.mono (Nat.le_trans HD0.out.1 HBX.out.2)),Nat.le_trans HBX.out.2 HB3.out.size⟩
  clear d0 d1 d2 f0 f1 f2 b0 b1 b2 HBX HKS
  obtain ⟨d0,d1,d2,f0,f1,f2⟩:=dro_cells H3.out
  obtain ⟨b0,b1,b2,_⟩:=HF3.out
  cases tw
  case true =>
   go_wp2_with fail
   refine (requireAt_no _).mono ?_
   rintro _ z ⟨rfl,rfl⟩
   go_wp2_with fail
   exact ⟨rfl,by show AddRet w B d v0 ds acc ([] : List Fld) f _ _;exact ⟨HBW3.out.1,HBW3.out.2,by rw [if_pos HTW.out]⟩⟩
  case false =>
   go_wp2_with fail
   refine (requireAt_yes _).mono ?_
   rintro _ z ⟨rfl,rfl⟩
   have hk3d : KSet W3.drew m (([] : List Fld).map Fld.key):=kset_kept HK3.out rfl
   obtain ⟨W5,hr5,hk5,ht5⟩:=kset_put hk3d HK.out (by rw [List.length_map];have:=HSZ.out;omega)
   have H5:=Lib.hid (dro_map (dro_below H3.out (Below.refl _ _).drew) hk3d ht5)
   have HK5:=Lib.hid hk5
   have hbm : w.heap.size ≠ m:=HM.out.2.2
   have HF5 : Hid (FB w.heap.size f W5):=fb_of ((ht5.grown.block w.heap.size (by have:=HLX.out;have:=HB3.out.size;show _ < W3.heap.size;omega) (fun e=>hbm (Option.some.inj e))).trans HF3.out.2.2.2)
   have HB5 : Hid (Keeps B d w W5∧w.heap.size≤W5.heap.size):=⟨keeps_trans HBW3.out.1 <| keeps_of <| (Below.refl _ W3).drew.trans (below_turned ht5.grown HM.out.1 (Nat.le_trans HD0.out.1 HBW3.out.2)),Nat.le_trans HBW3.out.2 ht5.grown.size⟩
   obtain ⟨e0,e1,e2,k0,k1,k2⟩:=dro_cells H5.out
   obtain ⟨g0,g1,g2,_⟩:=HF5.out
   clear hk3d hk5 ht5 hbm
   go_wp2_with fail
   go_region_held3 (fun w'=>w'.cell? ⟨d,2,none⟩=some (.map (some m))∧w'.cell? ⟨w.heap.size,0,none⟩=some (.string ⟨f.key.toArray⟩)) (go_keep) (fail)
   all_goals (
    clear d0 d1 d2 f0 f1 f2 b0 b1 b2 hr5
    have HB0 : Hid (B≤W5.heap.size):=Nat.le_trans HD0.out.1 HB5.out.2
    have hbA : Below W5.heap.size W5 (W5.alloc (.cells #[.string ⟨f.key.toArray⟩,.string ⟨f.val.toArray⟩,.int .i64 f.line] 82)):=(Below.refl _ _).alloc (Nat.le_refl _) _
    have a1:=(dro_cells (dro_below H5.out hbA)).2.1
    have HNE : Hid ((Value.slice A 0 c).ownBlock ≠ some d):=own_ne H5.out.2.2.2.2.2.1 H5.out.2.1 neF
    have hbB : w.heap.size < W5.heap.size:=(Array.getElem?_eq_some_iff.1 HF5.out.2.2.2).1
    have hfa:=fb_of ((hbA.block _ hbB).trans HF5.out.2.2.2)
    obtain ⟨q0,q1,q2,_⟩:=hfa
    clear hbA hbB
    go_wp2_with fail
    go_region_law (refine Rg.step_app_at fitsF sliceF (by rfl) (.tmp 42) (.tmp 44) (by rfl) B (.slice A 0 c) ([] : List Fld) [f] (by rfl) (Rg.own_below H5.out.2.2.2.2.2.1 ((Below.refl _ _).drew.alloc (Nat.le_refl _) _)) _ _ (by rfl) (Rg.news_new _ _ [f] _ (by rfl)) (Nat.zero_lt_succ _) HSZ.out (Nat.le_trans HB0.out (by simp)) ?_;intro g cap W6 ho6 hg6 hl6;have HO6:=Lib.hid ho6;have HG6:=Lib.hid hg6;have HL6:=Lib.hid hl6;obtain ⟨x0,x1,x2,y0,y1,y2⟩:=dro_far H5.out ((Below.refl _ _).drew.alloc (Nat.le_refl _) _) hg6 HNE.out;clear ho6 hg6 hl6)
    all_goals (
     have HGW : Hid (W5.grownBy W6 (Value.slice A 0 c).ownBlock):=grown_of ((Below.refl _ _).drew.alloc (Nat.le_refl _) _) HG6.out
     have HBW6:=Lib.hid (own_base H5.out.2.2.2.2.2.1 HB0.out ((Below.refl _ _).drew.alloc (Nat.le_refl _) _) HG6.out)
     have HD:=Lib.hid (dro_add H5.out HO6.out HGW.out (HL6.out.imp id (fun h=>by rw [h];simp)))
     have HKF:=Lib.hid (kset_far H5.out HK5.out HGW.out (.slice (some ⟨g,0,none⟩) (([] : List Fld).length + [f].length) cap))
     go_wp2_with fail
     exact bodyPost_ret (v:=.tuple #[]) (by simp [results,Tryz.results133,go_sem]) rfl ⟨keeps_set (keeps_trans HB5.out.1 (keeps_of HBW6.out)) _,Nat.le_trans HB5.out.2 (by simpa using HGW.out.size),by rw [if_neg (by rw [HTW.out];decide)];exact ⟨rfl,_,m,HM.out.1,HD.out,by rw [List.map_append];exact HKF.out⟩⟩)))
end Go.Proofs.YtkplahkkmmoppaaGreatDoor
namespace Go.Proofs.YtkplahkkmmoppaaGreatDoor.Sz
open Go.RowKit Go.Maps
theorem suffix_end (s : List UInt8) : Lib.hasSuffix s [10]=(s.getLast? == some 10):=by
 unfold Lib.hasSuffix
 rcases List.eq_nil_or_concat s with rfl | ⟨t,c,rfl⟩
 ·rfl
 ·unfold List.isSuffixOf
  rw [List.concat_eq_append,List.reverse_append]
  show (10 == c && true)=_
  rw [Bool.and_true,List.getLast?_concat]
  show (10 == c)=(c == 10)
  rw [Bool.eq_iff_iff,beq_iff_eq,beq_iff_eq];exact eq_comm
theorem keeps_cell {B d : Nat} {w w' : World} (h : Keeps B d w w') {a : Addr} (h1 : a.block < B) (h2 : a.block ≠ d) : w'.cell? a=w.cell? a:=by
 unfold World.cell?
 rw [h.2 _ h1 h2]
theorem draft_no_text {w : World} {B d : Nat} {v0 v1 v2 : Value} {ds : List Desc} {acc : List (List Fld)} {last : List Fld} (h : DrO w B d v0 v1 v2 ds acc last) (h0 : ∀ x,v0 ≠ .string x) (h1 : ∀ x,v1 ≠ .string x) (h2 : ∀ x,v2 ≠ .string x)
  {a : Addr} {x : ByteArray} (hc : w.cell? a=some (.string x)) : a.block ≠ d:=fun e=>by
 have hb:=h.2.1
 unfold World.cell? at hc
 rw [e,hb] at hc
 dsimp only at hc
 split at hc
 ·cases hc
 ·match h3 : a.off with
  | 0=>rw [h3] at hc;exact h0 x (Option.some.inj hc)
  | 1=>rw [h3] at hc;exact h1 x (Option.some.inj hc)
  | 2=>rw [h3] at hc;exact h2 x (Option.some.inj hc)
  | k + 3=>rw [h3] at hc;simp at hc
end Go.Proofs.YtkplahkkmmoppaaGreatDoor.Sz
