/- Part 23 of what the laws lean on. -/
import Derived.Test.YtkplahkkmmoppaaGreatDoorL22
set_option maxRecDepth 100000
set_option maxHeartbeats 6400000
namespace Go.Proofs.YtkplahkkmmoppaaGreatDoor
open Go.RowKit Go.ChangeShapes Go.WideShapes Go.Joins Rs At Pg
namespace Pg
def SpT (P : Program) (t e ts tb : TypeId) : Prop:=P.underlying t=some (.slice e)∧P.underlying ts=some .string∧P.underlying tb=some .bool∧P.cellsOf ts=1∧P.cellsOf tb=1∧P.cellsOf e=4∧P.cellsOf t=1 ∧
 ∃ n0 n1 n2 n3 : Field,P.underlying e=some (.struct #[n0,n1,n2,n3])∧(n0.type=ts∧n0.offset=0)∧(n1.type=ts∧n1.offset=1)∧(n2.type=tb∧n2.offset=2)∧(n3.type=tb∧n3.offset=3)
def AtT (P : Program) (ta t e ts tb : TypeId) : Prop:=SpT P t e ts tb∧P.cellsOf ta=2∧∃ f0 f1 : Field,P.underlying ta=some (.struct #[f0,f1])∧(f0.type=ts∧f0.offset=0)∧(f1.type=t∧f1.offset=1)
def AWide (a : Atm) : Prop:=a.name.length≤maxLen∧a.rng.length≤maxLen∧∀ s ∈ a.rng,s.lo.length≤maxLen∧s.hi.length≤maxLen
theorem take1 {α : Type} {cs : List α} {m n : Nat} (hl : cs.length=m) (hn : n < m) : (cs.drop n).take 1 = [cs[n]'(by omega)]:=by
 rw [List.drop_eq_getElem_cons (by omega)];rfl
instance : Inhabited Atm:=⟨⟨[],[]⟩⟩
instance : Inhabited Gv:=⟨⟨[],[]⟩⟩
section
variable {H : Type} {enc : TypeId × Value → H} {P : Program} {W : World} {ta t e ts tb : TypeId}
theorem open_atomsC {tl : TypeId} {fuel : Nat} {cs : List Value} {x : DataW H × List MemPlace} (hT : AtT P ta t e ts tb) (hl : P.underlying tl=some (.slice ta)) (h : DataW.trod enc P W 0 (fun _=>true) true fuel tl cs=some x) :
  ∃ (A : Option Addr) (c : Nat) (l : List Atm),cs = [.slice A l.length c]∧ARow W A l∧l.length≤maxLen∧∀ a ∈ l,AWide a:=by
 obtain ⟨⟨q1,q2,q3,q4,q5,q6,q7,n0,n1,n2,n3,q8,q9,q10,q11,q12⟩,cta,f0,f1,hat,hf0,hf1⟩:=hT
 rcases Go.Deep.open_slice hl h with ⟨hcs,_⟩ | ⟨a,len,cap,m,n,D,Pl,hcs,_,hlc,hmx,hmm,_,hi⟩
 ·exact ⟨none,0,[],hcs,⟨[],fun h=>absurd h (by decide),rfl,fun i d a h=>by simp at h⟩,Nat.zero_le _,fun a ha=>by cases ha⟩
 ·simp only [if_true] at hmm
  have each : ∀ i,i < len → ∃ y : AtD × Atm,Rg.At encA W (a.add (i * 2)) y.1∧(a.add (i * 2)).block < W.heap.size∧y.1.1=y.2.name∧y.1.2.2.1=y.2.rng.length∧SRow W y.1.2.1 y.2.rng∧AWide y.2:=fun i hil=>by
   obtain ⟨cs',hc,ht'⟩:=hi i (by omega)
   rw [cta] at hc
   obtain ⟨y0,y1,m',_,hcl,g0,g1⟩:=trod_struct2 hat ht'
   rw [cta] at hcl
   rw [hf0.1,hf0.2,q4,take1 hcl (by omega)] at g0
   rw [hf1.1,hf1.2,q7,take1 hcl (by omega)] at g1
   obtain ⟨s0,e0,_,m0⟩:=DataW.trod_string q2 g0
   obtain ⟨C,c,r,e1,hr,hm,hw⟩:=open_spansC q1 q8 q9 q10 q11 q12 q2 q3 q4 q5 q6 g1
   obtain ⟨_,hcl2,hat2⟩:=World.cells?_some hc
   have c0:=(hat2 0 (by omega)).trans ((List.getElem?_eq_getElem (by omega)).trans (congrArg some (List.cons.inj e0).1))
   have c1:=(hat2 1 (by omega)).trans ((List.getElem?_eq_getElem (by omega)).trans (congrArg some (List.cons.inj e1).1))
   have ci:=cell_in c0
   rw [add_block] at ci
   refine ⟨((s0.data.toList,C,r.length,c),⟨s0.data.toList,r⟩),fun j u hu=>?_,ci,rfl,rfl,hr,by show s0.data.toList.length≤maxLen;rw [Array.length_toList];exact m0,hm,hw⟩
   match j with
   | 0=>cases hu;rw [if_pos rfl];exact c0
   | 1=>cases hu;exact c1
   | j + 2=>simp [encA] at hu
  obtain ⟨f,hf2⟩:=Go.Deep.choose_lt each
  have hl1 : ((List.range len).map fun i=>(f i).1).length=len:=by simp
  have hl2 : ((List.range len).map fun i=>(f i).2).length=len:=by simp
  refine ⟨some a,cap,(List.range len).map fun i=>(f i).2,by rw [hl2];exact hcs,⟨(List.range len).map fun i=>(f i).1,fun h0=>?_,by rw [hl1,hl2],fun i d b h1 h2=>?_⟩,by rw [hl2];omega,fun b hb=>?_⟩
  ·rw [hl1] at h0
   refine ⟨a,rfl,?_,fun i hi2=>?_⟩
   ·have:=(hf2 0 h0).2.1
    rwa [add_block] at this
   ·rw [hl1] at hi2
    have:=(hf2 i hi2).1
    simpa using this
  ·have hil : i < len:=by have:=(List.getElem?_eq_some_iff.1 h1).1;rwa [hl1] at this
   obtain ⟨_,_,g1,g2,g3,_⟩:=hf2 i hil
   rw [List.getElem?_map,List.getElem?_range hil] at h1 h2
   cases h1;cases h2
   exact ⟨g1,g2,g3⟩
  ·obtain ⟨i,hi2,rfl⟩:=List.mem_map.1 hb
   exact (hf2 i (List.mem_range.1 hi2)).2.2.2.2.2
theorem open_depsC {tt tl : TypeId} {fuel : Nat} {cs : List Value} {x : DataW H × List MemPlace} (hT : AtT P ta t e ts tb) (hl : P.underlying tl=some (.slice ta)) (hc1 : P.cellsOf tl=1) (hll : P.underlying tt=some (.slice tl)) (h : DataW.trod enc P W 0 (fun _=>true) true fuel tt cs=some x) :
  ∃ (A : Option Addr) (c : Nat) (l : List (List Atm)),cs = [.slice A l.length c]∧Pg.DRow W A l∧l.length≤maxLen∧∀ d ∈ l,d.length≤maxLen∧∀ a ∈ d,AWide a:=by
 rcases Go.Deep.open_slice hll h with ⟨hcs,_⟩ | ⟨a,len,cap,m,n,D,Pl,hcs,_,hlc,hmx,hmm,_,hi⟩
 ·exact ⟨none,0,[],hcs,⟨[],fun h=>absurd h (by decide),rfl,fun i d a h=>by simp at h⟩,Nat.zero_le _,fun a ha=>by cases ha⟩
 ·simp only [if_true] at hmm
  have each : ∀ i,i < len → ∃ y : Desc × List Atm,Rg.At encO W (a.add (i * 1)) y.1∧(a.add (i * 1)).block < W.heap.size∧y.1.2.1=y.2.length∧ARow W y.1.1 y.2∧y.2.length≤maxLen∧∀ b ∈ y.2,AWide b:=fun i hil=>by
   obtain ⟨cs',hc,ht'⟩:=hi i (by omega)
   rw [hc1] at hc
   obtain ⟨C,c,r,e1,hr,hm,hw⟩:=open_atomsC hT hl ht'
   obtain ⟨_,hcl2,hat2⟩:=World.cells?_some hc
   have c0:=(hat2 0 (by omega)).trans (show cs'[0]? = some (.slice C r.length c) by rw [e1];rfl)
   have ci:=cell_in c0
   rw [add_block] at ci
   refine ⟨((C,r.length,c),r),fun j u hu=>?_,ci,rfl,hr,hm,hw⟩
   match j with
   | 0=>cases hu;rw [if_pos rfl];exact c0
   | j + 1=>simp [encO] at hu
  obtain ⟨f,hf2⟩:=Go.Deep.choose_lt each
  have hl1 : ((List.range len).map fun i=>(f i).1).length=len:=by simp
  have hl2 : ((List.range len).map fun i=>(f i).2).length=len:=by simp
  refine ⟨some a,cap,(List.range len).map fun i=>(f i).2,by rw [hl2];exact hcs,⟨(List.range len).map fun i=>(f i).1,fun h0=>?_,by rw [hl1,hl2],fun i d b h1 h2=>?_⟩,by rw [hl2];omega,fun b hb=>?_⟩
  ·rw [hl1] at h0
   refine ⟨a,rfl,?_,fun i hi2=>?_⟩
   ·have:=(hf2 0 h0).2.1
    rwa [add_block] at this
   ·rw [hl1] at hi2
    have:=(hf2 i hi2).1
    simpa using this
  ·have hil : i < len:=by have:=(List.getElem?_eq_some_iff.1 h1).1;rwa [hl1] at this
   obtain ⟨_,_,g1,g2,_⟩:=hf2 i hil
   rw [List.getElem?_map,List.getElem?_range hil] at h1 h2
   cases h1;cases h2
   exact ⟨g1,g2⟩
  ·obtain ⟨i,hi2,rfl⟩:=List.mem_map.1 hb
   exact (hf2 i (List.mem_range.1 hi2)).2.2.2.2
theorem open_givesC {tg tl : TypeId} {f0 f1 : Field} {fuel : Nat} {cs : List Value} {x : DataW H × List MemPlace} (hg : P.underlying tg=some (.struct #[f0,f1])) (hf0 : f0.type=ts∧f0.offset=0) (hf1 : f1.type=ts∧f1.offset=1) (cg : P.cellsOf tg=2) (hs : P.underlying ts=some .string) (cts : P.cellsOf ts=1)
  (hl : P.underlying tl=some (.slice tg)) (h : DataW.trod enc P W 0 (fun _=>true) true fuel tl cs=some x) :
  ∃ (A : Option Addr) (c : Nat) (l : List Gv),cs = [.slice A l.length c]∧GRow W A l∧l.length≤maxLen∧GFew l:=by
 rcases Go.Deep.open_slice hl h with ⟨hcs,_⟩ | ⟨a,len,cap,m,n,D,Pl,hcs,_,hlc,hmx,hmm,_,hi⟩
 ·exact ⟨none,0,[],hcs,fun h=>absurd h (by decide),Nat.zero_le _,fun a ha=>by cases ha⟩
 ·simp only [if_true] at hmm
  have each : ∀ i,i < len → ∃ y : Gv,Rg.At encG W (a.add (i * 2)) y∧(a.add (i * 2)).block < W.heap.size∧y.name.length≤maxLen∧y.ver.length≤maxLen:=fun i hil=>by
   obtain ⟨cs',hc,ht'⟩:=hi i (by omega)
   rw [cg] at hc
   obtain ⟨y0,y1,m',_,hcl,g0,g1⟩:=trod_struct2 hg ht'
   rw [cg] at hcl
   rw [hf0.1,hf0.2,cts,take1 hcl (by omega)] at g0
   rw [hf1.1,hf1.2,cts,take1 hcl (by omega)] at g1
   obtain ⟨s0,e0,_,m0⟩:=DataW.trod_string hs g0
   obtain ⟨s1,e1,_,m1⟩:=DataW.trod_string hs g1
   obtain ⟨_,hcl2,hat2⟩:=World.cells?_some hc
   have c0:=(hat2 0 (by omega)).trans ((List.getElem?_eq_getElem (by omega)).trans (congrArg some (List.cons.inj e0).1))
   have c1:=(hat2 1 (by omega)).trans ((List.getElem?_eq_getElem (by omega)).trans (congrArg some (List.cons.inj e1).1))
   have ci:=cell_in c0
   rw [add_block] at ci
   refine ⟨⟨s0.data.toList,s1.data.toList⟩,fun j u hu=>?_,ci,by show s0.data.toList.length≤maxLen;rw [Array.length_toList];exact m0,by show s1.data.toList.length≤maxLen;rw [Array.length_toList];exact m1⟩
   match j with
   | 0=>cases hu;rw [if_pos rfl];exact c0
   | 1=>cases hu;exact c1
   | j + 2=>simp [encG] at hu
  obtain ⟨f,hf2⟩:=Go.Deep.choose_lt each
  have hlen : ((List.range len).map f).length=len:=by simp
  refine ⟨some a,cap,(List.range len).map f,by rw [hlen];exact hcs,fun h0=>?_,by rw [hlen];omega,fun s hs=>?_⟩
  ·rw [hlen] at h0
   refine ⟨a,rfl,?_,fun i hi2=>?_⟩
   ·have:=(hf2 0 h0).2.1
    rwa [add_block] at this
   ·rw [hlen] at hi2
    have:=(hf2 i hi2).1
    simpa using this
  ·obtain ⟨i,hi2,rfl⟩:=List.mem_map.1 hs
   exact (hf2 i (List.mem_range.1 hi2)).2.2
theorem trod_float {tf : TypeId} {fuel : Nat} {cs : List Value} {x : DataW H × List MemPlace} (ht : P.underlying tf=some (.float .f64)) (h : DataW.trod enc P W 0 (fun _=>true) true fuel tf cs=some x) : ∃ f,cs = [Value.float .f64 f]∧f < Wm.W:=by
 have h1 : ∃ f,cs = [Value.float .f64 f]∧(Lit.float .f64 f).wf=true:=by
  cases fuel with
  | zero=>simp [DataW.trod] at h
  | succ n =>
   unfold DataW.trod at h
   rw [ht] at h
   split at h <;> simp_all
 obtain ⟨f,h2,h3⟩:=h1
 refine ⟨f,h2,?_⟩
 have h4 : decide (f < 2 ^ 64)=true:=h3
 have:=of_decide_eq_true h4
 unfold Wm.W
 omega
def PWide (p : Pk) : Prop:=p.name.length≤maxLen∧p.ver.length≤maxLen∧p.deps.length≤maxLen∧(∀ d ∈ p.deps,d.length≤maxLen∧∀ a ∈ d,AWide a)∧p.confl.length≤maxLen∧(∀ a ∈ p.confl,AWide a)∧p.prov.length≤maxLen∧GFew p.prov∧p.wt < Wm.W
def PkT (P : Program) (tp tg tgl tf tl tt ta t e ts tb : TypeId) : Prop:=AtT P ta t e ts tb∧P.underlying tl=some (.slice ta)∧P.cellsOf tl=1∧P.underlying tt=some (.slice tl)∧P.cellsOf tt=1∧P.underlying tgl=some (.slice tg)∧P.cellsOf tgl=1∧P.cellsOf tg=2∧P.underlying tf=some (.float .f64)∧P.cellsOf tf=1∧P.cellsOf tp=6 ∧
 (∃ f0 f1 : Field,P.underlying tg=some (.struct #[f0,f1])∧(f0.type=ts∧f0.offset=0)∧(f1.type=ts∧f1.offset=1)) ∧
 ∃ k0 k1 k2 k3 k4 k5 : Field,P.underlying tp=some (.struct #[k0,k1,k2,k3,k4,k5])∧(k0.type=ts∧k0.offset=0)∧(k1.type=ts∧k1.offset=1)∧(k2.type=tt∧k2.offset=2)∧(k3.type=tl∧k3.offset=3)∧(k4.type=tgl∧k4.offset=4)∧(k5.type=tf∧k5.offset=5)
theorem open_pkg {b0 : Nat} {tp tg tgl tf tl tt : TypeId} {v : Value} {d : DataW H} {ps : List MemPlace} (hT : PkT P tp tg tgl tf tl tt ta t e ts tb) (hval : Value.okWide P W .any b0 tp v) (h : DataW.Trod enc P W 0 (fun _=>true) true tp v d ps) :
  ∃ (p : Pk) (D C G : Option Addr) (dc cc gc : Nat),v = .agg #[.string ⟨p.name.toArray⟩,.string ⟨p.ver.toArray⟩,.slice D p.deps.length dc,.slice C p.confl.length cc,.slice G p.prov.length gc,.float .f64 p.wt]∧Pg.DRow W D p.deps∧ARow W C p.confl∧GRow W G p.prov∧PWide p:=by
 obtain ⟨hA,h2,h3,h4,h5,h6,h7,h8,h9,h10,h11,⟨f0,f1,hg,hg0,hg1⟩,k0,k1,k2,k3,k4,k5,hp,p0,p1,p2,p3,p4,p5⟩:=hT
 have hs:=hA.1.2.1
 have cts:=hA.1.2.2.2.1
 obtain ⟨cs,rfl,hsz⟩:=okWide_struct hp hval
 obtain ⟨fuel,hf⟩:=h
 rw [h11] at hsz
 obtain ⟨c0,c1,c2,c3,c4,c5,rfl⟩ : ∃ c0 c1 c2 c3 c4 c5,cs = #[c0,c1,c2,c3,c4,c5]:=by
  obtain ⟨l⟩:=cs
  match l,hsz with
  | [a,b,c,d,e,f],_=>exact ⟨a,b,c,d,e,f,rfl⟩
 obtain ⟨xs,n,_,_,hl,hlen,hff⟩:=DataW.trod_struct hp hf
 rw [h11] at hl
 match xs,hlen with
 | [y0,y1,y2,y3,y4,y5],_ =>
  have g0:=hff 0 k0 rfl
  have g1:=hff 1 k1 rfl
  have g2:=hff 2 k2 rfl
  have g3:=hff 3 k3 rfl
  have g4:=hff 4 k4 rfl
  have g5:=hff 5 k5 rfl
  rw [p0.1,p0.2,cts,take1 hl (by omega)] at g0
  rw [p1.1,p1.2,cts,take1 hl (by omega)] at g1
  rw [p2.1,p2.2,h5,take1 hl (by omega)] at g2
  rw [p3.1,p3.2,h3,take1 hl (by omega)] at g3
  rw [p4.1,p4.2,h7,take1 hl (by omega)] at g4
  rw [p5.1,p5.2,h10,take1 hl (by omega)] at g5
  obtain ⟨s0,e0,_,m0⟩:=DataW.trod_string hs g0
  obtain ⟨s1,e1,_,m1⟩:=DataW.trod_string hs g1
  obtain ⟨D,dc,l2,e2,hr2,hm2,hw2⟩:=open_depsC hA h2 h3 h4 g2
  obtain ⟨C,cc,l3,e3,hr3,hm3,hw3⟩:=open_atomsC hA h2 g3
  obtain ⟨G,gc,l4,e4,hr4,hm4,hw4⟩:=open_givesC hg hg0 hg1 h8 hs cts h6 g4
  obtain ⟨f,e5,hf5⟩ : ∃ f,[c5] = [Value.float .f64 f]∧f < Wm.W:=trod_float h9 g5
  refine ⟨⟨s0.data.toList,s1.data.toList,l2,l3,l4,f⟩,D,C,G,dc,cc,gc,?_,hr2,hr3,hr4,by show s0.data.toList.length≤maxLen;rw [Array.length_toList];exact m0,by show s1.data.toList.length≤maxLen;rw [Array.length_toList];exact m1,hm2,hw2,hm3,hw3,hm4,hw4,hf5⟩
  have q0 : c0 = .string s0:=by simpa [Value.cells] using e0
  have q1 : c1 = .string s1:=by simpa [Value.cells] using e1
  have q2 : c2 = .slice D l2.length dc:=by simpa [Value.cells] using e2
  have q3 : c3 = .slice C l3.length cc:=by simpa [Value.cells] using e3
  have q4 : c4 = .slice G l4.length gc:=by simpa [Value.cells] using e4
  have q5 : c5 = .float .f64 f:=by simpa using e5
  rw [q0,q1,q2,q3,q4,q5]
end
end Pg
end Go.Proofs.YtkplahkkmmoppaaGreatDoor
namespace Go.Proofs.YtkplahkkmmoppaaGreatDoor
open Go.RowKit Rs At Pg
def Pg.ASmall (l : List Atm) : Prop:=∀ a ∈ l,a.rng.length≤1000
attribute [local go_sem ↓] Go.wp_at_zero Go.wp_at_succ
theorem toAll4_any (A : Option Addr) (n c : Nat) (l : List Atm) (w : World) (hn : l.length=n) (hr : ARow w A l) (hl : n≤1000) (hf : Pg.ASmall l) :
  Calls Tryz.prog 37 #[.slice A n c] w fun e w'=>∃ C d,e = .returned (.slice C n d)∧ARow w' C l∧(∀ a,C=some a → w.heap.size≤a.block)∧Below w.heap.size w w':=by
 have HR:=Lib.hid hr
 have HN:=Lib.hid hn
 have HF:=Lib.hid hf
 clear hr hn hf
 go_enter Tryz.func37,Tryz.ntmps37
 go_wp2_with fail
 go_loopw [3,4] (fun v i wr=>∃ (k : Nat) (ds : List AtD),k≤n∧i = .int .i64 k∧Hid (AOwn wr w.heap.size 66 v ds (l.take k))∧Hid (Below w.heap.size w wr)) (fun _ i _=>n - (intOf i).toNat)
 case atStart=>exact ⟨0,[],Nat.zero_le _,rfl,aown_nil _ _ _,Below.refl _ _⟩
 case round =>
  obtain ⟨k,ds,hk,rfl,HO,HB⟩:=hrel
  by_cases hlt : k < n
  ·have hlr : k < l.length:=by rw [HN.out];exact hlt
   obtain ⟨ad,C,m,d,rfl,hm,hs,hc⟩:=arow_at HR.out k hlr
   obtain ⟨c0,c1⟩:=hc _ HB.out
   have hff:=HF.out _ (List.getElem_mem hlr)
   have hsn : l.take (k + 1)=l.take k ++ [l[k]]:=by rw [List.take_succ_eq_append_getElem hlr]
   have HSZ : Hid (ds.length + 1≤1000000):=by
    have h1:=HO.out.2.1.1
    rw [List.length_take] at h1
    show _≤_
    omega
   obtain ⟨a,ha⟩ : ∃ a,l[k]=a:=⟨_,rfl⟩
   rw [ha] at hm hs c0 hff hsn
   obtain ⟨nm,r⟩:=a
   dsimp only at hm hs c0 hff
   have HSN:=Lib.hid hsn
   have HT:=Lib.hid (to4_any nm C m d r wr hm (srow_below hs HB.out) (by rw [← hm];exact hff))
   have HM:=Lib.hid hm
   clear hc ha hm hs hff hsn
   go_wp2_with fail
   refine HT.out.mono ?_
   rintro _ u2 ⟨C2,d2,rfl,hr2,hb⟩
   have HBU:=Lib.hid hb
   have HR2:=Lib.hid hr2
   clear hb hr2 HT
   go_wp2_with (at_builtin;refine Pg.wpList_app_pure sliceA zeroA_nob encA_nob rfl (.tmp 11) (.tmp 17) rfl w.heap.size _ ds [(nm,C2,m,d2)] rfl (aown_below HO.out (HBU.out.alloc HBU.out.size _)).1 (aown_below HO.out (HBU.out.alloc HBU.out.size _)).2.2 _ _ rfl (Rg.news_new u2 _ _ _ (by rfl)) (Nat.zero_lt_succ _) HSZ.out ?b2 ?_)
   case b2=>have:=HB.out.size;have:=HBU.out.size;simp;omega
   intro v5 W5 ho5 hp5 hg5 hz5
   have hal : Below wr.heap.size wr (u2.alloc (.cells #[.string ⟨nm.toArray⟩,.slice C2 m d2] 66)):=HBU.out.alloc HBU.out.size _
   have HO5 : Hid (AOwn W5 w.heap.size 66 v5 (ds ++ [(nm,C2,m,d2)]) (l.take (k + 1))):=by
    show AOwn _ _ _ _ _ _
    rw [HSN.out]
    exact aown_add (a:=⟨nm,r⟩) (aown_below HO.out hal) (srow_below HR2.out ((Below.refl _ _).alloc (Nat.le_refl _) _)) HM.out ho5 hp5 hg5
   have HB5 : Hid (Below w.heap.size w W5):=(HB.out.trans (hal.mono HB.out.size)).trans (Rg.grown_below (aown_below HO.out hal).1 (Nat.le_trans HB.out.size hal.size) hg5)
   clear ho5 hp5 hg5 hz5 hal HO HBU HB
   go_wp2_with fail
   go_roundw
   case rel=>exact ⟨k + 1,_,by omega,by go_num,HO5,HB5⟩
   case measure=>simp [intOf];omega
  ·obtain rfl : k=n:=by omega
   obtain ⟨C,d,hv,hrw,hf⟩:=aown_row HO.out
   rw [List.take_of_length_le (by rw [HN.out];exact Nat.le_refl _)] at hv hrw
   rw [HN.out] at hv
   subst hv
   have HRW:=Lib.hid hrw
   have HFR:=Lib.hid hf
   clear hrw hf HO
   go_wp2_with fail
   go_ret
   exact ⟨C,d,rfl,HRW.out,HFR.out,HB.out⟩
def Pg.fewAs (l : List Atm) : Bool:=decide (l.length≤30) && l.all fewA
theorem Pg.all_step {α : Type} (p : α → Bool) (l : List α) (k : Nat) (hk : k < l.length) {x : α} (hx : l[k]=x) (h : (l.take k).all p=true) : (l.take (k + 1)).all p=p x:=by
 rw [List.take_succ_eq_append_getElem hk,List.all_append,h,hx];simp
theorem Pg.all_no {α : Type} {p : α → Bool} {l : List α} {k : Nat} (hk : k < l.length) {x : α} (hx : l[k]=x) (h : p x=false) : l.all p=false:=by
 rw [List.all_eq_false]
 exact ⟨l[k],List.getElem_mem hk,by rw [hx,h];decide⟩
theorem fewAtoms6_any (A : Option Addr) (n c : Nat) (l : List Atm) (w : World) (hw : MaxOk w) (hn : l.length=n) (hr : ARow w A l) (hl : n≤maxLen) (hf : ∀ a ∈ l,AWide a) :
  Calls Tryz.prog 36 #[.slice A n c] w fun e w'=>e = .returned (.bool (Pg.fewAs l))∧Below w.heap.size w w':=by
 obtain ⟨R,hR⟩ : ∃ R,fewAs l=R:=⟨_,rfl⟩
 rw [hR]
 unfold fewAs at hR
 have HR:=Lib.hid hr
 have HN:=Lib.hid hn
 have HF:=Lib.hid hf
 have HM:=Lib.hid hw
 unfold maxLen at hl
 clear hr hn hf hw
 by_cases h30 : 30 < n
 ·have HX : Hid (R=false):=by
   show _=_
   rw [← hR,HN.out,decide_eq_false (by omega)];rfl
  have d0 : decide ((30 : Int) < (n : Int))=true:=decide_eq_true (by omega)
  have hp : (30 : Int) < (n : Int):=by omega
  clear hR h30
  go_enter Tryz.func36,Tryz.ntmps36
  go_wp2_with fail
  go_ret
  exact ⟨by rw [HX.out];rfl,Below.refl _ _⟩
 have HX : Hid (l.all fewA=R):=by
  show _=_
  rw [← hR,HN.out,decide_eq_true (by omega)];rfl
 have hp : ¬ (30 : Int) < (n : Int):=by omega
 clear hR
 go_enter Tryz.func36,Tryz.ntmps36
 go_wp2_with fail
 go_loopw [3] (fun i wr=>∃ k : Nat,k≤n∧i = .int .i64 k∧Hid ((l.take k).all fewA=true)∧Hid (Below w.heap.size w wr)) (fun i _=>n - (intOf i).toNat)
 case atStart=>exact ⟨0,Nat.zero_le _,rfl,rfl,Below.refl _ _⟩
 case round =>
  obtain ⟨k,hk,rfl,HH,HB⟩:=hrel
  by_cases hlt : k < n
  ·have hlr : k < l.length:=by rw [HN.out];exact hlt
   obtain ⟨ad,C,m,d,rfl,hm,hs,hc⟩:=arow_at HR.out k hlr
   obtain ⟨c0,c1⟩:=hc _ HB.out
   have hff:=HF.out _ (List.getElem_mem hlr)
   obtain ⟨a,ha⟩ : ∃ a,l[k]=a:=⟨_,rfl⟩
   have h1:=all_step fewA l k hlr ha HH.out
   have h2 : fewA a=false → l.all fewA=false:=fun h=>all_no hlr ha h
   rw [ha] at hm hs c0 hff
   obtain ⟨nm,r⟩:=a
   dsimp only at hm hs c0
   have HS0 : St wr wr [⟨C,m,r⟩]:=⟨maxOk_below HM.out HB.out,Below.refl _ _,fun x hx=>by rw [List.mem_singleton.1 hx];exact ⟨srow_below hs HB.out,hm⟩⟩
   have HT:=Lib.hid (few4_any HS0 nm C m d r 0 rfl hff.1 (by rw [← hm];exact hff.2.1) hff.2.2)
   have H1:=Lib.hid h1
   have H2:=Lib.hid h2
   clear hc ha hm hs hff h1 h2 HS0
   obtain ⟨x,hx⟩ : ∃ x,fewA ⟨nm,r⟩=x:=⟨_,rfl⟩
   rw [hx] at HT H1 H2
   clear hx
   go_wp2_with fail
   refine HT.out.mono ?_
   rintro _ u2 ⟨rfl,hs2⟩
   have HB2 : Hid (Below w.heap.size w u2):=HB.out.trans (hs2.2.1.mono HB.out.size)
   clear hs2 HT
   cases x
   ·have HF0 : Hid (R=false):=by show _=_;rw [← HX.out,H2.out rfl]
    go_wp2_with fail
    go_ret
    exact ⟨by rw [HF0.out];rfl,HB2.out⟩
   ·have HH2 : Hid ((l.take (k + 1)).all fewA=true):=H1.out
    clear H1 H2
    go_wp2_with fail
    go_roundw
    case rel=>exact ⟨k + 1,by omega,by go_num,HH2,HB2⟩
    case measure=>simp [intOf];omega
  ·obtain rfl : k=n:=by omega
   have HF0 : Hid (R=true):=by
    show _=_
    rw [← HX.out,← HH.out,List.take_of_length_le (by rw [HN.out];exact Nat.le_refl _)]
   go_wp2_with fail
   go_ret
   exact ⟨by rw [HF0.out];rfl,HB.out⟩
end Go.Proofs.YtkplahkkmmoppaaGreatDoor
namespace Go.Proofs.YtkplahkkmmoppaaGreatDoor
open Go.RowKit Rs At Pg
attribute [local go_sem ↓] Go.wp_at_zero Go.wp_at_succ
def Pg.fewG (g : Gv) : Bool:=decide (g.name.length≤100) && decide (g.ver.length≤100)
def Pg.fewP (p : Pk) : Bool:=decide (p.name.length≤100) && (decide (p.ver.length≤100) && (decide (p.deps.length≤30) && (decide (p.prov.length≤30) && (fewAs p.confl && (p.deps.all fewAs && p.prov.all fewG)))))
theorem few6_any (p : Pk) (D C G : Option Addr) (dn dc cn cc gn gc : Nat) (w : World) (hw : MaxOk w) (hd : Pg.DRow w D p.deps) (hdn : p.deps.length=dn) (hc : ARow w C p.confl) (hcn : p.confl.length=cn) (hg : GRow w G p.prov) (hgn : p.prov.length=gn) (hf : PWide p) :
  Calls Tryz.prog 10 #[.agg #[.string ⟨p.name.toArray⟩,.string ⟨p.ver.toArray⟩,.slice D dn dc,.slice C cn cc,.slice G gn gc,.float .f64 p.wt]] w fun e w'=>e = .returned (.bool (fewP p))∧Below w.heap.size w w':=by
 obtain ⟨nm,vr,deps,confl,prov,wt⟩:=p
 obtain ⟨f1,f2,f3,f4,f5,f6,f7,f8,_⟩:=hf
 dsimp only at hd hdn hc hcn hg hgn f1 f2 f3 f4 f5 f6 f7 f8 ⊢
 rw [hdn] at f3
 rw [hcn] at f5
 rw [hgn] at f7
 unfold maxLen at f1 f2 f3 f5 f7
 obtain ⟨R,hR⟩ : ∃ R,fewP ⟨nm,vr,deps,confl,prov,wt⟩=R:=⟨_,rfl⟩
 rw [hR]
 unfold fewP at hR
 dsimp only at hR
 rw [hdn,hgn] at hR
 obtain ⟨b,hb⟩ : ∃ b,w.heap.size=b:=⟨_,rfl⟩
 obtain ⟨V,hV⟩ : ∃ V,w.alloc (.cells #[.string ⟨nm.toArray⟩,.string ⟨vr.toArray⟩,.slice D dn dc,.slice C cn cc,.slice G gn gc,.float .f64 wt] 27)=V:=⟨_,rfl⟩
 have HB : Hid (Below w.heap.size w V):=alloc_low hV
 have HY:=Lib.hid (fun W (h : Below V.heap.size V W)=>cell_six hV h)
 rw [hb] at HY
 obtain ⟨y0,y1,y2,y3,y4,y5⟩:=HY.out _ (Below.refl _ _)
 have HD : Hid (Pg.DRow V D deps):=drowD_below hd HB.out
 have HG : Hid (GRow V G prov):=Rg.row_below hg HB.out
 have HM : Hid (MaxOk V):=maxOk_below hw HB.out
 have HA:=Lib.hid (fewAtoms6_any C cn cc confl V HM.out hcn (arow_below hc HB.out) (by unfold maxLen;exact f5) f6)
 have HDN:=Lib.hid hdn
 have HGN:=Lib.hid hgn
 have HF4:=Lib.hid f4
 have HF8:=Lib.hid f8
 have HR:=Lib.hid hR
 have HBb : Hid (Below b w V):=by show Below _ _ _;rw [← hb];exact HB.out
 clear hw hd hdn hc hcn hg hgn hR f4 f6 f8
 by_cases h0 : 100 < nm.length
 ·have HX : Hid (R=false):=by
   show _=_
   rw [← HR.out,decide_eq_false (p:=nm.length≤100) (by omega)];simp
  have p0 : (100 : Int) < (nm.length : Int):=by omega
  clear h0
  go_enter Tryz.func10,Tryz.ntmps10
  go_wp2_with fail
  go_ret
  exact ⟨by rw [HX.out];rfl,HBb.out⟩
 have p0 : ¬ (100 : Int) < (nm.length : Int):=by omega
 by_cases h1 : 100 < vr.length
 ·have HX : Hid (R=false):=by
   show _=_
   rw [← HR.out,decide_eq_false (p:=vr.length≤100) (by omega)];simp
  have p1 : (100 : Int) < (vr.length : Int):=by omega
  clear h1
  go_enter Tryz.func10,Tryz.ntmps10
  go_wp2_with fail
  go_ret
  exact ⟨by rw [HX.out];rfl,HBb.out⟩
 have p1 : ¬ (100 : Int) < (vr.length : Int):=by omega
 by_cases h2 : 30 < dn
 ·have HX : Hid (R=false):=by
   show _=_
   rw [← HR.out,decide_eq_false (p:=dn≤30) (by omega)];simp
  have p2 : (30 : Int) < (dn : Int):=by omega
  clear h2
  go_enter Tryz.func10,Tryz.ntmps10
  go_wp2_with fail
  go_ret
  exact ⟨by rw [HX.out];rfl,HBb.out⟩
 have p2 : ¬ (30 : Int) < (dn : Int):=by omega
 by_cases h3 : 30 < gn
 ·have HX : Hid (R=false):=by
   show _=_
   rw [← HR.out,decide_eq_false (p:=gn≤30) (by omega)];simp
  have p3 : (30 : Int) < (gn : Int):=by omega
  clear h3
  go_enter Tryz.func10,Tryz.ntmps10
  go_wp2_with fail
  go_ret
  exact ⟨by rw [HX.out];rfl,HBb.out⟩
 have p3 : ¬ (30 : Int) < (gn : Int):=by omega
 have HX : Hid ((fewAs confl && (deps.all fewAs && prov.all fewG))=R):=by
  show _=_
  rw [← HR.out,decide_eq_true (p:=nm.length≤100) (by omega),decide_eq_true (p:=vr.length≤100) (by omega),decide_eq_true (p:=dn≤30) (by omega),decide_eq_true (p:=gn≤30) (by omega)];rfl
 obtain ⟨x,hx⟩ : ∃ x,fewAs confl=x:=⟨_,rfl⟩
 rw [hx] at HX HA
 have hd30 : dn≤30:=by omega
 have hg30 : gn≤30:=by omega
 clear hx h0 h1 h2 h3 HR
 go_enter Tryz.func10,Tryz.ntmps10
 go_wp2_with fail
 clear hV hb
 refine HA.out.mono ?_
 rintro _ u1 ⟨rfl,hb1⟩
 have HV1:=Lib.hid hb1
 clear hb1 HA y0 y1 y2 y3 y4 y5
 cases x
 ·have HF : Hid (R=false):=by show _=_;rw [← HX.out];rfl
  go_wp2_with fail
  go_ret
  exact ⟨by rw [HF.out];rfl,HB.out.trans (HV1.out.mono HB.out.size)⟩
 have HX2 : Hid ((deps.all fewAs && prov.all fewG)=R):=by show _=_;rw [← HX.out];rfl
 clear HX
 go_wp2_with fail
 go_loopw [3] (fun i wr=>∃ k : Nat,k≤dn∧i = .int .i64 k∧Hid ((deps.take k).all fewAs=true)∧Hid (Below V.heap.size V wr)) (fun i _=>dn - (intOf i).toNat)
 case atStart=>exact ⟨0,Nat.zero_le _,rfl,rfl,HV1.out⟩
 case round =>
  obtain ⟨k,hk,rfl,HH,HBW⟩:=hrel
  obtain ⟨y0,y1,y2,y3,y4,y5⟩:=HY.out _ HBW.out
  by_cases hlt : k < dn
  ·have hlr : k < deps.length:=by rw [HDN.out];exact hlt
   obtain ⟨ad,C1,m,d,rfl,hm,hs,hc⟩:=drowD_at HD.out k hlr
   have q0:=hc _ HBW.out
   have hff:=HF4.out _ (List.getElem_mem hlr)
   obtain ⟨a,ha⟩ : ∃ a,deps[k]=a:=⟨_,rfl⟩
   have h1:=all_step fewAs deps k hlr ha HH.out
   have h2 : fewAs a=false → deps.all fewAs=false:=fun h=>all_no hlr ha h
   rw [ha] at hm hs hff
   have HT:=Lib.hid (fewAtoms6_any C1 m d a wr (maxOk_below HM.out HBW.out) hm (arow_below hs HBW.out) (by rw [← hm];exact hff.1) hff.2)
   have H1:=Lib.hid h1
   have H2:=Lib.hid h2
   clear hc ha hm hs hff h1 h2
   obtain ⟨x,hx⟩ : ∃ x,fewAs a=x:=⟨_,rfl⟩
   rw [hx] at HT H1 H2
   clear hx
   go_wp2_with fail
   refine HT.out.mono ?_
   rintro _ u2 ⟨rfl,hs2⟩
   have HB2 : Hid (Below V.heap.size V u2):=HBW.out.trans (hs2.mono HBW.out.size)
   clear hs2 HT y0 y1 y2 y3 y4 y5 q0
   cases x
   ·have HF0 : Hid (R=false):=by show _=_;rw [← HX2.out,H2.out rfl];rfl
    go_wp2_with fail
    go_ret
    exact ⟨by rw [HF0.out];rfl,HB.out.trans (HB2.out.mono HB.out.size)⟩
   ·have HH2 : Hid ((deps.take (k + 1)).all fewAs=true):=H1.out
    clear H1 H2
    go_wp2_with fail
    go_roundw
    case rel=>exact ⟨k + 1,by omega,by go_num,HH2,HB2⟩
    case measure=>simp [intOf];omega
  ·obtain rfl : k=dn:=by omega
   have HX3 : Hid (prov.all fewG=R):=by
    have h:=HH.out
    rw [List.take_of_length_le (by rw [HDN.out];exact Nat.le_refl _)] at h
    show _=_
    rw [← HX2.out,h];rfl
   clear HX2 HH
   go_wp2_with fail
   clear y0 y1 y2 y3 y4 y5
   go_loopw [4] (fun i ws=>∃ j : Nat,j≤gn∧i = .int .i64 j∧Hid ((prov.take j).all fewG=true)∧Hid (Below V.heap.size V ws)) (fun i _=>gn - (intOf i).toNat)
   case atStart=>exact ⟨0,Nat.zero_le _,rfl,rfl,HBW⟩
   case round =>
    obtain ⟨j,hj,rfl,HH,HBS⟩:=hrel
    obtain ⟨y0,y1,y2,y3,y4,y5⟩:=HY.out _ HBS.out
    by_cases hlt : j < gn
    ·have hlr : j < prov.length:=by rw [HGN.out];exact hlt
     obtain ⟨ad,rfl,hc⟩:=grow_at HG.out j hlr
     obtain ⟨q0,q1⟩:=hc _ HBS.out
     have hff:=HF8.out _ (List.getElem_mem hlr)
     obtain ⟨a,ha⟩ : ∃ a,prov[j]=a:=⟨_,rfl⟩
     have h1:=all_step fewG prov j hlr ha HH.out
     have h2 : fewG a=false → prov.all fewG=false:=fun h=>all_no hlr ha h
     rw [ha] at q0 q1 hff
     obtain ⟨gnm,gvr⟩:=a
     dsimp only at q0 q1 hff
     obtain ⟨hf1,hf2⟩:=hff
     unfold maxLen at hf1 hf2
     have H1:=Lib.hid h1
     have H2:=Lib.hid h2
     clear hc ha h1 h2
     by_cases g1 : 100 < gnm.length
     ·have HF0 : Hid (R=false):=by show _=_;rw [← HX3.out,H2.out (by unfold fewG;rw [decide_eq_false (p:=gnm.length≤100) (by omega)];rfl)]
      have p0 : (100 : Int) < (gnm.length : Int):=by omega
      clear g1
      go_wp2_with fail
      go_ret
      exact ⟨by rw [HF0.out];rfl,HB.out.trans (HBS.out.mono HB.out.size)⟩
     by_cases g2 : 100 < gvr.length
     ·have HF0 : Hid (R=false):=by show _=_;rw [← HX3.out,H2.out (by unfold fewG;rw [decide_eq_false (p:=gvr.length≤100) (by omega),Bool.and_false])]
      have p0 : ¬ (100 : Int) < (gnm.length : Int):=by omega
      have p1 : (100 : Int) < (gvr.length : Int):=by omega
      clear g1 g2
      go_wp2_with fail
      go_ret
      exact ⟨by rw [HF0.out];rfl,HB.out.trans (HBS.out.mono HB.out.size)⟩
     have HH2 : Hid ((prov.take (j + 1)).all fewG=true):=by
      show _=_
      rw [H1.out];unfold fewG;rw [decide_eq_true (p:=gnm.length≤100) (by omega),decide_eq_true (p:=gvr.length≤100) (by omega)];rfl
     have p0 : ¬ (100 : Int) < (gnm.length : Int):=by omega
     have p1 : ¬ (100 : Int) < (gvr.length : Int):=by omega
     clear g1 g2 H1 H2
     go_wp2_with fail
     go_roundw
     case rel=>exact ⟨j + 1,by omega,by go_num,HH2,HBS⟩
     case measure=>simp [intOf];omega
    ·obtain rfl : j=gn:=by omega
     have HF0 : Hid (R=true):=by
      have h:=HH.out
      rw [List.take_of_length_le (by rw [HGN.out];exact Nat.le_refl _)] at h
      show _=_
      rw [← HX3.out,h]
     go_wp2_with fail
     go_ret
     exact ⟨by rw [HF0.out];rfl,HB.out.trans (HBS.out.mono HB.out.size)⟩
theorem Pg.cutIs_le (t : List UInt8) : (Lib.cut t [32,61,32]).1.length≤t.length:=by
 unfold Lib.cut
 split
 ·show (t.take _).length≤_
  rw [List.length_take];omega
 ·exact Nat.le_refl _
theorem valueGive_ret (t : List UInt8) (i : Int) (w : World) (hw : MaxOk w) (ht : t.length≤1000) :
  Calls Tryz.prog 162 #[.agg #[.string ⟨t.toArray⟩,.int .i64 i]] w fun r w'=>Below w.heap.size w w'∧match gvR t with
   | .ok a=>r = .returned (.agg #[.string ⟨a.name.toArray⟩,.string ⟨a.ver.toArray⟩])
   | .error k=>r=panAt i k :=
 (valueGive_any t i w hw (by omega) (Nat.le_trans (Nat.le_trans (cutIs_le t) ht) (by decide))).mono fun r w' ⟨h1,h2⟩=>by
  refine ⟨h2,?_⟩
  rw [gvR_giveR] at h1
  cases h : gvR t with
  | ok a=>rw [h] at h1;exact h1
  | error k=>rw [h] at h1;exact h1
theorem Pg.sliceG : Rg.SliceT Tryz.prog encG 2 32 72:=⟨fitsG,by decide,by kernel_rfl,Rg.info_of (z:=.agg #[.string ByteArray.empty,.string ByteArray.empty]) (b:=32) (by kernel_rfl) (by rfl) (by decide)⟩
theorem Pg.gown_row {w : World} {B : Nat} {T : TypeId} {v : Value} {l : List Gv} (h : Rg.Own encG 2 w B T v l) : ∃ A c,v = .slice A l.length c∧GRow w A l∧∀ a,A=some a → B≤a.block:=by
 obtain ⟨A,c,hv,hr,_,_⟩:=Rg.row_own fitsG h
 exact ⟨A,c,hv,hr,fun a ha=>by subst ha;exact (Rg.own_lt h a.block (by rw [hv];rfl)).1⟩
theorem partsGives_any (t sep : List UInt8) (i : Int) (most : Nat) (w : World) (hw : MaxOk w) (ht : t.length≤1000) (h1 : 1≤sep.length) (hmo : most≤100) :
  Calls Tryz.prog 161 #[.agg #[.string ⟨t.toArray⟩,.int .i64 i],.string ⟨sep.toArray⟩,.int .i64 most,.func (.func 162) #[] #[]] w (Pg.PartsRet GRow w i (partsR gvR sep most t)):=by
 obtain ⟨R,hR⟩ : ∃ R,partsR gvR sep most t=R:=⟨_,rfl⟩
 rw [hR]
 unfold partsR at hR
 obtain ⟨V,hV⟩ : ∃ V,w.alloc (.cells #[.string ⟨t.toArray⟩,.int .i64 i] 170)=V:=⟨_,rfl⟩
 have HB : Hid (Below w.heap.size w V):=alloc_low hV
 have HP:=Lib.hid (fun W (h : Below V.heap.size V W)=>cell_pair hV h)
 have HM:=Lib.hid (fun W (h : Below V.heap.size V W)=>maxOk_below (maxOk_below hw HB.out) h)
 have HC : Hid (Calls Tryz.prog 204 #[.string ⟨t.toArray⟩,.string ⟨sep.toArray⟩,.int .i64 ((most : Int) + 1)] V fun e w'=>∃ A m c,e = .returned (.slice A m c)∧(Lib.splitN t sep (most + 1)).length=m∧m≤1000∧Rg.Row encT 1 w' A (Lib.splitN t sep (most + 1))∧Below V.heap.size V w') :=
  splitN_any t sep (most + 1) V (HM.out _ (Below.refl _ _)) (by omega) h1 (by omega) (by omega)
 have hpl : ∀ p ∈ Lib.split t sep,p.length≤1000:=fun p hp=>Nat.le_trans (piece_le sep _ t p hp) ht
 obtain ⟨f1,f2⟩:=splitN_few (s:=t) (sep:=sep) (fun e=>by rw [e] at h1;simp at h1) most
 obtain ⟨ps,hps⟩ : ∃ ps,Lib.split t sep=ps:=⟨_,rfl⟩
 obtain ⟨qs,hqs⟩ : ∃ ps,Lib.splitN t sep (most + 1)=ps:=⟨_,rfl⟩
 rw [hps] at hR f1 f2 hpl
 rw [hqs] at f1 f2 HC
 have iw : IntKind.i64.wrap ((most : Int) + 1)=(most : Int) + 1:=IntWalk.i64_in _ (by omega)
 obtain ⟨c0,c1⟩:=HP.out _ (Below.refl _ _)
 have HR:=Lib.hid hR
 have HF1:=Lib.hid f1
 have HF2:=Lib.hid f2
 have HPL:=Lib.hid hpl
 clear hw hR hpl f1 f2 hps hqs
 go_enter Tryz.func161,Tryz.ntmps161
 go_wp2_with fail
 clear hV
 refine HC.out.mono ?_
 rintro _ z1 ⟨A,n,c,rfl,hn,hnl,hrow,hb1⟩
 have HN:=Lib.hid hn
 have HROW:=Lib.hid hrow
 have HB1:=Lib.hid hb1
 clear hn hrow hb1 HC c0 c1 iw
 obtain ⟨c0,c1⟩:=HP.out _ HB1.out
 by_cases hlm : n≤most
 case neg =>
  have HR2 : Hid (R = .error 4):=by
   show _=_
   rw [← HR.out,if_neg]
   intro hh
   have:=HF1.out hh
   rw [this] at HN
   have:=HN.out
   omega
  have d0 : decide (n≤most)=false:=decide_eq_false hlm
  clear hlm
  go_wp2_with fail
  refine (valueRequire_any t i false 4 _).mono ?_
  rintro _ u ⟨rfl,hb⟩
  have HU : Hid (Below w.heap.size w u):=HB.out.trans ((HB1.out.trans (hb.mono HB1.out.size)).mono HB.out.size)
  clear hb
  go_wp2_with fail
  exact ⟨rfl,HU.out,by rw [HR2.out]⟩
 have hpq : qs=ps:=by
  rcases Nat.lt_or_ge most ps.length with h | h
  ·have:=HF2.out h
   have:=HN.out
   omega
  ·exact HF1.out h
 subst hpq
 have HR2 : Hid (rdL gvR [] qs=R):=by
  show _=_
  rw [← HR.out,if_pos (by rw [HN.out];exact hlm)]
 have d0 : decide (n≤most)=true:=decide_eq_true hlm
 clear hlm HF1 HF2 HR
 go_wp2_with fail
 refine (valueRequire_any t i true 4 _).mono ?_
 rintro _ z2 ⟨rfl,hb⟩
 have HB2 : Hid (Below V.heap.size V z2):=HB1.out.trans (hb.mono HB1.out.size)
 have HROW2:=Lib.hid (Rg.row_below HROW.out hb)
 clear hb HROW d0 c0 c1 HB1
 go_wp2_with fail
 go_loopw [10,27] (fun v i wr=>∃ (k : Nat) (acc : List Gv),k≤n∧i = .int .i64 k∧Hid (Rg.Own encG 2 wr z2.heap.size 72 v acc)∧Hid (Below z2.heap.size z2 wr∧z2.heap.size≤wr.heap.size)∧Hid (acc.length=k)∧Hid (rdL gvR acc (qs.drop k)=R)) (fun _ i _=>n - (intOf i).toNat)
 case atStart=>exact ⟨0,[],Nat.zero_le _,rfl,Rg.own_nil _ _ _,⟨Below.refl _ _,Nat.le_refl _⟩,rfl,by show rdL _ _ (qs.drop 0)=R;rw [List.drop_zero,HR2.out]⟩
 case round =>
  obtain ⟨k,acc,hk,rfl,HO,HBW,HA,HE⟩:=hrel
  have HVW : Hid (Below V.heap.size V wr):=HB2.out.trans (HBW.out.1.mono HB2.out.size)
  by_cases hlt : k < n
  ·have HLT:=Lib.hid hlt
   have hlr : k < qs.length:=by rw [HN.out];exact hlt
   obtain ⟨ad,rfl,_,q0⟩:=txt_at (Rg.row_below HROW2.out HBW.out.1) k hlr
   have hpp:=HPL.out _ (List.getElem_mem hlr)
   have he:=HE.out
   rw [List.drop_eq_getElem_cons hlr] at he
   obtain ⟨p,hp⟩ : ∃ p,qs[k]=p:=⟨_,rfl⟩
   rw [hp] at hpp he q0
   have HSZ : Hid (acc.length + 1≤1000000):=by have h1:=HA.out;show _≤_;omega
   have HPC:=Lib.hid (valueGive_ret p i wr (HM.out _ HVW.out) hpp)
   obtain ⟨c0,c1⟩:=HP.out _ HVW.out
   obtain ⟨E,hE⟩ : ∃ E,gvR p=E:=⟨_,rfl⟩
   rw [hE] at HPC
   cases E with
   | error e =>
    have HR3 : Hid (R = .error e):=by show _=_;rw [← he];exact rdL_error hE
    clear he hp hpp hE
    go_wp2_with fail
    refine HPC.out.mono ?_
    rintro e z3 ⟨hb,rfl⟩
    have HBU : Hid (Below w.heap.size w z3):=HB.out.trans ((HVW.out.trans (hb.mono HVW.out.size)).mono HB.out.size)
    clear hb
    go_wp2_with fail
    exact ⟨rfl,HBU.out,by rw [HR3.out]⟩
   | ok a =>
    have HE2 : Hid (rdL gvR (acc ++ [a]) (qs.drop (k + 1))=R):=by show _=_;rw [← he];exact (rdL_ok hE).symm
    clear he hp hpp hE
    go_wp2_with fail
    refine HPC.out.mono ?_
    rintro e z3 ⟨hb,rfl⟩
    have HBU:=Lib.hid hb
    clear hb c0 c1 q0 HPC
    go_wp2_with (at_builtin;refine Rg.wpList_app sliceG rfl (.tmp 31) (.tmp 38) rfl z2.heap.size _ acc [a] rfl (Rg.own_below HO.out (HBU.out.alloc HBU.out.size _)) _ _ rfl (Rg.news_new z3 _ _ _ (by rfl)) (Nat.zero_lt_succ _) HSZ.out ?b2 ?_)
    case b2=>have:=HBW.out.2;have:=HBU.out.size;simp;omega
    intro v5 W5 ho5 hg5 hz5
    have hal : Below wr.heap.size wr (z3.alloc (.cells #[.string ⟨a.name.toArray⟩,.string ⟨a.ver.toArray⟩] 72)):=HBU.out.alloc HBU.out.size _
    have HO5 : Hid (Rg.Own encG 2 W5 z2.heap.size 72 v5 (acc ++ [a])):=ho5
    have HB5 : Hid (Below z2.heap.size z2 W5∧z2.heap.size≤W5.heap.size):=by
     have h2:=HBW.out.1.trans ((hal.mono HBW.out.2).trans (Rg.grown_below (Rg.own_below HO.out hal) (Nat.le_trans HBW.out.2 hal.size) hg5))
     exact ⟨h2,h2.size⟩
    clear ho5 hg5 hz5 hal HO HBU HBW HVW
    go_wp2_with fail
    go_roundw
    case rel=>exact ⟨k + 1,acc ++ [a],(by have:=HLT.out;omega),by go_num,HO5,HB5,by show (acc ++ [a]).length=_;rw [List.length_append,HA.out];rfl,HE2⟩
    case measure=>have:=HLT.out;simp [intOf];omega
  ·obtain rfl : k=n:=by omega
   have HR3 : Hid (R = .ok acc):=by show _=_;rw [← HE.out,List.drop_eq_nil_of_le (by rw [HN.out];exact Nat.le_refl _)];rfl
   obtain ⟨C,d,rfl,hrw,hf⟩:=gown_row HO.out
   have HRW:=Lib.hid hrw
   have HF:=Lib.hid hf
   clear hrw hf
   go_wp2_with fail
   go_ret
   refine ⟨HB.out.trans (HVW.out.mono HB.out.size),?_⟩
   rw [HR3.out]
   exact ⟨C,_,d,rfl,rfl,HRW.out,fun a ha=>Nat.le_trans (Nat.le_trans HB.out.size HB2.out.size) (HF.out a ha)⟩
def Pg.DFresh (B : Nat) (ds : List Desc) : Prop:=∀ (i : Nat) (d : Desc),ds[i]? = some d → ∀ a,d.1=some a → B≤a.block
def Pg.DRowF (B : Nat) (w : World) (A : Option Addr) (t : List (List Atm)) : Prop:=∃ ds,Rg.Row encO 1 w A ds∧DIn w ds t∧DFresh B ds
theorem Pg.drowF_mono {B B' : Nat} {w : World} {A : Option Addr} {t : List (List Atm)} (h : Pg.DRowF B w A t) (hB : B'≤B) : Pg.DRowF B' w A t:=by
 obtain ⟨ds,h1,h2,h3⟩:=h
 exact ⟨ds,h1,h2,fun i d e a ha=>Nat.le_trans hB (h3 i d e a ha)⟩
theorem Pg.drowF_row {B : Nat} {w : World} {A : Option Addr} {t : List (List Atm)} (h : Pg.DRowF B w A t) : Pg.DRow w A t:=by
 obtain ⟨ds,h1,h2,_⟩:=h
 exact ⟨ds,h1,h2⟩
def Pg.DOwnF (w : World) (B : Nat) (T : TypeId) (v : Value) (ds : List Desc) (t : List (List Atm)) : Prop:=Rg.Own encO 1 w B T v ds∧DIn w ds t∧DFresh B ds∧Pure IsSl w v
theorem Pg.down_nil (w : World) (B : Nat) (T : TypeId) : DOwnF w B T (.slice none 0 0) [] []:=⟨Rg.own_nil _ _ _,⟨rfl,fun i a d h=>by simp at h⟩,fun i a h=>by simp at h,pure_nil _ _⟩
theorem Pg.down_below {w w' : World} {B : Nat} {T : TypeId} {v : Value} {ds : List Desc} {t : List (List Atm)} (h : DOwnF w B T v ds t) (hb : Below w.heap.size w w') : DOwnF w' B T v ds t:=⟨Rg.own_below h.1 hb,din_below h.2.1 hb,h.2.2.1,pure_below h.2.2.2 h.1 hb⟩
theorem Pg.arow_pure {w w' : World} {v : Value} {A : Option Addr} {l : List Atm} (h : ARow w A l) (hp : Pure IsSl w v) (hb : But v.ownBlock w w') : ARow w' A l:=by
 refine arow_but h hb ?_ fun g hg j x hx=>sl_nob (hp g hg j x hx)
 cases hv : v.ownBlock with
 | none=>exact fun _ a _ e=>by cases e
 | some g=>exact arow_sl h (hp g hv)
theorem Pg.down_add {w w' : World} {B : Nat} {T : TypeId} {v v' : Value} {ds : List Desc} {t : List (List Atm)} {C : Option Addr} {m c : Nat} {l : List Atm} (h : DOwnF w B T v ds t) (hr : ARow w C l) (hm : l.length=m) (hf : ∀ a,C=some a → B≤a.block) (ho : Rg.Own encO 1 w' B T v' (ds ++ [(C,m,c)])) (hp : Pure IsSl w' v') (hg : w.grownBy w' v.ownBlock) : DOwnF w' B T v' (ds ++ [(C,m,c)]) (t ++ [l]):=by
 have hb : But v.ownBlock w w':=but_grown hg
 refine ⟨ho,⟨by rw [List.length_append,List.length_append,h.2.1.1];rfl,fun i x y e1 e2=>?_⟩,fun i x e1=>?_,hp⟩
 ·rcases get_snoc e1 with ⟨q1,q2⟩ | ⟨q1,q2⟩
  ·rcases get_snoc e2 with ⟨_,p2⟩ | ⟨p1,_⟩
   ·exact ⟨(h.2.1.2 i x y q2 p2).1,arow_pure (h.2.1.2 i x y q2 p2).2 h.2.2.2 hb⟩
   ·have:=h.2.1.1;omega
  ·rcases get_snoc e2 with ⟨p1,_⟩ | ⟨_,p2⟩
   ·have:=h.2.1.1;omega
   ·subst q2 p2;exact ⟨hm.symm,arow_pure hr h.2.2.2 hb⟩
 ·rcases get_snoc e1 with ⟨q1,q2⟩ | ⟨q1,q2⟩
  ·exact h.2.2.1 i x q2
  ·subst q2;exact hf
theorem Pg.down_row {w : World} {B : Nat} {T : TypeId} {v : Value} {ds : List Desc} {t : List (List Atm)} (h : DOwnF w B T v ds t) : ∃ A c,v = .slice A t.length c∧Pg.DRowF B w A t∧∀ a,A=some a → B≤a.block:=by
 obtain ⟨A,c,hv,hr,_,_⟩:=Rg.row_own fitsO h.1
 rw [h.2.1.1] at hv
 exact ⟨A,c,hv,⟨ds,hr,h.2.1,h.2.2.1⟩,fun a ha=>by subst ha;exact (Rg.own_lt h.1 a.block (by rw [hv];rfl)).1⟩
theorem Pg.sliceD6 : Rg.SliceT Tryz.prog encO 1 30 70:=⟨fitsO,by decide,by kernel_rfl,Rg.info_of (z:=.slice none 0 0) (b:=24) (by kernel_rfl) (by rfl) (by decide)⟩
theorem Pg.zeroD_sl : ∀ i,Tryz.prog.info? 70=some i → ∀ z,i.zero=some z → ∀ u ∈ z.cells,IsSl u:=zero_is (z0:=.slice none 0 0) (by kernel_rfl) (fun u hu=>by simp [Value.cells] at hu;exact ⟨_,_,_,hu⟩)
theorem Pg.encO_sl : ∀ x : Desc,∀ u ∈ encO x,IsSl u:=fun _ _ hu=>⟨_,_,_,List.mem_singleton.1 hu⟩
theorem valueDep_any (t : List UInt8) (i : Int) (w : World) (hw : MaxOk w) (ht : t.length≤1000) :
  Calls Tryz.prog 158 #[.agg #[.string ⟨t.toArray⟩,.int .i64 i]] w (Pg.PartsRet ARow w i (depR t)):=by
 obtain ⟨E,hE⟩ : ∃ E,depR t=E:=⟨_,rfl⟩
 rw [hE]
 obtain ⟨V,hV⟩ : ∃ V,w.alloc (.cells #[.string ⟨t.toArray⟩,.int .i64 i] 170)=V:=⟨_,rfl⟩
 have HB : Hid (Below w.heap.size w V):=alloc_low hV
 obtain ⟨c0,c1⟩:=cell_pair hV (Below.refl _ _)
 have HC : Hid (Calls Tryz.prog 159 #[.agg #[.string ⟨t.toArray⟩,.int .i64 i],.string ⟨#[32,111,114,32]⟩,.int .i64 8,.func (.func 160) #[] #[]] V (Pg.PartsRet ARow V i E)):=by
  have h:=partsAtoms_any t orT i 8 V (maxOk_below hw HB.out) ht (by decide) (by decide)
  rw [show partsR atomR orT 8 t=E from hE] at h
  exact h
 clear hw ht hE
 go_enter Tryz.func158,Tryz.ntmps158
 go_wp2_with fail
 clear hV
 refine HC.out.mono ?_
 rintro r u ⟨hb,hr⟩
 have HU : Hid (Below w.heap.size w u):=HB.out.trans (hb.mono HB.out.size)
 clear hb HC c0 c1
 cases E with
 | error k =>
  obtain rfl : r=panAt i k:=hr
  go_wp2_with fail
  exact ⟨rfl,HU.out,rfl⟩
 | ok l =>
  obtain ⟨A,n,c,rfl,hn,hrow,hf⟩:=hr
  have HN:=Lib.hid hn
  have HR:=Lib.hid hrow
  have HF : Hid (∀ a,A=some a → w.heap.size≤a.block):=fun a ha=>Nat.le_trans HB.out.size (hf a ha)
  clear hn hrow hf
  go_wp2_with fail
  go_ret
  exact ⟨HU.out,A,n,c,rfl,HN.out,HR.out,HF.out⟩
theorem partsDeps_any (t sep : List UInt8) (i : Int) (most : Nat) (w : World) (hw : MaxOk w) (ht : t.length≤1000) (h1 : 1≤sep.length) (hmo : most≤100) :
  Calls Tryz.prog 157 #[.agg #[.string ⟨t.toArray⟩,.int .i64 i],.string ⟨sep.toArray⟩,.int .i64 most,.func (.func 158) #[] #[]] w (Pg.PartsRet (fun u A l=>Pg.DRowF w.heap.size u A l) w i (partsR depR sep most t)):=by
 obtain ⟨R,hR⟩ : ∃ R,partsR depR sep most t=R:=⟨_,rfl⟩
 rw [hR]
 unfold partsR at hR
 obtain ⟨V,hV⟩ : ∃ V,w.alloc (.cells #[.string ⟨t.toArray⟩,.int .i64 i] 170)=V:=⟨_,rfl⟩
 have HB : Hid (Below w.heap.size w V):=alloc_low hV
 have HP:=Lib.hid (fun W (h : Below V.heap.size V W)=>cell_pair hV h)
 have HM:=Lib.hid (fun W (h : Below V.heap.size V W)=>maxOk_below (maxOk_below hw HB.out) h)
 have HC : Hid (Calls Tryz.prog 204 #[.string ⟨t.toArray⟩,.string ⟨sep.toArray⟩,.int .i64 ((most : Int) + 1)] V fun e w'=>∃ A m c,e = .returned (.slice A m c)∧(Lib.splitN t sep (most + 1)).length=m∧m≤1000∧Rg.Row encT 1 w' A (Lib.splitN t sep (most + 1))∧Below V.heap.size V w') :=
  splitN_any t sep (most + 1) V (HM.out _ (Below.refl _ _)) (by omega) h1 (by omega) (by omega)
 have hpl : ∀ p ∈ Lib.split t sep,p.length≤1000:=fun p hp=>Nat.le_trans (piece_le sep _ t p hp) ht
 obtain ⟨f1,f2⟩:=splitN_few (s:=t) (sep:=sep) (fun e=>by rw [e] at h1;simp at h1) most
 obtain ⟨ps,hps⟩ : ∃ ps,Lib.split t sep=ps:=⟨_,rfl⟩
 obtain ⟨qs,hqs⟩ : ∃ ps,Lib.splitN t sep (most + 1)=ps:=⟨_,rfl⟩
 rw [hps] at hR f1 f2 hpl
 rw [hqs] at f1 f2 HC
 have iw : IntKind.i64.wrap ((most : Int) + 1)=(most : Int) + 1:=IntWalk.i64_in _ (by omega)
 obtain ⟨c0,c1⟩:=HP.out _ (Below.refl _ _)
 have HR:=Lib.hid hR
 have HF1:=Lib.hid f1
 have HF2:=Lib.hid f2
 have HPL:=Lib.hid hpl
 clear hw hR hpl f1 f2 hps hqs
 go_enter Tryz.func157,Tryz.ntmps157
 go_wp2_with fail
 clear hV
 refine HC.out.mono ?_
 rintro _ z1 ⟨A,n,c,rfl,hn,hnl,hrow,hb1⟩
 have HN:=Lib.hid hn
 have HROW:=Lib.hid hrow
 have HB1:=Lib.hid hb1
 clear hn hrow hb1 HC c0 c1 iw
 obtain ⟨c0,c1⟩:=HP.out _ HB1.out
 by_cases hlm : n≤most
 case neg =>
  have HR2 : Hid (R = .error 4):=by
   show _=_
   rw [← HR.out,if_neg]
   intro hh
   have:=HF1.out hh
   rw [this] at HN
   have:=HN.out
   omega
  have d0 : decide (n≤most)=false:=decide_eq_false hlm
  clear hlm
  go_wp2_with fail
  refine (valueRequire_any t i false 4 _).mono ?_
  rintro _ u ⟨rfl,hb⟩
  have HU : Hid (Below w.heap.size w u):=HB.out.trans ((HB1.out.trans (hb.mono HB1.out.size)).mono HB.out.size)
  clear hb
  go_wp2_with fail
  exact ⟨rfl,HU.out,by rw [HR2.out]⟩
 have hpq : qs=ps:=by
  rcases Nat.lt_or_ge most ps.length with h | h
  ·have:=HF2.out h
   have:=HN.out
   omega
  ·exact HF1.out h
 subst hpq
 have HR2 : Hid (rdL depR [] qs=R):=by
  show _=_
  rw [← HR.out,if_pos (by rw [HN.out];exact hlm)]
 have d0 : decide (n≤most)=true:=decide_eq_true hlm
 clear hlm HF1 HF2 HR
 go_wp2_with fail
 refine (valueRequire_any t i true 4 _).mono ?_
 rintro _ z2 ⟨rfl,hb⟩
 have HB2 : Hid (Below V.heap.size V z2):=HB1.out.trans (hb.mono HB1.out.size)
 have HROW2:=Lib.hid (Rg.row_below HROW.out hb)
 clear hb HROW d0 c0 c1 HB1
 go_wp2_with fail
 go_loopw [10,27] (fun v i wr=>∃ (k : Nat) (acc : List (List Atm)) (ds : List Desc),k≤n∧i = .int .i64 k∧Hid (DOwnF wr z2.heap.size 70 v ds acc)∧Hid (Below z2.heap.size z2 wr∧z2.heap.size≤wr.heap.size)∧Hid (acc.length=k)∧Hid (rdL depR acc (qs.drop k)=R)) (fun _ i _=>n - (intOf i).toNat)
 case atStart=>exact ⟨0,[],[],Nat.zero_le _,rfl,down_nil _ _ _,⟨Below.refl _ _,Nat.le_refl _⟩,rfl,by show rdL _ _ (qs.drop 0)=R;rw [List.drop_zero,HR2.out]⟩
 case round =>
  obtain ⟨k,acc,ds,hk,rfl,HO,HBW,HA,HE⟩:=hrel
  have HVW : Hid (Below V.heap.size V wr):=HB2.out.trans (HBW.out.1.mono HB2.out.size)
  by_cases hlt : k < n
  ·have HLT:=Lib.hid hlt
   have hlr : k < qs.length:=by rw [HN.out];exact hlt
   obtain ⟨ad,rfl,_,q0⟩:=txt_at (Rg.row_below HROW2.out HBW.out.1) k hlr
   have hpp:=HPL.out _ (List.getElem_mem hlr)
   have he:=HE.out
   rw [List.drop_eq_getElem_cons hlr] at he
   obtain ⟨p,hp⟩ : ∃ p,qs[k]=p:=⟨_,rfl⟩
   rw [hp] at hpp he q0
   have HSZ : Hid (ds.length + 1≤1000000):=by have h1:=HA.out;have h2:=HO.out.2.1.1;show _≤_;omega
   have HPC:=Lib.hid (valueDep_any p i wr (HM.out _ HVW.out) hpp)
   obtain ⟨c0,c1⟩:=HP.out _ HVW.out
   obtain ⟨E,hE⟩ : ∃ E,depR p=E:=⟨_,rfl⟩
   rw [hE] at HPC
   cases E with
   | error e =>
    have HR3 : Hid (R = .error e):=by show _=_;rw [← he];exact rdL_error hE
    clear he hp hpp hE
    go_wp2_with fail
    refine HPC.out.mono ?_
    rintro e z3 ⟨hb,rfl⟩
    have HBU : Hid (Below w.heap.size w z3):=HB.out.trans ((HVW.out.trans (hb.mono HVW.out.size)).mono HB.out.size)
    clear hb
    go_wp2_with fail
    exact ⟨rfl,HBU.out,by rw [HR3.out]⟩
   | ok a =>
    have HE2 : Hid (rdL depR (acc ++ [a]) (qs.drop (k + 1))=R):=by show _=_;rw [← he];exact (rdL_ok hE).symm
    clear he hp hpp hE
    go_wp2_with fail
    refine HPC.out.mono ?_
    rintro e z3 ⟨hb,C,m,d,rfl,hm,hr,hfr⟩
    have HBU:=Lib.hid hb
    have HM3:=Lib.hid hm
    have HR3:=Lib.hid hr
    have HF3 : Hid (∀ a,C=some a → z2.heap.size≤a.block):=fun a ha=>Nat.le_trans HBW.out.2 (hfr a ha)
    clear hb hm hr hfr c0 c1 q0 HPC
    go_wp2_with (at_builtin;refine Pg.wpList_app_pure sliceD6 zeroD_sl encO_sl rfl (.tmp 31) (.tmp 38) rfl z2.heap.size _ ds [(C,m,d)] rfl (down_below HO.out (HBU.out.alloc HBU.out.size _)).1 (down_below HO.out (HBU.out.alloc HBU.out.size _)).2.2.2 _ _ rfl (Rg.news_new z3 _ [(C,m,d)] _ (by rfl)) (Nat.zero_lt_succ _) HSZ.out ?b2 ?_)
    case b2=>have:=HBW.out.2;have:=HBU.out.size;simp;omega
    intro v5 W5 ho5 hp5 hg5 hz5
    have hal : Below wr.heap.size wr (z3.alloc (.cells #[.slice C m d] 70)):=HBU.out.alloc HBU.out.size _
    have HO5:=Lib.hid (down_add (down_below HO.out hal) (arow_below HR3.out ((Below.refl _ _).alloc (Nat.le_refl _) _)) HM3.out HF3.out ho5 hp5 hg5)
    have HB5 : Hid (Below z2.heap.size z2 W5∧z2.heap.size≤W5.heap.size):=by
     have h2:=HBW.out.1.trans ((hal.mono HBW.out.2).trans (Rg.grown_below (down_below HO.out hal).1 (Nat.le_trans HBW.out.2 hal.size) hg5))
     exact ⟨h2,h2.size⟩
    clear ho5 hp5 hg5 hz5 hal HO HBU HBW HVW
    go_wp2_with fail
    go_roundw
    case rel=>exact ⟨k + 1,acc ++ [a],_,(by have:=HLT.out;omega),by go_num,HO5,HB5,by show (acc ++ [a]).length=_;rw [List.length_append,HA.out];rfl,HE2⟩
    case measure=>have:=HLT.out;simp [intOf];omega
  ·obtain rfl : k=n:=by omega
   have HR3 : Hid (R = .ok acc):=by show _=_;rw [← HE.out,List.drop_eq_nil_of_le (by rw [HN.out];exact Nat.le_refl _)];rfl
   obtain ⟨C,d,rfl,hrw,hf⟩:=down_row HO.out
   have HRW:=Lib.hid hrw
   have HF:=Lib.hid hf
   clear hrw hf
   go_wp2_with fail
   go_ret
   refine ⟨HB.out.trans (HVW.out.mono HB.out.size),?_⟩
   rw [HR3.out]
   exact ⟨C,_,d,rfl,rfl,drowF_mono HRW.out (Nat.le_trans HB.out.size HB2.out.size),fun a ha=>Nat.le_trans (Nat.le_trans HB.out.size HB2.out.size) (HF.out a ha)⟩
end Go.Proofs.YtkplahkkmmoppaaGreatDoor
namespace Go.Proofs.YtkplahkkmmoppaaGreatDoor
open Go.RowKit
namespace Wm
theorem dec_head (u : Nat) : ∃ c t,Lib.decDigits u=c :: t∧c ≠ 45:=by
 obtain ⟨⟨h1,h2,_⟩,_⟩:=dec_plain u u (Nat.le_refl _)
 cases h : Lib.decDigits u with
 | nil=>exact absurd h h1
 | cons c t =>
  refine ⟨c,t,rfl,?_⟩
  rw [h] at h2
  simp only [List.all_cons,Bool.and_eq_true] at h2
  intro hc;subst hc
  have:=h2.1;revert this;decide
theorem itoa_parts (z : Int) : sgnd (Lib.itoa z)=decide (z < 0)∧mgn (Lib.itoa z)=Lib.decDigits z.natAbs:=by
 unfold Lib.itoa
 split
 ·rename_i h
  refine ⟨by rw [decide_eq_true h];rfl,rfl⟩
 ·rename_i h
  obtain ⟨c,t,e,hc⟩:=dec_head z.toNat
  have hs : sgnd (Lib.decDigits z.toNat)=false:=by rw [e];unfold sgnd;simp [hc]
  refine ⟨by rw [hs,decide_eq_false h],?_⟩
  unfold mgn;rw [hs]
  rw [if_neg Bool.false_ne_true,show z.toNat=z.natAbs from by omega]
theorem itoa_decB (z : Int) : decB (Lib.itoa z)=true:=by
 rw [decB_iff]
 obtain ⟨h1,h2⟩:=itoa_parts z
 obtain ⟨p1,p2,_⟩:=dec_plain z.natAbs z.natAbs (Nat.le_refl _)
 unfold decOk
 rw [h1,h2]
 refine ⟨p1,fun h=>?_⟩
 rw [h] at p2
 have : Vm.num [48]=0:=by decide
 rw [this] at p2
 exact decide_eq_false (by omega)
theorem itoa_nmb (z : Int) (h1 : -9223372036854775808≤z) (h2 : z < 9223372036854775808) : nmb (Lib.itoa z)=z:=by
 obtain ⟨e1,e2⟩:=itoa_parts z
 obtain ⟨_,p2,_⟩:=dec_plain z.natAbs z.natAbs (Nat.le_refl _)
 unfold nmb
 rw [e1,e2,p2]
 by_cases h : z < 0
 ·rw [decide_eq_true h,if_pos rfl,if_pos (by omega)];omega
 ·rw [decide_eq_false h,if_neg Bool.false_ne_true,if_pos (by omega)];omega
theorem itoa_no (z : Int) (c : UInt8) (h : c ∈ Lib.itoa z) : c=45 ∨ Vm.dig c=true:=by
 obtain ⟨e1,e2⟩:=itoa_parts z
 obtain ⟨⟨_,p,_⟩,_⟩:=dec_plain z.natAbs z.natAbs (Nat.le_refl _)
 rw [List.all_eq_true] at p
 unfold Lib.itoa at h
 split at h
 ·rcases List.mem_cons.1 h with h | h
  ·exact Or.inl h
  ·exact Or.inr (p c h)
 ·rw [show z.toNat=z.natAbs from by omega] at h
  exact Or.inr (p c h)
theorem cut112 (a b : List UInt8) (h : ∀ c ∈ a,c ≠ 112) : Vm.has 112 (a ++ 112 :: b)=true∧Vm.fst 112 (a ++ 112 :: b)=a∧Vm.snd 112 (a ++ 112 :: b)=b:=by
 induction a with
 | nil=>refine ⟨?_,?_,?_⟩ <;> simp [Vm.has,Vm.fst,Vm.snd]
 | cons c t ih =>
  obtain ⟨i1,i2,i3⟩:=ih (fun x hx=>h x (List.mem_cons_of_mem _ hx))
  have hc : c ≠ 112:=h c (List.mem_cons_self ..)
  have hcb : (c != 112)=true:=by simp [hc]
  refine ⟨?_,?_,?_⟩
  ·unfold Vm.has at *;simp
  ·unfold Vm.fst at *;rw [List.cons_append,List.takeWhile_cons,hcb];simp only [if_true];rw [i2]
  ·unfold Vm.snd at *;rw [List.cons_append,List.dropWhile_cons,hcb];simp only [if_true];exact i3
end Wm
theorem lit_none (l : List UInt8) (h : Vm.has 112 l=true) : litW l=none:=by
 rcases lit_cases l with rfl | rfl | rfl | rfl | rfl | ⟨h1,h2,h3,h4,h5,_,_⟩
 ·exact absurd h (by decide)
 ·exact absurd h (by decide)
 ·exact absurd h (by decide)
 ·exact absurd h (by decide)
 ·exact absurd h (by decide)
 ·rw [beq_eq_false_iff_ne] at h1 h2 h3 h4 h5
  unfold litW;rw [if_neg h1,if_neg h2,if_neg h3,if_neg h4,if_neg h5]
theorem lastOdd_itoa (z : Int) (h : z.natAbs % 2=1) : lastOdd (Lib.itoa z)=true:=by
 obtain ⟨e1,e2⟩:=Wm.itoa_parts z
 obtain ⟨⟨p1,p2,_⟩,p3,_⟩:=Wm.dec_plain z.natAbs z.natAbs (Nat.le_refl _)
 have hlast : (Lib.itoa z).getLast? = (Lib.decDigits z.natAbs).getLast?:=by
  unfold Lib.itoa
  split
  ·cases hd : Lib.decDigits z.natAbs with
   | nil=>exact absurd hd p1
   | cons c t=>rfl
  ·rw [show z.toNat=z.natAbs from by omega]
 have hn:=Wm.num_last _ p1
 rw [p3,h] at hn
 have hdig : Vm.dig ((Lib.decDigits z.natAbs).getLast p1)=true:=by rw [List.all_eq_true] at p2;exact p2 _ (List.getLast_mem p1)
 rw [Wm.dig_iff] at hdig
 unfold lastOdd
 rw [hlast,List.getLast?_eq_some_getLast p1]
 simp only [Option.getD_some]
 rw [beq_iff_eq]
 omega
theorem parse_prod (n : Bool) {k : Nat} {e : Int} (ho : k % 2=1) (h2 : k < 2 ^ 53) (lo : -1074≤e) (hi : (k.log2 : Int) + e≤1023) :
  errW (Lib.itoa (Wm.sg n k) ++ 112 :: Lib.itoa e)=0∧outW (Lib.itoa (Wm.sg n k) ++ 112 :: Lib.itoa e)=Wm.word n (Wm.rungOf k e):=by
 have hsg : Wm.sg n k=if n then -(k : Int) else k:=by unfold Wm.sg;cases n <;> simp
 have hb : -9007199254740992 < Wm.sg n k∧Wm.sg n k < 9007199254740992:=by rw [hsg];cases n <;> simp <;> omega
 have hna : (Wm.sg n k).natAbs=k:=Wm.sg_nat n k
 obtain ⟨c1,c2,c3⟩:=Wm.cut112 (Lib.itoa (Wm.sg n k)) (Lib.itoa e) (fun c hc=>by
  rcases Wm.itoa_no _ c hc with rfl | h
  ·decide
  ·intro h3;subst h3;revert h;decide)
 have hl:=lit_none _ c1
 have hform : formOk (Lib.itoa (Wm.sg n k) ++ 112 :: Lib.itoa e)=true:=by
  unfold formOk
  rw [c1,c2,c3,Wm.itoa_decB,Wm.itoa_decB,lastOdd_itoa _ (by rw [hna];exact ho)];rfl
 have he2 : e≤1023:=by omega
 have hr : Wm.rangeOk (Wm.sg n k) e=true:=by
  rw [Wm.rangeOk_mid hb.1 hb.2,hna,decide_eq_true lo,decide_eq_true (by omega)];rfl
 have herr : prodErr (Lib.itoa (Wm.sg n k) ++ 112 :: Lib.itoa e)=0:=by
  unfold prodErr
  rw [hform,c2,c3,Wm.itoa_nmb _ (by omega) (by omega),Wm.itoa_nmb _ (by omega) (by omega),hr];rfl
 have herrW : errW (Lib.itoa (Wm.sg n k) ++ 112 :: Lib.itoa e)=0:=by unfold errW;rw [hl];exact herr
 refine ⟨herrW,?_⟩
 unfold outW
 rw [if_pos herrW]
 unfold valW prodOf
 rw [hl,if_pos herr,c2,c3,Wm.itoa_nmb _ (by omega) (by omega),Wm.itoa_nmb _ (by omega) (by omega)]
 unfold Wm.prodVal
 rw [hna]
 have hd : decide (Wm.sg n k < 0)=n:=by rw [hsg];cases n <;> simp <;> omega
 rw [hd];rfl
theorem parse_text (b : Nat) (hb : b < Wm.W) (hn : Wm.nan b=false) : errW (Wm.textW b)=0∧outW (Wm.textW b)=b:=by
 rcases kinds b hb with h | ⟨n,rfl⟩ | ⟨n,r,hf,rfl⟩ | ⟨n,rfl⟩
 ·rw [hn] at h;cases h
 ·cases n <;> exact ⟨by decide +kernel,by decide +kernel⟩
 ·rw [textW_fin n hf]
  obtain ⟨s1,s2,s3,s4,s5⟩:=Wm.kOf_spec hf.1 hf.2
  have:=parse_prod n s1 s2 s3 s4
  rw [s5] at this
  exact this
 ·cases n <;> exact ⟨by decide +kernel,by decide +kernel⟩
end Go.Proofs.YtkplahkkmmoppaaGreatDoor
