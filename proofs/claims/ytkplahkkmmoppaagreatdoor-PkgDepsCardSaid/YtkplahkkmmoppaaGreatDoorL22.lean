/- Part 22 of what the laws lean on. -/
import Derived.Test.YtkplahkkmmoppaaGreatDoorL21
set_option maxRecDepth 100000
set_option maxHeartbeats 3200000
namespace Go.Proofs.YtkplahkkmmoppaaGreatDoor
open Go.RowKit Rs At Pg
theorem cutEq_any (s : List UInt8) (w : World) (hm : MaxOk w) (hl : s.length≤1000000) :
  Calls Tryz.prog 181 #[.string ⟨s.toArray⟩,.string ⟨#[32,61,32]⟩] w fun e w'=>e = .returned (.tuple #[.string ⟨(Lib.cut s [32,61,32]).1.toArray⟩,.string ⟨(Lib.cut s [32,61,32]).2.1.toArray⟩,.bool (Lib.cut s [32,61,32]).2.2])∧Below w.heap.size w w':=by
 obtain ⟨m,hm⟩:=hm
 exact (Tryz.strings_Cut ⟨s.toArray⟩ ⟨#[32,61,32]⟩ m w (by show s.length < _;omega) hm).mono fun e w' ⟨h1,n,h2⟩=>⟨h1,h2 ▸ below_drewN (Below.refl _ _) n⟩
def Pg.giveR (t : List UInt8) (i : Int) : Ending :=
 if nameB (Lib.cut t [32,61,32]).1=true then
  if (Lib.cut t [32,61,32]).2.2=true then
   if Vm.check (Lib.cut t [32,61,32]).2.1=0 then .returned (.agg #[.string ⟨(Lib.cut t [32,61,32]).1.toArray⟩,.string ⟨(canonOf (Lib.cut t [32,61,32]).2.1).toArray⟩])
   else panAt i (Vm.check (Lib.cut t [32,61,32]).2.1)
  else .returned (.agg #[.string ⟨(Lib.cut t [32,61,32]).1.toArray⟩,.string ⟨#[]⟩])
 else panAt i 3
abbrev Pg.stG (u : World) (b : Nat) (n v : List UInt8) : World:=(u.setCell ⟨b,0,none⟩ (.string ⟨n.toArray⟩)).setCell ⟨b,1,none⟩ (.string ⟨v.toArray⟩)
theorem Pg.res_give {u : World} {b : Nat} {n v : List UInt8} {x y : Value} {tmps : Array Value} (k0 : u.cell? ⟨b,0,none⟩=some x) (k1 : u.cell? ⟨b,1,none⟩=some y) (h : tmps.getD 2 undef = .pointer (some ⟨b,0,none⟩)) :
  (results Tryz.f162 tmps).run Tryz.prog (stG u b n v) = .ok (.agg #[.string ⟨n.toArray⟩,.string ⟨v.toArray⟩]) (stG u b n v):=by
 have g0 : (stG u b n v).cell? ⟨b,0,none⟩=some (.string ⟨n.toArray⟩):=by simp [stG,go_sem,k0]
 have g1 : (stG u b n v).cell? ⟨b,1,none⟩=some (.string ⟨v.toArray⟩):=by simp [stG,go_sem,k1]
 have hr : Tryz.f162.results = #[.cell 2 72]:=Tryz.results162
 simp only [results,hr]
 generalize stG u b n v=V at *
 simp only [Array.getD_eq_getD_getElem?] at h ⊢
 simp [go_sem,h,g0,g1]
attribute [local go_sem ↓] Go.wp_at_zero Go.wp_at_succ
theorem valueGive_any (t : List UInt8) (i : Int) (w : World) (hw : MaxOk w) (ht : t.length≤1000000) (h1 : (Lib.cut t [32,61,32]).1.length≤281474976710656) :
  Calls Tryz.prog 162 #[.agg #[.string ⟨t.toArray⟩,.int .i64 i]] w fun r w'=>r=giveR t i∧Below w.heap.size w w':=by
 obtain ⟨E,hE⟩ : ∃ E,giveR t i=E:=⟨_,rfl⟩
 rw [hE]
 unfold giveR at hE
 obtain ⟨V,hV⟩ : ∃ V,w.alloc (.cells #[.string ⟨t.toArray⟩,.int .i64 i] 170)=V:=⟨_,rfl⟩
 obtain ⟨U,hU⟩ : ∃ U,V.alloc (.cells #[.string ⟨#[]⟩,.string ⟨#[]⟩] 72)=U:=⟨_,rfl⟩
 have HBV : Hid (Below w.heap.size w V):=alloc_low hV
 have HVU : Hid (Below V.heap.size V U):=alloc_low hU
 have HB : Hid (Below w.heap.size w U):=HBV.out.trans (HVU.out.mono HBV.out.size)
 have HP:=Lib.hid (fun W (h : Below U.heap.size U W)=>cell_pair hV (HVU.out.trans (h.mono HVU.out.size)))
 have HG:=Lib.hid (fun W (h : Below U.heap.size U W)=>cell_two hU h)
 have HC:=Lib.hid (cutEq_any t U (maxOk_below hw HB.out) ht)
 have HM:=Lib.hid (fun W (h : Below U.heap.size U W)=>maxOk_below (maxOk_below hw HB.out) h)
 have hlo : w.heap.size≤V.heap.size:=HBV.out.size
 have HLO:=Lib.hid hlo
 obtain ⟨c0,c1⟩:=HP.out _ (Below.refl _ _)
 generalize (Lib.cut t [32,61,32])=x at hE h1 HC
 obtain ⟨n,v,f⟩:=x
 dsimp only at hE h1 HC
 have HN:=Lib.hid (fun W=>valueName_any n i W h1)
 obtain ⟨y,hy⟩ : ∃ y,nameB n=y:=⟨_,rfl⟩
 rw [hy] at hE HN
 have HE:=Lib.hid hE
 clear hE hw ht h1 hy hlo
 go_enter Tryz.func162,Tryz.ntmps162
 go_wp2_with fail
 clear hV hU
 refine HC.out.mono ?_
 rintro _ u ⟨rfl,hb⟩
 have HUu:=Lib.hid hb
 clear hb HC c0 c1
 obtain ⟨c0,c1⟩:=HP.out _ HUu.out
 go_wp2_with fail
 refine (HN.out _).mono ?_
 rintro _ u2 ⟨rfl,hb⟩
 have HU2 : Hid (Below U.heap.size U u2):=HUu.out.trans (hb.mono HUu.out.size)
 have HW2 : Hid (Below w.heap.size w u2):=HB.out.trans (HU2.out.mono HB.out.size)
 clear hb HN c0 c1
 cases y
 ·have HF : Hid (panAt i 3=E):=HE.out
  go_wp2_with fail
  exact ⟨rfl,by rw [← HF.out],HW2.out⟩
 have hE : (if f=true then (if Vm.check v=0 then Ending.returned (.agg #[.string ⟨n.toArray⟩,.string ⟨(canonOf v).toArray⟩]) else panAt i (Vm.check v)) else .returned (.agg #[.string ⟨n.toArray⟩,.string ⟨#[]⟩]))=E:=HE.out
 clear HE
 have HE:=Lib.hid hE
 clear hE
 obtain ⟨G,hG⟩ : ∃ G,u2.alloc (.cells #[.string ⟨n.toArray⟩,.string ⟨#[]⟩] 72)=G:=⟨_,rfl⟩
 have HUG : Hid (Below U.heap.size U (G.setCell ⟨u2.heap.size,1,none⟩ (.string ⟨#[]⟩))):=(HU2.out.trans ((alloc_low hG).mono HU2.out.size)).setCell HU2.out.size _
 have HWG : Hid (Below w.heap.size w (G.setCell ⟨u2.heap.size,1,none⟩ (.string ⟨#[]⟩))):=HB.out.trans (HUG.out.mono HB.out.size)
 obtain ⟨g0,g1,y0,y1⟩:=cell_two hG (Below.refl _ _)
 obtain ⟨k0,k1,z0,z1⟩:=HG.out _ HUG.out
 cases f
 ·have HF : Hid (Ending.returned (.agg #[.string ⟨n.toArray⟩,.string ⟨#[]⟩])=E):=HE.out
  clear HE HP HG HM
  go_wp2_with fail
  (try simp only [Exit.inBlock,Exit.then])
  refine bodyPost_ret (res_give k0 k1 rfl) rfl ?_
  exact ⟨HF.out,(HWG.out.setCell HLO.out _).setCell HLO.out _⟩
 ·have hE : (if Vm.check v=0 then Ending.returned (.agg #[.string ⟨n.toArray⟩,.string ⟨(canonOf v).toArray⟩]) else panAt i (Vm.check v))=E:=HE.out
  obtain ⟨X,hX⟩ : ∃ X,G.setCell ⟨u2.heap.size,1,none⟩ (.string ⟨#[]⟩)=X:=⟨_,rfl⟩
  have q0 : X.cell? ⟨u2.heap.size,0,none⟩=some (.string ⟨n.toArray⟩):=by rw [← hX];simp [go_sem,g0]
  have q1 : X.cell? ⟨u2.heap.size,1,none⟩=some (.string ⟨#[]⟩):=by rw [← hX];simp [go_sem,g1]
  have r0 : X.frozen? ⟨u2.heap.size,0,none⟩=false:=by rw [← hX];simp [go_sem,y0]
  have r1 : X.frozen? ⟨u2.heap.size,1,none⟩=false:=by rw [← hX];simp [go_sem,y1]
  have hlt : u2.heap.size < X.heap.size:=by rw [← hX,← hG];simp [go_sem]
  rw [hX] at HUG HWG
  have HV:=Lib.hid (valueVersion_any v i X (HM.out _ HUG.out))
  obtain ⟨cv,hcv⟩ : ∃ c,canonOf v=c:=⟨_,rfl⟩
  obtain ⟨k,hk⟩ : ∃ k,Vm.check v=k:=⟨_,rfl⟩
  rw [hcv,hk] at HV hE
  have HQ:=Lib.hid (fun (W : World) (h : Below X.heap.size X W)=>(⟨(h.cell hlt).trans q0,(h.cell hlt).trans q1,(h.frozen hlt).trans r0,(h.frozen hlt).trans r1⟩ : W.cell? ⟨u2.heap.size,0,none⟩=some (.string ⟨n.toArray⟩)∧W.cell? ⟨u2.heap.size,1,none⟩=some (.string ⟨#[]⟩)∧W.frozen? ⟨u2.heap.size,0,none⟩=false∧W.frozen? ⟨u2.heap.size,1,none⟩=false))
  obtain ⟨c0,c1⟩:=HP.out _ HUG.out
  clear HE HP HM q0 q1 r0 r1 hlt hcv hk k0 k1 z0 z1
  go_wp2_with fail
  clear hX hG g0 g1 y0 y1 c0 c1
  refine HV.out.mono ?_
  rintro _ u3 ⟨rfl,hb⟩
  obtain ⟨p0,p1,s0,s1⟩:=HQ.out _ hb
  have HU3 : Hid (Below U.heap.size U u3):=HUG.out.trans (hb.mono HUG.out.size)
  have HW3 : Hid (Below w.heap.size w u3):=HWG.out.trans (hb.mono HWG.out.size)
  clear hb HQ HV
  by_cases h0 : k=0
  ·subst h0
   rw [if_pos rfl]
   rw [if_pos rfl] at hE
   have HF:=Lib.hid hE
   have HX3 : Hid (Below U.heap.size U (u3.setCell ⟨u2.heap.size,1,none⟩ (.string ⟨cv.toArray⟩))):=HU3.out.setCell HU2.out.size _
   obtain ⟨k0,k1,z0,z1⟩:=HG.out _ HX3.out
   clear hE HG
   go_wp2_with fail
   (try simp only [Exit.inBlock,Exit.then])
   refine bodyPost_ret (res_give k0 k1 rfl) rfl ?_
   exact ⟨HF.out,((HW3.out.setCell HW2.out.size _).setCell HLO.out _).setCell HLO.out _⟩
  ·rw [if_neg h0]
   rw [if_neg h0] at hE
   have HF:=Lib.hid hE
   clear hE h0 HG
   go_wp2_with fail
   exact ⟨rfl,HF.out,HW3.out⟩
end Go.Proofs.YtkplahkkmmoppaaGreatDoor
namespace Go.Proofs.YtkplahkkmmoppaaGreatDoor
open Go.RowKit Rs At Pg
namespace Pg
def Pure (κ : Value → Prop) (w : World) (v : Value) : Prop:=∀ g,v.ownBlock=some g → ∀ j u,w.cell? ⟨g,j,none⟩=some u → κ u
def NoB (u : Value) : Prop:=∀ b,u ≠ .bool b
def IsSl (u : Value) : Prop:=∃ A n c,u = .slice A n c
theorem pure_nil (κ : Value → Prop) (w : World) : Pure κ w (.slice none 0 0):=fun g h=>by cases h
theorem pure_below {α : Type} {enc : α → List Value} {K B : Nat} {T : TypeId} {κ : Value → Prop} {w w' : World} {v : Value} {l : List α} (h : Pure κ w v) (ho : Rg.Own enc K w B T v l) (hb : Below w.heap.size w w') : Pure κ w' v:=fun g hg j u hu=>by
 have hlt:=(Rg.own_lt ho g hg).2
 rw [World.cell?_of_block (hb.block _ hlt)] at hu
 exact h g hg j u hu
theorem zero_kind {κ : Value → Prop} {z : Array Value} (hz : ∀ u ∈ z,κ u) (n : Nat) : ∀ u ∈ Builtin.zeroCells z n,κ u:=fun u hu=>by
 unfold Builtin.zeroCells at hu
 rw [Array.mem_map] at hu
 obtain ⟨i,hi,rfl⟩:=hu
 have h0 : 0 < z.size:=by
  rcases Nat.eq_zero_or_pos z.size with h | h
  ·rw [h] at hi;simp at hi
  ·exact h
 have hm : i % z.size < z.size:=Nat.mod_lt _ h0
 rw [getElem!_pos z (i % z.size) hm]
 exact hz _ (Array.getElem_mem hm)
theorem new_kind {κ : Value → Prop} {w : World} {cs : Array Value} {e : TypeId} {n c : Nat} (hc : ∀ u ∈ cs,κ u) : Pure κ (w.drew.alloc (.cells cs e)) (.slice (some ⟨w.heap.size,0,none⟩) n c):=fun g hg j u hu=>by
 cases hg
 rw [cell_of_row (w.drew.alloc (.cells cs e)) w.heap.size j cs e (0,0) (heap_alloc_new w.drew _)] at hu
 exact hc u (Array.mem_of_getElem? hu)
theorem pure_run {P : Program} {κ : Value → Prop} {w w' : World} {v v' : Value} (t ty : TypeId) (base : Nat) (e : TypeId) (i : TypeInfo) (z : Value) (size bytes : Nat) (ht : P.underlying t=some (.slice e)) (hi : P.info? e=some i) (hz : i.zero=some z)
  (hsize : i.size=size) (hby : i.bytes=bytes) (n : Nat) (xs : List Value) (hown : w.ownsRow base e size v n xs)
  (ad : Addr) (m c : Nat) (news : List Value) (hl : news.length=m * size) (hnews : ∀ j u,news[j]? = some u → w.cell? (ad.add j)=some u) (h1 : ∀ u ∈ news,u.oneCell'=true)
  (hm : 0 < m) (h63 : n + m≤maxLen) (hbytes : (n + m) * bytes≤140737488355328)
  (hr : (Builtin.append_ #[t,t] ty #[v,.slice (some ad) m c]).run P w = .ok v' w') (hp : Pure κ w v) (hn : ∀ u ∈ news,κ u) (hzc : ∀ u ∈ z.cells,κ u) : Pure κ w' v':=by
 subst hsize
 subst hby
 have hsmall : n + m≤9223372036854775807:=by simp only [maxLen] at h63;omega
 rcases hown.2 with ⟨rfl,rfl⟩ | ⟨g,cap,cur,rfl,hbg,hg,hnc,hcm,hcs,htake⟩
 ·rw [run_append_nil (P:=P) w t ty e i z ht hi hz ad m c news hl hnews hm (by omega) (by have hb:=hbytes;simp only [Nat.zero_add] at hb;omega)] at hr
  cases hr
  exact new_kind fun u hu=>by
   rcases Array.mem_append.1 hu with hu | hu
   ·exact hn u (by simpa using hu)
   ·exact zero_kind hzc _ u hu
 ·have hcur : ∀ u ∈ cur.toList,κ u:=fun u hu=>by
   obtain ⟨j,hj⟩:=List.mem_iff_getElem?.1 hu
   refine hp g rfl j u ?_
   rw [cell_of_row w g j cur e (0,0) hg]
   simpa using hj
  have hxs : ∀ u ∈ xs,κ u:=fun u hu=>hcur u (List.mem_of_mem_take (by rw [htake];exact hu))
  by_cases hroom : n + m≤cap
  ·have hfit : n * i.size + news.length≤cur.size:=by rw [hl,hcs,← Nat.add_mul];exact Nat.mul_le_mul_right _ hroom
   rw [run_append_room (P:=P) w t ty e i ht hi g n cap cur hg ad m c news hl hnews h1 hroom hfit] at hr
   cases hr
   intro g' hg' j u hu
   cases hg'
   rw [cell_of_row _ g j _ e (0,0) (setRow_heap w g cur _ e _ hg)] at hu
   have hm2:=Array.mem_of_getElem? hu
   rw [List.mem_toArray,List.mem_append,List.mem_append] at hm2
   rcases hm2 with (h2 | h2) | h2
   ·exact hcur u (List.mem_of_mem_take h2)
   ·exact hn u h2
   ·exact hcur u (List.mem_of_mem_drop h2)
  ·have holds : ∀ j u,xs[j]? = some u → w.cell? ((⟨g,0,none⟩ : Addr).add j)=some u:=hown.cells (g:=g) rfl
   rw [run_append_grow (P:=P) w t ty e i z ht hi hz ⟨g,0,none⟩ n cap xs hown.1 holds ad m c news hl hnews (by omega) (by omega) (growslice_fits (by omega) hbytes)] at hr
   cases hr
   exact new_kind fun u hu=>by
    rcases Array.mem_append.1 hu with hu | hu
    ·rcases Array.mem_append.1 hu with hu | hu
     ·exact hxs u (by simpa using hu)
     ·exact hn u (by simpa using hu)
    ·exact zero_kind hzc _ u hu
def But (r : Option Nat) (w u : World) : Prop:=w.heap.size≤u.heap.size∧∀ k,k < w.heap.size → r ≠ some k → u.heap[k]? = w.heap[k]?
theorem but_below {r : Option Nat} {w u : World} (h : Below w.heap.size w u) : But r w u:=⟨h.size,fun k hk _=>h.block k hk⟩
theorem but_grown {r : Option Nat} {w u : World} (h : w.grownBy u r) : But r w u:=⟨h.size,fun k hk hr=>h.block k hk (fun e=>hr e.symm)⟩
theorem but_set (w : World) (p : Addr) (x : Value) : But (some p.block) w (w.setCell p x):=⟨by simp [World.setCell],fun k _ hr=>Below.heap_setCell _ _ _ _ (fun e=>hr (by rw [e]))⟩
theorem but_trans {r : Option Nat} {w u x : World} (h : But r w u) (k : But r u x) : But r w x:=⟨Nat.le_trans h.1 k.1,fun i hi hr=>(k.2 i (Nat.lt_of_lt_of_le hi h.1) hr).trans (h.2 i hi hr)⟩
theorem row_but {α : Type} {enc : α → List Value} {K : Nat} {r : Option Nat} {w u : World} {A : Option Addr} {l : List α} (h : Rg.Row enc K w A l) (hb : But r w u) (hne : 0 < l.length → ∀ a,A=some a → r ≠ some a.block) : Rg.Row enc K u A l:=fun h0=>by
 obtain ⟨a,e,hl,hc⟩:=h h0
 refine ⟨a,e,Nat.lt_of_lt_of_le hl hb.1,fun i hi j v hv=>?_⟩
 have h1:=hc i hi j v hv
 rw [World.cell?_of_block]
 ·exact h1
 ·have : (if j=0 then a.add (i * K) else (⟨(a.add (i * K)).block,(a.add (i * K)).off + j,none⟩ : Addr)).block=a.block:=by split <;> simp [add_block]
  rw [this]
  exact hb.2 _ hl (hne h0 a e)
theorem srow_but {r : Option Nat} {w u : World} {A : Option Addr} {l : List Sp} (h : SRow w A l) (hb : But r w u) (hne : 0 < l.length → ∀ a,A=some a → r ≠ some a.block) : SRow u A l:=fun h0=>by
 obtain ⟨a,e,hl,hc⟩:=h h0
 have hk:=hb.2 _ hl (hne h0 a e)
 refine ⟨a,e,Nat.lt_of_lt_of_le hl hb.1,fun i hi=>?_⟩
 obtain ⟨c0,c1,c2,c3⟩:=hc i hi
 refine ⟨?_,?_,?_,?_⟩
 ·rw [World.cell?_of_block (by simpa [add_block] using hk)];exact c0
 ·rw [World.cell?_of_block (by simpa [add_block] using hk)];exact c1
 ·rw [World.cell?_of_block (by simpa [add_block] using hk)];exact c2
 ·rw [World.cell?_of_block (by simpa [add_block] using hk)];exact c3
theorem srow_nob {w : World} {g : Nat} {A : Option Addr} {l : List Sp} (h : SRow w A l) (hg : ∀ j u,w.cell? ⟨g,j,none⟩=some u → NoB u) : 0 < l.length → ∀ a,A=some a → some g ≠ some a.block:=fun h0 a ha hb=>by
 obtain ⟨a',e,_,hc⟩:=h h0
 rw [ha] at e;cases e
 obtain ⟨_,_,_,c3⟩:=hc 0 h0
 have e3 : (a.add (0 * 4)).add 3=⟨g,a.off + 3,none⟩:=by rw [Option.some.inj hb];simp [Addr.add]
 rw [e3] at c3
 exact hg _ _ c3 _ rfl
theorem spot_none {w : World} {a : Addr} {v : Value} (h : w.cell? a=some v) : a=⟨a.block,a.off,none⟩:=by
 obtain ⟨b,o,s⟩:=a
 unfold World.cell? at h
 split at h
 ·split at h
  ·cases h
  ·rename_i h2
   cases s with
   | none=>rfl
   | some x=>exact absurd rfl h2
 ·cases h
theorem row_sl {α : Type} {enc : α → List Value} {K : Nat} {w : World} {g : Nat} {A : Option Addr} {l : List α} (h : Rg.Row enc K w A l) (he : ∀ x,∃ t,(enc x)[0]? = some (.string t)) (hg : ∀ j u,w.cell? ⟨g,j,none⟩=some u → IsSl u) : 0 < l.length → ∀ a,A=some a → some g ≠ some a.block:=fun h0 a ha hb=>by
 obtain ⟨a',e,_,hc⟩:=h h0
 rw [ha] at e;cases e
 obtain ⟨t,ht⟩:=he l[0]
 have h1:=hc 0 h0 0 _ ht
 rw [if_pos rfl,Nat.zero_mul,Rg.add_zero] at h1
 rw [spot_none h1,← Option.some.inj hb] at h1
 obtain ⟨_,_,_,q⟩:=hg _ _ h1
 cases q
def AFar (r : Option Nat) (A : Option Addr) (l : List Atm) : Prop:=0 < l.length → ∀ a,A=some a → r ≠ some a.block
theorem ain_but {r : Option Nat} {w u : World} {ds : List AtD} {l : List Atm} (h : AIn w ds l) (hb : But r w u) (hg : ∀ g,r=some g → ∀ j x,w.cell? ⟨g,j,none⟩=some x → NoB x) : AIn u ds l :=
 ⟨h.1,fun i d a h1 h2=>⟨(h.2 i d a h1 h2).1,(h.2 i d a h1 h2).2.1,srow_but (h.2 i d a h1 h2).2.2 hb (fun h0 q hq e=>by
  cases r with
  | none=>cases e
  | some g=>exact srow_nob (h.2 i d a h1 h2).2.2 (hg g rfl) h0 q hq e)⟩⟩
theorem arow_but {r : Option Nat} {w u : World} {A : Option Addr} {l : List Atm} (h : ARow w A l) (hb : But r w u) (hf : AFar r A l) (hg : ∀ g,r=some g → ∀ j x,w.cell? ⟨g,j,none⟩=some x → NoB x) : ARow u A l:=by
 obtain ⟨ds,h1,h2⟩:=h
 exact ⟨ds,row_but h1 hb (by rw [h2.1];exact hf),ain_but h2 hb hg⟩
theorem sl_nob {u : Value} (h : IsSl u) : NoB u:=fun b e=>by obtain ⟨_,_,_,q⟩:=h;rw [e] at q;cases q
theorem arow_sl {w : World} {g : Nat} {A : Option Addr} {l : List Atm} (h : ARow w A l) (hg : ∀ j u,w.cell? ⟨g,j,none⟩=some u → IsSl u) : AFar (some g) A l:=by
 obtain ⟨ds,h1,h2⟩:=h
 have:=row_sl h1 (fun x=>⟨_,rfl⟩) hg
 rw [h2.1] at this
 exact this
end Pg
theorem Pg.wpList_app_pure {α : Type} {P : Program} {enc : α → List Value} {K : Nat} {ST T : TypeId} {w : World} {κ : Value → Prop} (hT : Rg.SliceT P enc K ST T) (hk : ∀ i,P.info? T=some i → ∀ z,i.zero=some z → ∀ u ∈ z.cells,κ u) (hke : ∀ x,∀ u ∈ enc x,κ u)
  {ops : Array Oper} {rest : List Oper} {o : Oper} {a : Act} {Q : Exit → Act → World → Prop} (hgd : o.guard=none) (sl x : Operand)
  (ho : o.op = .call { callee:=.builtin .append,args:=#[sl,x],argTypes:=#[ST,ST] })
  (B : Nat) (v : Value) (l m : List α) (hs : a.eval sl=v) (hown : Rg.Own enc K w B T v l) (hp : Pure κ w v) (ad : Addr) (c : Nat) (hx : a.eval x = .slice (some ad) m.length c)
  (hnews : ∀ j u,(Rg.flat enc m)[j]? = some u → w.cell? (ad.add j)=some u) (hm : 0 < m.length) (hsz : l.length + m.length≤1000000) (hB : B≤w.heap.size)
  (h : ∀ v' w',Rg.Own enc K w' B T v' (l ++ m) → Pure κ w' v' → w.grownBy w' v.ownBlock → w.heap.size≤w'.heap.size → wpList P ops Q rest (a.put o.dst v') w') : wpList P ops Q (o :: rest) a w:=by
 obtain ⟨i,z,hi,hz0,hz1,hz2,hb⟩:=hT.info
 have hbytes : (l.length + m.length) * i.bytes≤140737488355328:=by
  have : (l.length + m.length) * i.bytes≤1000000 * 1000:=Nat.mul_le_mul hsz hb
  omega
 have h63 : l.length + m.length≤maxLen:=by unfold maxLen;omega
 refine wpList_plain hgd fun _ hK=>?_
 obtain ⟨g,cap,w',hr,h2,h3,_,_⟩:=run_append_lies (P:=P) w ST o.type B T i z K i.bytes hT.under hi hz0 hz2 rfl hz1 hT.pos v l.length (Rg.flat enc l) hown ad m.length c (Rg.flat enc m) (Rg.flat_len hT.fits m) hnews (Rg.flat_ones hT.fits m) hm h63 hbytes hB _ rfl
 have h6:=pure_run ST o.type B T i z K i.bytes hT.under hi hz0 hz2 rfl l.length (Rg.flat enc l) hown ad m.length c (Rg.flat enc m) (Rg.flat_len hT.fits m) hnews (Rg.flat_ones hT.fits m) hm h63 hbytes hr hp (fun u hu=>by
  obtain ⟨y,_,hy⟩:=List.mem_flatMap.1 hu
  exact hke y u hy) (hk i hi z hz0)
 unfold Oper.wp execOp
 simp only [ho,resolve,invoke,builtin,Sem.run_bind,Sem.run_pure,Result.andThen_ok,List.map_toArray,List.map_cons,List.map_nil,hs,hx,hr]
 refine hK _ _ (h _ w' ?_ h6 h3 h3.size)
 unfold Rg.Own
 rw [Rg.flat_app,List.length_append]
 exact h2
end Go.Proofs.YtkplahkkmmoppaaGreatDoor
namespace Go.Proofs.YtkplahkkmmoppaaGreatDoor
open Go.RowKit Rs At Pg
namespace Pg
theorem splitK_all {sep : List UInt8} (hs : sep ≠ []) : ∀ (c k : Nat) (s : List UInt8),Lib.count s sep=c → (c≤k → Lib.splitK sep 0 k s=Lib.splitK sep 0 c s)∧(Lib.splitK sep 0 k s).length=min k c + 1
 | c,0,s,_=>⟨fun h=>by rw [Nat.le_zero.1 h],by rw [Nat.zero_min];rfl⟩
 | c,k + 1,s,hc=>by
  rcases Lib.index_spec s sep with ⟨h,_⟩ | ⟨i,h,_⟩
  ·have h0 : c=0:=by rw [← hc];exact Lib.count_miss h
   have e : Lib.splitK sep 0 (k + 1) s = [s]:=by unfold Lib.splitK;rw [if_pos (beq_iff_eq.2 h)]
   subst h0
   exact ⟨fun _=>by rw [e];rfl,by rw [e,Nat.min_zero];rfl⟩
  ·have h1:=Lib.count_hit hs h
   obtain ⟨c',rfl⟩ : ∃ c',c=c' + 1:=⟨c - 1,by omega⟩
   have hm : ¬ (Lib.index s sep == -1)=true:=fun e=>by have:=beq_iff_eq.1 e;omega
   have et : (Lib.index s sep).toNat=i:=by omega
   have e : ∀ m,Lib.splitK sep 0 (m + 1) s=s.take i :: Lib.splitK sep 0 m (s.drop (i + sep.length)):=fun m=>by
    rw [Lib.splitK,if_neg hm,et];rfl
   obtain ⟨a,b⟩:=splitK_all hs c' k (s.drop (i + sep.length)) (by omega)
   refine ⟨fun hk=>?_,?_⟩
   ·rw [e,e,a (by omega)]
   ·rw [e,List.length_cons,b];omega
theorem count_len {sep : List UInt8} (hs : sep ≠ []) : ∀ (f : Nat) (s : List UInt8),s.length≤f → Lib.count s sep≤s.length
 | 0,s,hf=>by
  rcases Lib.index_spec s sep with ⟨h,_⟩ | ⟨i,h,hi,ho,_⟩
  ·rw [Lib.count_miss h];exact Nat.zero_le _
  ·have:=Lib.index_room s sep (by omega)
   have : 0 < sep.length:=List.length_pos_iff.2 hs
   omega
 | f + 1,s,hf=>by
  rcases Lib.index_spec s sep with ⟨h,_⟩ | ⟨i,h,hi,ho,_⟩
  ·rw [Lib.count_miss h];exact Nat.zero_le _
  ·have h2:=Lib.index_room s sep (by omega)
   have h3 : 0 < sep.length:=List.length_pos_iff.2 hs
   rw [Lib.count_hit hs h]
   have:=count_len hs f (s.drop (i + sep.length)) (by rw [List.length_drop];omega)
   rw [List.length_drop] at this
   omega
theorem splitN_few {s sep : List UInt8} (hs : sep ≠ []) (most : Nat) : ((Lib.split s sep).length≤most → Lib.splitN s sep (most + 1)=Lib.split s sep)∧(most < (Lib.split s sep).length → most < (Lib.splitN s sep (most + 1)).length):=by
 have hc:=count_len hs s.length s (Nat.le_refl _)
 have e : (Lib.split s sep).length=Lib.count s sep + 1:=by
  unfold Lib.split
  rw [(splitK_all hs _ _ s rfl).2,Nat.min_self]
 unfold Lib.splitN
 refine ⟨fun h=>?_,fun h=>?_⟩
 ·rw [(splitK_all hs _ _ s rfl).1 (by omega)];rfl
 ·rw [(splitK_all hs _ _ s rfl).2];omega
def rdL {β : Type} (rd : List UInt8 → Except Int β) : List β → List (List UInt8) → Except Int (List β)
 | acc,[]=>.ok acc
 | acc,t :: l=>match rd t with
  | .ok x=>rdL rd (acc ++ [x]) l
  | .error e=>.error e
def partsR {β : Type} (rd : List UInt8 → Except Int β) (sep : List UInt8) (most : Nat) (t : List UInt8) : Except Int (List β) :=
 if (Lib.split t sep).length≤most then rdL rd [] (Lib.split t sep) else .error 4
theorem rdL_ok {β : Type} {rd : List UInt8 → Except Int β} {acc : List β} {t : List UInt8} {l : List (List UInt8)} {x : β} (h : rd t = .ok x) : rdL rd acc (t :: l)=rdL rd (acc ++ [x]) l:=by
 rw [rdL,h]
theorem rdL_error {β : Type} {rd : List UInt8 → Except Int β} {acc : List β} {t : List UInt8} {l : List (List UInt8)} {e : Int} (h : rd t = .error e) : rdL rd acc (t :: l) = .error e:=by
 rw [rdL,h]
def atomR (t : List UInt8) : Except Int Atm:=if (parseA t).1=0 then .ok (parseA t).2 else .error (parseA t).1
def semi : List UInt8:=[59,32]
def orT : List UInt8:=[32,111,114,32]
def isT : List UInt8:=[32,61,32]
def depR (t : List UInt8) : Except Int (List Atm):=partsR atomR orT 8 t
def gvR (t : List UInt8) : Except Int Gv :=
 if nameB (Lib.cut t isT).1=true then
  if (Lib.cut t isT).2.2=true then
   if Vm.check (Lib.cut t isT).2.1=0 then .ok ⟨(Lib.cut t isT).1,canonOf (Lib.cut t isT).2.1⟩ else .error (Vm.check (Lib.cut t isT).2.1)
  else .ok ⟨(Lib.cut t isT).1,[]⟩
 else .error 3
def kPkg : List UInt8:=[80,97,99,107,97,103,101]
def kVer : List UInt8:=[86,101,114,115,105,111,110]
def kDep : List UInt8:=[68,101,112,101,110,100,115]
def kCon : List UInt8:=[67,111,110,102,108,105,99,116,115]
def kPro : List UInt8:=[80,114,111,118,105,100,101,115]
def kWei : List UInt8:=[87,101,105,103,104,116]
def keys6 : List (List UInt8):=[kPkg,kVer,kDep,kCon,kPro,kWei]
def wtR (t : List UInt8) : Except Int Nat:=if errW t=0 then (if chkW (outW t)=0 then .ok (outW t) else .error (chkW (outW t))) else .error (errW t)
def takeR (p : Pk) (key val : List UInt8) : Except Int Pk :=
 if key=kPkg then (if nameB val=true then .ok { p with name:=val } else .error 3)
 else if key=kVer then (if Vm.check val=0 then .ok { p with ver:=canonOf val } else .error (Vm.check val))
 else if key=kDep then (match partsR depR semi 16 val with | .ok l=>.ok { p with deps:=l } | .error e=>.error e)
 else if key=kCon then (match partsR atomR semi 16 val with | .ok l=>.ok { p with confl:=l } | .error e=>.error e)
 else if key=kPro then (match partsR gvR semi 16 val with | .ok l=>.ok { p with prov:=l } | .error e=>.error e)
 else if key=kWei then (match wtR val with | .ok b=>.ok { p with wt:=b } | .error e=>.error e)
 else .ok p
def readR : Nat → Pk → List Sz.Fld → Except (Int × Int) Pk
 | _,p,[]=>.ok p
 | i,p,f :: l=>match takeR p f.key f.val with
  | .ok q=>readR (i + 1) q l
  | .error e=>.error (i,e)
theorem readR_ok {i : Nat} {p q : Pk} {f : Sz.Fld} {l : List Sz.Fld} (h : takeR p f.key f.val = .ok q) : readR i p (f :: l)=readR (i + 1) q l:=by rw [readR,h]
theorem readR_error {i : Nat} {p : Pk} {f : Sz.Fld} {l : List Sz.Fld} {e : Int} (h : takeR p f.key f.val = .error e) : readR i p (f :: l) = .error (i,e):=by rw [readR,h]
def zeroP : Pk:=⟨[],[],[],[],[],0⟩
def readP (s : List Sz.Fld) : Except (Int × Int) Pk :=
 if (Sz.ordP keys6 0 (-1) s).2=0 then
  if (Sz.getF s kPkg).isSome && (Sz.getF s kVer).isSome then readR 0 zeroP s else .error (0,10)
 else .error (Sz.ordP keys6 0 (-1) s)
def fromP (s : List Sz.Fld) : Int × Int × Pk:=match readP s with
 | .ok p=>(0,0,p)
 | .error (i,e)=>(e,i,zeroP)
theorem gvR_giveR (t : List UInt8) (i : Int) : giveR t i=match gvR t with | .ok g=>.returned (.agg #[.string ⟨g.name.toArray⟩,.string ⟨g.ver.toArray⟩]) | .error e=>panAt i e:=by
 unfold giveR gvR isT
 by_cases h1 : nameB (Lib.cut t [32,61,32]).1=true
 ·rw [if_pos h1,if_pos h1]
  by_cases h2 : (Lib.cut t [32,61,32]).2.2=true
  ·rw [if_pos h2,if_pos h2]
   by_cases h3 : Vm.check (Lib.cut t [32,61,32]).2.1=0
   ·rw [if_pos h3,if_pos h3]
   ·rw [if_neg h3,if_neg h3]
  ·rw [if_neg h2,if_neg h2]
 ·rw [if_neg h1,if_neg h1]
end Pg
end Go.Proofs.YtkplahkkmmoppaaGreatDoor
namespace Go.Proofs.YtkplahkkmmoppaaGreatDoor
open Go.RowKit Rs At Pg
theorem Pg.two_none {w W1 u : World} {T : TypeId} {a b : Value} (h1 : w.alloc (.cells #[a,b] T)=W1) (hb : Below W1.heap.size W1 u) : ∀ j,2≤j → u.cell? ⟨w.heap.size,j,none⟩=none:=fun j hj=>by
 have e1 : u.heap[w.heap.size]? = some (.cells #[a,b] T (0,0)):=(hb.block _ (by rw [← h1];simp)).trans (by rw [← h1];exact heap_alloc_new w _)
 simp [World.cell?,e1];omega
def Pg.AtomRet (w : World) (i : Int) (R : Except Int Atm) (e : Ending) (w' : World) : Prop:=Below w.heap.size w w'∧match R with
 | .ok a=>∃ C m d,e = .returned (.agg #[.string ⟨a.name.toArray⟩,.slice C m d])∧a.rng.length=m∧SRow w' C a.rng
 | .error k=>e=panAt i k
theorem Pg.res_atomV {u : World} {b : Nat} {n : List UInt8} {C : Option Addr} {m d : Nat} {x y : Value} {tmps : Array Value} (k0 : u.cell? ⟨b,0,none⟩=some x) (k1 : u.cell? ⟨b,1,none⟩=some y) (h : tmps.getD 2 undef = .pointer (some ⟨b,0,none⟩)) :
  (results Tryz.f160 tmps).run Tryz.prog (stA u b n C m d) = .ok (.agg #[.string ⟨n.toArray⟩,.slice C m d]) (stA u b n C m d):=by
 have g0 : (stA u b n C m d).cell? ⟨b,0,none⟩=some (.string ⟨n.toArray⟩):=by simp [stA,go_sem,k0]
 have g1 : (stA u b n C m d).cell? ⟨b,1,none⟩=some (.slice C m d):=by simp [stA,go_sem,k1]
 have hr : Tryz.f160.results = #[.cell 2 66]:=Tryz.results160
 simp only [results,hr]
 generalize stA u b n C m d=V at *
 simp only [Array.getD_eq_getD_getElem?] at h ⊢
 simp [go_sem,h,g0,g1]
attribute [local go_sem ↓] Go.wp_at_zero Go.wp_at_succ
theorem valueAtom_any (t : List UInt8) (i : Int) (w : World) (hw : MaxOk w) (ht : t.length≤1000) :
  Calls Tryz.prog 160 #[.agg #[.string ⟨t.toArray⟩,.int .i64 i]] w (Pg.AtomRet w i (atomR t)):=by
 obtain ⟨E,hE⟩ : ∃ E,atomR t=E:=⟨_,rfl⟩
 rw [hE]
 unfold atomR at hE
 obtain ⟨V,hV⟩ : ∃ V,w.alloc (.cells #[.string ⟨t.toArray⟩,.int .i64 i] 170)=V:=⟨_,rfl⟩
 obtain ⟨U,hU⟩ : ∃ U,V.alloc (.cells #[.string ⟨#[]⟩,.slice none 0 0] 66)=U:=⟨_,rfl⟩
 have HBV : Hid (Below w.heap.size w V):=alloc_low hV
 have HVU : Hid (Below V.heap.size V U):=alloc_low hU
 have HB : Hid (Below w.heap.size w U):=HBV.out.trans (HVU.out.mono HBV.out.size)
 have HP:=Lib.hid (fun W (h : Below U.heap.size U W)=>cell_pair hV (HVU.out.trans (h.mono HVU.out.size)))
 have HG:=Lib.hid (fun W (h : Below U.heap.size U W)=>cell_two hU h)
 have HN:=Lib.hid (fun W (h : Below U.heap.size U W)=>two_none hU h)
 have HC:=Lib.hid (atomParse_any t U (maxOk_below hw HB.out) ht)
 have HLO : Hid (w.heap.size≤V.heap.size):=HBV.out.size
 obtain ⟨c0,c1⟩:=HP.out _ (Below.refl _ _)
 obtain ⟨X,hX⟩ : ∃ X,parseA t=X:=⟨_,rfl⟩
 rw [hX] at hE HC
 obtain ⟨k,nm,l⟩:=X
 dsimp only at hE
 have HE:=Lib.hid hE
 clear hE hw ht hX
 go_enter Tryz.func160,Tryz.ntmps160
 go_wp2_with fail
 clear hV hU
 refine HC.out.mono ?_
 rintro _ u ⟨C,m,d,rfl,hm,hr,hb⟩
 have HUu:=Lib.hid hb
 have HM:=Lib.hid hm
 have HR:=Lib.hid hr
 dsimp only
 clear hb hm hr HC c0 c1
 obtain ⟨G,hG⟩ : ∃ G,u.alloc (.cells #[.string ⟨nm.toArray⟩,.slice C m d] 66)=G:=⟨_,rfl⟩
 have HGL : Hid (Below u.heap.size u G):=alloc_low hG
 have HUG : Hid (Below U.heap.size U G):=HUu.out.trans (HGL.out.mono HUu.out.size)
 have HQ:=Lib.hid (fun W (h : Below G.heap.size G W)=>cell_pair hG h)
 obtain ⟨c0,c1⟩:=HP.out _ HUG.out
 go_wp2_with fail
 clear hG
 refine (valueOK_any t i k _).mono ?_
 rintro _ u2 ⟨rfl,hb⟩
 have HG2:=Lib.hid hb
 have HU2 : Hid (Below U.heap.size U u2):=HUG.out.trans (hb.mono HUG.out.size)
 clear hb c0 c1
 by_cases h0 : k=0
 case neg =>
  rw [okAt_ne h0]
  have HF : Hid (E = .error k):=by show _=_;rw [← HE.out,if_neg h0]
  clear h0
  go_wp2_with fail
  refine ⟨rfl,HB.out.trans (HU2.out.mono HB.out.size),?_⟩
  rw [HF.out]
 subst h0
 rw [okAt_zero]
 have HF : Hid (E = .ok ⟨nm,l⟩):=by show _=_;rw [← HE.out];rfl
 obtain ⟨p0,p1⟩:=HQ.out _ HG2.out
 obtain ⟨k0,k1,z0,z1⟩:=HG.out _ HU2.out
 have HR2 : Hid (SRow u2 C l):=srow_below HR.out (HGL.out.trans (HG2.out.mono HGL.out.size))
 have HAP:=Lib.hid (row_apart HR2.out (HN.out _ HU2.out))
 go_wp2_with fail
 (try simp only [Exit.inBlock,Exit.then])
 refine bodyPost_ret (res_atomV k0 k1 rfl) rfl ?_
 refine ⟨((HB.out.trans (HU2.out.mono HB.out.size)).setCell HLO.out _).setCell HLO.out _,?_⟩
 rw [HF.out]
 exact ⟨C,m,d,rfl,HM.out,srow_far (srow_far HR2.out HAP.out) HAP.out⟩
theorem splitN_any (s sep : List UInt8) (n : Nat) (w : World) (hm : MaxOk w) (hl : s.length≤900000) (h1 : 1≤sep.length) (hn : 1≤n) (hn2 : n≤1000) :
  Calls Tryz.prog 204 #[.string ⟨s.toArray⟩,.string ⟨sep.toArray⟩,.int .i64 n] w fun e w'=>∃ A m c,e = .returned (.slice A m c)∧(Lib.splitN s sep n).length=m∧m≤1000∧Rg.Row encT 1 w' A (Lib.splitN s sep n)∧Below w.heap.size w w':=by
 obtain ⟨m,hm⟩:=hm
 refine (Tryz.strings_SplitN ⟨s.toArray⟩ ⟨sep.toArray⟩ n m w (by show s.length < _;omega) hm h1 hn (by omega)).mono ?_
 rintro e w' ⟨rfl,rfl⟩
 have hd : (Lib.splitB ⟨sep.toArray⟩ 0 (min n (s.length + 1) - 1) ⟨s.toArray⟩).map (·.data.toList)=Lib.splitN s sep n:=Lib.splitB_data _ _ _ _
 have hlen:=Lib.splitB_length_le ⟨sep.toArray⟩ 0 (min n (s.length + 1) - 1) ⟨s.toArray⟩
 obtain ⟨ps,hps⟩ : ∃ ps,Lib.splitB ⟨sep.toArray⟩ 0 (min n (s.length + 1) - 1) ⟨s.toArray⟩=ps:=⟨_,rfl⟩
 have hsz : (⟨s.toArray⟩ : ByteArray).size=s.length:=by show s.toArray.size=_;simp
 rw [hsz]
 rw [hps] at hd hlen ⊢
 rw [← hd]
 refine ⟨_,_,_,rfl,by rw [List.length_map],by omega,fun _=>⟨_,rfl,by simp,fun i hi j v hv=>?_⟩,(Below.refl _ _).alloc (Nat.le_refl _) _⟩
 have hj : j=0:=by have h:=(List.getElem?_eq_some_iff.1 hv).1;simp only [encT,List.length_cons,List.length_nil] at h;omega
 subst hj
 rw [List.length_map] at hi
 rw [if_pos rfl,Nat.mul_one]
 have ha : (⟨w.heap.size,0,none⟩ : Addr).add i=⟨w.heap.size,i,none⟩:=by unfold Addr.add;split <;> simp_all
 rw [ha,cell_of_row _ w.heap.size i _ _ (0,0) (heap_alloc_new w _)]
 rw [List.getElem_map] at hv
 unfold Lib.cellsOf
 rw [List.getElem?_toArray,List.getElem?_append_left (by rw [List.length_map];exact hi),List.getElem?_map,List.getElem?_eq_getElem hi]
 exact hv
theorem Pg.zero_is {κ : Value → Prop} {P : Program} {T : TypeId} {z0 : Value} (h : (P.info? T).map (·.zero)=some (some z0)) (hk : ∀ u ∈ z0.cells,κ u) : ∀ i,P.info? T=some i → ∀ z,i.zero=some z → ∀ u ∈ z.cells,κ u:=fun i hi z hz u hu=>by
 rw [hi] at h
 simp only [Option.map_some,Option.some.injEq] at h
 rw [h] at hz
 cases hz
 exact hk u hu
theorem Pg.sliceA : Rg.SliceT Tryz.prog encA 2 31 66:=⟨fitsA,by decide,by kernel_rfl,Rg.info_of (z:=.agg #[.string ByteArray.empty,.slice none 0 0]) (b:=40) (by kernel_rfl) (by rfl) (by decide)⟩
theorem Pg.zeroA_nob : ∀ i,Tryz.prog.info? 66=some i → ∀ z,i.zero=some z → ∀ u ∈ z.cells,NoB u:=zero_is (z0:=.agg #[.string ByteArray.empty,.slice none 0 0]) (by kernel_rfl) (fun u hu b e=>by subst e;simp [Value.cells] at hu)
theorem Pg.encA_nob : ∀ x : AtD,∀ u ∈ encA x,NoB u:=fun x u hu b e=>by subst e;simp [encA] at hu
def Pg.AOwn (w : World) (B : Nat) (T : TypeId) (v : Value) (ds : List AtD) (l : List Atm) : Prop:=Rg.Own encA 2 w B T v ds∧AIn w ds l∧Pure NoB w v
theorem Pg.aown_nil (w : World) (B : Nat) (T : TypeId) : AOwn w B T (.slice none 0 0) [] []:=⟨Rg.own_nil _ _ _,⟨rfl,fun i d a h=>by simp at h⟩,pure_nil _ _⟩
theorem Pg.aown_below {w w' : World} {B : Nat} {T : TypeId} {v : Value} {ds : List AtD} {l : List Atm} (h : AOwn w B T v ds l) (hb : Below w.heap.size w w') : AOwn w' B T v ds l:=⟨Rg.own_below h.1 hb,ain_below h.2.1 hb,pure_below h.2.2 h.1 hb⟩
theorem Pg.ain_snoc {w : World} {ds : List AtD} {l : List Atm} {d : AtD} {a : Atm} (h : AIn w ds l) (h1 : d.1=a.name) (h2 : d.2.2.1=a.rng.length) (h3 : SRow w d.2.1 a.rng) : AIn w (ds ++ [d]) (l ++ [a]):=by
 refine ⟨by rw [List.length_append,List.length_append,h.1];rfl,fun i x y e1 e2=>?_⟩
 rcases get_snoc e1 with ⟨q1,q2⟩ | ⟨q1,q2⟩
 ·rcases get_snoc e2 with ⟨_,p2⟩ | ⟨p1,_⟩
  ·exact h.2 i x y q2 p2
  ·have:=h.1;omega
 ·rcases get_snoc e2 with ⟨p1,_⟩ | ⟨_,p2⟩
  ·have:=h.1;omega
  ·subst q2 p2;exact ⟨h1,h2,h3⟩
theorem Pg.aown_add {w w' : World} {B : Nat} {T : TypeId} {v v' : Value} {ds : List AtD} {l : List Atm} {C : Option Addr} {m c : Nat} {a : Atm} (h : AOwn w B T v ds l) (hr : SRow w C a.rng) (hm : a.rng.length=m) (ho : Rg.Own encA 2 w' B T v' (ds ++ [(a.name,C,m,c)])) (hp : Pure NoB w' v') (hg : w.grownBy w' v.ownBlock) : AOwn w' B T v' (ds ++ [(a.name,C,m,c)]) (l ++ [a]):=by
 have hb : But v.ownBlock w w':=but_grown hg
 refine ⟨ho,ain_snoc (ain_but h.2.1 hb h.2.2) rfl hm.symm (srow_but hr hb fun h0 q hq e=>?_),hp⟩
 cases hv : v.ownBlock with
 | none=>rw [hv] at e;cases e
 | some g=>rw [hv] at e;exact srow_nob hr (h.2.2 g hv) h0 q hq e
theorem Pg.aown_row {w : World} {B : Nat} {T : TypeId} {v : Value} {ds : List AtD} {l : List Atm} (h : AOwn w B T v ds l) : ∃ A c,v = .slice A l.length c∧ARow w A l∧∀ a,A=some a → B≤a.block:=by
 obtain ⟨A,c,hv,hr,_,_⟩:=Rg.row_own fitsA h.1
 rw [h.2.1.1] at hv
 exact ⟨A,c,hv,⟨ds,hr,h.2.1⟩,fun a ha=>by subst ha;exact (Rg.own_lt h.1 a.block (by rw [hv];rfl)).1⟩
def Pg.PartsRet {β : Type} (M : World → Option Addr → List β → Prop) (w : World) (i : Int) (R : Except Int (List β)) (e : Ending) (w' : World) : Prop:=Below w.heap.size w w'∧match R with
 | .ok l=>∃ A n c,e = .returned (.slice A n c)∧l.length=n∧M w' A l∧∀ a,A=some a → w.heap.size≤a.block
 | .error k=>e=panAt i k
theorem partsAtoms_any (t sep : List UInt8) (i : Int) (most : Nat) (w : World) (hw : MaxOk w) (ht : t.length≤1000) (h1 : 1≤sep.length) (hmo : most≤100) :
  Calls Tryz.prog 159 #[.agg #[.string ⟨t.toArray⟩,.int .i64 i],.string ⟨sep.toArray⟩,.int .i64 most,.func (.func 160) #[] #[]] w (Pg.PartsRet ARow w i (partsR atomR sep most t)):=by
 obtain ⟨R,hR⟩ : ∃ R,partsR atomR sep most t=R:=⟨_,rfl⟩
 rw [hR]
 unfold partsR at hR
 obtain ⟨V,hV⟩ : ∃ V,w.alloc (.cells #[.string ⟨t.toArray⟩,.int .i64 i] 170)=V:=⟨_,rfl⟩
 have HB : Hid (Below w.heap.size w V):=alloc_low hV
 have HP:=Lib.hid (fun W (h : Below V.heap.size V W)=>cell_pair hV h)
 have HM:=Lib.hid (fun W (h : Below V.heap.size V W)=>maxOk_below (maxOk_below hw HB.out) h)
 have HC : Hid (Calls Tryz.prog 204 #[.string ⟨t.toArray⟩,.string ⟨sep.toArray⟩,.int .i64 ((most : Int) + 1)] V fun e w'=>∃ A m c,e = .returned (.slice A m c)∧(Lib.splitN t sep (most + 1)).length=m∧m≤1000∧Rg.Row encT 1 w' A (Lib.splitN t sep (most + 1))∧Below V.heap.size V w') :=
  splitN_any t sep (most + 1) V (HM.out _ (Below.refl _ _)) (by omega) h1 (by omega) (by omega)
 have hpl : ∀ p ∈ Lib.split t sep,p.length≤1000:=fun p hp=>Nat.le_trans (piece_le sep _ t p hp) ht
 obtain ⟨f1,f2⟩:=splitN_few (s:=t) (sep:=sep) (fun e=>by rw [e] at h1;simp at h1) most
 obtain ⟨ps,hps⟩ : ∃ ps,Lib.split t sep=ps:=⟨_,rfl⟩
 obtain ⟨qs,hqs⟩ : ∃ ps,Lib.splitN t sep (most + 1)=ps:=⟨_,rfl⟩
 rw [hps] at hR f1 f2 hpl
 rw [hqs] at f1 f2 HC
 have iw : IntKind.i64.wrap ((most : Int) + 1)=(most : Int) + 1:=IntWalk.i64_in _ (by omega)
 obtain ⟨c0,c1⟩:=HP.out _ (Below.refl _ _)
 have HR:=Lib.hid hR
 have HF1:=Lib.hid f1
 have HF2:=Lib.hid f2
 have HPL:=Lib.hid hpl
 clear hw hR hpl f1 f2 hps hqs
 go_enter Tryz.func159,Tryz.ntmps159
 go_wp2_with fail
 clear hV
 refine HC.out.mono ?_
 rintro _ z1 ⟨A,n,c,rfl,hn,hnl,hrow,hb1⟩
 have HN:=Lib.hid hn
 have HROW:=Lib.hid hrow
 have HB1:=Lib.hid hb1
 clear hn hrow hb1 HC c0 c1 iw
 obtain ⟨c0,c1⟩:=HP.out _ HB1.out
 by_cases hlm : n≤most
 case neg =>
  have HR2 : Hid (R = .error 4):=by
   show _=_
   rw [← HR.out,if_neg]
   intro hh
   have:=HF1.out hh
   rw [this] at HN
   have:=HN.out
   omega
  have d0 : decide (n≤most)=false:=decide_eq_false hlm
  clear hlm
  go_wp2_with fail
  refine (valueRequire_any t i false 4 _).mono ?_
  rintro _ u ⟨rfl,hb⟩
  have HU : Hid (Below w.heap.size w u):=HB.out.trans ((HB1.out.trans (hb.mono HB1.out.size)).mono HB.out.size)
  clear hb
  go_wp2_with fail
  exact ⟨rfl,HU.out,by rw [HR2.out]⟩
 have hpq : qs=ps:=by
  rcases Nat.lt_or_ge most ps.length with h | h
  ·have:=HF2.out h
   have:=HN.out
   omega
  ·exact HF1.out h
 subst hpq
 have HR2 : Hid (rdL atomR [] qs=R):=by
  show _=_
  rw [← HR.out,if_pos (by rw [HN.out];exact hlm)]
 have d0 : decide (n≤most)=true:=decide_eq_true hlm
 clear hlm HF1 HF2 HR
 go_wp2_with fail
 refine (valueRequire_any t i true 4 _).mono ?_
 rintro _ z2 ⟨rfl,hb⟩
 have HB2 : Hid (Below V.heap.size V z2):=HB1.out.trans (hb.mono HB1.out.size)
 have HROW2:=Lib.hid (Rg.row_below HROW.out hb)
 clear hb HROW d0 c0 c1 HB1
 go_wp2_with fail
 go_loopw [10,27] (fun v i wr=>∃ (k : Nat) (acc : List Atm) (ds : List AtD),k≤n∧i = .int .i64 k∧Hid (AOwn wr z2.heap.size 66 v ds acc)∧Hid (Below z2.heap.size z2 wr∧z2.heap.size≤wr.heap.size)∧Hid (acc.length=k)∧Hid (rdL atomR acc (qs.drop k)=R)) (fun _ i _=>n - (intOf i).toNat)
 case atStart=>exact ⟨0,[],[],Nat.zero_le _,rfl,aown_nil _ _ _,⟨Below.refl _ _,Nat.le_refl _⟩,rfl,by show rdL _ _ (qs.drop 0)=R;rw [List.drop_zero,HR2.out]⟩
 case round =>
  obtain ⟨k,acc,ds,hk,rfl,HO,HBW,HA,HE⟩:=hrel
  have HVW : Hid (Below V.heap.size V wr):=HB2.out.trans (HBW.out.1.mono HB2.out.size)
  by_cases hlt : k < n
  ·have HLT:=Lib.hid hlt
   have hlr : k < qs.length:=by rw [HN.out];exact hlt
   obtain ⟨ad,rfl,_,q0⟩:=txt_at (Rg.row_below HROW2.out HBW.out.1) k hlr
   have hpp:=HPL.out _ (List.getElem_mem hlr)
   have he:=HE.out
   rw [List.drop_eq_getElem_cons hlr] at he
   obtain ⟨p,hp⟩ : ∃ p,qs[k]=p:=⟨_,rfl⟩
   rw [hp] at hpp he q0
   have HSZ : Hid (ds.length + 1≤1000000):=by have h1:=HA.out;have h2:=HO.out.2.1.1;show _≤_;omega
   have HPC:=Lib.hid (valueAtom_any p i wr (HM.out _ HVW.out) hpp)
   obtain ⟨c0,c1⟩:=HP.out _ HVW.out
   obtain ⟨E,hE⟩ : ∃ E,atomR p=E:=⟨_,rfl⟩
   rw [hE] at HPC
   cases E with
   | error e =>
    have HR3 : Hid (R = .error e):=by show _=_;rw [← he];exact rdL_error hE
    clear he hp hpp hE
    go_wp2_with fail
    refine HPC.out.mono ?_
    rintro e z3 ⟨hb,rfl⟩
    have HBU : Hid (Below w.heap.size w z3):=HB.out.trans ((HVW.out.trans (hb.mono HVW.out.size)).mono HB.out.size)
    clear hb
    go_wp2_with fail
    exact ⟨rfl,HBU.out,by rw [HR3.out]⟩
   | ok a =>
    have HE2 : Hid (rdL atomR (acc ++ [a]) (qs.drop (k + 1))=R):=by show _=_;rw [← he];exact (rdL_ok hE).symm
    clear he hp hpp hE
    go_wp2_with fail
    refine HPC.out.mono ?_
    rintro e z3 ⟨hb,C,m,d,rfl,hm,hr⟩
    have HBU:=Lib.hid hb
    have HM3:=Lib.hid hm
    have HR3:=Lib.hid hr
    clear hb hm hr c0 c1 q0 HPC
    go_wp2_with (at_builtin;refine Pg.wpList_app_pure sliceA zeroA_nob encA_nob rfl (.tmp 31) (.tmp 38) rfl z2.heap.size _ ds [(a.name,C,m,d)] rfl (aown_below HO.out (HBU.out.alloc HBU.out.size _)).1 (aown_below HO.out (HBU.out.alloc HBU.out.size _)).2.2 _ _ rfl (Rg.news_new z3 _ _ _ (by rfl)) (Nat.zero_lt_succ _) HSZ.out ?b2 ?_)
    case b2=>have:=HBW.out.2;have:=HBU.out.size;simp;omega
    intro v5 W5 ho5 hp5 hg5 hz5
    have hal : Below wr.heap.size wr (z3.alloc (.cells #[.string ⟨a.name.toArray⟩,.slice C m d] 66)):=HBU.out.alloc HBU.out.size _
    have HO5:=Lib.hid (aown_add (aown_below HO.out hal) (srow_below HR3.out ((Below.refl _ _).alloc (Nat.le_refl _) _)) HM3.out ho5 hp5 hg5)
    have HB5 : Hid (Below z2.heap.size z2 W5∧z2.heap.size≤W5.heap.size):=by
     have h2:=HBW.out.1.trans ((hal.mono HBW.out.2).trans (Rg.grown_below (aown_below HO.out hal).1 (Nat.le_trans HBW.out.2 hal.size) hg5))
     exact ⟨h2,h2.size⟩
    clear ho5 hp5 hg5 hz5 hal HO HBU HBW HVW
    go_wp2_with fail
    go_roundw
    case rel=>exact ⟨k + 1,acc ++ [a],_,(by have:=HLT.out;omega),by go_num,HO5,HB5,by show (acc ++ [a]).length=_;rw [List.length_append,HA.out];rfl,HE2⟩
    case measure=>have:=HLT.out;simp [intOf];omega
  ·obtain rfl : k=n:=by omega
   have HR3 : Hid (R = .ok acc):=by show _=_;rw [← HE.out,List.drop_eq_nil_of_le (by rw [HN.out];exact Nat.le_refl _)];rfl
   obtain ⟨C,d,rfl,hrw,hf⟩:=aown_row HO.out
   have HRW:=Lib.hid hrw
   have HF:=Lib.hid hf
   clear hrw hf
   go_wp2_with fail
   go_ret
   refine ⟨HB.out.trans (HVW.out.mono HB.out.size),?_⟩
   rw [HR3.out]
   exact ⟨C,_,d,rfl,rfl,HRW.out,fun a ha=>Nat.le_trans (Nat.le_trans HB.out.size HB2.out.size) (HF.out a ha)⟩
end Go.Proofs.YtkplahkkmmoppaaGreatDoor
namespace Go.Proofs.YtkplahkkmmoppaaGreatDoor
open Go.RowKit Go.ChangeShapes Go.WideShapes Go.Joins Rs
theorem open_spansC {H : Type} {enc : TypeId × Value → H} {P : Program} {W : World} {t e ts tb : TypeId} {n0 n1 n2 n3 : Field} {fuel : Nat} {cs : List Value} {x : DataW H × List MemPlace}
  (ht : P.underlying t=some (.slice e)) (he : P.underlying e=some (.struct #[n0,n1,n2,n3])) (h0 : n0.type=ts∧n0.offset=0) (h1 : n1.type=ts∧n1.offset=1) (h2 : n2.type=tb∧n2.offset=2) (h3 : n3.type=tb∧n3.offset=3)
  (hs : P.underlying ts=some .string) (hb : P.underlying tb=some .bool) (cts : P.cellsOf ts=1) (cb : P.cellsOf tb=1) (ce : P.cellsOf e=4)
  (h : DataW.trod enc P W 0 (fun _=>true) true fuel t cs=some x) :
  ∃ (A : Option Addr) (c : Nat) (l : List Sp),cs = [.slice A l.length c]∧SRow W A l∧l.length≤maxLen∧∀ s ∈ l,s.lo.length≤maxLen∧s.hi.length≤maxLen:=by
 rcases Go.Deep.open_slice ht h with ⟨hcs,_⟩ | ⟨a,len,cap,m,n,D,Pl,hcs,_,hl,hmx,hmm,_,hi⟩
 ·exact ⟨none,0,[],hcs,fun h=>absurd h (by simp),by simp,by simp⟩
 ·simp only [if_true] at hmm
  have each : ∀ i,i < len → ∃ s : Sp,SpAt W (a.add (i * 4)) s∧s.lo.length≤maxLen∧s.hi.length≤maxLen:=fun i hil=>by
   obtain ⟨cs',hc,ht'⟩:=hi i (by omega)
   rw [ce] at hc
   obtain ⟨y0,y1,y2,y3,m',_,hcl,g0,g1,g2,g3⟩:=trod_struct4 he ht'
   rw [ce] at hcl
   rw [h0.1,h0.2,cts,one_of hcl (by omega)] at g0
   rw [h1.1,h1.2,cts,one_of hcl (by omega)] at g1
   rw [h2.1,h2.2,cb,one_of hcl (by omega)] at g2
   rw [h3.1,h3.2,cb,one_of hcl (by omega)] at g3
   obtain ⟨s0,e0,_,m0⟩:=DataW.trod_string hs g0
   obtain ⟨s1,e1,_,m1⟩:=DataW.trod_string hs g1
   obtain ⟨b2,e2,_⟩:=DataW.trod_bool hb g2
   obtain ⟨b3,e3,_⟩:=DataW.trod_bool hb g3
   obtain ⟨_,hcl2,hat⟩:=World.cells?_some hc
   refine ⟨⟨s0.data.toList,s1.data.toList,b2,b3⟩,⟨?_,?_,?_,?_⟩,?_,?_⟩
   ·exact (hat 0 (by omega)).trans ((List.getElem?_eq_getElem (by omega)).trans (congrArg some (List.cons.inj e0).1))
   ·exact (hat 1 (by omega)).trans ((List.getElem?_eq_getElem (by omega)).trans (congrArg some (List.cons.inj e1).1))
   ·exact (hat 2 (by omega)).trans ((List.getElem?_eq_getElem (by omega)).trans (congrArg some (List.cons.inj e2).1))
   ·exact (hat 3 (by omega)).trans ((List.getElem?_eq_getElem (by omega)).trans (congrArg some (List.cons.inj e3).1))
   ·show s0.data.toList.length≤maxLen
    rw [Array.length_toList];exact m0
   ·show s1.data.toList.length≤maxLen
    rw [Array.length_toList];exact m1
  obtain ⟨f,hf2⟩:=Go.Deep.choose_lt each
  have hlen : ((List.range len).map f).length=len:=by simp
  refine ⟨some a,cap,(List.range len).map f,by rw [hlen];exact hcs,fun h=>?_,by rw [hlen];omega,fun s hs=>?_⟩
  ·rw [hlen] at h
   refine ⟨a,rfl,?_,fun i hi2=>?_⟩
   ·have:=cell_in (hf2 0 h).1.1
    rwa [add_block,add_block] at this
   ·rw [hlen] at hi2
    have:=(hf2 i hi2).1
    simpa using this
  ·obtain ⟨i,hi2,rfl⟩:=List.mem_map.1 hs
   exact (hf2 i (List.mem_range.1 hi2)).2
end Go.Proofs.YtkplahkkmmoppaaGreatDoor
