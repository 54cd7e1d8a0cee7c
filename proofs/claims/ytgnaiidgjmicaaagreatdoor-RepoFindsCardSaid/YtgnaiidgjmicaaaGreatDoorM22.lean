/- Part 22 of what the laws lean on. -/
import Derived.Test.YtgnaiidgjmicaaaGreatDoorM21
set_option maxRecDepth 100000
set_option maxHeartbeats 1600000
namespace Go.Proofs.YtgnaiidgjmicaaaGreatDoor
section
open Go.RowKit Rs At Pg
attribute [local go_sem ↓] Go.wp_at_zero Go.wp_at_succ
theorem oG (t:List UInt8)(i:Int)(w:World)(ht:t.length<=1000)(hw:KOk w)(hlt:outW t<Wm.W) :
  Calls Tryz.prog 249 #[.agg #[.string ⟨t.toArray⟩,.int .i64 i]] w fun r w'=>r=(if errW t=0 then (if chkW (outW t)=0 then .returned (.float .f64 (outW t)) else panAt i (chkW (outW t))) else panAt i (errW t))/\Below w.heap.size w w':=by
 obtain⟨b,hb⟩:=ex w.heap.size
 obtain⟨V,hV⟩:=ex (w.alloc (.cells #[.string ⟨t.toArray⟩,.int .i64 i] 256))
 have HB:Hid (Below w.heap.size w V):=ai hV
 have HP:=zh (fun W (h:Below V.heap.size V W)=>aD hV h)
 rw[hb] at HP
 obtain⟨c0,c1⟩:=HP.out _ (Below.refl _ _)
 have HC:=zh (aeR t ht V (aH hw HB.out))
 have HK:=zh (fun W=>xL (outW t) hlt W)
 obtain⟨x,hx⟩:=ex (outW t)
 obtain⟨k,hk⟩:=ex (errW t)
 rw[hx,hk] at HC
 rw[hx] at HK
 rw[hx,hk]
 obtain⟨m,hm⟩:=ex (chkW x)
 rw[hm] at HK
 rw[hm]
 clear hx hk hm hw ht hlt
 go_enter Tryz.func249,Tryz.ntmps249
 go_wp2_with fail
 clear hV hb
 refine HC.out.mono ?_
 rintro _ u ⟨rfl,hb⟩
 have HU:=zh hb
 clear c0 c1 hb HC
 obtain⟨c0,c1⟩:=HP.out _ HU.out
 go_wp2_with fail
 refine (dU t i k _).mono ?_
 rintro _ u2 ⟨rfl,hb⟩
 have ac:Hid (Below V.heap.size V u2):=bt HU.out hb
 clear hb c0 c1 HU
 by_cases h0:k=0
 case neg =>
  rw[ji h0]
  have H0:=zh h0
  clear h0
  go_wp2_with fail
  exact⟨rfl,by first | exact (if_neg H0.out).symm | rfl | rw[if_neg H0.out],bt HB.out ac.out⟩
 subst h0
 rw[fB]
 go_wp2_with fail
 have aa:Hid (Below V.heap.size V u2.drew):=ac.out.drew
 obtain⟨c0,c1⟩:=HP.out _ aa.out
 by_cases h1:m=0
 ·subst h1
  go_region_held3 (fun w'=>w'.cell? ⟨b,0,none⟩=some (.string ⟨t.toArray⟩)/\w'.cell? ⟨b,1,none⟩=some (.int .i64 i))
   (first
    | exact HP.out _ aa.out
    | exact HP.out _ (bt aa.out ab.out))
   (first
    | (go_at_call 188;refine (HK.out _).mono ?_;rintro _ u4 ⟨rfl,rfl⟩)
    | (go_at_call 273;refine (dU t i 0 _).mono ?_;rintro _ u3 ⟨rfl,hs⟩;have ab:=zh hs;clear hs;rw[fB]))
  have ad:Hid (Below V.heap.size V u3):=bt aa.out ab.out
  clear c0 c1 ab
  go_wp2_with fail
  go_ret
  exact⟨rfl,bt HB.out ad.out⟩
 ·have ae:Hid (okAt i m=panAt i m):=ji h1
  have H1:=zh h1
  clear h1
  go_region_with (first
    | (go_at_call 188;refine (HK.out _).mono ?_;rintro _ u4 ⟨rfl,rfl⟩)
    | (go_at_call 273;refine (dU t i m _).mono ?_;rintro _ u3 ⟨rfl,hs⟩;have ab:=zh hs;clear hs;rw[ae.out];refine eg (P:=Tryz.prog) (a:={ tmps:=#[],defers:=[] }) (w:=w) ?_))
  all_goals exact⟨rfl,by first | rfl | (rw[if_pos rfl,if_neg H1.out]),HB.out.trans ((bt aa.out ab.out).mono HB.out.size)⟩
theorem oH (A:Option Addr)(n c:Nat)(l:List Sz.Fld)(key:List UInt8)(w:World)(hn:l.length=n)(hr:Rg.Row Sz.encF 3 w A l)(hl:n<=100000)(hs:Sz.Short l) :
  Calls Tryz.prog 209 #[.slice A n c,.string ⟨key.toArray⟩] w fun e w'=>e=.returned (.bool (Sz.getF l key).isSome)/\Below w.heap.size w w':=by
 have HG:=zh (rQ A n c l key w hn hr hl hs)
 obtain⟨R,hR⟩:=ex (Sz.getF l key)
 rw[hR] at HG
 rw[hR]
 unfold Sz.GotRet at HG
 obtain⟨x,hx⟩:=ex R.isSome
 obtain⟨fl,aa⟩:=ex (R.getD ⟨[],[],0⟩)
 rw[hx,aa] at HG
 rw[hx]
 clear hn hr hl hs hR hx aa
 go_enter Tryz.func209,Tryz.ntmps209
 go_wp2_with fail
 refine HG.out.mono ?_
 rintro _ u ⟨rfl,hb⟩
 have HU:=zh hb
 clear hb HG
 go_wp2_with fail
 go_ret
 exact⟨rfl,HU.out.alloc HU.out.size _⟩
end
section
open Go.RowKit Rs At Pg
theorem abe (s:List UInt8)(w:World)(hm:MaxOk w)(hl:s.length<=1000000) :
  Calls Tryz.prog 122 #[.string ⟨s.toArray⟩,.string ⟨#[32,61,32]⟩] w fun e w'=>e=.returned (.tuple #[.string ⟨(Lib.cut s [32,61,32]).1.toArray⟩,.string ⟨(Lib.cut s [32,61,32]).2.1.toArray⟩,.bool (Lib.cut s [32,61,32]).2.2])/\Below w.heap.size w w':=by
 obtain⟨m,hm⟩:=hm
 exact (Tryz.strings_Cut ⟨s.toArray⟩ ⟨#[32,61,32]⟩ m w (by show s.length<_;omega) hm).mono fun e w' ⟨h1,n,h2⟩=>⟨h1,h2 ▸ below_drewN (Below.refl _ _) n⟩
def Pg.giveR (t:List UInt8) (i:Int):Ending :=
 if nameB (Lib.cut t [32,61,32]).1=true then
  if (Lib.cut t [32,61,32]).2.2=true then
   if Vm.check (Lib.cut t [32,61,32]).2.1=0 then .returned (.agg #[.string ⟨(Lib.cut t [32,61,32]).1.toArray⟩,.string ⟨(canonOf (Lib.cut t [32,61,32]).2.1).toArray⟩])
   else panAt i (Vm.check (Lib.cut t [32,61,32]).2.1)
  else .returned (.agg #[.string ⟨(Lib.cut t [32,61,32]).1.toArray⟩,.string ⟨#[]⟩])
 else panAt i 3
abbrev Pg.stG (u:World) (b:Nat) (n v:List UInt8):World:=(u.setCell ⟨b,0,none⟩ (.string ⟨n.toArray⟩)).setCell ⟨b,1,none⟩ (.string ⟨v.toArray⟩)
theorem Pg.ux {u:World}{b:Nat}{n v:List UInt8}{x y:Value}{tmps:Array Value}(k0:u.cell? ⟨b,0,none⟩=some x)(k1:u.cell? ⟨b,1,none⟩=some y)(h:tmps.getD 2 undef=.pointer (some ⟨b,0,none⟩)) :
  (results Tryz.f248 tmps).run Tryz.prog (stG u b n v)=.ok (.agg #[.string ⟨n.toArray⟩,.string ⟨v.toArray⟩]) (stG u b n v):=by
 have g0:(stG u b n v).cell? ⟨b,0,none⟩=some (.string ⟨n.toArray⟩):=by simp[stG,go_sem,k0]
 have g1:(stG u b n v).cell? ⟨b,1,none⟩=some (.string ⟨v.toArray⟩):=by simp[stG,go_sem,k1]
 have hr:Tryz.f248.results=#[.cell 2 135]:=Tryz.results248
 simp only[results,hr]
 generalize stG u b n v=V at *
 simp only[Array.getD_eq_getD_getElem?] at h ⊢
 simp[go_sem,h,g0,g1]
attribute [local go_sem ↓] Go.wp_at_zero Go.wp_at_succ
theorem rR (t:List UInt8)(i:Int)(w:World)(hw:MaxOk w)(ht:t.length<=1000000)(h1:(Lib.cut t [32,61,32]).1.length<=281474976710656) :
  Calls Tryz.prog 248 #[.agg #[.string ⟨t.toArray⟩,.int .i64 i]] w fun r w'=>r=giveR t i/\Below w.heap.size w w':=by
 obtain⟨E,hE⟩:=ex (giveR t i)
 rw[hE]
 unfold giveR at hE
 obtain⟨V,hV⟩:=ex (w.alloc (.cells #[.string ⟨t.toArray⟩,.int .i64 i] 256))
 obtain⟨U,hU⟩:=ex (V.alloc (.cells #[.string ⟨#[]⟩,.string ⟨#[]⟩] 135))
 have af:Hid (Below w.heap.size w V):=ai hV
 have ah:Hid (Below V.heap.size V U):=ai hU
 have HB:Hid (Below w.heap.size w U):=bt af.out ah.out
 have HP:=zh (fun W (h:Below U.heap.size U W)=>aD hV (bt ah.out h))
 have HG:=zh (fun W (h:Below U.heap.size U W)=>cY hU h)
 have HC:=zh (abe t U (ag hw HB.out) ht)
 have HM:=zh (fun W (h:Below U.heap.size U W)=>ag (ag hw HB.out) h)
 have aj:w.heap.size<=V.heap.size:=af.out.size
 have ad:=zh aj
 obtain⟨c0,c1⟩:=HP.out _ (Below.refl _ _)
 generalize (Lib.cut t [32,61,32])=x at hE h1 HC
 obtain⟨n,v,f⟩:=x
 dsimp only at hE h1 HC
 have HN:=zh (fun W=>j9 n i W h1)
 obtain⟨y,hy⟩:=ex (nameB n)
 rw[hy] at hE HN
 have HE:=zh hE
 clear hE hw ht h1 hy aj
 go_enter Tryz.func248,Tryz.ntmps248
 go_wp2_with fail
 clear hV hU
 refine HC.out.mono ?_
 rintro _ u ⟨rfl,hb⟩
 have ak:=zh hb
 clear hb HC c0 c1
 obtain⟨c0,c1⟩:=HP.out _ ak.out
 go_wp2_with fail
 refine (HN.out _).mono ?_
 rintro _ u2 ⟨rfl,hb⟩
 have ab:Hid (Below U.heap.size U u2):=bt ak.out hb
 have al:Hid (Below w.heap.size w u2):=bt HB.out ab.out
 clear hb HN c0 c1
 cases y
 ·have HF:Hid (panAt i 3=E):=HE.out
  go_wp2_with fail
  exact⟨rfl,by rw[<-HF.out],al.out⟩
 have hE:(if f=true then (if Vm.check v=0 then Ending.returned (.agg #[.string ⟨n.toArray⟩,.string ⟨(canonOf v).toArray⟩]) else panAt i (Vm.check v)) else .returned (.agg #[.string ⟨n.toArray⟩,.string ⟨#[]⟩]))=E:=HE.out
 clear HE
 have HE:=zh hE
 clear hE
 obtain⟨G,hG⟩:=ex (u2.alloc (.cells #[.string ⟨n.toArray⟩,.string ⟨#[]⟩] 135))
 have aa:Hid (Below U.heap.size U (G.setCell ⟨u2.heap.size,1,none⟩ (.string ⟨#[]⟩))):=(ab.out.trans ((ai hG).mono ab.out.size)).setCell ab.out.size _
 have ae:Hid (Below w.heap.size w (G.setCell ⟨u2.heap.size,1,none⟩ (.string ⟨#[]⟩))):=bt HB.out aa.out
 obtain⟨g0,g1,y0,y1⟩:=cY hG (Below.refl _ _)
 obtain⟨k0,k1,z0,z1⟩:=HG.out _ aa.out
 cases f
 ·have HF:Hid (Ending.returned (.agg #[.string ⟨n.toArray⟩,.string ⟨#[]⟩])=E):=HE.out
  clear HE HP HG HM
  go_wp2_with fail
  (try simp only[Exit.inBlock,Exit.then])
  refine bodyPost_ret (ux k0 k1 rfl) rfl ?_
  exact⟨HF.out,(ae.out.setCell ad.out _).setCell ad.out _⟩
 ·have hE:(if Vm.check v=0 then Ending.returned (.agg #[.string ⟨n.toArray⟩,.string ⟨(canonOf v).toArray⟩]) else panAt i (Vm.check v))=E:=HE.out
  obtain⟨X,hX⟩:=ex (G.setCell ⟨u2.heap.size,1,none⟩ (.string ⟨#[]⟩))
  have q0:X.cell? ⟨u2.heap.size,0,none⟩=some (.string ⟨n.toArray⟩):=by rw[<-hX];simp[go_sem,g0]
  have q1:X.cell? ⟨u2.heap.size,1,none⟩=some (.string ⟨#[]⟩):=by rw[<-hX];simp[go_sem,g1]
  have r0:X.frozen? ⟨u2.heap.size,0,none⟩=false:=by rw[<-hX];simp[go_sem,y0]
  have r1:X.frozen? ⟨u2.heap.size,1,none⟩=false:=by rw[<-hX];simp[go_sem,y1]
  have ac:u2.heap.size<X.heap.size:=by rw[<-hX,<-hG];simp[go_sem]
  rw[hX] at aa ae
  have HV:=zh (gP v i X (HM.out _ aa.out))
  obtain⟨cv,an⟩:=ex (canonOf v)
  obtain⟨k,hk⟩:=ex (Vm.check v)
  rw[an,hk] at HV hE
  have HQ:=zh (fun (W:World) (h:Below X.heap.size X W)=>(⟨(h.cell ac).trans q0,(h.cell ac).trans q1,(h.frozen ac).trans r0,(h.frozen ac).trans r1⟩:W.cell? ⟨u2.heap.size,0,none⟩=some (.string ⟨n.toArray⟩)/\W.cell? ⟨u2.heap.size,1,none⟩=some (.string ⟨#[]⟩)/\W.frozen? ⟨u2.heap.size,0,none⟩=false/\W.frozen? ⟨u2.heap.size,1,none⟩=false))
  obtain⟨c0,c1⟩:=HP.out _ aa.out
  clear HE HP HM q0 q1 r0 r1 ac an hk k0 k1 z0 z1
  go_wp2_with fail
  clear hX hG g0 g1 y0 y1 c0 c1
  refine HV.out.mono ?_
  rintro _ u3 ⟨rfl,hb⟩
  obtain⟨p0,p1,s0,s1⟩:=HQ.out _ hb
  have ao:Hid (Below U.heap.size U u3):=bt aa.out hb
  have am:Hid (Below w.heap.size w u3):=bt ae.out hb
  clear hb HQ HV
  by_cases h0:k=0
  ·subst h0
   rw[if_pos rfl]
   rw[if_pos rfl] at hE
   have HF:=zh hE
   have ap:Hid (Below U.heap.size U (u3.setCell ⟨u2.heap.size,1,none⟩ (.string ⟨cv.toArray⟩))):=ao.out.setCell ab.out.size _
   obtain⟨k0,k1,z0,z1⟩:=HG.out _ ap.out
   clear hE HG
   go_wp2_with fail
   (try simp only[Exit.inBlock,Exit.then])
   refine bodyPost_ret (ux k0 k1 rfl) rfl ?_
   exact⟨HF.out,((am.out.setCell al.out.size _).setCell ad.out _).setCell ad.out _⟩
  ·rw[if_neg h0]
   rw[if_neg h0] at hE
   have HF:=zh hE
   clear hE h0 HG
   go_wp2_with fail
   exact⟨rfl,HF.out,am.out⟩
end
section
open Go.RowKit Rs At
namespace Pg
def Pure (κ:Value->Prop) (w:World) (v:Value):Prop:=∀ g,v.ownBlock=some g->∀ j u,w.cell? ⟨g,j,none⟩=some u->κ u
def NoB (u:Value):Prop:=∀ b,u≠.bool b
def IsSl (u:Value):Prop:=∃ A n c,u=.slice A n c
theorem pure_nil (κ:Value->Prop)(w:World):Pure κ w (.slice none 0 0):=fun g h=>by cases h
theorem c8 {α:Type}{enc:α->List Value}{K B:Nat}{T:TypeId}{κ:Value->Prop}{w w':World}{v:Value}{l:List α}(h:Pure κ w v)(ho:Rg.Own enc K w B T v l)(hb:Below w.heap.size w w'):Pure κ w' v:=fun g hg j u hu=>by
 have hlt:=(Rg.bw ho g hg).2
 rw[World.cell?_of_block (hb.block _ hlt)] at hu
 exact h g hg j u hu
theorem iC {κ:Value->Prop}{z:Array Value}(hz:∀ u∈z,κ u)(n:Nat):∀ u∈Builtin.zeroCells z n,κ u:=fun u hu=>by
 unfold Builtin.zeroCells at hu
 rw[Array.mem_map] at hu
 obtain⟨i,hi,rfl⟩:=hu
 have h0:0<z.size:=by
  rcases Nat.eq_zero_or_pos z.size with h | h
  ·rw[h] at hi;simp at hi
  ·exact h
 have hm:i % z.size<z.size:=Nat.mod_lt _ h0
 rw[getElem!_pos z (i % z.size) hm]
 exact hz _ (Array.getElem_mem hm)
theorem uy {κ:Value->Prop}{w:World}{cs:Array Value}{e:TypeId}{n c:Nat}(hc:∀ u∈cs,κ u):Pure κ (w.drew.alloc (.cells cs e)) (.slice (some ⟨w.heap.size,0,none⟩) n c):=fun g hg j u hu=>by
 cases hg
 rw[cell_of_row (w.drew.alloc (.cells cs e)) w.heap.size j cs e (0,0) (heap_alloc_new w.drew _)] at hu
 exact hc u (Array.mem_of_getElem? hu)
theorem pure_run {P:Program}{κ:Value->Prop}{w w':World}{v v':Value}(t ty:TypeId)(base:Nat)(e:TypeId)(i:TypeInfo)(z:Value)(size bytes:Nat)(ht:P.underlying t=some (.slice e))(hi:P.info? e=some i)(hz:i.zero=some z)
  (hsize:i.size=size) (hby:i.bytes=bytes) (n:Nat) (xs:List Value) (hown:w.ownsRow base e size v n xs)
  (ad:Addr) (m c:Nat) (news:List Value) (hl:news.length=m*size) (hnews:∀ j u,news[j]?=some u->w.cell? (ad.add j)=some u) (h1:∀ u∈news,u.oneCell'=true)
  (hm:0<m) (h63:n+m<=maxLen) (hbytes:(n+m)*bytes<=140737488355328)
  (hr:(Builtin.append_ #[t,t] ty #[v,.slice (some ad) m c]).run P w=.ok v' w') (hp:Pure κ w v) (hn:∀ u∈news,κ u) (hzc:∀ u∈z.cells,κ u):Pure κ w' v':=by
 subst hsize
 subst hby
 have ac:n+m<=9223372036854775807:=by simp only[maxLen] at h63;omega
 rcases hown.2 with⟨rfl,rfl⟩ | ⟨g,cap,cur,rfl,hbg,hg,hnc,hcm,hcs,htake⟩
 ·rw[run_append_nil (P:=P) w t ty e i z ht hi hz ad m c news hl hnews hm (by omega) (by have hb:=hbytes;simp only[Nat.zero_add] at hb;omega)] at hr
  cases hr
  exact uy fun u hu=>by
   rcases Array.mem_append.1 hu with hu | hu
   ·exact hn u (by simpa using hu)
   ·exact iC hzc _ u hu
 ·have ab:∀ u∈cur.toList,κ u:=fun u hu=>by
   obtain⟨j,hj⟩:=List.mem_iff_getElem?.1 hu
   refine hp g rfl j u ?_
   rw[cell_of_row w g j cur e (0,0) hg]
   simpa using hj
  have ag:∀ u∈xs,κ u:=fun u hu=>ab u (List.mem_of_mem_take (by rw[htake];exact hu))
  by_cases aa:n+m<=cap
  ·have ae:n*i.size+news.length<=cur.size:=by rw[hl,hcs,<-Nat.add_mul];exact Nat.mul_le_mul_right _ aa
   rw[run_append_room (P:=P) w t ty e i ht hi g n cap cur hg ad m c news hl hnews h1 aa ae] at hr
   cases hr
   intro g' ah j u hu
   cases ah
   rw[cell_of_row _ g j _ e (0,0) (setRow_heap w g cur _ e _ hg)] at hu
   have af:=Array.mem_of_getElem? hu
   rw[List.mem_toArray,List.mem_append,List.mem_append] at af
   rcases af with (h2 | h2) | h2
   ·exact ab u (List.mem_of_mem_take h2)
   ·exact hn u h2
   ·exact ab u (List.mem_of_mem_drop h2)
  ·have holds:∀ j u,xs[j]?=some u->w.cell? ((⟨g,0,none⟩:Addr).add j)=some u:=hown.cells (g:=g) rfl
   rw[run_append_grow (P:=P) w t ty e i z ht hi hz ⟨g,0,none⟩ n cap xs hown.1 holds ad m c news hl hnews (by omega) (by omega) (growslice_fits (by omega) hbytes)] at hr
   cases hr
   exact uy fun u hu=>by
    rcases Array.mem_append.1 hu with hu | hu
    ·rcases Array.mem_append.1 hu with hu | hu
     ·exact ag u (by simpa using hu)
     ·exact hn u (by simpa using hu)
    ·exact iC hzc _ u hu
def But (r:Option Nat) (w u:World):Prop:=w.heap.size<=u.heap.size/\∀ k,k<w.heap.size->r≠some k->u.heap[k]?=w.heap[k]?
theorem qS {r:Option Nat}{w u:World}(h:Below w.heap.size w u):But r w u:=⟨h.size,fun k hk _=>h.block k hk⟩
theorem dD {r:Option Nat}{w u:World}(h:w.grownBy u r):But r w u:=⟨h.size,fun k hk hr=>h.block k hk (fun e=>hr e.symm)⟩
theorem aP (w:World)(p:Addr)(x:Value):But (some p.block) w (w.setCell p x):=⟨by simp[World.setCell],fun k _ hr=>Below.heap_setCell _ _ _ _ (fun e=>hr (by rw[e]))⟩
theorem bL {r:Option Nat}{w u x:World}(h:But r w u)(k:But r u x):But r w x:=⟨Nat.le_trans h.1 k.1,fun i hi hr=>(k.2 i (Nat.lt_of_lt_of_le hi h.1) hr).trans (h.2 i hi hr)⟩
theorem cq {α:Type}{enc:α->List Value}{K:Nat}{r:Option Nat}{w u:World}{A:Option Addr}{l:List α}(h:Rg.Row enc K w A l)(hb:But r w u)(hne:0<l.length->∀ a,A=some a->r≠some a.block):Rg.Row enc K u A l:=fun h0=>by
 obtain⟨a,e,hl,hc⟩:=h h0
 refine⟨a,e,Nat.lt_of_lt_of_le hl hb.1,fun i hi j v hv=>?_⟩
 have h1:=hc i hi j v hv
 rw[World.cell?_of_block]
 ·exact h1
 ·have:(if j=0 then a.add (i*K) else (⟨(a.add (i*K)).block,(a.add (i*K)).off+j,none⟩:Addr)).block=a.block:=by split <;> simp[add_block]
  rw[this]
  exact hb.2 _ hl (hne h0 a e)
theorem uz {r:Option Nat}{w u:World}{A:Option Addr}{l:List Sp}(h:SRow w A l)(hb:But r w u)(hne:0<l.length->∀ a,A=some a->r≠some a.block):SRow u A l:=fun h0=>by
 obtain⟨a,e,hl,hc⟩:=h h0
 have hk:=hb.2 _ hl (hne h0 a e)
 refine⟨a,e,Nat.lt_of_lt_of_le hl hb.1,fun i hi=>?_⟩
 obtain⟨c0,c1,c2,c3⟩:=hc i hi
 refine⟨?_,?_,?_,?_⟩
 ·rw[World.cell?_of_block (by simpa [add_block] using hk)];exact c0
 ·rw[World.cell?_of_block (by simpa [add_block] using hk)];exact c1
 ·rw[World.cell?_of_block (by simpa [add_block] using hk)];exact c2
 ·rw[World.cell?_of_block (by simpa [add_block] using hk)];exact c3
theorem m4 {w:World}{g:Nat}{A:Option Addr}{l:List Sp}(h:SRow w A l)(hg:∀ j u,w.cell? ⟨g,j,none⟩=some u->NoB u):0<l.length->∀ a,A=some a->some g≠some a.block:=fun h0 a ha hb=>by
 obtain⟨a',e,_,hc⟩:=h h0
 rw[ha] at e;cases e
 obtain⟨_,_,_,c3⟩:=hc 0 h0
 have e3:(a.add (0*4)).add 3=⟨g,a.off+3,none⟩:=by rw[Option.some.inj hb];simp[Addr.add]
 rw[e3] at c3
 exact hg _ _ c3 _ rfl
theorem abf {w:World}{a:Addr}{v:Value}(h:w.cell? a=some v):a=⟨a.block,a.off,none⟩:=by
 obtain⟨b,o,s⟩:=a
 unfold World.cell? at h
 split at h
 ·split at h
  ·cases h
  ·rename_i h2
   cases s with
   | none=>rfl
   | some x=>exact absurd rfl h2
 ·cases h
theorem abg {α:Type}{enc:α->List Value}{K:Nat}{w:World}{g:Nat}{A:Option Addr}{l:List α}(h:Rg.Row enc K w A l)(he:∀ x,∃ t,(enc x)[0]?=some (.string t))(hg:∀ j u,w.cell? ⟨g,j,none⟩=some u->IsSl u):0<l.length->∀ a,A=some a->some g≠some a.block:=fun h0 a ha hb=>by
 obtain⟨a',e,_,hc⟩:=h h0
 rw[ha] at e;cases e
 obtain⟨t,ht⟩:=he l[0]
 have h1:=hc 0 h0 0 _ ht
 rw[if_pos rfl,Nat.zero_mul,Rg.add_zero] at h1
 rw[abf h1,<-Option.some.inj hb] at h1
 obtain⟨_,_,_,q⟩:=hg _ _ h1
 cases q
theorem afS {u:Value}(h:IsSl u):NoB u:=fun b e=>by obtain⟨_,_,_,q⟩:=h;rw[e] at q;cases q
end Pg
open Pg
theorem Pg.dq {α:Type}{P:Program}{enc:α->List Value}{K:Nat}{ST T:TypeId}{w:World}{κ:Value->Prop}(hT:Rg.SliceT P enc K ST T)(hk:∀ i,P.info? T=some i->∀ z,i.zero=some z->∀ u∈z.cells,κ u)(hke:∀ x,∀ u∈enc x,κ u)
  {ops:Array Oper} {rest:List Oper} {o:Oper} {a:Act} {Q:Exit->Act->World->Prop} (hgd:o.guard=none) (sl x:Operand)
  (ho:o.op=.call { callee:=.builtin .append,args:=#[sl,x],argTypes:=#[ST,ST] })
  (B:Nat) (v:Value) (l m:List α) (hs:a.eval sl=v) (hown:Rg.Own enc K w B T v l) (hp:Pure κ w v) (ad:Addr) (c:Nat) (hx:a.eval x=.slice (some ad) m.length c)
  (hnews:∀ j u,(Rg.flat enc m)[j]?=some u->w.cell? (ad.add j)=some u) (hm:0<m.length) (hsz:l.length+m.length<=1000000) (hB:B<=w.heap.size)
  (h:∀ v' w',Rg.Own enc K w' B T v' (l++m)->Pure κ w' v'->w.grownBy w' v.ownBlock->w.heap.size<=w'.heap.size->wpList P ops Q rest (a.put o.dst v') w'):wpList P ops Q (o :: rest) a w:=by
 obtain⟨i,z,hi,ab,af,ae,hb⟩:=hT.info
 have aa:(l.length+m.length)*i.bytes<=140737488355328:=by
  have:(l.length+m.length)*i.bytes<=1000000*1000:=Nat.mul_le_mul hsz hb
  omega
 have ac:l.length+m.length<=maxLen:=by unfold maxLen;omega
 refine wpList_plain hgd fun _ hK=>?_
 obtain⟨g,cap,w',hr,h2,h3,_,_⟩:=run_append_lies (P:=P) w ST o.type B T i z K i.bytes hT.under hi ab ae rfl af hT.pos v l.length (Rg.flat enc l) hown ad m.length c (Rg.flat enc m) (Rg.bH hT.fits m) hnews (Rg.bF hT.fits m) hm ac aa hB _ rfl
 have h6:=pure_run ST o.type B T i z K i.bytes hT.under hi ab ae rfl l.length (Rg.flat enc l) hown ad m.length c (Rg.flat enc m) (Rg.bH hT.fits m) hnews (Rg.bF hT.fits m) hm ac aa hr hp (fun u hu=>by
  obtain⟨y,_,hy⟩:=List.mem_flatMap.1 hu
  exact hke y u hy) (hk i hi z ab)
 unfold Oper.wp execOp
 simp only[ho,resolve,invoke,builtin,Sem.run_bind,Sem.run_pure,Result.andThen_ok,List.map_toArray,List.map_cons,List.map_nil,hs,hx,hr]
 refine hK _ _ (h _ w' ?_ h6 h3 h3.size)
 unfold Rg.Own
 rw[Rg.cG,List.length_append]
 exact h2
namespace Pg
theorem rS {α:Type}{P:Program}{enc:α->List Value}{K:Nat}{ST T:TypeId}{w:World}{κ:Value->Prop}(hT:Rg.SliceT P enc K ST T)(hk:∀ i,P.info? T=some i->∀ z,i.zero=some z->∀ u∈z.cells,κ u)(hke:∀ x,∀ u∈enc x,κ u)
  {ops:Array Oper} {o:Oper} {a:Act} {G:Act->World->Prop} {Q:Exit->Act->World->Prop} {E:Prop} (hgd:o.guard=none) (sl x:Operand)
  (ho:o.op=.call { callee:=.builtin .append,args:=#[sl,x],argTypes:=#[ST,ST] })
  (B:Nat) (v:Value) (l m:List α) (hs:a.eval sl=v) (hown:Rg.Own enc K w B T v l) (hp:Pure κ w v) (ad:Addr) (c:Nat) (hx:a.eval x=.slice (some ad) m.length c)
  (hnews:∀ j u,(Rg.flat enc m)[j]?=some u->w.cell? (ad.add j)=some u) (hm:0<m.length) (hsz:l.length+m.length<=1000000) (hB:B<=w.heap.size)
  (h:∀ v' w',Rg.Own enc K w' B T v' (l++m)->Pure κ w' v'->w.grownBy w' v.ownBlock->w.heap.size<=w'.heap.size->G (a.put o.dst v') w'):if Region.wanted o (yielded ops a.tmps)=true then Oper.wp P o a w G Q else E:=by
 obtain⟨i,z,hi,ab,af,ae,hb⟩:=hT.info
 have aa:(l.length+m.length)*i.bytes<=140737488355328:=by
  have:(l.length+m.length)*i.bytes<=1000000*1000:=Nat.mul_le_mul hsz hb
  omega
 have ac:l.length+m.length<=maxLen:=by unfold maxLen;omega
 have hw:Region.wanted o (yielded ops a.tmps)=true:=by simp[Region.wanted,hgd]
 rw[if_pos hw]
 obtain⟨g,cap,w',hr,h2,h3,_,_⟩:=run_append_lies (P:=P) w ST o.type B T i z K i.bytes hT.under hi ab ae rfl af hT.pos v l.length (Rg.flat enc l) hown ad m.length c (Rg.flat enc m) (Rg.bH hT.fits m) hnews (Rg.bF hT.fits m) hm ac aa hB _ rfl
 have h6:=pure_run ST o.type B T i z K i.bytes hT.under hi ab ae rfl l.length (Rg.flat enc l) hown ad m.length c (Rg.flat enc m) (Rg.bH hT.fits m) hnews (Rg.bF hT.fits m) hm ac aa hr hp (fun u hu=>by
  obtain⟨y,_,hy⟩:=List.mem_flatMap.1 hu
  exact hke y u hy) (hk i hi z ab)
 unfold Oper.wp execOp
 simp only[ho,resolve,invoke,builtin,Sem.run_bind,Sem.run_pure,Result.andThen_ok,List.map_toArray,List.map_cons,List.map_nil,hs,hx,hr]
 refine h _ w' ?_ h6 h3 h3.size
 unfold Rg.Own
 rw[Rg.cG,List.length_append]
 exact h2
end Pg
theorem Pg.lP {κ:Value->Prop}{P:Program}{T:TypeId}{z0:Value}(h:(P.info? T).map (·.zero)=some (some z0))(hk:∀ u∈z0.cells,κ u):∀ i,P.info? T=some i->∀ z,i.zero=some z->∀ u∈z.cells,κ u:=fun i hi z hz u hu=>by
 rw[hi] at h
 simp only[Option.map_some,Option.some.injEq] at h
 rw[h] at hz
 cases hz
 exact hk u hu
end
section
open Go.RowKit Rs At Pg
namespace Pg
def AFar (r:Option Nat) (A:Option Addr) (l:List Atm):Prop:=0<l.length->∀ a,A=some a->r≠some a.block
theorem pI {r:Option Nat}{w u:World}{ds:List AtD}{l:List Atm}(h:AIn w ds l)(hb:But r w u)(hg:∀ g,r=some g->∀ j x,w.cell? ⟨g,j,none⟩=some x->NoB x):AIn u ds l :=
 ⟨h.1,fun i d a h1 h2=>⟨(h.2 i d a h1 h2).1,(h.2 i d a h1 h2).2.1,uz (h.2 i d a h1 h2).2.2 hb (fun h0 q hq e=>by
  cases r with
  | none=>cases e
  | some g=>exact m4 (h.2 i d a h1 h2).2.2 (hg g rfl) h0 q hq e)⟩⟩
theorem d9 {r:Option Nat}{w u:World}{A:Option Addr}{l:List Atm}(h:ARow w A l)(hb:But r w u)(hf:AFar r A l)(hg:∀ g,r=some g->∀ j x,w.cell? ⟨g,j,none⟩=some x->NoB x):ARow u A l:=by
 obtain⟨ds,h1,h2⟩:=h
 exact⟨ds,cq h1 hb (by rw[h2.1];exact hf),pI h2 hb hg⟩
theorem aeU {w:World}{g:Nat}{A:Option Addr}{l:List Atm}(h:ARow w A l)(hg:∀ j u,w.cell? ⟨g,j,none⟩=some u->IsSl u):AFar (some g) A l:=by
 obtain⟨ds,h1,h2⟩:=h
 have:=abg h1 (fun x=>⟨_,rfl⟩) hg
 rw[h2.1] at this
 exact this
end Pg
end
section
open Go.RowKit Rs At Pg
namespace Pg
theorem eJ {sep:List UInt8}(hs:sep≠[]):∀ (c k:Nat) (s:List UInt8),Lib.count s sep=c->(c<=k->Lib.splitK sep 0 k s=Lib.splitK sep 0 c s)/\(Lib.splitK sep 0 k s).length=min k c+1
 | c,0,s,_=>⟨fun h=>by rw[Nat.le_zero.1 h],by rw[Nat.zero_min];rfl⟩
 | c,k+1,s,hc=>by
  rcases Lib.index_spec s sep with⟨h,_⟩ | ⟨i,h,_⟩
  ·have h0:c=0:=by rw[<-hc];exact Lib.count_miss h
   have e:Lib.splitK sep 0 (k+1) s=[s]:=by unfold Lib.splitK;rw[if_pos (beq_iff_eq.2 h)]
   subst h0
   exact⟨fun _=>by rw[e];rfl,by rw[e,Nat.min_zero];rfl⟩
  ·have h1:=Lib.count_hit hs h
   obtain⟨c',rfl⟩:∃ c',c=c'+1:=⟨c-1,by omega⟩
   have hm:¬ (Lib.index s sep == -1)=true:=fun e=>by have:=beq_iff_eq.1 e;omega
   have et:(Lib.index s sep).toNat=i:=by omega
   have e:∀ m,Lib.splitK sep 0 (m+1) s=s.take i :: Lib.splitK sep 0 m (s.drop (i+sep.length)):=fun m=>by
    rw[Lib.splitK,if_neg hm,et];rfl
   obtain⟨a,b⟩:=eJ hs c' k (s.drop (i+sep.length)) (by omega)
   refine⟨fun hk=>?_,?_⟩
   ·rw[e,e,a (by omega)]
   ·rw[e,List.length_cons,b];omega
theorem qT {sep:List UInt8}(hs:sep≠[]):∀ (f:Nat) (s:List UInt8),s.length<=f->Lib.count s sep<=s.length
 | 0,s,hf=>by
  rcases Lib.index_spec s sep with⟨h,_⟩ | ⟨i,h,hi,ho,_⟩
  ·rw[Lib.count_miss h];exact Nat.zero_le _
  ·have:=Lib.index_room s sep (by omega)
   have:0<sep.length:=List.length_pos_iff.2 hs
   omega
 | f+1,s,hf=>by
  rcases Lib.index_spec s sep with⟨h,_⟩ | ⟨i,h,hi,ho,_⟩
  ·rw[Lib.count_miss h];exact Nat.zero_le _
  ·have h2:=Lib.index_room s sep (by omega)
   have h3:0<sep.length:=List.length_pos_iff.2 hs
   rw[Lib.count_hit hs h]
   have:=qT hs f (s.drop (i+sep.length)) (by rw[List.length_drop];omega)
   rw[List.length_drop] at this
   omega
theorem jT {s sep:List UInt8}(hs:sep≠[])(most:Nat):((Lib.split s sep).length<=most->Lib.splitN s sep (most+1)=Lib.split s sep)/\(most<(Lib.split s sep).length->most<(Lib.splitN s sep (most+1)).length):=by
 have hc:=qT hs s.length s (Nat.le_refl _)
 have e:(Lib.split s sep).length=Lib.count s sep+1:=by
  unfold Lib.split
  rw[(eJ hs _ _ s rfl).2,Nat.min_self]
 unfold Lib.splitN
 refine⟨fun h=>?_,fun h=>?_⟩
 ·rw[(eJ hs _ _ s rfl).1 (by omega)];rfl
 ·rw[(eJ hs _ _ s rfl).2];omega
def rdL {β:Type} (rd:List UInt8->Except Int β):List β->List (List UInt8)->Except Int (List β)
 | acc,[]=>.ok acc
 | acc,t :: l=>match rd t with
  | .ok x=>rdL rd (acc++[x]) l
  | .error e=>.error e
def partsR {β:Type} (rd:List UInt8->Except Int β) (sep:List UInt8) (most:Nat) (t:List UInt8):Except Int (List β) :=
 if (Lib.split t sep).length<=most then rdL rd [] (Lib.split t sep) else .error 4
theorem jk {β:Type}{rd:List UInt8->Except Int β}{acc:List β}{t:List UInt8}{l:List (List UInt8)}{x:β}(h:rd t=.ok x):rdL rd acc (t :: l)=rdL rd (acc++[x]) l:=by
 rw[rdL,h]
theorem eu {β:Type}{rd:List UInt8->Except Int β}{acc:List β}{t:List UInt8}{l:List (List UInt8)}{e:Int}(h:rd t=.error e):rdL rd acc (t :: l)=.error e:=by
 rw[rdL,h]
theorem xV {β:Type}{rd:List UInt8->Except Int β}:∀ (l:List (List UInt8)) (acc r:List β),rdL rd acc l=.ok r->r.length=acc.length+l.length
 | [],acc,r,h=>by cases h;rfl
 | t :: l,acc,r,h=>by
  cases ht:rd t with
  | error e=>rw[eu ht] at h;cases h
  | ok x =>
   rw[jk ht] at h
   have:=xV l _ r h
   simp only[List.length_append,List.length_cons,List.length_nil] at this ⊢
   omega
def atomR (t:List UInt8):Except Int Atm:=if (parseA t).1=0 then .ok (parseA t).2 else .error (parseA t).1
def semi:List UInt8:=[59,32]
def orT:List UInt8:=[32,111,114,32]
def isT:List UInt8:=[32,61,32]
def depR (t:List UInt8):Except Int (List Atm):=partsR atomR orT 8 t
def gvR (t:List UInt8):Except Int Gv :=
 if nameB (Lib.cut t isT).1=true then
  if (Lib.cut t isT).2.2=true then
   if Vm.check (Lib.cut t isT).2.1=0 then .ok ⟨(Lib.cut t isT).1,canonOf (Lib.cut t isT).2.1⟩ else .error (Vm.check (Lib.cut t isT).2.1)
  else .ok ⟨(Lib.cut t isT).1,[]⟩
 else .error 3
def kPkg:List UInt8:=[80,97,99,107,97,103,101]
def kVer:List UInt8:=[86,101,114,115,105,111,110]
def kDep:List UInt8:=[68,101,112,101,110,100,115]
def kCon:List UInt8:=[67,111,110,102,108,105,99,116,115]
def kPro:List UInt8:=[80,114,111,118,105,100,101,115]
def kWei:List UInt8:=[87,101,105,103,104,116]
def keys6:List (List UInt8):=[kPkg,kVer,kDep,kCon,kPro,kWei]
def wtR (t:List UInt8):Except Int Nat:=if errW t=0 then (if chkW (outW t)=0 then .ok (outW t) else .error (chkW (outW t))) else .error (errW t)
def takeR (p:Pk) (key val:List UInt8):Except Int Pk :=
 if key=kPkg then (if nameB val=true then .ok { p with name:=val } else .error 3)
 else if key=kVer then (if Vm.check val=0 then .ok { p with ver:=canonOf val } else .error (Vm.check val))
 else if key=kDep then (match partsR depR semi 16 val with | .ok l=>.ok { p with deps:=l } | .error e=>.error e)
 else if key=kCon then (match partsR atomR semi 16 val with | .ok l=>.ok { p with confl:=l } | .error e=>.error e)
 else if key=kPro then (match partsR gvR semi 16 val with | .ok l=>.ok { p with prov:=l } | .error e=>.error e)
 else if key=kWei then (match wtR val with | .ok b=>.ok { p with wt:=b } | .error e=>.error e)
 else .ok p
def readR:Nat->Pk->List Sz.Fld->Except (Int × Int) Pk
 | _,p,[]=>.ok p
 | i,p,f :: l=>match takeR p f.key f.val with
  | .ok q=>readR (i+1) q l
  | .error e=>.error (i,e)
theorem jU {i:Nat}{p q:Pk}{f:Sz.Fld}{l:List Sz.Fld}(h:takeR p f.key f.val=.ok q):readR i p (f :: l)=readR (i+1) q l:=by rw[readR,h]
theorem fj {i:Nat}{p:Pk}{f:Sz.Fld}{l:List Sz.Fld}{e:Int}(h:takeR p f.key f.val=.error e):readR i p (f :: l)=.error (i,e):=by rw[readR,h]
def zeroP:Pk:=⟨[],[],[],[],[],0⟩
def readP (s:List Sz.Fld):Except (Int × Int) Pk :=
 if (Sz.ordP keys6 0 (-1) s).2=0 then
  if (Sz.getF s kPkg).isSome&&(Sz.getF s kVer).isSome then readR 0 zeroP s else .error (0,10)
 else .error (Sz.ordP keys6 0 (-1) s)
def fromP (s:List Sz.Fld):Int × Int × Pk:=match readP s with
 | .ok p=>(0,0,p)
 | .error (i,e)=>(e,i,zeroP)
theorem uA {t:List UInt8}{e:Int}(h:atomR t=.error e):e≠0:=by
 unfold atomR at h
 split at h
 ·cases h
 ·rename_i h0;cases h;exact h0
theorem abh {β:Type}{rd:List UInt8->Except Int β}(hr:∀ t e,rd t=.error e->e≠0):∀ (l:List (List UInt8)) (acc:List β) (e:Int),rdL rd acc l=.error e->e≠0
 | [],acc,e,h=>by cases h
 | t :: l,acc,e,h=>by
  cases ht:rd t with
  | error e'=>rw[eu ht] at h;cases h;exact hr t _ ht
  | ok x=>rw[jk ht] at h;exact abh hr l _ e h
theorem iD {β:Type}{rd:List UInt8->Except Int β}(hr:∀ t e,rd t=.error e->e≠0){sep t:List UInt8}{most:Nat}{e:Int}(h:partsR rd sep most t=.error e):e≠0:=by
 unfold partsR at h
 split at h
 ·exact abh hr _ _ _ h
 ·cases h;decide
theorem aeV {t:List UInt8}{e:Int}(h:depR t=.error e):e≠0:=iD (fun _ _=>uA) h
theorem afT {t:List UInt8}{e:Int}(h:gvR t=.error e):e≠0:=by
 unfold gvR at h
 split at h
 ·split at h
  ·split at h
   ·cases h
   ·rename_i h0;cases h;exact h0
  ·cases h
 ·cases h;decide
theorem afU {t:List UInt8}{e:Int}(h:wtR t=.error e):e≠0:=by
 unfold wtR at h
 split at h
 ·split at h
  ·cases h
  ·rename_i h0;cases h;exact h0
 ·rename_i h0;cases h;exact h0
theorem uB {p:Pk}{k v:List UInt8}{e:Int}(h:takeR p k v=.error e):e≠0:=by
 unfold takeR at h
 split at h
 ·split at h
  ·cases h
  ·cases h;decide
 split at h
 ·split at h
  ·cases h
  ·rename_i h0;cases h;exact h0
 split at h
 ·split at h
  ·cases h
  ·rename_i h0;cases h;exact iD (fun _ _=>aeV) h0
 split at h
 ·split at h
  ·cases h
  ·rename_i h0;cases h;exact iD (fun _ _=>uA) h0
 split at h
 ·split at h
  ·cases h
  ·rename_i h0;cases h;exact iD (fun _ _=>afT) h0
 split at h
 ·split at h
  ·cases h
  ·rename_i h0;cases h;exact afU h0
 cases h
theorem uC:∀ (l:List Sz.Fld) (i:Nat) (p:Pk) (x:Int × Int),readR i p l=.error x->x.2≠0
 | [],i,p,x,h=>by cases h
 | f :: l,i,p,x,h=>by
  cases ht:takeR p f.key f.val with
  | error e'=>rw[fj ht] at h;cases h;exact uB ht
  | ok q=>rw[jU ht] at h;exact uC l _ _ x h
theorem adg {s:List Sz.Fld}{x:Int × Int}(h:readP s=.error x):x.2≠0:=by
 unfold readP at h
 split at h
 ·split at h
  ·exact uC _ _ _ _ h
  ·cases h;decide
 ·rename_i h0;cases h;exact h0
theorem abi (t:List UInt8)(i:Int):giveR t i=match gvR t with | .ok g=>.returned (.agg #[.string ⟨g.name.toArray⟩,.string ⟨g.ver.toArray⟩]) | .error e=>panAt i e:=by
 unfold giveR gvR isT
 by_cases h1:nameB (Lib.cut t [32,61,32]).1=true
 ·rw[if_pos h1,if_pos h1]
  by_cases h2:(Lib.cut t [32,61,32]).2.2=true
  ·rw[if_pos h2,if_pos h2]
   by_cases h3:Vm.check (Lib.cut t [32,61,32]).2.1=0
   ·rw[if_pos h3,if_pos h3]
   ·rw[if_neg h3,if_neg h3]
  ·rw[if_neg h2,if_neg h2]
 ·rw[if_neg h1,if_neg h1]
end Pg
end
section
open Go.RowKit Rs At Pg
namespace Pg
def gvT (g:Gv):List UInt8:=if g.ver=[] then g.name else g.name++[32,61,32]++g.ver
def depT (d:List Atm):List UInt8:=Lib.join (d.map textA) [32,111,114,32]
def ATxt (l:List Atm):Prop:=∀ a∈l,a.name.length<=100/\a.rng.length<=64/\checkR a.rng=0
def GTxt (l:List Gv):Prop:=∀ g∈l,g.name.length<=1000/\g.ver.length<=1000
def DTxt (t:List (List Atm)):Prop:=∀ d∈t,d.length<=1000/\ATxt d/\(depT d).length<=1000000
end Pg
attribute [local go_sem ↓] Go.wp_at_zero Go.wp_at_succ
theorem uD (g:Gv)(w:World)(h1:g.name.length<=1000)(h2:g.ver.length<=1000) :
  Calls Tryz.prog 154 #[.agg #[.string ⟨g.name.toArray⟩,.string ⟨g.ver.toArray⟩]] w fun e w'=>e=.returned (.string ⟨(gvT g).toArray⟩)/\Below w.heap.size w w':=by
 obtain⟨nm,v⟩:=g
 dsimp only at h1 h2 ⊢
 obtain⟨R,hR⟩:=ex (gvT ⟨nm,v⟩)
 rw[hR]
 unfold gvT at hR
 dsimp only at hR
 obtain⟨V,hV⟩:=ex (w.alloc (.cells #[.string ⟨nm.toArray⟩,.string ⟨v.toArray⟩] 135))
 have HB:Hid (Below w.heap.size w V):=ai hV
 obtain⟨c0,c1⟩:=aD hV (Below.refl _ _)
 by_cases e2:v=[]
 ·have e:(v==[])=true:=by rw[e2];rfl
  rw[if_pos e2] at hR
  subst hR
  clear e2
  go_enter Tryz.func154,Tryz.ntmps154
  go_wp2_with fail
  refine (a6 nm _ (by omega)).mono ?_
  rintro _ u ⟨rfl,hb⟩
  have HU:Hid (Below w.heap.size w u):=bt HB.out hb
  clear hb
  go_wp2_with fail
  go_ret
  exact⟨rfl,HU.out⟩
 ·have e:(v==[])=false:=beq_eq_false_iff_ne.2 e2
  rw[if_neg e2] at hR
  have HR:=zh hR
  have q1:=jb { data:=nm.toArray } { data:=#[32,61,32] } (by show nm.toArray.size+3<=_;rw[List.size_toArray];omega)
  have q2:=jb ({ data:=nm.toArray }++{ data:=#[32,61,32] }) { data:=v.toArray } (by rw[ByteArray.size_append];show nm.toArray.size+3+v.toArray.size<=_;rw[List.size_toArray,List.size_toArray];omega)
  clear e2 hR
  go_enter Tryz.func154,Tryz.ntmps154
  go_wp2_with fail
  go_ret
  rw[<-HR.out]
  exact⟨congrArg (fun x=>Ending.returned (Value.string x)) (cat3 nm [32,61,32] v),HB.out⟩
theorem ke (sep:List UInt8)(A:Option Addr)(n c:Nat)(l:List Atm)(w:World)(hw:MaxOk w)(hn:l.length=n)(hr:ARow w A l)(hl:n<=1000)(hg:ATxt l)(hj:(Lib.join (l.map textA) sep).length<=1000000) :
  Calls Tryz.prog 151 #[.slice A n c,.func (.func 152) #[] #[],.string ⟨sep.toArray⟩] w fun e w'=>e=.returned (.string ⟨(Lib.join (l.map textA) sep).toArray⟩)/\Below w.heap.size w w':=by
 have HM:=zh hw
 have HR:=zh hr
 have HN:=zh hn
 have HG:=zh hg
 have HJ:=zh hj
 clear hw hr hn hg hj
 go_enter Tryz.func151,Tryz.ntmps151
 go_wp2_with fail
 go_loopw [7,12] (fun v i wr=>∃ k:Nat,k<=n/\i=.int .i64 k/\Hid (Rg.Own encT 1 wr w.heap.size 9 v ((l.take k).map textA))/\Hid (Below w.heap.size w wr/\w.heap.size<=wr.heap.size)) (fun _ i _=>n-(intOf i).toNat)
 case atStart=>exact⟨0,Nat.zero_le _,rfl,Rg.aB _ _ _,Below.refl _ _,Nat.le_refl _⟩
 case round =>
  obtain⟨k,hk,rfl,HO,HB⟩:=hrel
  by_cases am:k<n
  ·have ac:k<l.length:=by rw[HN.out];exact am
   have ab:=HG.out _ (List.getElem_mem ac)
   obtain⟨ad,C,m,d,rfl,hm,hs,hc⟩:=dm HR.out k ac
   obtain⟨c0,c1⟩:=hc _ HB.out.1
   obtain⟨a,ha⟩:=ex (l[k])
   have HS:=zh (fx textA l k ac _ ha)
   obtain⟨tk,ah⟩:=ex ((l.take k).map textA)
   have aj:tk.length+1<=1000000:=by rw[<-ah,List.length_map,List.length_take];omega
   rw[ah] at HS HO
   have an:=zh aj
   clear ah aj
   rw[ha] at hm hs ab c0
   obtain⟨nm,r⟩:=a
   dsimp only at hm hs ab c0
   obtain⟨V,hV⟩:=ex (wr.alloc (.cells #[.string ⟨nm.toArray⟩,.slice C m d] 51))
   have ae:Hid (Below wr.heap.size wr V):=ai hV
   have af:Hid (Below w.heap.size w V):=HB.out.1.trans (ae.out.mono HB.out.2)
   obtain⟨v0,v1⟩:=aD hV (Below.refl _ _)
   have HT:=zh (tN nm C m d r V (ag HM.out af.out) ab.1 hm (ao hs af.out) (by rw[<-hm];exact ab.2.1) ab.2.2)
   clear hc ha hm hs ab af
   obtain⟨X,hX⟩:=ex (textA ⟨nm,r⟩)
   rw[hX] at HT HS
   clear hX
   go_wp2_with fail
   refine HT.out.mono ?_
   rintro _ u2 ⟨rfl,hb⟩
   have aa:Hid (Below wr.heap.size wr u2):=bt ae.out hb
   clear hb HT
   go_wp2_with (at_builtin;refine Rg.aN sliceTx rfl (.tmp 16) (.tmp 20) rfl w.heap.size _ tk [X] rfl (Rg.own_below HO.out (aa.out.alloc aa.out.size _)) _ _ rfl (Rg.az u2 _ _ _ (by rfl)) (Nat.zero_lt_succ _) an.out ?b2 ?_)
   case b2=>have:=HB.out.2;have:=aa.out.size;simp;omega
   intro v5 W5 ak al av
   have ap:=el HB aa.out HO al
   have aq:Hid (Rg.Own encT 1 W5 w.heap.size 9 v5 ((l.take (k+1)).map textA)):=by show Rg.Own _ _ _ _ _ _ _;rw[HS.out];exact ak
   clear ak al av HO HB aa ae
   go_wp2_with fail
   go_roundw
   case rel=>exact⟨k+1,by omega,by go_num,aq,ap⟩
   case measure=>simp[intOf];omega
  ·obtain rfl:k=n:=by omega
   have ar:Hid (Rg.Own encT 1 wr w.heap.size 9 u7 (l.map textA)):=by
    have:=HO.out
    rwa [List.take_of_length_le (by rw[HN.out];exact Nat.le_refl _)] at this
   have au:Hid ((l.map textA).length<=100000):=by show _<=_;rw[List.length_map,HN.out];omega
   clear HO
   go_wp2_with fail
   refine (gK sep ar.out au.out HJ.out).mono ?_
   rintro _ u ⟨rfl,hb⟩
   have aa:Hid (Below w.heap.size w u):=HB.out.1.trans (hb.mono HB.out.2)
   clear hb
   go_wp2_with fail
   go_ret
   exact⟨rfl,aa.out⟩
theorem wO (A:Option Addr)(n c:Nat)(l:List Atm)(w:World)(hw:MaxOk w)(hn:l.length=n)(hr:ARow w A l)(hl:n<=1000)(hg:ATxt l)(hj:(depT l).length<=1000000) :
  Calls Tryz.prog 150 #[.slice A n c] w fun e w'=>e=.returned (.string ⟨(depT l).toArray⟩)/\Below w.heap.size w w':=by
 have HJ:=zh (ke [32,111,114,32] A n c l w hw hn hr hl hg hj)
 clear hw hn hr hl hg hj
 go_enter Tryz.func150,Tryz.ntmps150
 go_wp2_with fail
 refine HJ.out.mono ?_
 rintro _ u ⟨rfl,hb⟩
 have HU:=zh hb
 clear hb
 go_wp2_with fail
 go_ret
 exact⟨rfl,HU.out⟩
theorem rT (sep:List UInt8)(A:Option Addr)(n c:Nat)(l:List Gv)(w:World)(hw:MaxOk w)(hn:l.length=n)(hr:GRow w A l)(hl:n<=1000)(hg:GTxt l)(hj:(Lib.join (l.map gvT) sep).length<=1000000) :
  Calls Tryz.prog 153 #[.slice A n c,.func (.func 154) #[] #[],.string ⟨sep.toArray⟩] w fun e w'=>e=.returned (.string ⟨(Lib.join (l.map gvT) sep).toArray⟩)/\Below w.heap.size w w':=by
 have HM:=zh hw
 have HR:=zh hr
 have HN:=zh hn
 have HG:=zh hg
 have HJ:=zh hj
 clear hw hr hn hg hj
 go_enter Tryz.func153,Tryz.ntmps153
 go_wp2_with fail
 go_loopw [7,12] (fun v i wr=>∃ k:Nat,k<=n/\i=.int .i64 k/\Hid (Rg.Own encT 1 wr w.heap.size 9 v ((l.take k).map gvT))/\Hid (Below w.heap.size w wr/\w.heap.size<=wr.heap.size)) (fun _ i _=>n-(intOf i).toNat)
 case atStart=>exact⟨0,Nat.zero_le _,rfl,Rg.aB _ _ _,Below.refl _ _,Nat.le_refl _⟩
 case round =>
  obtain⟨k,hk,rfl,HO,HB⟩:=hrel
  by_cases ak:k<n
  ·have ac:k<l.length:=by rw[HN.out];exact ak
   have ab:=HG.out _ (List.getElem_mem ac)
   obtain⟨ad,rfl,hc⟩:=dJ HR.out k ac
   obtain⟨c0,c1⟩:=hc _ HB.out.1
   obtain⟨a,ha⟩:=ex (l[k])
   have HS:=zh (fx gvT l k ac _ ha)
   obtain⟨tk,ae⟩:=ex ((l.take k).map gvT)
   have af:tk.length+1<=1000000:=by rw[<-ae,List.length_map,List.length_take];omega
   rw[ae] at HS HO
   have al:=zh af
   clear ae af
   rw[ha] at ab c0 c1
   obtain⟨V,hV⟩:=ex (wr.alloc (.cells #[.string ⟨a.name.toArray⟩,.string ⟨a.ver.toArray⟩] 135))
   have ag:Hid (Below wr.heap.size wr V):=ai hV
   obtain⟨v0,v1⟩:=aD hV (Below.refl _ _)
   have HT:=zh (uD a V ab.1 ab.2)
   clear hc ha ab
   obtain⟨X,hX⟩:=ex (gvT a)
   rw[hX] at HT HS
   clear hX
   go_wp2_with fail
   refine HT.out.mono ?_
   rintro _ u2 ⟨rfl,hb⟩
   have aa:Hid (Below wr.heap.size wr u2):=bt ag.out hb
   clear hb HT
   go_wp2_with (at_builtin;refine Rg.aN sliceTx rfl (.tmp 16) (.tmp 20) rfl w.heap.size _ tk [X] rfl (Rg.own_below HO.out (aa.out.alloc aa.out.size _)) _ _ rfl (Rg.az u2 _ _ _ (by rfl)) (Nat.zero_lt_succ _) al.out ?b2 ?_)
   case b2=>have:=HB.out.2;have:=aa.out.size;simp;omega
   intro v5 W5 ah aj aq
   have am:=el HB aa.out HO aj
   have an:Hid (Rg.Own encT 1 W5 w.heap.size 9 v5 ((l.take (k+1)).map gvT)):=by show Rg.Own _ _ _ _ _ _ _;rw[HS.out];exact ah
   clear ah aj aq HO HB aa ag
   go_wp2_with fail
   go_roundw
   case rel=>exact⟨k+1,by omega,by go_num,an,am⟩
   case measure=>simp[intOf];omega
  ·obtain rfl:k=n:=by omega
   have ao:Hid (Rg.Own encT 1 wr w.heap.size 9 u7 (l.map gvT)):=by
    have:=HO.out
    rwa [List.take_of_length_le (by rw[HN.out];exact Nat.le_refl _)] at this
   have ap:Hid ((l.map gvT).length<=100000):=by show _<=_;rw[List.length_map,HN.out];omega
   clear HO
   go_wp2_with fail
   refine (gK sep ao.out ap.out HJ.out).mono ?_
   rintro _ u ⟨rfl,hb⟩
   have aa:Hid (Below w.heap.size w u):=HB.out.1.trans (hb.mono HB.out.2)
   clear hb
   go_wp2_with fail
   go_ret
   exact⟨rfl,aa.out⟩
theorem uE (sep:List UInt8)(A:Option Addr)(n c:Nat)(l:List (List Atm))(w:World)(hw:MaxOk w)(hn:l.length=n)(hr:Pg.DRow w A l)(hl:n<=1000)(hg:DTxt l)(hj:(Lib.join (l.map depT) sep).length<=1000000) :
  Calls Tryz.prog 149 #[.slice A n c,.func (.func 150) #[] #[],.string ⟨sep.toArray⟩] w fun e w'=>e=.returned (.string ⟨(Lib.join (l.map depT) sep).toArray⟩)/\Below w.heap.size w w':=by
 have HM:=zh hw
 have HR:=zh hr
 have HN:=zh hn
 have HG:=zh hg
 have HJ:=zh hj
 clear hw hr hn hg hj
 go_enter Tryz.func149,Tryz.ntmps149
 go_wp2_with fail
 go_loopw [7,12] (fun v i wr=>∃ k:Nat,k<=n/\i=.int .i64 k/\Hid (Rg.Own encT 1 wr w.heap.size 9 v ((l.take k).map depT))/\Hid (Below w.heap.size w wr/\w.heap.size<=wr.heap.size)) (fun _ i _=>n-(intOf i).toNat)
 case atStart=>exact⟨0,Nat.zero_le _,rfl,Rg.aB _ _ _,Below.refl _ _,Nat.le_refl _⟩
 case round =>
  obtain⟨k,hk,rfl,HO,HB⟩:=hrel
  by_cases ak:k<n
  ·have ac:k<l.length:=by rw[HN.out];exact ak
   have ab:=HG.out _ (List.getElem_mem ac)
   obtain⟨ad,C,m,d,rfl,hm,hs,hc⟩:=dB HR.out k ac
   have c0:=hc _ HB.out.1
   obtain⟨a,ha⟩:=ex (l[k])
   have HS:=zh (fx depT l k ac _ ha)
   obtain⟨tk,ae⟩:=ex ((l.take k).map depT)
   have af:tk.length+1<=1000000:=by rw[<-ae,List.length_map,List.length_take];omega
   rw[ae] at HS HO
   have al:=zh af
   clear ae af
   rw[ha] at hm hs ab
   have ah:Hid (Below wr.heap.size wr wr):=Below.refl _ _
   have HT:=zh (wO C m d a wr (ag HM.out HB.out.1) hm (ay hs HB.out.1) (by rw[<-hm];exact ab.1) ab.2.1 ab.2.2)
   clear hc ha hm hs ab
   obtain⟨X,hX⟩:=ex (depT a)
   rw[hX] at HT HS
   clear hX
   go_wp2_with fail
   refine HT.out.mono ?_
   rintro _ u2 ⟨rfl,hb⟩
   have aa:Hid (Below wr.heap.size wr u2):=bt ah.out hb
   clear hb HT
   go_wp2_with (at_builtin;refine Rg.aN sliceTx rfl (.tmp 16) (.tmp 20) rfl w.heap.size _ tk [X] rfl (Rg.own_below HO.out (aa.out.alloc aa.out.size _)) _ _ rfl (Rg.az u2 _ _ _ (by rfl)) (Nat.zero_lt_succ _) al.out ?b2 ?_)
   case b2=>have:=HB.out.2;have:=aa.out.size;simp;omega
   intro v5 W5 ai aj aq
   have am:=el HB aa.out HO aj
   have an:Hid (Rg.Own encT 1 W5 w.heap.size 9 v5 ((l.take (k+1)).map depT)):=by show Rg.Own _ _ _ _ _ _ _;rw[HS.out];exact ai
   clear ai aj aq HO HB aa ah
   go_wp2_with fail
   go_roundw
   case rel=>exact⟨k+1,by omega,by go_num,an,am⟩
   case measure=>simp[intOf];omega
  ·obtain rfl:k=n:=by omega
   have ao:Hid (Rg.Own encT 1 wr w.heap.size 9 u7 (l.map depT)):=by
    have:=HO.out
    rwa [List.take_of_length_le (by rw[HN.out];exact Nat.le_refl _)] at this
   have ap:Hid ((l.map depT).length<=100000):=by show _<=_;rw[List.length_map,HN.out];omega
   clear HO
   go_wp2_with fail
   refine (gK sep ao.out ap.out HJ.out).mono ?_
   rintro _ u ⟨rfl,hb⟩
   have aa:Hid (Below w.heap.size w u):=HB.out.1.trans (hb.mono HB.out.2)
   clear hb
   go_wp2_with fail
   go_ret
   exact⟨rfl,aa.out⟩
end
section
open Go.RowKit Rs At Pg
namespace Pg
def to0 (p:Pk):List Sz.Fld:=[⟨kPkg,p.name,0⟩,⟨kVer,p.ver,0⟩]
def depsT (p:Pk):List UInt8:=Lib.join (p.deps.map depT) semi
def conflT (p:Pk):List UInt8:=Lib.join (p.confl.map textA) semi
def provT (p:Pk):List UInt8:=Lib.join (p.prov.map gvT) semi
def to1 (p:Pk):List Sz.Fld:=if p.deps=[] then to0 p else to0 p++[⟨kDep,depsT p,0⟩]
def to2 (p:Pk):List Sz.Fld:=if p.confl=[] then to1 p else to1 p++[⟨kCon,conflT p,0⟩]
def to3 (p:Pk):List Sz.Fld:=if p.prov=[] then to2 p else to2 p++[⟨kPro,provT p,0⟩]
def toPk (p:Pk):List Sz.Fld:=if Wm.textW p.wt=[48] then to3 p else to3 p++[⟨kWei,Wm.textW p.wt,0⟩]
def PTxt (p:Pk):Prop:=p.name.length<=1000/\p.ver.length<=1000/\p.deps.length<=1000/\DTxt p.deps/\(depsT p).length<=1000000/\p.confl.length<=1000/\ATxt p.confl/\(conflT p).length<=1000000/\p.prov.length<=1000/\GTxt p.prov/\(provT p).length<=1000000/\p.wt<Wm.W
theorem aeW (p:Pk):(to0 p).length=2:=rfl
theorem xW (p:Pk):(to1 p).length<=3:=by unfold to1;split <;> simp[to0]
theorem xX (p:Pk):(to2 p).length<=4:=by unfold to2;have:=xW p;split <;> simp <;> omega
theorem xY (p:Pk):(to3 p).length<=5:=by unfold to3;have:=xX p;split <;> simp <;> omega
theorem aeX (p:Pk):(toPk p).length<=6:=by unfold toPk;have:=xY p;split <;> simp <;> omega
end Pg
end
end Go.Proofs.YtgnaiidgjmicaaaGreatDoor
