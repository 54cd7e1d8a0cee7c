/- Part 5 of what the laws lean on. -/
import Derived.Test.YtgnaiidgjmicaaaGreatDoorL04
set_option maxRecDepth 100000
set_option maxHeartbeats 3200000
namespace Go.Proofs.YtgnaiidgjmicaaaGreatDoor
section
open Go.RowKit
theorem oy (p:Addr)(x:Int)(n:Int)(w:World)(hc:w.cell? p=some (.int .i64 x))(hz:w.frozen? p=false) :
  CallsD Tryz.prog 250 #[.pointer (some p)] (.panicking [{ v:=.iface 77 (.int .i64 n),recovered:=false }]) w fun e u' w' =>
   e=.returned (.tuple #[])/\u'=.panicking [{ v:=.iface 77 (.int .i64 n),recovered:=true }]/\w'=w.setCell p (.int .i64 n):=by
 refine callsD_of_wpS Tryz.func250 rfl fun c₀ cs hu=>?_
 apply wpS_region
 simp[wpOpsS,go_sem,recoverD,hu,Tryz.ntmps250]
 refine (db n _).mono ?_
 rintro e w' ⟨rfl,rfl⟩
 simp[go_sem,hc,hz,bodyPostS,results,Tryz.results250]
theorem qC (p:Addr)(x:Int)(w:World)(hc:w.cell? p=some (.int .i64 x))(hz:w.frozen? p=false) :
  CallsD Tryz.prog 250 #[.pointer (some p)] .returning w fun e u' w'=>e=.returned (.tuple #[])/\u'=.returning/\w'=w.setCell p (.int .i64 0):=by
 refine callsD_of_wpS Tryz.func250 rfl fun c₀ cs hu=>?_
 apply wpS_region
 simp[wpOpsS,go_sem,recoverD,hu,Tryz.ntmps250]
 refine (da _).mono ?_
 rintro e w' ⟨rfl,rfl⟩
 cases c₀
 simp_all [go_sem,bodyPostS,results,Tryz.results250]
theorem nj (w:World) :
  CallsD Tryz.prog 85 #[] .returning w fun e u' w'=>e=.returned (.tuple #[])/\u'=.returning/\w'=w:=by
 refine callsD_of_wpS Tryz.func85 rfl fun c₀ cs hu=>?_
 apply wpS_region
 cases c₀
 simp_all [wpOpsS,go_sem,recoverD,Tryz.ntmps85,bodyPostS,results,Tryz.results85]
theorem hJ (l:List UInt8)(w:World)(hw:MaxOk w)(h:Vm.check l=0) :
  Calls Tryz.prog 84 #[.string ⟨l.toArray⟩] w fun e w'=>e=.returned (.agg #[.string ⟨(Vm.ep l).toArray⟩,.string ⟨(Vm.pt l).toArray⟩,.string ⟨(Vm.rv l).toArray⟩])/\Below w.heap.size w w':=by
 unfold Vm.check at h
 split at h
 ·cases h
 ·split at h
  ·rename_i h1 h2
   refine (mo l w hw (by omega)).mono fun e w' ⟨g1,g2⟩=>⟨?_,g2⟩
   rw[g1,parsed,ended]
   unfold Vm.verOk at h2
   rw[h2];rfl
  ·cases h
theorem wT (l:List UInt8)(w:World)(hw:MaxOk w)(h:Vm.check l≠0) :
  Calls Tryz.prog 84 #[.string ⟨l.toArray⟩] w fun e w'=>e=pan (Vm.check l)/\Below w.heap.size w w':=by
 unfold Vm.check at *
 split
 ·rename_i h1
  exact sJ l w h1
 ·rename_i h1
  rw[if_neg h1] at h
  split
  ·rename_i h2;rw[if_pos h2] at h;exact absurd rfl h
  ·rename_i h2
   refine (mo l w hw (by omega)).mono fun e w' ⟨g1,g2⟩=>⟨?_,g2⟩
   rw[g1,parsed,ended]
   unfold Vm.verOk at h2
   rw[if_neg h2]
theorem uw (c:UInt8)(h:Vm.ok1 c=true):c.toNat<128:=by
 simp[Vm.ok1,Vm.dig,Vm.oth,Vm.ltr] at h;omega
theorem bK {l:List UInt8}(h:Vm.partOk l=true):ascii l:=by
 intro j b hb
 unfold Vm.partOk at h
 simp only[Bool.and_eq_true,List.all_eq_true] at h
 exact uw b (h.2.2.2 b (List.mem_of_getElem? hb))
theorem mu {l:List UInt8}(h:Vm.partOk l=true):l≠[]:=by
 intro h0;subst h0;cases h
theorem ju {l:List UInt8}(h:Vm.check l=0):l.length<=40/\Vm.epOk (Vm.ep l)=true/\Vm.partOk (Vm.pt l)=true/\Vm.partOk (Vm.rv l)=true:=by
 unfold Vm.check at h
 split at h
 ·cases h
 ·split at h
  ·rename_i h1 h2
   unfold Vm.verOk at h2
   simp only[Bool.and_eq_true] at h2
   exact⟨by omega,h2.1,h2.2.1,h2.2.2⟩
  ·cases h
theorem sK (l:List UInt8):textOf (Vm.ep l) (Vm.pt l) (Vm.rv l)=Vm.canon l:=rfl
def canonOf (l:List UInt8):List UInt8:=if Vm.check l=0 then Vm.canon l else []
theorem cA (l:List UInt8)(w:World)(hw:MaxOk w) :
  Calls Tryz.prog 215 #[.string ⟨l.toArray⟩] w fun e w'=>e=.returned (.tuple #[.string ⟨(canonOf l).toArray⟩,.int .i64 (Vm.check l)])/\Below w.heap.size w w':=by
 have ag:∀ (fn:Fn) (first cap:Array Value) (w:World),(Instr.makeFunc fn first cap).run Tryz.prog w=.ok (.func fn first cap) w:=fun _ _ _ _=>rfl
 have hM:MaxOk (w.alloc (.cells #[.int .i64 0] 77)):=ab hw ((Below.refl _ _).alloc (Nat.le_refl _) _)
 have HM:=zh hM
 clear hw hM
 by_cases h:Vm.check l=0
 ·have H:=zh h
  have HC:Hid (canonOf l=Vm.canon l):=by show _=_;rw[canonOf,if_pos h]
  clear h
  go_enter_defers Tryz.func215,Tryz.ntmps215
  go_wp2_with fail
  refine (hJ l _ HM.out H.out).mono ?_
  rintro e w1 ⟨rfl,hb⟩
  have ad:Below (w.heap.size+1) (w.alloc (.cells #[.int .i64 0] 77)) w1:=by simpa using hb
  have HB:=zh ad
  have HV:=zh (ju H.out)
  have l1:=HV.out.1
  have l2:=yI l
  have l3:=nM l
  have l4:=nN l
  clear hb ad
  go_wp2_with fail
  refine (wS _ _ _ _ (by omega) (by omega) (by omega) (mu HV.out.2.2.1) (mu HV.out.2.2.2) (bK HV.out.2.2.1) (bK HV.out.2.2.2)).mono ?_
  rintro e w2 ⟨rfl,hb⟩
  rw[sK]
  have ae:Below (w.heap.size+1) (w.alloc (.cells #[.int .i64 0] 77)) w2:=HB.out.trans (hb.mono (by have:=HB.out.size;simpa using this))
  obtain⟨aa,ac⟩:=bg w w2 _ _ ae
  have af:=zh ae
  clear hb ae HB
  go_wp2_with fail
  refine leaves_cons (f:=250) (args:=#[.pointer (some ⟨w.heap.size,0,none⟩)]) (by simp) (by simp[go_sem]) ?_
  refine (qC ⟨w.heap.size,0,none⟩ 0 _ ?_ ?_).mono ?_
  ·simp[go_sem,aa]
  ·simp[go_sem,ac]
  rintro e u' w3 ⟨rfl,rfl,rfl⟩
  simp[Leaves,settle,results,Tryz.results215,go_sem,aa]
  exact⟨⟨by rw[HC.out],H.out.symm⟩,((aW af.out).setCell (Nat.le_refl _) _).setCell (Nat.le_refl _) _⟩
 ·have H:=zh h
  have HC:Hid (canonOf l=[]):=by show _=_;rw[canonOf,if_neg h]
  clear h
  go_enter_defers Tryz.func215,Tryz.ntmps215
  go_wp2_with fail
  refine (wT l _ HM.out H.out).mono ?_
  rintro e w1 ⟨rfl,hb⟩
  have ad:Below (w.heap.size+1) (w.alloc (.cells #[.int .i64 0] 77)) w1:=by simpa using hb
  obtain⟨aa,ac⟩:=bg w w1 _ _ ad
  have HB:=zh ad
  clear hb ad
  go_wp2_with fail
  refine leaves_cons (f:=250) (args:=#[.pointer (some ⟨w.heap.size,0,none⟩)]) (by simp) (by simp[go_sem]) ?_
  refine (oy ⟨w.heap.size,0,none⟩ 0 _ _ ?_ ?_).mono ?_
  ·simp[go_sem,aa]
  ·simp[go_sem,ac]
  rintro e u' w2 ⟨rfl,rfl,rfl⟩
  simp[Leaves,settle,results,Tryz.results215,go_sem,aa]
  exact⟨by rw[HC.out],(aW HB.out).setCell (Nat.le_refl _) _⟩
end
section
open Go.RowKit
theorem cells3 (w:World)(p q r:Int)(k:Nat)(h:k < [p,q,r].length):(w.alloc (.cells #[.int .i64 p,.int .i64 q,.int .i64 r] 3)).cell? ⟨w.heap.size,k,none⟩=some (.int .i64 [p,q,r][k]):=by
 rw[World.cell?_alloc_mark]
 match k,h with
 | 0,_=>rfl
 | 1,_=>rfl
 | 2,_=>rfl
theorem or3 (x y z:Int):orL [x,y,z]=Vm.both x (Vm.both y z):=by rw[orL,orL,orL,orL,eO]
theorem ke {w u u':World}{N:Nat}{e p q f r s:List UInt8}(h:u.cell? ⟨N,0,none⟩=some (.string ⟨e.toArray⟩)/\u.cell? ⟨N,1,none⟩=some (.string ⟨p.toArray⟩)/\u.cell? ⟨N,2,none⟩=some (.string ⟨q.toArray⟩)/\u.cell? ⟨N+1,0,none⟩=some (.string ⟨f.toArray⟩)/\u.cell? ⟨N+1,1,none⟩=some (.string ⟨r.toArray⟩)/\u.cell? ⟨N+1,2,none⟩=some (.string ⟨s.toArray⟩)/\N+2<=u.heap.size/\Below N w u)(hb:Below u.heap.size u u'):u'.cell? ⟨N,0,none⟩=some (.string ⟨e.toArray⟩)/\u'.cell? ⟨N,1,none⟩=some (.string ⟨p.toArray⟩)/\u'.cell? ⟨N,2,none⟩=some (.string ⟨q.toArray⟩)/\u'.cell? ⟨N+1,0,none⟩=some (.string ⟨f.toArray⟩)/\u'.cell? ⟨N+1,1,none⟩=some (.string ⟨r.toArray⟩)/\u'.cell? ⟨N+1,2,none⟩=some (.string ⟨s.toArray⟩)/\N+2<=u'.heap.size/\Below N w u':=by
 obtain⟨h0,h1,h2,h3,h4,h5,h6,h7⟩:=h
 refine⟨?_,?_,?_,?_,?_,?_,Nat.le_trans h6 hb.size,h7.trans (hb.mono (by omega))⟩
 ·rw[hb.cell (by simp;omega)];exact h0
 ·rw[hb.cell (by simp;omega)];exact h1
 ·rw[hb.cell (by simp;omega)];exact h2
 ·rw[hb.cell (by simp;omega)];exact h3
 ·rw[hb.cell (by simp;omega)];exact h4
 ·rw[hb.cell (by simp;omega)];exact h5
theorem oz (e p q f r s:List UInt8)(w:World)(hp:p.length<=41)(hq:q.length<=41)(hr:r.length<=41)(hs:s.length<=41)(ap:ascii p)(aq:ascii q)(ar:ascii r)(as_:ascii s) :
  Calls Tryz.prog 86 #[.agg #[.string ⟨e.toArray⟩,.string ⟨p.toArray⟩,.string ⟨q.toArray⟩],.agg #[.string ⟨f.toArray⟩,.string ⟨r.toArray⟩,.string ⟨s.toArray⟩]] w fun g w' =>
   g=.returned (.int .i64 (Vm.both (Vm.cmpD e f) (Vm.both (Vm.cmpP 41 p r) (Vm.cmpP 41 q s))))/\Below w.heap.size w w':=by
 go_enter Tryz.func86,Tryz.ntmps86
 go_wp2_with fail
 obtain⟨W,hW⟩:=ex ((w.alloc (.cells #[.string ⟨e.toArray⟩,.string ⟨p.toArray⟩,.string ⟨q.toArray⟩] 137)).alloc (.cells #[.string ⟨f.toArray⟩,.string ⟨r.toArray⟩,.string ⟨s.toArray⟩] 137))
 have aa:Below w.heap.size w W:=by rw[<-hW];exact ((Below.refl _ _).alloc (Nat.le_refl _) _).alloc (by simp) _
 have ad:w.heap.size+2<=W.heap.size:=by rw[<-hW];simp
 have ab:Blk W w.heap.size e p q:=by rw[<-hW];unfold Blk;rw[Below.heap_alloc _ _ _ (by simp)];exact heap_alloc_new w _
 have ac:Blk W (w.heap.size+1) f r s:=by
  rw[<-hW]
  have h:=heap_alloc_new (w.alloc (.cells #[.string ⟨e.toArray⟩,.string ⟨p.toArray⟩,.string ⟨q.toArray⟩] 137)) (.cells #[.string ⟨f.toArray⟩,.string ⟨r.toArray⟩,.string ⟨s.toArray⟩] 137)
  rw[show (w.alloc (.cells #[.string ⟨e.toArray⟩,.string ⟨p.toArray⟩,.string ⟨q.toArray⟩] 137)).heap.size=w.heap.size+1 from by simp] at h
  exact h
 obtain⟨ae,af,ag,_,_,_⟩:=ay ab
 obtain⟨ah,ai,aj,_,_,_⟩:=ay ac
 rw[hW]
 clear hW ab ac
 go_region_held3 (fun w'=>w'.cell? ⟨w.heap.size,0,none⟩=some (.string ⟨e.toArray⟩)/\w'.cell? ⟨w.heap.size,1,none⟩=some (.string ⟨p.toArray⟩)/\w'.cell? ⟨w.heap.size,2,none⟩=some (.string ⟨q.toArray⟩)/\w'.cell? ⟨w.heap.size+1,0,none⟩=some (.string ⟨f.toArray⟩)/\w'.cell? ⟨w.heap.size+1,1,none⟩=some (.string ⟨r.toArray⟩)/\w'.cell? ⟨w.heap.size+1,2,none⟩=some (.string ⟨s.toArray⟩)/\w.heap.size+2<=w'.heap.size/\Below w.heap.size w w')
  (first
   | exact⟨ae,af,ag,ah,ai,aj,ad,aa.drew⟩
   | assumption
   | (refine ke ?_ hb;assumption)
   | (refine ke ?_ ((Below.refl _ _).alloc (Nat.le_refl _) _);assumption))
  (first
   | (go_at_call 126;refine (dS e f _).mono ?_;rintro _ w1 ⟨rfl,hb⟩)
   | (go_at_call 127;refine (jt 41 _ _ _ (by decide) (by assumption) (by assumption) (by assumption) (by assumption)).mono ?_;rintro _ w1 ⟨rfl,hb⟩)
   | (go_at_call 125;refine (dF [_,_,_] _ _ _ (by simp) (cells3 _ _ _ _)).mono ?_;rintro _ w1 ⟨rfl,rfl⟩))
 rename_i HS
 have HB:=zh HS.2.2.2.2.2.2.2
 clear HS
 go_wp2_with fail
 go_ret
 refine⟨?_,HB.out⟩
 show Ending.returned (.int .i64 (orL [Vm.cmpD e f,Vm.cmpP 41 p r,Vm.cmpP 41 q s]))=_
 rw[or3]
theorem fo (l m:List UInt8)(w:World)(hw:MaxOk w)(h1:Vm.check l=0)(h2:Vm.check m=0) :
  Calls Tryz.prog 47 #[.string ⟨l.toArray⟩,.string ⟨m.toArray⟩] w fun e w'=>e=.returned (.int .i64 (Vm.cmpV l m))/\Below w.heap.size w w':=by
 have HM:=zh hw
 have H1:=zh h1
 have H2:=zh h2
 have HX:Hid (Vm.cmpV l m=Vm.both (Vm.cmpD (Vm.ep l) (Vm.ep m)) (Vm.both (Vm.cmpP 41 (Vm.pt l) (Vm.pt m)) (Vm.cmpP 41 (Vm.rv l) (Vm.rv m)))):=rfl
 clear hw h1 h2
 go_enter_defers Tryz.func47,Tryz.ntmps47
 go_wp2_with fail
 refine (hJ l _ HM.out H1.out).mono ?_
 rintro e w1 ⟨rfl,hb⟩
 have aa:=zh hb
 clear hb
 go_wp2_with fail
 refine (hJ m _ (ab HM.out aa.out) H2.out).mono ?_
 rintro e w2 ⟨rfl,hb⟩
 have ad:=zh (bt aa.out hb)
 clear hb aa
 have HV:=zh (ju H1.out)
 have ac:=zh (ju H2.out)
 have l1:=HV.out.1
 have l2:=ac.out.1
 have l3:=nM l
 have l4:=nN l
 have l5:=nM m
 have l6:=nN m
 go_wp2_with fail
 refine (oz _ _ _ _ _ _ _ (by omega) (by omega) (by omega) (by omega) (bK HV.out.2.2.1) (bK HV.out.2.2.2) (bK ac.out.2.2.1) (bK ac.out.2.2.2)).mono ?_
 rintro e w3 ⟨rfl,hb⟩
 have ae:=zh (bt ad.out hb)
 clear hb ad
 go_wp2_with fail
 refine leaves_cons (f:=85) (args:=#[]) (by simp) (by simp[go_sem]) ?_
 refine (nj _).mono ?_
 rintro e u' w2 ⟨rfl,rfl,rfl⟩
 simp[Leaves,settle,results,Tryz.results47,go_sem]
 exact⟨HX.out.symm,ae.out⟩
end
section
open Go.RowKit
theorem gf (n:Nat)(w:World)(hn:n<=1000000) :
  Calls Tryz.prog 335 #[.int .i64 n] w fun e w'=>e=.returned (.bool (Rm.par n false))/\w=w':=by
 rw[Rm.ry]
 by_cases h:n % 2=1
 all_goals
  have h2:((n:Int) % 2==1)=decide (n % 2=1):=by rw[Bool.eq_iff_iff];simp;omega
  have h0:(0:Int)<=n:=by omega
  go_enter Tryz.func335,Tryz.ntmps335
  go_wp2
  go_ret
  exact⟨by first | rfl | (rw[h2]) | simp[h],rfl⟩
theorem wU (a b:Bool)(w:World):Calls Tryz.prog 338 #[.bool a,.bool b] w fun e w'=>e=.returned (.bool (a&&b))/\w=w':=by
 cases a
 all_goals
  go_enter Tryz.func338,Tryz.ntmps338
  go_wp2
  go_ret
  exact⟨rfl,rfl⟩
theorem sL (a b:Bool)(w:World):Calls Tryz.prog 324 #[.bool a,.bool b] w fun e w'=>e=.returned (.bool (a||b))/\w=w':=by
 cases a
 all_goals
  go_enter Tryz.func324,Tryz.ntmps324
  go_wp2
  go_ret
  exact⟨rfl,rfl⟩
def sideI:Rs.Cut->Int
 | .bot => -1
 | .top=>1
 | .pos _ a=>if a then 1 else -1
def sLo (lo:List UInt8) (li:Bool):Int:=if lo.isEmpty||li then -1 else 1
def sHi (hi:List UInt8) (hn:Bool):Int:=if hi.isEmpty||hn then 1 else -1
theorem oA (lo:List UInt8)(li:Bool):sLo lo li=sideI (Rs.loC lo li)/\Rs.txt (Rs.loC lo li)=lo:=by
 unfold sLo Rs.loC
 cases h:lo.isEmpty
 ·cases li <;> exact⟨rfl,rfl⟩
 ·rw[List.isEmpty_iff] at h;subst h;exact⟨rfl,rfl⟩
theorem oB (hi:List UInt8)(hn:Bool):sHi hi hn=sideI (Rs.hiC hi hn)/\Rs.txt (Rs.hiC hi hn)=hi:=by
 unfold sHi Rs.hiC
 cases h:hi.isEmpty
 ·cases hn <;> exact⟨rfl,rfl⟩
 ·rw[List.isEmpty_iff] at h;subst h;exact⟨rfl,rfl⟩
theorem bA (lo hi:List UInt8)(li hn:Bool)(w:World) :
  Calls Tryz.prog 168 #[.agg #[.string ⟨lo.toArray⟩,.string ⟨hi.toArray⟩,.bool li,.bool hn]] w fun e w'=>e=.returned (.agg #[.string ⟨lo.toArray⟩,.int .i64 (sLo lo li)])/\Below w.heap.size w w':=by
 unfold sLo
 cases li <;> cases h:lo.isEmpty
 all_goals
  go_enter Tryz.func168,Tryz.ntmps168
  go_wp2
  first
  | exact bodyPost_ret (v:=.agg #[.string ⟨lo.toArray⟩,.int .i64 1]) (by simp[results,Tryz.results168,go_sem]) rfl ⟨rfl,((Below.refl _ _).alloc (Nat.le_refl _) _).alloc (by simp) _⟩
  | exact bodyPost_ret (v:=.agg #[.string ⟨lo.toArray⟩,.int .i64 (-1)]) (by simp[results,Tryz.results168,go_sem]) rfl ⟨rfl,((Below.refl _ _).alloc (Nat.le_refl _) _).alloc (by simp) _⟩
theorem cB (lo hi:List UInt8)(li hn:Bool)(w:World) :
  Calls Tryz.prog 170 #[.agg #[.string ⟨lo.toArray⟩,.string ⟨hi.toArray⟩,.bool li,.bool hn]] w fun e w'=>e=.returned (.agg #[.string ⟨hi.toArray⟩,.int .i64 (sHi hi hn)])/\Below w.heap.size w w':=by
 unfold sHi
 cases hn <;> cases h:hi.isEmpty
 all_goals
  go_enter Tryz.func170,Tryz.ntmps170
  go_wp2
  first
  | exact bodyPost_ret (v:=.agg #[.string ⟨hi.toArray⟩,.int .i64 1]) (by simp[results,Tryz.results170,go_sem]) rfl ⟨rfl,((Below.refl _ _).alloc (Nat.le_refl _) _).alloc (by simp) _⟩
  | exact bodyPost_ret (v:=.agg #[.string ⟨hi.toArray⟩,.int .i64 (-1)]) (by simp[results,Tryz.results170,go_sem]) rfl ⟨rfl,((Below.refl _ _).alloc (Nat.le_refl _) _).alloc (by simp) _⟩
def endI (v:List UInt8) (x:Int):Int:=if v.isEmpty then x else 0
theorem rH (v:List UInt8)(x:Int)(w:World) :
  Calls Tryz.prog 201 #[.agg #[.string ⟨v.toArray⟩,.int .i64 x]] w fun e w'=>e=.returned (.int .i64 (endI v x))/\Below w.heap.size w w':=by
 unfold endI
 cases h:v.isEmpty
 all_goals
  go_enter Tryz.func201,Tryz.ntmps201
  go_wp2
  go_ret
  exact⟨rfl,(Below.refl _ _).alloc (Nat.le_refl _) _⟩
end
section
open Go.RowKit
def cmpVS (v:List UInt8) (x:Int) (u:List UInt8) (y:Int):Int:=if v.isEmpty||u.isEmpty then Vm.sgn (endI v x) (endI u y) else Vm.both (Vm.cmpV v u) (Vm.sgn x y)
theorem keepC {w u u':World}{N:Nat}{a b c d:Value}(h:u.cell? ⟨N,0,none⟩=some a/\u.cell? ⟨N,1,none⟩=some b/\u.cell? ⟨N+1,0,none⟩=some c/\u.cell? ⟨N+1,1,none⟩=some d/\N+2<=u.heap.size/\Below N w u)(hb:Below u.heap.size u u'):u'.cell? ⟨N,0,none⟩=some a/\u'.cell? ⟨N,1,none⟩=some b/\u'.cell? ⟨N+1,0,none⟩=some c/\u'.cell? ⟨N+1,1,none⟩=some d/\N+2<=u'.heap.size/\Below N w u':=by
 obtain⟨h0,h1,h2,h3,h6,h7⟩:=h
 refine⟨?_,?_,?_,?_,Nat.le_trans h6 hb.size,h7.trans (hb.mono (by omega))⟩
 ·rw[hb.cell (by simp;omega)];exact h0
 ·rw[hb.cell (by simp;omega)];exact h1
 ·rw[hb.cell (by simp;omega)];exact h2
 ·rw[hb.cell (by simp;omega)];exact h3
theorem or2 (x y:Int):orL [x,y]=Vm.both x y:=by rw[orL,orL,orL,eO]
theorem aB (v:List UInt8)(x:Int)(u:List UInt8)(y:Int)(w:World)(hw:MaxOk w)(h1:v.isEmpty=false->Vm.check v=0)(h2:u.isEmpty=false->Vm.check u=0) :
  Calls Tryz.prog 169 #[.agg #[.string ⟨v.toArray⟩,.int .i64 x],.agg #[.string ⟨u.toArray⟩,.int .i64 y]] w fun g w'=>g=.returned (.int .i64 (cmpVS v x u y))/\Below w.heap.size w w':=by
 have H1:=zh h1
 have H2:=zh h2
 have HM:=zh hw
 clear h1 h2 hw
 obtain⟨W,hW⟩:=ex ((w.alloc (.cells #[.string ⟨v.toArray⟩,.int .i64 x] 221)).alloc (.cells #[.string ⟨u.toArray⟩,.int .i64 y] 221))
 have aa:Below w.heap.size w W:=by rw[<-hW];exact ((Below.refl _ _).alloc (Nat.le_refl _) _).alloc (by simp) _
 have ac:w.heap.size+2<=W.heap.size:=by rw[<-hW];simp
 have ad:W.cell? ⟨w.heap.size,0,none⟩=some (.string ⟨v.toArray⟩):=by rw[<-hW];simp[go_sem]
 have ae:W.cell? ⟨w.heap.size,1,none⟩=some (.int .i64 x):=by rw[<-hW];simp[go_sem]
 have af:W.cell? ⟨w.heap.size+1,0,none⟩=some (.string ⟨u.toArray⟩):=by rw[<-hW];simp[go_sem]
 have ag:W.cell? ⟨w.heap.size+1,1,none⟩=some (.int .i64 y):=by rw[<-hW];simp[go_sem]
 by_cases he:v.isEmpty=false/\u.isEmpty=false
 ·obtain⟨e1,e2⟩:=he
  have HX:Hid (cmpVS v x u y=Vm.both (Vm.cmpV v u) (Vm.sgn x y)):=by show _=_;unfold cmpVS;rw[e1,e2];rfl
  have K1:=zh (H1.out e1)
  have K2:=zh (H2.out e2)
  go_enter Tryz.func169,Tryz.ntmps169
  go_wp2_with fail
  clear hW
  go_region_held3 (fun w'=>w'.cell? ⟨w.heap.size,0,none⟩=some (.string ⟨v.toArray⟩)/\w'.cell? ⟨w.heap.size,1,none⟩=some (.int .i64 x)/\w'.cell? ⟨w.heap.size+1,0,none⟩=some (.string ⟨u.toArray⟩)/\w'.cell? ⟨w.heap.size+1,1,none⟩=some (.int .i64 y)/\w.heap.size+2<=w'.heap.size/\Below w.heap.size w w')
   (first
    | exact⟨ad,ae,af,ag,ac,aa.drew⟩
    | assumption
    | (refine keepC ?_ hb;assumption)
    | (refine keepC ?_ ((Below.refl _ _).alloc (Nat.le_refl _) _);assumption))
   (first
    | (go_at_call 47;refine (fo v u _ ?_ K1.out K2.out).mono ?_;(go_split_ands;exact ab HM.out (by assumption));rintro _ w1 ⟨rfl,hb⟩)
    | (go_at_call 99;refine (bI x y _).mono ?_;rintro _ w1 ⟨rfl,rfl⟩)
    | (go_at_call 125;refine (dF [_,_] _ _ _ (by simp) (cells2 _ _ _)).mono ?_;rintro _ w1 ⟨rfl,rfl⟩))
  rename_i HS
  have HB:=zh HS.2.2.2.2.2
  clear HS
  go_wp2_with fail
  go_ret
  refine⟨?_,HB.out⟩
  rw[HX.out]
  show Ending.returned (.int .i64 (orL [Vm.cmpV v u,Vm.sgn x y]))=_
  rw[or2]
 ·have HX:Hid (cmpVS v x u y=Vm.sgn (endI v x) (endI u y)):=by
   show _=_
   unfold cmpVS
   rw[if_pos (by cases h3:v.isEmpty <;> cases h4:u.isEmpty <;> first | rfl | exact absurd ⟨h3,h4⟩ he)]
  clear H1 H2
  cases e1:v.isEmpty
  ·have e2:u.isEmpty=true:=by cases h4:u.isEmpty <;> first | rfl | exact absurd ⟨e1,h4⟩ he
   clear he
   go_enter Tryz.func169,Tryz.ntmps169
   go_wp2_with fail
   clear hW
   go_region_held3 (fun w'=>w'.cell? ⟨w.heap.size,0,none⟩=some (.string ⟨v.toArray⟩)/\w'.cell? ⟨w.heap.size,1,none⟩=some (.int .i64 x)/\w'.cell? ⟨w.heap.size+1,0,none⟩=some (.string ⟨u.toArray⟩)/\w'.cell? ⟨w.heap.size+1,1,none⟩=some (.int .i64 y)/\w.heap.size+2<=w'.heap.size/\Below w.heap.size w w')
    (first
     | exact⟨ad,ae,af,ag,ac,aa.drew⟩
     | assumption
     | (refine keepC ?_ hb;assumption))
    (first
     | (go_at_call 201;refine (rH _ _ _).mono ?_;rintro _ w1 ⟨rfl,hb⟩)
     | (go_at_call 99;refine (bI _ _ _).mono ?_;rintro _ w1 ⟨rfl,rfl⟩))
   rename_i HS
   have HB:=zh HS.2.2.2.2.2
   clear HS
   go_wp2_with fail
   go_ret
   exact⟨by rw[HX.out];rfl,HB.out⟩
  ·clear he
   go_enter Tryz.func169,Tryz.ntmps169
   go_wp2_with fail
   clear hW
   go_region_held3 (fun w'=>w'.cell? ⟨w.heap.size,0,none⟩=some (.string ⟨v.toArray⟩)/\w'.cell? ⟨w.heap.size,1,none⟩=some (.int .i64 x)/\w'.cell? ⟨w.heap.size+1,0,none⟩=some (.string ⟨u.toArray⟩)/\w'.cell? ⟨w.heap.size+1,1,none⟩=some (.int .i64 y)/\w.heap.size+2<=w'.heap.size/\Below w.heap.size w w')
    (first
     | exact⟨ad,ae,af,ag,ac,aa.drew⟩
     | assumption
     | (refine keepC ?_ hb;assumption))
    (first
     | (go_at_call 201;refine (rH _ _ _).mono ?_;rintro _ w1 ⟨rfl,hb⟩)
     | (go_at_call 99;refine (bI _ _ _).mono ?_;rintro _ w1 ⟨rfl,rfl⟩))
   rename_i HS
   have HB:=zh HS.2.2.2.2.2
   clear HS
   go_wp2_with fail
   go_ret
   exact⟨by rw[HX.out];rfl,HB.out⟩
end
section
open Go.RowKit
attribute [local go_sem ↓] Go.wp_at_zero Go.wp_at_succ
def dy (k:Int):Ending:=if k=0 then .returned (.tuple #[]) else pan k
theorem dG:dy 0=.returned (.tuple #[]):=rfl
theorem bZ {k:Int}(h:k≠0):dy k=pan k:=if_neg h
theorem eA (v:List UInt8)(w:World)(hw:MaxOk w) :
  Calls Tryz.prog 315 #[.string ⟨v.toArray⟩] w fun e w'=>e=dy (Rs.bound v)/\Below w.heap.size w w':=by
 have HM:=zh hw
 clear hw
 cases hv:v.isEmpty
 ·by_cases hc:Vm.check v=0
  ·have HK:=zh hc
   have HX:Hid (canonOf v=Vm.canon v):=by show _=_;rw[canonOf,if_pos hc]
   have aa:Hid (Rs.bound v=if Vm.canon v==v then 0 else 5):=by show _=_;unfold Rs.bound;rw[hv,if_neg Bool.false_ne_true,if_pos hc]
   obtain⟨x,hx⟩:=ex (Vm.canon v)
   rw[hx] at HX aa
   clear hx hc
   cases he:v==x
   ·have HB:Hid (Rs.bound v=5):=by
     show _=_
     rw[aa.out,show (x==v)=false from by rw[BEq.comm];exact he];rfl
    clear aa
    go_enter Tryz.func315,Tryz.ntmps315
    go_wp2_with fail
    refine (cA v _ HM.out).mono ?_
    rintro _ w1 ⟨rfl,hb⟩
    rw[HX.out,HK.out]
    have ab:=zh hb
    clear hb
    go_wp2_with fail
    refine (ah _).mono ?_
    rintro _ w2 ⟨rfl,rfl⟩
    go_wp2_with fail
    refine (ai _).mono ?_
    rintro _ w2 ⟨rfl,rfl⟩
    go_wp2_with fail
    exact⟨rfl,by rw[HB.out];rfl,ab.out⟩
   ·have HB:Hid (Rs.bound v=0):=by
     show _=_
     rw[aa.out,show (x==v)=true from by rw[BEq.comm];exact he];rfl
    clear aa
    go_enter Tryz.func315,Tryz.ntmps315
    go_wp2_with fail
    refine (cA v _ HM.out).mono ?_
    rintro _ w1 ⟨rfl,hb⟩
    rw[HX.out,HK.out]
    have ab:=zh hb
    clear hb
    go_wp2_with fail
    refine (ah _).mono ?_
    rintro _ w2 ⟨rfl,rfl⟩
    go_wp2_with fail
    refine (ah _).mono ?_
    rintro _ w2 ⟨rfl,rfl⟩
    go_wp2_with fail
    go_end0
    exact⟨by rw[HB.out];rfl,ab.out⟩
  ·have HB:Hid (Rs.bound v=Vm.check v):=by show _=_;unfold Rs.bound;rw[hv,if_neg Bool.false_ne_true,if_neg hc]
   obtain⟨k,hk⟩:=ex (Vm.check v)
   rw[hk] at HB hc
   have ac:(k==0)=false:=beq_eq_false_iff_ne.2 hc
   have HK:=zh hk
   have HC:=zh hc
   clear hk hc
   go_enter Tryz.func315,Tryz.ntmps315
   go_wp2_with fail
   refine (cA v _ HM.out).mono ?_
   rintro _ w1 ⟨rfl,hb⟩
   rw[HK.out]
   have ab:=zh hb
   clear hb
   go_wp2_with fail
   refine (ai _).mono ?_
   rintro _ w2 ⟨rfl,rfl⟩
   go_wp2_with fail
   exact⟨rfl,by rw[HB.out,bZ HC.out],ab.out⟩
 ·have HB:Hid (Rs.bound v=0):=by show _=_;unfold Rs.bound;rw[hv];rfl
  go_enter Tryz.func315,Tryz.ntmps315
  go_wp2_with fail
  refine bodyPost_ret (results_none rfl _ _ _) rfl ?_
  exact⟨by rw[HB.out];rfl,Below.refl _ _⟩
def CutG:Rs.Cut->Prop
 | .pos v _=>Rs.Own v
 | _=>True
theorem lE {c:Rs.Cut}(h:Rs.LoOk c):CutG c:=by cases c <;> first | trivial | exact h
theorem lF {c:Rs.Cut}(h:Rs.HiOk c):CutG c:=by cases c <;> first | trivial | exact h
theorem kf {c:Rs.Cut}(h:CutG c)(h0:(Rs.txt c).isEmpty=false):Vm.check (Rs.txt c)=0:=by
 cases c with
 | bot=>cases h0
 | top=>cases h0
 | pos v a=>exact h.1
def ordI (c d:Rs.Cut):Int:=if Rm.lt Rs.Ln c d then -1 else if Rm.lt Rs.Ln d c then 1 else 0
theorem ia {c d:Rs.Cut}(hc:CutG c)(hd:CutG d):cmpVS (Rs.txt c) (sideI c) (Rs.txt d) (sideI d)=ordI c d:=by
 cases c with
 | bot =>
  cases d with
  | bot=>rfl
  | top=>rfl
  | pos u b=>show (if (true||u.isEmpty)=true then _ else _)=_;rw[Bool.true_or,if_pos rfl];show Vm.sgn (-1) (if u.isEmpty then _ else 0)=_;rw[Rs.az hd];rfl
 | top =>
  cases d with
  | bot=>rfl
  | top=>rfl
  | pos u b=>show (if (true||u.isEmpty)=true then _ else _)=_;rw[Bool.true_or,if_pos rfl];show Vm.sgn 1 (if u.isEmpty then _ else 0)=_;rw[Rs.az hd];rfl
 | pos v a =>
  cases d with
  | bot=>show (if (v.isEmpty||true)=true then _ else _)=_;rw[Bool.or_true,if_pos rfl];show Vm.sgn (if v.isEmpty then _ else 0) (-1)=_;rw[Rs.az hc];rfl
  | top=>show (if (v.isEmpty||true)=true then _ else _)=_;rw[Bool.or_true,if_pos rfl];show Vm.sgn (if v.isEmpty then _ else 0) 1=_;rw[Rs.az hc];rfl
  | pos u b =>
   show (if (v.isEmpty||u.isEmpty)=true then _ else Vm.both (Vm.cmpV v u) (Vm.sgn (sideI (.pos v a)) (sideI (.pos u b))))=ordI (.pos v a) (.pos u b)
   unfold ordI
   rw[Rs.sG hc hd,Rs.sG hd hc,Rs.az hc,Rs.az hd,Vm.en.1 v u,Bool.or_self,if_neg Bool.false_ne_true]
   have r:=Vm.sD v u
   rcases (show Vm.cmpV v u = -1\/Vm.cmpV v u=0\/Vm.cmpV v u=1 by omega) with h | h | h <;> rw[h] <;> cases a <;> cases b <;> rfl
theorem oC {c d:Rs.Cut}:decide (ordI c d<0)=Rm.lt Rs.Ln c d:=by
 unfold ordI
 cases Rm.lt Rs.Ln c d
 ·cases Rm.lt Rs.Ln d c <;> rfl
 ·rfl
def Box (w:World) (b:Nat) (lo hi:List UInt8) (li hn:Bool):Prop:=w.cell? ⟨b,0,none⟩=some (.string ⟨lo.toArray⟩)/\w.cell? ⟨b,1,none⟩=some (.string ⟨hi.toArray⟩)/\w.cell? ⟨b,2,none⟩=some (.bool li)/\w.cell? ⟨b,3,none⟩=some (.bool hn)/\b<w.heap.size
theorem fB (w:World)(lo hi:List UInt8)(li hn:Bool)(T:TypeId):Box (w.alloc (.cells #[.string ⟨lo.toArray⟩,.string ⟨hi.toArray⟩,.bool li,.bool hn] T)) w.heap.size lo hi li hn:=by
 refine⟨?_,?_,?_,?_,by simp⟩ <;> simp[go_sem]
theorem cC {w w':World}{b:Nat}{lo hi:List UInt8}{li hn:Bool}(h:Box w b lo hi li hn)(hb:Below w.heap.size w w'):Box w' b lo hi li hn:=by
 obtain⟨h0,h1,h2,h3,h4⟩:=h
 refine⟨?_,?_,?_,?_,Nat.lt_of_lt_of_le h4 hb.size⟩
 ·rw[hb.cell (by simp;omega)];exact h0
 ·rw[hb.cell (by simp;omega)];exact h1
 ·rw[hb.cell (by simp;omega)];exact h2
 ·rw[hb.cell (by simp;omega)];exact h3
theorem keepBox {w u u':World}{B b:Nat}{lo hi:List UInt8}{li hn:Bool}(h:u.cell? ⟨b,0,none⟩=some (.string ⟨lo.toArray⟩)/\u.cell? ⟨b,1,none⟩=some (.string ⟨hi.toArray⟩)/\u.cell? ⟨b,2,none⟩=some (.bool li)/\u.cell? ⟨b,3,none⟩=some (.bool hn)/\b<u.heap.size/\B<=u.heap.size/\Below B w u)(hb:Below u.heap.size u u'):u'.cell? ⟨b,0,none⟩=some (.string ⟨lo.toArray⟩)/\u'.cell? ⟨b,1,none⟩=some (.string ⟨hi.toArray⟩)/\u'.cell? ⟨b,2,none⟩=some (.bool li)/\u'.cell? ⟨b,3,none⟩=some (.bool hn)/\b<u'.heap.size/\B<=u'.heap.size/\Below B w u':=by
 obtain⟨h0,h1,h2,h3,h4,h5,h6⟩:=h
 obtain⟨g0,g1,g2,g3,g4⟩:=cC ⟨h0,h1,h2,h3,h4⟩ hb
 exact⟨g0,g1,g2,g3,g4,Nat.le_trans h5 hb.size,h6.trans (hb.mono h5)⟩
theorem keepDrew {w u:World}{B b:Nat}{lo hi:List UInt8}{li hn:Bool}(h:Box u b lo hi li hn)(h5:B<=u.heap.size)(h6:Below B w u):u.drew.cell? ⟨b,0,none⟩=some (.string ⟨lo.toArray⟩)/\u.drew.cell? ⟨b,1,none⟩=some (.string ⟨hi.toArray⟩)/\u.drew.cell? ⟨b,2,none⟩=some (.bool li)/\u.drew.cell? ⟨b,3,none⟩=some (.bool hn)/\b<u.drew.heap.size/\B<=u.drew.heap.size/\Below B w u.drew:=by
 obtain⟨g0,g1,g2,g3,g4⟩:=h
 exact⟨g0,g1,g2,g3,g4,h5,h6.drew⟩
theorem cT {P:Program}{G:Prop}{a:Act}{w:World}(h:wpAny P .any #[] (fun _ _ _=>G) 0 #[] a w):G:=h.2
def Inv (w u:World) (b:Nat) (lo hi:List UInt8) (li hn:Bool):Prop:=Box u b lo hi li hn/\w.heap.size<=u.heap.size/\Below w.heap.size w u
theorem bk {w u u':World}{b:Nat}{lo hi:List UInt8}{li hn:Bool}(hb:Below u.heap.size u u')(h:Hid (Inv w u b lo hi li hn)):Hid (Inv w u' b lo hi li hn) :=
 ⟨cC h.out.1 hb,Nat.le_trans h.out.2.1 hb.size,h.out.2.2.trans (hb.mono h.out.2.1)⟩
theorem iO {w u:World}{b:Nat}{lo hi:List UInt8}{li hn:Bool}(hm:Hid (MaxOk w))(h:Hid (Inv w u b lo hi li hn)):MaxOk u:=ab hm.out h.out.2.2
theorem eQ {w u:World}{b:Nat}{lo hi:List UInt8}{li hn:Bool}(h:Hid (Inv w u b lo hi li hn)):Below w.heap.size w u:=h.out.2.2
theorem kg (i:Nat)(lo hi:List UInt8)(li hn:Bool)(w:World)(hi0:i<=100000)(hw:MaxOk w) :
  Calls Tryz.prog 300 #[.int .i64 i,.agg #[.string ⟨lo.toArray⟩,.string ⟨hi.toArray⟩,.bool li,.bool hn]] w fun e w'=>e=dy (if 64<=i then 4 else Rs.span lo hi li hn)/\Below w.heap.size w w':=by
 have ak:∀ (x:Bool) (w:World),(Op.unary .not (.bool x)).run Tryz.prog w=.ok (.bool (!x)) w:=fun _ _=>rfl
 have HN:=zh (fB w lo hi li hn 145)
 have HB:=zh ((Below.refl w.heap.size w).alloc (Nat.le_refl _) (.cells #[.string ⟨lo.toArray⟩,.string ⟨hi.toArray⟩,.bool li,.bool hn] 145))
 have HM:=zh hw
 clear hw
 obtain⟨k,hk⟩:=ex (if 64<=i then 4 else Rs.span lo hi li hn)
 rw[hk]
 by_cases ae:64<=i
 ·have h1:decide ((i:Int)<64)=false:=decide_eq_false (by omega)
  have HX:Hid (k=4):=by show _=_;rw[<-hk,if_pos ae]
  clear hk
  go_enter Tryz.func300,Tryz.ntmps300
  go_wp2_with fail
  (with_reducible refine (ai _).mono ?_)
  rintro _ w2 ⟨rfl,rfl⟩
  go_wp2_with fail
  exact⟨rfl,by rw[HX.out];rfl,HB.out⟩
 have h1:decide ((i:Int)<64)=true:=decide_eq_true (by omega)
 have HX:Hid (k=Rs.span lo hi li hn):=by show _=_;rw[<-hk,if_neg ae]
 clear ae hk
 go_enter Tryz.func300,Tryz.ntmps300
 go_wp2_with fail
 refine (ah _).mono ?_
 rintro _ w2 ⟨rfl,rfl⟩
 obtain⟨c0,c1,c2,c3,c4⟩:=HN.out
 obtain⟨W,hW⟩:=ex (w.alloc (.cells #[.string ⟨lo.toArray⟩,.string ⟨hi.toArray⟩,.bool li,.bool hn] 145))
 rw[hW] at HB c0 c1 c2 c3 c4 HN
 have ag:MaxOk W:=by rw[<-hW];exact ab HM.out ((Below.refl _ _).alloc (Nat.le_refl _) _)
 rw[hW]
 have af:=zh ag
 clear hW ag
 go_wp2_with fail
 refine (eA lo _ af.out).mono ?_
 rintro _ w1 ⟨rfl,hb⟩
 obtain⟨m1,b1,d1⟩:MaxOk w1/\Box w1 w.heap.size lo hi li hn/\Below w.heap.size w w1:=⟨ab af.out hb,cC HN.out hb,bt HB.out hb⟩
 clear hb c0 c1 c2 c3 c4 HN HB af
 obtain⟨c0,c1,c2,c3,c4⟩:=b1
 have ad:=zh m1
 have ac:=zh d1
 have aj:Hid (Box w1 w.heap.size lo hi li hn):=⟨c0,c1,c2,c3,c4⟩
 clear m1 d1
 by_cases g1:Rs.bound lo=0
 ·rw[g1,dG]
  have G1:=zh g1
  clear g1
  go_wp2_with fail
  (with_reducible refine (eA hi _ ad.out).mono ?_)
  rintro _ w2 ⟨rfl,hb⟩
  obtain⟨m1,b1,d1⟩:MaxOk w2/\Box w2 w.heap.size lo hi li hn/\Below w.heap.size w w2:=⟨ab ad.out hb,cC aj.out hb,ac.out.trans (hb.mono (Nat.le_of_lt c4))⟩
  clear hb c0 c1 c2 c3 c4 aj ac ad
  have al:Hid (Inv w w2.drew w.heap.size lo hi li hn):=⟨b1,Nat.le_of_lt b1.2.2.2.2,d1.drew⟩
  obtain⟨c0,c1,c2,c3,c4⟩:=b1
  have ad:=zh m1
  have ac:=zh d1
  clear m1 d1
  by_cases g2:Rs.bound hi=0
  ·rw[g2,dG]
   have G2:=zh g2
   clear g2
   by_cases q1:(lo.isEmpty&&li)=true
   ·obtain⟨e1,rfl⟩:lo.isEmpty=true/\li=true:=by simpa using q1
    have HY:Hid (Rs.span lo hi true hn=1):=by show _=_;unfold Rs.span;rw[if_neg (by simp[G1.out]),if_neg (by simp[G2.out]),e1];rfl
    clear q1
    go_wp2_with fail
    (with_reducible refine (ai _).mono ?_)
    rintro _ w3 ⟨rfl,rfl⟩
    go_wp2_with fail
    exact⟨rfl,by rw[HX.out,HY.out];rfl,ac.out⟩
   by_cases q2:(hi.isEmpty&&hn)=true
   ·obtain⟨e2,rfl⟩:hi.isEmpty=true/\hn=true:=by simpa using q2
    have HY:Hid (Rs.span lo hi li true=1):=by show _=_;unfold Rs.span;rw[if_neg (by simp[G1.out]),if_neg (by simp[G2.out]),if_pos (by rw[e2];simp)]
    clear q2
    cases e1:lo.isEmpty
    ·clear q1
     go_wp2_with fail
     (with_reducible refine (ah _).mono ?_)
     rintro _ w3 ⟨rfl,rfl⟩
     go_wp2_with fail
     (with_reducible refine (ai _).mono ?_)
     rintro _ w3 ⟨rfl,rfl⟩
     go_wp2_with fail
     exact⟨rfl,by rw[HX.out,HY.out];rfl,ac.out⟩
    ·obtain rfl:li=false:=by cases li <;> first | rfl | (rw[e1] at q1;exact absurd rfl q1)
     clear q1
     go_wp2_with fail
     (with_reducible refine (ah _).mono ?_)
     rintro _ w3 ⟨rfl,rfl⟩
     go_wp2_with fail
     (with_reducible refine (ai _).mono ?_)
     rintro _ w3 ⟨rfl,rfl⟩
     go_wp2_with fail
     exact⟨rfl,by rw[HX.out,HY.out];rfl,ac.out⟩
   have p1:lo.isEmpty=true->li=false:=fun h=>by cases li <;> first | rfl | (rw[h] at q1;exact absurd rfl q1)
   have p2:hi.isEmpty=true->hn=false:=fun h=>by cases hn <;> first | rfl | (rw[h] at q2;exact absurd rfl q2)
   have K1:Hid (lo.isEmpty=false->Vm.check lo=0):=fun h=>(Rs.bp G1.out h).1
   have K2:Hid (hi.isEmpty=false->Vm.check hi=0):=fun h=>(Rs.bp G2.out h).1
   have HQ:Hid (decide (cmpVS lo (sLo lo li) hi (sHi hi hn)<0)=Rm.ok Rs.Ln (Rs.toP lo hi li hn)):=by
    have a1:=oA lo li
    have a2:=oB hi hn
    have:=ia (lE (Rs.oa (i:=li) G1.out)) (lF (Rs.ob (i:=hn) G2.out))
    rw[a1.2,a2.2,<-a1.1,<-a2.1] at this
    show _=_
    rw[this,oC];rfl
   have HY:Hid (Rs.span lo hi li hn=if Rm.ok Rs.Ln (Rs.toP lo hi li hn) then 0 else 7):=Rs.lz G1.out G2.out p1 p2
   obtain⟨B,hB⟩:=ex (Rm.ok Rs.Ln (Rs.toP lo hi li hn))
   rw[hB] at HQ HY
   have e1:lo.isEmpty=false\/(lo.isEmpty=true/\li=false):=by cases h:lo.isEmpty <;> simp;exact p1 h
   have e2:hi.isEmpty=false\/(hi.isEmpty=true/\hn=false):=by cases h:hi.isEmpty <;> simp;exact p2 h
   clear q1 q2 p1 p2 hB
   rcases e1 with e1 | ⟨e1,rfl⟩ <;> rcases e2 with e2 | ⟨e2,rfl⟩
   ·cases B
    ·go_wp2_with fail
     (with_reducible refine (ah _).mono ?_)
     rintro _ w3 ⟨rfl,rfl⟩
     go_wp2_with fail
     (with_reducible refine (ah _).mono ?_)
     rintro _ w3 ⟨rfl,rfl⟩
     go_wp2_with fail
     have hq:=HQ.out
     go_region_with (first
       | (go_at_call 168;refine (bA _ _ _ _ _).mono ?_;rintro _ w4 ⟨rfl,hb⟩;have aa:=bk hb (by assumption);clear hb;obtain⟨⟨k0,k1,k2,k3,_⟩,_⟩:=aa.out)
       | (go_at_call 170;refine (cB _ _ _ _ _).mono ?_;rintro _ w4 ⟨rfl,hb⟩;have aa:=bk hb (by assumption);clear hb;obtain⟨⟨k0,k1,k2,k3,_⟩,_⟩:=aa.out)
       | (go_at_call 169;refine (aB _ _ _ _ _ (iO HM (by assumption)) K1.out K2.out).mono ?_;rintro _ w4 ⟨rfl,hb⟩;have aa:=bk hb (by assumption);clear hb;obtain⟨⟨k0,k1,k2,k3,_⟩,_⟩:=aa.out)
       | (go_at_call 70;refine (ai _).mono ?_;rintro _ w4 ⟨rfl,rfl⟩;refine cT (P:=Tryz.prog) (a:={ tmps:=#[],defers:=[] }) (w:=w) ?_))
     all_goals exact⟨rfl,by rw[HX.out,HY.out];rfl,eQ (by assumption)⟩
    ·go_wp2_with fail
     (with_reducible refine (ah _).mono ?_)
     rintro _ w3 ⟨rfl,rfl⟩
     go_wp2_with fail
     (with_reducible refine (ah _).mono ?_)
     rintro _ w3 ⟨rfl,rfl⟩
     go_wp2_with fail
     have hq:=HQ.out
     show Code.wp Tryz.prog _ (bodyPost Tryz.prog Tryz.f300 (fun e w'=>e=dy k/\Below w.heap.size w w')) _ _
     go_region_held3 (fun w'=>w'.cell? ⟨w.heap.size,0,none⟩=some (.string ⟨lo.toArray⟩)/\w'.cell? ⟨w.heap.size,1,none⟩=some (.string ⟨hi.toArray⟩)/\w'.cell? ⟨w.heap.size,2,none⟩=some (.bool li)/\w'.cell? ⟨w.heap.size,3,none⟩=some (.bool hn)/\w.heap.size<w'.heap.size/\w.heap.size<=w'.heap.size/\Below w.heap.size w w')
      (first
       | exact keepDrew ⟨c0,c1,c2,c3,c4⟩ (Nat.le_of_lt c4) ac.out
       | assumption
       | (refine keepBox ?_ hb;assumption))
      (first
       | (go_at_call 168;refine (bA _ _ _ _ _).mono ?_;rintro _ w1 ⟨rfl,hb⟩)
       | (go_at_call 170;refine (cB _ _ _ _ _).mono ?_;rintro _ w1 ⟨rfl,hb⟩)
       | (go_at_call 169;refine (aB _ _ _ _ _ ?_ K1.out K2.out).mono ?_;(go_split_ands;exact ab HM.out (by assumption));rintro _ w1 ⟨rfl,hb⟩)
       | (go_at_call 70;refine (ah _).mono ?_;rintro _ w1 ⟨rfl,rfl⟩))
     rename_i HS
     go_end0
     exact⟨by rw[HX.out,HY.out];rfl,HS.2.2.2.2.2.2⟩
   ·cases B
    ·go_wp2_with fail
     (with_reducible refine (ah _).mono ?_)
     rintro _ w3 ⟨rfl,rfl⟩
     go_wp2_with fail
     (with_reducible refine (ah _).mono ?_)
     rintro _ w3 ⟨rfl,rfl⟩
     go_wp2_with fail
     have hq:=HQ.out
     go_region_with (first
       | (go_at_call 168;refine (bA _ _ _ _ _).mono ?_;rintro _ w4 ⟨rfl,hb⟩;have aa:=bk hb (by assumption);clear hb;obtain⟨⟨k0,k1,k2,k3,_⟩,_⟩:=aa.out)
       | (go_at_call 170;refine (cB _ _ _ _ _).mono ?_;rintro _ w4 ⟨rfl,hb⟩;have aa:=bk hb (by assumption);clear hb;obtain⟨⟨k0,k1,k2,k3,_⟩,_⟩:=aa.out)
       | (go_at_call 169;refine (aB _ _ _ _ _ (iO HM (by assumption)) K1.out K2.out).mono ?_;rintro _ w4 ⟨rfl,hb⟩;have aa:=bk hb (by assumption);clear hb;obtain⟨⟨k0,k1,k2,k3,_⟩,_⟩:=aa.out)
       | (go_at_call 70;refine (ai _).mono ?_;rintro _ w4 ⟨rfl,rfl⟩;refine cT (P:=Tryz.prog) (a:={ tmps:=#[],defers:=[] }) (w:=w) ?_))
     all_goals exact⟨rfl,by rw[HX.out,HY.out];rfl,eQ (by assumption)⟩
    ·go_wp2_with fail
     (with_reducible refine (ah _).mono ?_)
     rintro _ w3 ⟨rfl,rfl⟩
     go_wp2_with fail
     (with_reducible refine (ah _).mono ?_)
     rintro _ w3 ⟨rfl,rfl⟩
     go_wp2_with fail
     have hq:=HQ.out
     show Code.wp Tryz.prog _ (bodyPost Tryz.prog Tryz.f300 (fun e w'=>e=dy k/\Below w.heap.size w w')) _ _
     go_region_held3 (fun w'=>w'.cell? ⟨w.heap.size,0,none⟩=some (.string ⟨lo.toArray⟩)/\w'.cell? ⟨w.heap.size,1,none⟩=some (.string ⟨hi.toArray⟩)/\w'.cell? ⟨w.heap.size,2,none⟩=some (.bool li)/\w'.cell? ⟨w.heap.size,3,none⟩=some (.bool false)/\w.heap.size<w'.heap.size/\w.heap.size<=w'.heap.size/\Below w.heap.size w w')
      (first
       | exact keepDrew ⟨c0,c1,c2,c3,c4⟩ (Nat.le_of_lt c4) ac.out
       | assumption
       | (refine keepBox ?_ hb;assumption))
      (first
       | (go_at_call 168;refine (bA _ _ _ _ _).mono ?_;rintro _ w1 ⟨rfl,hb⟩)
       | (go_at_call 170;refine (cB _ _ _ _ _).mono ?_;rintro _ w1 ⟨rfl,hb⟩)
       | (go_at_call 169;refine (aB _ _ _ _ _ ?_ K1.out K2.out).mono ?_;(go_split_ands;exact ab HM.out (by assumption));rintro _ w1 ⟨rfl,hb⟩)
       | (go_at_call 70;refine (ah _).mono ?_;rintro _ w1 ⟨rfl,rfl⟩))
     rename_i HS
     go_end0
     exact⟨by rw[HX.out,HY.out];rfl,HS.2.2.2.2.2.2⟩
   ·cases B
    ·go_wp2_with fail
     (with_reducible refine (ah _).mono ?_)
     rintro _ w3 ⟨rfl,rfl⟩
     go_wp2_with fail
     (with_reducible refine (ah _).mono ?_)
     rintro _ w3 ⟨rfl,rfl⟩
     go_wp2_with fail
     have hq:=HQ.out
     go_region_with (first
       | (go_at_call 168;refine (bA _ _ _ _ _).mono ?_;rintro _ w4 ⟨rfl,hb⟩;have aa:=bk hb (by assumption);clear hb;obtain⟨⟨k0,k1,k2,k3,_⟩,_⟩:=aa.out)
       | (go_at_call 170;refine (cB _ _ _ _ _).mono ?_;rintro _ w4 ⟨rfl,hb⟩;have aa:=bk hb (by assumption);clear hb;obtain⟨⟨k0,k1,k2,k3,_⟩,_⟩:=aa.out)
       | (go_at_call 169;refine (aB _ _ _ _ _ (iO HM (by assumption)) K1.out K2.out).mono ?_;rintro _ w4 ⟨rfl,hb⟩;have aa:=bk hb (by assumption);clear hb;obtain⟨⟨k0,k1,k2,k3,_⟩,_⟩:=aa.out)
       | (go_at_call 70;refine (ai _).mono ?_;rintro _ w4 ⟨rfl,rfl⟩;refine cT (P:=Tryz.prog) (a:={ tmps:=#[],defers:=[] }) (w:=w) ?_))
     all_goals exact⟨rfl,by rw[HX.out,HY.out];rfl,eQ (by assumption)⟩
    ·go_wp2_with fail
     (with_reducible refine (ah _).mono ?_)
     rintro _ w3 ⟨rfl,rfl⟩
     go_wp2_with fail
     (with_reducible refine (ah _).mono ?_)
     rintro _ w3 ⟨rfl,rfl⟩
     go_wp2_with fail
     have hq:=HQ.out
     show Code.wp Tryz.prog _ (bodyPost Tryz.prog Tryz.f300 (fun e w'=>e=dy k/\Below w.heap.size w w')) _ _
     go_region_held3 (fun w'=>w'.cell? ⟨w.heap.size,0,none⟩=some (.string ⟨lo.toArray⟩)/\w'.cell? ⟨w.heap.size,1,none⟩=some (.string ⟨hi.toArray⟩)/\w'.cell? ⟨w.heap.size,2,none⟩=some (.bool false)/\w'.cell? ⟨w.heap.size,3,none⟩=some (.bool hn)/\w.heap.size<w'.heap.size/\w.heap.size<=w'.heap.size/\Below w.heap.size w w')
      (first
       | exact keepDrew ⟨c0,c1,c2,c3,c4⟩ (Nat.le_of_lt c4) ac.out
       | assumption
       | (refine keepBox ?_ hb;assumption))
      (first
       | (go_at_call 168;refine (bA _ _ _ _ _).mono ?_;rintro _ w1 ⟨rfl,hb⟩)
       | (go_at_call 170;refine (cB _ _ _ _ _).mono ?_;rintro _ w1 ⟨rfl,hb⟩)
       | (go_at_call 169;refine (aB _ _ _ _ _ ?_ K1.out K2.out).mono ?_;(go_split_ands;exact ab HM.out (by assumption));rintro _ w1 ⟨rfl,hb⟩)
       | (go_at_call 70;refine (ah _).mono ?_;rintro _ w1 ⟨rfl,rfl⟩))
     rename_i HS
     go_end0
     exact⟨by rw[HX.out,HY.out];rfl,HS.2.2.2.2.2.2⟩
   ·cases B
    ·go_wp2_with fail
     (with_reducible refine (ah _).mono ?_)
     rintro _ w3 ⟨rfl,rfl⟩
     go_wp2_with fail
     (with_reducible refine (ah _).mono ?_)
     rintro _ w3 ⟨rfl,rfl⟩
     go_wp2_with fail
     have hq:=HQ.out
     go_region_with (first
       | (go_at_call 168;refine (bA _ _ _ _ _).mono ?_;rintro _ w4 ⟨rfl,hb⟩;have aa:=bk hb (by assumption);clear hb;obtain⟨⟨k0,k1,k2,k3,_⟩,_⟩:=aa.out)
       | (go_at_call 170;refine (cB _ _ _ _ _).mono ?_;rintro _ w4 ⟨rfl,hb⟩;have aa:=bk hb (by assumption);clear hb;obtain⟨⟨k0,k1,k2,k3,_⟩,_⟩:=aa.out)
       | (go_at_call 169;refine (aB _ _ _ _ _ (iO HM (by assumption)) K1.out K2.out).mono ?_;rintro _ w4 ⟨rfl,hb⟩;have aa:=bk hb (by assumption);clear hb;obtain⟨⟨k0,k1,k2,k3,_⟩,_⟩:=aa.out)
       | (go_at_call 70;refine (ai _).mono ?_;rintro _ w4 ⟨rfl,rfl⟩;refine cT (P:=Tryz.prog) (a:={ tmps:=#[],defers:=[] }) (w:=w) ?_))
     all_goals exact⟨rfl,by rw[HX.out,HY.out];rfl,eQ (by assumption)⟩
    ·go_wp2_with fail
     (with_reducible refine (ah _).mono ?_)
     rintro _ w3 ⟨rfl,rfl⟩
     go_wp2_with fail
     (with_reducible refine (ah _).mono ?_)
     rintro _ w3 ⟨rfl,rfl⟩
     go_wp2_with fail
     have hq:=HQ.out
     show Code.wp Tryz.prog _ (bodyPost Tryz.prog Tryz.f300 (fun e w'=>e=dy k/\Below w.heap.size w w')) _ _
     go_region_held3 (fun w'=>w'.cell? ⟨w.heap.size,0,none⟩=some (.string ⟨lo.toArray⟩)/\w'.cell? ⟨w.heap.size,1,none⟩=some (.string ⟨hi.toArray⟩)/\w'.cell? ⟨w.heap.size,2,none⟩=some (.bool false)/\w'.cell? ⟨w.heap.size,3,none⟩=some (.bool false)/\w.heap.size<w'.heap.size/\w.heap.size<=w'.heap.size/\Below w.heap.size w w')
      (first
       | exact keepDrew ⟨c0,c1,c2,c3,c4⟩ (Nat.le_of_lt c4) ac.out
       | assumption
       | (refine keepBox ?_ hb;assumption))
      (first
       | (go_at_call 168;refine (bA _ _ _ _ _).mono ?_;rintro _ w1 ⟨rfl,hb⟩)
       | (go_at_call 170;refine (cB _ _ _ _ _).mono ?_;rintro _ w1 ⟨rfl,hb⟩)
       | (go_at_call 169;refine (aB _ _ _ _ _ ?_ K1.out K2.out).mono ?_;(go_split_ands;exact ab HM.out (by assumption));rintro _ w1 ⟨rfl,hb⟩)
       | (go_at_call 70;refine (ah _).mono ?_;rintro _ w1 ⟨rfl,rfl⟩))
     rename_i HS
     go_end0
     exact⟨by rw[HX.out,HY.out];rfl,HS.2.2.2.2.2.2⟩
  ·rw[bZ g2]
   have HY:Hid (Rs.span lo hi li hn=Rs.bound hi):=by show _=_;unfold Rs.span;rw[if_neg (by simp[G1.out]),if_pos g2]
   have G2:=zh g2
   clear g2
   go_wp2_with fail
   exact⟨rfl,by rw[HX.out,HY.out,bZ G2.out],ac.out⟩
 ·rw[bZ g1]
  have HY:Hid (Rs.span lo hi li hn=Rs.bound lo):=by show _=_;unfold Rs.span;rw[if_pos g1]
  have G1:=zh g1
  clear g1
  go_wp2_with fail
  exact⟨rfl,by rw[HX.out,HY.out,bZ G1.out],ac.out⟩
end
section
open Go.RowKit
attribute [local go_sem ↓] Go.wp_at_zero Go.wp_at_succ
def Stable (A:World->Prop):Prop:=∀ u u':World,A u->Below u.heap.size u u'->A u'
def Kp (A:World->Prop) (w u:World):Prop:=A u/\w.heap.size<=u.heap.size/\Below w.heap.size w u
theorem b9 {A:World->Prop}{w u u':World}(hA:Stable A)(hb:Below u.heap.size u u')(h:Hid (Kp A w u)):Hid (Kp A w u') :=
 ⟨hA _ _ h.out.1 hb,Nat.le_trans h.out.2.1 hb.size,h.out.2.2.trans (hb.mono h.out.2.1)⟩
theorem ux {A:World->Prop}{w u:World}(hm:Hid (MaxOk w))(h:Hid (Kp A w u)):MaxOk u:=ab hm.out h.out.2.2
theorem oD {A:World->Prop}{w u:World}(h:Hid (Kp A w u)):Below w.heap.size w u:=h.out.2.2
theorem y7 {A:World->Prop}{w u:World}(hA:Stable A)(h:Hid (Kp A w u)):Hid (Kp A w u.drew):=b9 hA (Below.refl _ _).drew h
theorem gg (b:Nat)(lo hi:List UInt8)(li hn:Bool):Stable (fun u=>Box u b lo hi li hn):=fun _ _ h hb=>cC h hb
theorem gh {A B:World->Prop}(hA:Stable A)(hB:Stable B):Stable (fun u=>A u/\B u):=fun _ _ h hb=>⟨hA _ _ h.1 hb,hB _ _ h.2 hb⟩
def Box2 (w u:World) (lo hi:List UInt8) (li hn:Bool) (lo' hi':List UInt8) (li' hn':Bool):Prop:=Box u w.heap.size lo hi li hn/\Box u (w.heap.size+1) lo' hi' li' hn'
theorem qD (w:World)(lo hi:List UInt8)(li hn:Bool)(lo' hi':List UInt8)(li' hn':Bool):Stable (fun u=>Box2 w u lo hi li hn lo' hi' li' hn'):=gh (gg _ _ _ _ _) (gg _ _ _ _ _)
theorem wV (w:World)(T:TypeId)(lo hi:List UInt8)(li hn:Bool)(lo' hi':List UInt8)(li' hn':Bool) :
  Hid (Kp (fun u=>Box2 w u lo hi li hn lo' hi' li' hn') w ((w.alloc (.cells #[.string ⟨lo.toArray⟩,.string ⟨hi.toArray⟩,.bool li,.bool hn] T)).alloc (.cells #[.string ⟨lo'.toArray⟩,.string ⟨hi'.toArray⟩,.bool li',.bool hn'] T))):=by
 refine⟨⟨cC (fB ..) ((Below.refl _ _).alloc (Nat.le_refl _) _),?_⟩,by simp;omega,((Below.refl _ _).alloc (Nat.le_refl _) _).alloc (by simp) _⟩
 have:=fB (w.alloc (.cells #[.string ⟨lo.toArray⟩,.string ⟨hi.toArray⟩,.bool li,.bool hn] T)) lo' hi' li' hn' T
 rw[show (w.alloc (.cells #[.string ⟨lo.toArray⟩,.string ⟨hi.toArray⟩,.bool li,.bool hn] T)).heap.size=w.heap.size+1 from by simp] at this
 exact this
def afterI (phi:List UInt8) (phn:Bool) (slo:List UInt8) (sli:Bool):Int:=if Rm.lt Rs.Ln (Rs.hiC phi phn) (Rs.loC slo sli) then 0 else 7
theorem eB (slo shi:List UInt8)(sli shn:Bool)(plo phi:List UInt8)(pli phn:Bool)(w:World)(hw:MaxOk w)(h1:Rs.bound slo=0)(h2:Rs.bound phi=0) :
  Calls Tryz.prog 301 #[.agg #[.string ⟨slo.toArray⟩,.string ⟨shi.toArray⟩,.bool sli,.bool shn],.agg #[.string ⟨plo.toArray⟩,.string ⟨phi.toArray⟩,.bool pli,.bool phn]] w fun e w'=>e=dy (afterI phi phn slo sli)/\Below w.heap.size w w':=by
 have HM:=zh hw
 have ab:Stable (fun u=>Box2 w u slo shi sli shn plo phi pli phn):=qD w _ _ _ _ _ _ _ _
 have HI:=wV w 145 slo shi sli shn plo phi pli phn
 have K1:Hid (slo.isEmpty=false->Vm.check slo=0):=fun h=>(Rs.bp h1 h).1
 have K2:Hid (phi.isEmpty=false->Vm.check phi=0):=fun h=>(Rs.bp h2 h).1
 have HQ:Hid (decide (cmpVS phi (sHi phi phn) slo (sLo slo sli)<0)=Rm.lt Rs.Ln (Rs.hiC phi phn) (Rs.loC slo sli)):=by
  have a1:=oA slo sli
  have a2:=oB phi phn
  have:=ia (lF (Rs.ob (i:=phn) h2)) (lE (Rs.oa (i:=sli) h1))
  rw[a1.2,a2.2,<-a1.1,<-a2.1] at this
  show _=_
  rw[this,oC]
 obtain⟨k,hk⟩:=ex (afterI phi phn slo sli)
 have HX:Hid (k=if Rm.lt Rs.Ln (Rs.hiC phi phn) (Rs.loC slo sli) then 0 else 7):=hk.symm
 rw[hk]
 obtain⟨B,hB⟩:=ex (Rm.lt Rs.Ln (Rs.hiC phi phn) (Rs.loC slo sli))
 rw[hB] at HQ HX
 clear hw h1 h2 hk hB
 obtain⟨W,hW⟩:=ex ((w.alloc (.cells #[.string ⟨slo.toArray⟩,.string ⟨shi.toArray⟩,.bool sli,.bool shn] 145)).alloc (.cells #[.string ⟨plo.toArray⟩,.string ⟨phi.toArray⟩,.bool pli,.bool phn] 145))
 rw[hW] at HI
 have ac:=y7 ab HI
 obtain⟨⟨⟨c0,c1,c2,c3,_⟩,⟨d0,d1,d2,d3,_⟩⟩,_⟩:=HI.out
 cases B
 ·go_enter Tryz.func301,Tryz.ntmps301
  go_wp2_with fail
  clear hW
  have hq:=HQ.out
  go_region_with (first
    | (go_at_call 168;refine (bA _ _ _ _ _).mono ?_;rintro _ w4 ⟨rfl,hb⟩;have aa:=b9 ab hb (by assumption);clear hb;obtain⟨⟨⟨c0,c1,c2,c3,_⟩,⟨d0,d1,d2,d3,_⟩⟩,_⟩:=aa.out)
    | (go_at_call 170;refine (cB _ _ _ _ _).mono ?_;rintro _ w4 ⟨rfl,hb⟩;have aa:=b9 ab hb (by assumption);clear hb;obtain⟨⟨⟨c0,c1,c2,c3,_⟩,⟨d0,d1,d2,d3,_⟩⟩,_⟩:=aa.out)
    | (go_at_call 169;refine (aB _ _ _ _ _ (ux HM (by assumption)) K2.out K1.out).mono ?_;rintro _ w4 ⟨rfl,hb⟩;have aa:=b9 ab hb (by assumption);clear hb)
    | (go_at_call 70;refine (ai _).mono ?_;rintro _ w4 ⟨rfl,rfl⟩;refine cT (P:=Tryz.prog) (a:={ tmps:=#[],defers:=[] }) (w:=w) ?_))
  all_goals exact⟨rfl,by rw[HX.out];rfl,oD (by assumption)⟩
 ·go_enter Tryz.func301,Tryz.ntmps301
  go_wp2_with fail
  clear hW
  have hq:=HQ.out
  go_region_with (first
    | (go_at_call 168;refine (bA _ _ _ _ _).mono ?_;rintro _ w4 ⟨rfl,hb⟩;have aa:=b9 ab hb (by assumption);clear hb;obtain⟨⟨⟨c0,c1,c2,c3,_⟩,⟨d0,d1,d2,d3,_⟩⟩,_⟩:=aa.out)
    | (go_at_call 170;refine (cB _ _ _ _ _).mono ?_;rintro _ w4 ⟨rfl,hb⟩;have aa:=b9 ab hb (by assumption);clear hb;obtain⟨⟨⟨c0,c1,c2,c3,_⟩,⟨d0,d1,d2,d3,_⟩⟩,_⟩:=aa.out)
    | (go_at_call 169;refine (aB _ _ _ _ _ (ux HM (by assumption)) K2.out K1.out).mono ?_;rintro _ w4 ⟨rfl,hb⟩;have aa:=b9 ab hb (by assumption);clear hb)
    | (go_at_call 70;refine (ah _).mono ?_;rintro _ w4 ⟨rfl,rfl⟩))
  all_goals
   go_end0
   exact⟨by rw[HX.out];rfl,oD (by assumption)⟩
end
section
open Go.RowKit
attribute [local go_sem ↓] Go.wp_at_zero Go.wp_at_succ
def At4 (w:World) (p:Addr) (lo hi:List UInt8) (li hn:Bool):Prop:=w.cell? p=some (.string ⟨lo.toArray⟩)/\w.cell? ⟨p.block,p.off+1,none⟩=some (.string ⟨hi.toArray⟩)/\w.cell? ⟨p.block,p.off+2,none⟩=some (.bool li)/\w.cell? ⟨p.block,p.off+3,none⟩=some (.bool hn)
theorem aah {w:World}{p:Addr}{m:Nat}{s:Rs.Sp}(h:Rs.SpAt w (p.add m) s):At4 w (p.add m) s.lo s.hi s.li s.hn:=by
 obtain⟨h0,h1,h2,h3⟩:=h
 rw[Go.Deep.add_add,Nat.add_zero] at h0
 exact⟨h0,h1,h2,h3⟩
theorem iP {w:World}{A:Option Addr}{l:List Rs.Sp}(h:Rs.SRow w A l)(k:Nat)(hk:k<l.length):∃ ad lo hi li hn,A=some ad/\l[k]=⟨lo,hi,li,hn⟩/\ad.block<w.heap.size/\At4 w (ad.add (k*4)) lo hi li hn:=by
 obtain⟨ad,e,hl,hc⟩:=h (by omega)
 exact⟨ad,_,_,_,_,e,rfl,hl,aah (hc k hk)⟩
end
end Go.Proofs.YtgnaiidgjmicaaaGreatDoor
