/- Part 6 of what the laws lean on. -/
import Derived.Test.YtgnaiidgjmicaaaGreatDoorM05
set_option maxRecDepth 100000
set_option maxHeartbeats 2000000
namespace Go.Proofs.YtgnaiidgjmicaaaGreatDoor
section
open Go.RowKit
theorem sY (p:Addr)(x:Int)(n:Int)(w:World)(hc:w.cell? p=some (.int .i64 x))(hz:w.frozen? p=false) :
  CallsD Tryz.prog 83 #[.pointer (some p)] (.panicking [{ v:=.iface 77 (.int .i64 n),recovered:=false }]) w fun e u' w' =>
   e=.returned (.tuple #[])/\u'=.panicking [{ v:=.iface 77 (.int .i64 n),recovered:=true }]/\w'=w.setCell p (.int .i64 n):=by
 refine callsD_of_wpS Tryz.func83 rfl fun c₀ cs hu=>?_
 apply wpS_region
 simp[wpOpsS,go_sem,recoverD,hu,Tryz.ntmps83]
 refine (bU n _).mono ?_
 rintro e w' ⟨rfl,rfl⟩
 simp[go_sem,hc,hz,bodyPostS,results,Tryz.results83]
theorem vZ (p:Addr)(x:Int)(w:World)(hc:w.cell? p=some (.int .i64 x))(hz:w.frozen? p=false) :
  CallsD Tryz.prog 83 #[.pointer (some p)] .returning w fun e u' w'=>e=.returned (.tuple #[])/\u'=.returning/\w'=w.setCell p (.int .i64 0):=by
 refine callsD_of_wpS Tryz.func83 rfl fun c₀ cs hu=>?_
 apply wpS_region
 simp[wpOpsS,go_sem,recoverD,hu,Tryz.ntmps83]
 refine (bT _).mono ?_
 rintro e w' ⟨rfl,rfl⟩
 cases c₀
 simp_all [go_sem,bodyPostS,results,Tryz.results83]
theorem sZ (p:Addr)(x:Int)(n:Int)(w:World)(hc:w.cell? p=some (.int .i64 x))(hz:w.frozen? p=false) :
  CallsD Tryz.prog 250 #[.pointer (some p)] (.panicking [{ v:=.iface 77 (.int .i64 n),recovered:=false }]) w fun e u' w' =>
   e=.returned (.tuple #[])/\u'=.panicking [{ v:=.iface 77 (.int .i64 n),recovered:=true }]/\w'=w.setCell p (.int .i64 n):=by
 refine callsD_of_wpS Tryz.func250 rfl fun c₀ cs hu=>?_
 apply wpS_region
 simp[wpOpsS,go_sem,recoverD,hu,Tryz.ntmps250]
 refine (bU n _).mono ?_
 rintro e w' ⟨rfl,rfl⟩
 simp[go_sem,hc,hz,bodyPostS,results,Tryz.results250]
theorem v7 (p:Addr)(x:Int)(w:World)(hc:w.cell? p=some (.int .i64 x))(hz:w.frozen? p=false) :
  CallsD Tryz.prog 250 #[.pointer (some p)] .returning w fun e u' w'=>e=.returned (.tuple #[])/\u'=.returning/\w'=w.setCell p (.int .i64 0):=by
 refine callsD_of_wpS Tryz.func250 rfl fun c₀ cs hu=>?_
 apply wpS_region
 simp[wpOpsS,go_sem,recoverD,hu,Tryz.ntmps250]
 refine (bT _).mono ?_
 rintro e w' ⟨rfl,rfl⟩
 cases c₀
 simp_all [go_sem,bodyPostS,results,Tryz.results250]
theorem rB (w:World) :
  CallsD Tryz.prog 85 #[] .returning w fun e u' w'=>e=.returned (.tuple #[])/\u'=.returning/\w'=w:=by
 refine callsD_of_wpS Tryz.func85 rfl fun c₀ cs hu=>?_
 apply wpS_region
 cases c₀
 simp_all [wpOpsS,go_sem,recoverD,Tryz.ntmps85,bodyPostS,results,Tryz.results85]
theorem ib (l:List UInt8)(w:World)(hw:MaxOk w)(h:Vm.check l=0) :
  Calls Tryz.prog 84 #[.string ⟨l.toArray⟩] w fun e w'=>e=.returned (.agg #[.string ⟨(Vm.ep l).toArray⟩,.string ⟨(Vm.pt l).toArray⟩,.string ⟨(Vm.rv l).toArray⟩])/\Below w.heap.size w w':=by
 unfold Vm.check at h
 split at h
 ·cases h
 ·split at h
  ·rename_i h1 h2
   refine (qq l w hw (by omega)).mono fun e w' ⟨g1,g2⟩=>⟨?_,g2⟩
   rw[g1,parsed,ended]
   unfold Vm.verOk at h2
   rw[h2];rfl
  ·cases h
theorem s7 (l:List UInt8)(w:World)(hw:MaxOk w)(h:Vm.check l≠0) :
  Calls Tryz.prog 84 #[.string ⟨l.toArray⟩] w fun e w'=>e=pan (Vm.check l)/\Below w.heap.size w w':=by
 unfold Vm.check at *
 split
 ·rename_i h1
  exact yM l w h1
 ·rename_i h1
  rw[if_neg h1] at h
  split
  ·rename_i h2;rw[if_pos h2] at h;exact absurd rfl h
  ·rename_i h2
   refine (qq l w hw (by omega)).mono fun e w' ⟨g1,g2⟩=>⟨?_,g2⟩
   rw[g1,parsed,ended]
   unfold Vm.verOk at h2
   rw[if_neg h2]
theorem aaj (l:List UInt8)(w:World)(hw:MaxOk w) :
  Calls Tryz.prog 44 #[.string ⟨l.toArray⟩] w fun e w'=>e=.returned (.int .i64 (Vm.check l))/\Below w.heap.size w w':=by
 have ad:∀ (fn:Fn) (first cap:Array Value) (w:World),(Instr.makeFunc fn first cap).run Tryz.prog w=.ok (.func fn first cap) w:=fun _ _ _ _=>rfl
 have hM:MaxOk (w.alloc (.cells #[.int .i64 0] 77)):=ag hw ((Below.refl _ _).alloc (Nat.le_refl _) _)
 have HM:=zh hM
 clear hw hM
 by_cases h:Vm.check l=0
 ·have H:=zh h
  clear h
  go_enter_defers Tryz.func44,Tryz.ntmps44
  go_wp2_with fail
  refine (ib l _ HM.out H.out).mono ?_
  rintro e w1 ⟨rfl,hb⟩
  have ab:Below (w.heap.size+1) (w.alloc (.cells #[.int .i64 0] 77)) w1:=by simpa using hb
  obtain⟨aa,ac⟩:=bj w w1 _ _ ab
  have HB:=zh ab
  clear hb ab
  go_wp2_with fail
  refine leaves_cons (f:=83) (args:=#[.pointer (some ⟨w.heap.size,0,none⟩)]) (by simp) (by simp[go_sem]) ?_
  refine (vZ ⟨w.heap.size,0,none⟩ 0 _ ?_ ?_).mono ?_
  ·simp[go_sem,aa]
  ·simp[go_sem,ac]
  rintro e u' w2 ⟨rfl,rfl,rfl⟩
  simp[Leaves,settle,results,Tryz.results44,go_sem,aa]
  exact⟨H.out.symm,((bl HB.out).setCell (Nat.le_refl _) _).setCell (Nat.le_refl _) _⟩
 ·have H:=zh h
  clear h
  go_enter_defers Tryz.func44,Tryz.ntmps44
  go_wp2_with fail
  refine (s7 l _ HM.out H.out).mono ?_
  rintro e w1 ⟨rfl,hb⟩
  have ab:Below (w.heap.size+1) (w.alloc (.cells #[.int .i64 0] 77)) w1:=by simpa using hb
  obtain⟨aa,ac⟩:=bj w w1 _ _ ab
  have HB:=zh ab
  clear hb ab
  go_wp2_with fail
  refine leaves_cons (f:=83) (args:=#[.pointer (some ⟨w.heap.size,0,none⟩)]) (by simp) (by simp[go_sem]) ?_
  refine (sY ⟨w.heap.size,0,none⟩ 0 _ _ ?_ ?_).mono ?_
  ·simp[go_sem,aa]
  ·simp[go_sem,ac]
  rintro e u' w2 ⟨rfl,rfl,rfl⟩
  simp[Leaves,settle,results,Tryz.results44,go_sem,aa]
  exact (bl HB.out).setCell (Nat.le_refl _) _
theorem aak (c:UInt8)(h:Vm.ok1 c=true):c.toNat<128:=by
 simp[Vm.ok1,Vm.dig,Vm.oth,Vm.ltr] at h;omega
theorem cM {l:List UInt8}(h:Vm.partOk l=true):ascii l:=by
 intro j b hb
 unfold Vm.partOk at h
 simp only[Bool.and_eq_true,List.all_eq_true] at h
 exact aak b (h.2.2.2 b (List.mem_of_getElem? hb))
theorem kA {l:List UInt8}(h:Vm.partOk l=true):l≠[]:=by
 intro h0;subst h0;cases h
theorem ch {l:List UInt8}(h:Vm.check l=0):l.length<=40/\Vm.epOk (Vm.ep l)=true/\Vm.partOk (Vm.pt l)=true/\Vm.partOk (Vm.rv l)=true:=by
 unfold Vm.check at h
 split at h
 ·cases h
 ·split at h
  ·rename_i h1 h2
   unfold Vm.verOk at h2
   simp only[Bool.and_eq_true] at h2
   exact⟨by omega,h2.1,h2.2.1,h2.2.2⟩
  ·cases h
theorem yO (l:List UInt8):textOf (Vm.ep l) (Vm.pt l) (Vm.rv l)=Vm.canon l:=rfl
def canonOf (l:List UInt8):List UInt8:=if Vm.check l=0 then Vm.canon l else []
theorem cQ (l:List UInt8)(w:World)(hw:MaxOk w) :
  Calls Tryz.prog 215 #[.string ⟨l.toArray⟩] w fun e w'=>e=.returned (.tuple #[.string ⟨(canonOf l).toArray⟩,.int .i64 (Vm.check l)])/\Below w.heap.size w w':=by
 have af:∀ (fn:Fn) (first cap:Array Value) (w:World),(Instr.makeFunc fn first cap).run Tryz.prog w=.ok (.func fn first cap) w:=fun _ _ _ _=>rfl
 have hM:MaxOk (w.alloc (.cells #[.int .i64 0] 77)):=ag hw ((Below.refl _ _).alloc (Nat.le_refl _) _)
 have HM:=zh hM
 clear hw hM
 by_cases h:Vm.check l=0
 ·have H:=zh h
  have HC:Hid (canonOf l=Vm.canon l):=by show _=_;rw[canonOf,if_pos h]
  clear h
  go_enter_defers Tryz.func215,Tryz.ntmps215
  go_wp2_with fail
  refine (ib l _ HM.out H.out).mono ?_
  rintro e w1 ⟨rfl,hb⟩
  have ac:Below (w.heap.size+1) (w.alloc (.cells #[.int .i64 0] 77)) w1:=by simpa using hb
  have HB:=zh ac
  have HV:=zh (ch H.out)
  have l1:=HV.out.1
  have l2:=yN l
  have l3:=nJ l
  have l4:=nK l
  clear hb ac
  go_wp2_with fail
  refine (acn _ _ _ _ (by omega) (by omega) (by omega) (kA HV.out.2.2.1) (kA HV.out.2.2.2) (cM HV.out.2.2.1) (cM HV.out.2.2.2)).mono ?_
  rintro e w2 ⟨rfl,hb⟩
  rw[yO]
  have ad:Below (w.heap.size+1) (w.alloc (.cells #[.int .i64 0] 77)) w2:=HB.out.trans (hb.mono (by have:=HB.out.size;simpa using this))
  obtain⟨aa,ab⟩:=bj w w2 _ _ ad
  have ae:=zh ad
  clear hb ad HB
  go_wp2_with fail
  refine leaves_cons (f:=250) (args:=#[.pointer (some ⟨w.heap.size,0,none⟩)]) (by simp) (by simp[go_sem]) ?_
  refine (v7 ⟨w.heap.size,0,none⟩ 0 _ ?_ ?_).mono ?_
  ·simp[go_sem,aa]
  ·simp[go_sem,ab]
  rintro e u' w3 ⟨rfl,rfl,rfl⟩
  simp[Leaves,settle,results,Tryz.results215,go_sem,aa]
  exact⟨⟨by rw[HC.out],H.out.symm⟩,((bl ae.out).setCell (Nat.le_refl _) _).setCell (Nat.le_refl _) _⟩
 ·have H:=zh h
  have HC:Hid (canonOf l=[]):=by show _=_;rw[canonOf,if_neg h]
  clear h
  go_enter_defers Tryz.func215,Tryz.ntmps215
  go_wp2_with fail
  refine (s7 l _ HM.out H.out).mono ?_
  rintro e w1 ⟨rfl,hb⟩
  have ac:Below (w.heap.size+1) (w.alloc (.cells #[.int .i64 0] 77)) w1:=by simpa using hb
  obtain⟨aa,ab⟩:=bj w w1 _ _ ac
  have HB:=zh ac
  clear hb ac
  go_wp2_with fail
  refine leaves_cons (f:=250) (args:=#[.pointer (some ⟨w.heap.size,0,none⟩)]) (by simp) (by simp[go_sem]) ?_
  refine (sZ ⟨w.heap.size,0,none⟩ 0 _ _ ?_ ?_).mono ?_
  ·simp[go_sem,aa]
  ·simp[go_sem,ab]
  rintro e u' w2 ⟨rfl,rfl,rfl⟩
  simp[Leaves,settle,results,Tryz.results215,go_sem,aa]
  exact⟨by rw[HC.out],(bl HB.out).setCell (Nat.le_refl _) _⟩
end
section
open Go.RowKit
theorem cells3 (w:World)(p q r:Int)(k:Nat)(h:k < [p,q,r].length):(w.alloc (.cells #[.int .i64 p,.int .i64 q,.int .i64 r] 3)).cell? ⟨w.heap.size,k,none⟩=some (.int .i64 [p,q,r][k]):=by
 rw[World.cell?_alloc_mark]
 match k,h with
 | 0,_=>rfl
 | 1,_=>rfl
 | 2,_=>rfl
theorem or3 (x y z:Int):orL [x,y,z]=Vm.both x (Vm.both y z):=by rw[orL,orL,orL,orL,g9]
theorem nL {w u u':World}{N:Nat}{e p q f r s:List UInt8}(h:u.cell? ⟨N,0,none⟩=some (.string ⟨e.toArray⟩)/\u.cell? ⟨N,1,none⟩=some (.string ⟨p.toArray⟩)/\u.cell? ⟨N,2,none⟩=some (.string ⟨q.toArray⟩)/\u.cell? ⟨N+1,0,none⟩=some (.string ⟨f.toArray⟩)/\u.cell? ⟨N+1,1,none⟩=some (.string ⟨r.toArray⟩)/\u.cell? ⟨N+1,2,none⟩=some (.string ⟨s.toArray⟩)/\N+2<=u.heap.size/\Below N w u)(hb:Below u.heap.size u u'):u'.cell? ⟨N,0,none⟩=some (.string ⟨e.toArray⟩)/\u'.cell? ⟨N,1,none⟩=some (.string ⟨p.toArray⟩)/\u'.cell? ⟨N,2,none⟩=some (.string ⟨q.toArray⟩)/\u'.cell? ⟨N+1,0,none⟩=some (.string ⟨f.toArray⟩)/\u'.cell? ⟨N+1,1,none⟩=some (.string ⟨r.toArray⟩)/\u'.cell? ⟨N+1,2,none⟩=some (.string ⟨s.toArray⟩)/\N+2<=u'.heap.size/\Below N w u':=by
 obtain⟨h0,h1,h2,h3,h4,h5,h6,h7⟩:=h
 refine⟨?_,?_,?_,?_,?_,?_,Nat.le_trans h6 hb.size,h7.trans (hb.mono (by omega))⟩
 ·rw[hb.cell (by simp;omega)];exact h0
 ·rw[hb.cell (by simp;omega)];exact h1
 ·rw[hb.cell (by simp;omega)];exact h2
 ·rw[hb.cell (by simp;omega)];exact h3
 ·rw[hb.cell (by simp;omega)];exact h4
 ·rw[hb.cell (by simp;omega)];exact h5
theorem s8 (e p q f r s:List UInt8)(w:World)(hp:p.length<=41)(hq:q.length<=41)(hr:r.length<=41)(hs:s.length<=41)(ap:ascii p)(aq:ascii q)(ar:ascii r)(as_:ascii s) :
  Calls Tryz.prog 86 #[.agg #[.string ⟨e.toArray⟩,.string ⟨p.toArray⟩,.string ⟨q.toArray⟩],.agg #[.string ⟨f.toArray⟩,.string ⟨r.toArray⟩,.string ⟨s.toArray⟩]] w fun g w' =>
   g=.returned (.int .i64 (Vm.both (Vm.cmpD e f) (Vm.both (Vm.cmpP 41 p r) (Vm.cmpP 41 q s))))/\Below w.heap.size w w':=by
 go_enter Tryz.func86,Tryz.ntmps86
 go_wp2_with fail
 obtain⟨W,hW⟩:=ex ((w.alloc (.cells #[.string ⟨e.toArray⟩,.string ⟨p.toArray⟩,.string ⟨q.toArray⟩] 137)).alloc (.cells #[.string ⟨f.toArray⟩,.string ⟨r.toArray⟩,.string ⟨s.toArray⟩] 137))
 have aa:Below w.heap.size w W:=by rw[<-hW];exact ((Below.refl _ _).alloc (Nat.le_refl _) _).alloc (by simp) _
 have ad:w.heap.size+2<=W.heap.size:=by rw[<-hW];simp
 have ab:Blk W w.heap.size e p q:=by rw[<-hW];unfold Blk;rw[Below.heap_alloc _ _ _ (by simp)];exact heap_alloc_new w _
 have ac:Blk W (w.heap.size+1) f r s:=by
  rw[<-hW]
  have h:=heap_alloc_new (w.alloc (.cells #[.string ⟨e.toArray⟩,.string ⟨p.toArray⟩,.string ⟨q.toArray⟩] 137)) (.cells #[.string ⟨f.toArray⟩,.string ⟨r.toArray⟩,.string ⟨s.toArray⟩] 137)
  rw[show (w.alloc (.cells #[.string ⟨e.toArray⟩,.string ⟨p.toArray⟩,.string ⟨q.toArray⟩] 137)).heap.size=w.heap.size+1 from by simp] at h
  exact h
 obtain⟨ae,af,ag,_,_,_⟩:=aQ ab
 obtain⟨ah,ai,aj,_,_,_⟩:=aQ ac
 rw[hW]
 clear hW ab ac
 go_region_held3 (fun w'=>w'.cell? ⟨w.heap.size,0,none⟩=some (.string ⟨e.toArray⟩)/\w'.cell? ⟨w.heap.size,1,none⟩=some (.string ⟨p.toArray⟩)/\w'.cell? ⟨w.heap.size,2,none⟩=some (.string ⟨q.toArray⟩)/\w'.cell? ⟨w.heap.size+1,0,none⟩=some (.string ⟨f.toArray⟩)/\w'.cell? ⟨w.heap.size+1,1,none⟩=some (.string ⟨r.toArray⟩)/\w'.cell? ⟨w.heap.size+1,2,none⟩=some (.string ⟨s.toArray⟩)/\w.heap.size+2<=w'.heap.size/\Below w.heap.size w w')
  (first
   | exact⟨ae,af,ag,ah,ai,aj,ad,aa.drew⟩
   | assumption
   | (refine nL ?_ hb;assumption)
   | (refine nL ?_ ((Below.refl _ _).alloc (Nat.le_refl _) _);assumption))
  (first
   | (go_at_call 126;refine (fP e f _).mono ?_;rintro _ w1 ⟨rfl,hb⟩)
   | (go_at_call 127;refine (mJ 41 _ _ _ (by decide) (by assumption) (by assumption) (by assumption) (by assumption)).mono ?_;rintro _ w1 ⟨rfl,hb⟩)
   | (go_at_call 125;refine (gZ [_,_,_] _ _ _ (by simp) (cells3 _ _ _ _)).mono ?_;rintro _ w1 ⟨rfl,rfl⟩))
 rename_i HS
 have HB:=zh HS.2.2.2.2.2.2.2
 clear HS
 go_wp2_with fail
 go_ret
 refine⟨?_,HB.out⟩
 show Ending.returned (.int .i64 (orL [Vm.cmpD e f,Vm.cmpP 41 p r,Vm.cmpP 41 q s]))=_
 rw[or3]
theorem iP (l m:List UInt8)(w:World)(hw:MaxOk w)(h1:Vm.check l=0)(h2:Vm.check m=0) :
  Calls Tryz.prog 47 #[.string ⟨l.toArray⟩,.string ⟨m.toArray⟩] w fun e w'=>e=.returned (.int .i64 (Vm.cmpV l m))/\Below w.heap.size w w':=by
 have HM:=zh hw
 have H1:=zh h1
 have H2:=zh h2
 have HX:Hid (Vm.cmpV l m=Vm.both (Vm.cmpD (Vm.ep l) (Vm.ep m)) (Vm.both (Vm.cmpP 41 (Vm.pt l) (Vm.pt m)) (Vm.cmpP 41 (Vm.rv l) (Vm.rv m)))):=rfl
 clear hw h1 h2
 go_enter_defers Tryz.func47,Tryz.ntmps47
 go_wp2_with fail
 refine (ib l _ HM.out H1.out).mono ?_
 rintro e w1 ⟨rfl,hb⟩
 have aa:=zh hb
 clear hb
 go_wp2_with fail
 refine (ib m _ (ag HM.out aa.out) H2.out).mono ?_
 rintro e w2 ⟨rfl,hb⟩
 have ac:=zh (bt aa.out hb)
 clear hb aa
 have HV:=zh (ch H1.out)
 have ab:=zh (ch H2.out)
 have l1:=HV.out.1
 have l2:=ab.out.1
 have l3:=nJ l
 have l4:=nK l
 have l5:=nJ m
 have l6:=nK m
 go_wp2_with fail
 refine (s8 _ _ _ _ _ _ _ (by omega) (by omega) (by omega) (by omega) (cM HV.out.2.2.1) (cM HV.out.2.2.2) (cM ab.out.2.2.1) (cM ab.out.2.2.2)).mono ?_
 rintro e w3 ⟨rfl,hb⟩
 have ad:=zh (bt ac.out hb)
 clear hb ac
 go_wp2_with fail
 refine leaves_cons (f:=85) (args:=#[]) (by simp) (by simp[go_sem]) ?_
 refine (rB _).mono ?_
 rintro e u' w2 ⟨rfl,rfl,rfl⟩
 simp[Leaves,settle,results,Tryz.results47,go_sem]
 exact⟨HX.out.symm,ad.out⟩
end
section
open Go.RowKit
theorem kB (l:List UInt8)(c:UInt8)(w:World)(hm:l.length<=4000)(h:Vm.has c l=true) :
  Calls Tryz.prog 78 #[.string ⟨l.toArray⟩,.int .u8 c.toNat] w fun e w'=>e=.returned (.int .i64 (Vm.fst c l).length)/\w=w':=by
 have:=qn l c w hm;rw[place,if_pos h] at this;exact this
theorem mK (l:List UInt8)(c:UInt8)(w:World)(hm:l.length<=4000)(h:Vm.has c l=false) :
  Calls Tryz.prog 78 #[.string ⟨l.toArray⟩,.int .u8 c.toNat] w fun e w'=>e=.returned (.int .i64 (-1))/\w=w':=by
 have:=qn l c w hm;rw[place,if_neg (by rw[h];simp)] at this;exact this
theorem kC (l:List UInt8)(c:UInt8)(h:Vm.has c l=true):(Vm.fst c l).length<l.length/\(⟨l.toArray⟩:ByteArray).extract 0 (Vm.fst c l).length=⟨(Vm.fst c l).toArray⟩/\(⟨l.toArray⟩:ByteArray).extract ((Vm.fst c l).length+1) l.length=⟨(Vm.snd c l).toArray⟩:=by
 refine⟨(lE l c).1 h,?_,?_⟩
 ·rw[jB,show l.take (Vm.fst c l).length=Vm.fst c l from lD _ l]
 ·rw[extract_from,<-List.drop_drop]
  unfold Vm.snd Vm.fst
  rw[o9]
def epR (l:List UInt8):List UInt8:=if Vm.has 58 l then Vm.fst 58 l else []
def rvR (l:List UInt8):List UInt8:=if Vm.has 45 (Vm.rest l) then Vm.snd 45 (Vm.rest l) else []
def PartsRet (l:List UInt8) (e:Ending) (w w':World):Prop :=
 if Vm.verOk l then e=.returned (.tuple #[.string ⟨(epR l).toArray⟩,.string ⟨(Vm.pt l).toArray⟩,.string ⟨(rvR l).toArray⟩,.bool true])/\w=w'
 else ∃ a b c,e=.returned (.tuple #[.string a,.string b,.string c,.bool false])/\w=w'
theorem bJ {l:List UInt8}{e:Ending}{w:World}(h:Vm.verOk l=false)(a b c:ByteArray)(he:e=.returned (.tuple #[.string a,.string b,.string c,.bool false])):PartsRet l e w w:=by
 rw[PartsRet,h];exact⟨a,b,c,he,rfl⟩
theorem eE {l:List UInt8}{e:Ending}{w:World}(h:Vm.verOk l=true)(he:e=.returned (.tuple #[.string ⟨(epR l).toArray⟩,.string ⟨(Vm.pt l).toArray⟩,.string ⟨(rvR l).toArray⟩,.bool true])):PartsRet l e w w:=by
 rw[PartsRet,h];exact⟨he,rfl⟩
theorem part48:Vm.partOk [48]=true:=by decide
theorem verOksplit (l r:List UInt8)(hr:Vm.rest l=r):Vm.verOk l=(Vm.epOk (Vm.ep l)&&(Vm.partOk (Vm.fst 45 r)&&Vm.partOk (if Vm.has 45 r then Vm.snd 45 r else [48]))):=by
 unfold Vm.verOk Vm.pt Vm.rv;rw[hr]
theorem rvRsplit (l r:List UInt8)(hr:Vm.rest l=r):rvR l=if Vm.has 45 r then Vm.snd 45 r else []:=by unfold rvR;rw[hr]
theorem ptsplit (l r:List UInt8)(hr:Vm.rest l=r):Vm.pt l=Vm.fst 45 r:=by unfold Vm.pt;rw[hr]
theorem kD (l:List UInt8)(w:World)(hm:l.length<=40) :
  Calls Tryz.prog 38 #[.string ⟨l.toArray⟩] w fun e w'=>PartsRet l e w w':=by
 have aq:∀ (x:Bool) (w:World),(Op.unary .not (.bool x)).run Tryz.prog w=.ok (.bool (!x)) w:=fun _ _=>rfl
 cases h1:Vm.has 58 l
 ·have HR:Hid (Vm.rest l=l):=by show _=_;rw[Vm.rest,h1];rfl
  have HE:Hid (Vm.epOk (Vm.ep l)=true):=by show _=_;rw[Vm.ep,h1];rfl
  have ag:Hid (epR l=[]):=by show _=_;rw[epR,h1];rfl
  have H1:=zh h1
  clear h1
  go_enter Tryz.func38,Tryz.ntmps38
  go_wp2_with fail
  refine (mK l 58 _ (by omega) H1.out).mono ?_
  rintro _ w2 ⟨rfl,rfl⟩
  cases h2:Vm.has 45 l
  ·have HV:Hid (Vm.verOk l=(true&&Vm.partOk l)):=by show _=_;rw[verOksplit l l HR.out,h2,kx _ _ h2,HE.out,if_neg (by simp),part48,Bool.and_true]
   have HQ:Hid (rvR l=[]):=by show _=_;rw[rvRsplit l l HR.out,h2];rfl
   have aa:Hid (Vm.pt l=l):=by show _=_;rw[ptsplit l l HR.out,kx _ _ h2]
   have H2:=zh h2
   clear h2
   go_wp2_with fail
   refine (mK l 45 _ (by omega) H2.out).mono ?_
   rintro _ w2 ⟨rfl,rfl⟩
   go_wp2_with fail
   refine (di l _ (by omega)).mono ?_
   rintro _ w2 ⟨rfl,rfl⟩
   cases hp:Vm.partOk l
   ·have HP:=zh hp
    clear hp
    go_wp2_with fail
    refine bodyPost_ret (v:=.tuple #[.string ⟨#[]⟩,.string ⟨l.toArray⟩,.string ⟨#[]⟩,.bool false]) (by simp[results,Tryz.results38,go_sem]) rfl ?_
    exact bJ (by rw[HV.out,HP.out,Bool.and_false]) _ _ _ rfl
   ·have HP:=zh hp
    clear hp
    go_wp2_with fail
    refine bodyPost_ret (v:=.tuple #[.string ⟨#[]⟩,.string ⟨l.toArray⟩,.string ⟨#[]⟩,.bool true]) (by simp[results,Tryz.results38,go_sem]) rfl ?_
    exact eE (by rw[HV.out,HP.out];rfl) (by rw[HQ.out,aa.out,ag.out])
  ·have HV:Hid (Vm.verOk l=(true&&(Vm.partOk (Vm.fst 45 l)&&Vm.partOk (Vm.snd 45 l)))):=by show _=_;rw[verOksplit l l HR.out,h2,HE.out,if_pos rfl]
   have HQ:Hid (rvR l=Vm.snd 45 l):=by show _=_;rw[rvRsplit l l HR.out,h2];rfl
   have aa:Hid (Vm.pt l=Vm.fst 45 l):=by show _=_;rw[ptsplit l l HR.out]
   have H2:=zh h2
   have lf:=fp l 45
   have ls:=i7 45 l
   obtain⟨c1,c2,c3⟩:=kC l 45 h2
   clear h2
   go_wp2_with fail
   refine (kB l 45 _ (by omega) H2.out).mono ?_
   rintro _ w2 ⟨rfl,rfl⟩
   obtain⟨n2,ab⟩:=ex ((Vm.fst 45 l).length)
   rw[ab] at c1 c2 c3 lf
   rw[ab]
   obtain⟨p,hp⟩:=ex (Vm.fst 45 l)
   obtain⟨q,hq⟩:=ex (Vm.snd 45 l)
   rw[hp] at c2 HV aa ab
   rw[hq] at c3 HV HQ ls
   have lp:p.length<=l.length:=by omega
   clear hp hq ab
   go_wp2_with fail
   refine (di q _ (by omega)).mono ?_
   rintro _ w2 ⟨rfl,rfl⟩
   cases hq:Vm.partOk q
   ·have ad:=zh hq
    clear hq
    go_wp2_with fail
    refine bodyPost_ret (v:=.tuple #[.string ⟨#[]⟩,.string ⟨#[]⟩,.string ⟨#[]⟩,.bool false]) (by simp[results,Tryz.results38,go_sem]) rfl ?_
    exact bJ (by rw[HV.out,ad.out,Bool.and_false,Bool.and_false]) _ _ _ rfl
   ·have ad:=zh hq
    clear hq
    go_wp2_with fail
    refine (di p _ (by omega)).mono ?_
    rintro _ w2 ⟨rfl,rfl⟩
    cases hp:Vm.partOk p
    ·have HP:=zh hp
     clear hp
     go_wp2_with fail
     refine bodyPost_ret (v:=.tuple #[.string ⟨#[]⟩,.string ⟨p.toArray⟩,.string ⟨q.toArray⟩,.bool false]) (by simp[results,Tryz.results38,go_sem]) rfl ?_
     exact bJ (by rw[HV.out,HP.out,Bool.false_and,Bool.and_false]) _ _ _ rfl
    ·have HP:=zh hp
     clear hp
     go_wp2_with fail
     refine bodyPost_ret (v:=.tuple #[.string ⟨#[]⟩,.string ⟨p.toArray⟩,.string ⟨q.toArray⟩,.bool true]) (by simp[results,Tryz.results38,go_sem]) rfl ?_
     exact eE (by rw[HV.out,HP.out,ad.out];rfl) (by rw[HQ.out,aa.out,ag.out])
 ·have ak:Vm.rest l=Vm.snd 58 l:=by rw[Vm.rest,h1];rfl
  have ah:Vm.ep l=Vm.fst 58 l:=by rw[Vm.ep,h1];rfl
  have ae:epR l=Vm.fst 58 l:=by rw[epR,h1];rfl
  have lf:=fp l 58
  have ls:=i7 58 l
  obtain⟨c1,c2,c3⟩:=kC l 58 h1
  have H1:=zh h1
  clear h1
  go_enter Tryz.func38,Tryz.ntmps38
  go_wp2_with fail
  refine (kB l 58 _ (by omega) H1.out).mono ?_
  rintro _ w2 ⟨rfl,rfl⟩
  obtain⟨n1,aj⟩:=ex ((Vm.fst 58 l).length)
  rw[aj] at c1 c2 c3 lf
  rw[aj]
  obtain⟨e,he⟩:=ex (Vm.fst 58 l)
  obtain⟨r,hr⟩:=ex (Vm.snd 58 l)
  rw[he] at c2 aj ah ae
  rw[hr] at c3 ak ls
  have le:e.length<=40:=by omega
  have HR:=zh ak
  have ag:=zh ae
  have ar:Hid (Vm.epOk (Vm.ep l)=Vm.epOk e):=by show _=_;rw[ah]
  have al:Hid (Vm.epOk e=false->Vm.verOk l=false):=fun h=>by rw[Vm.verOk,ah,h];rfl
  clear he hr aj ak ah ae
  by_cases g1:e.length<1
  ·have e0:Hid (Vm.epOk e=false):=by
    have:e=[]:=List.eq_nil_of_length_eq_zero (by omega)
    subst this;rfl
   go_wp2_with fail
   refine bodyPost_ret (v:=.tuple #[.string ⟨#[]⟩,.string ⟨#[]⟩,.string ⟨#[]⟩,.bool false]) (by simp[results,Tryz.results38,go_sem]) rfl ?_
   exact bJ (al.out e0.out) _ _ _ rfl
  ·by_cases g2:6<e.length
   ·have e0:Hid (Vm.epOk e=false):=by show _=_;rw[kr e (by omega)];simp;omega
    go_wp2_with fail
    refine bodyPost_ret (v:=.tuple #[.string ⟨#[]⟩,.string ⟨#[]⟩,.string ⟨#[]⟩,.bool false]) (by simp[results,Tryz.results38,go_sem]) rfl ?_
    exact bJ (al.out e0.out) _ _ _ rfl
   ·have ap:Hid (Vm.epOk e=e.all Vm.dig):=by show _=_;rw[kr e (by omega)];simp;omega
    go_wp2_with fail
    go_loop [8] (fun i=>∃ k:Nat,k<=e.length/\i=.int .i64 k/\Hid ((e.take k).all Vm.dig=true)) (fun i=>e.length-(intOf i).toNat)
    case atStart=>exact⟨0,Nat.zero_le _,rfl,rfl⟩
    case round =>
     obtain⟨k,hk,rfl,af⟩:=hrel
     by_cases am:k<e.length
     ·obtain⟨c,hc,ao⟩:=byte_at e k am
      have HS:=zh (dZ e Vm.dig k am)
      rw[ao] at HS
      have HF:Vm.dig c=false->e.all Vm.dig=false:=fun h=>eD e _ k am (by rw[ao];exact h)
      have au:=zh HF
      clear ao HF
      go_wp2_with fail
      refine (bK c _).mono ?_
      rintro _ w2 ⟨rfl,rfl⟩
      cases ai:Vm.dig c
      ·have an:=zh ai
       clear ai
       go_wp2_with fail
       refine bodyPost_ret (v:=.tuple #[.string ⟨#[]⟩,.string ⟨#[]⟩,.string ⟨#[]⟩,.bool false]) (by simp[results,Tryz.results38,go_sem]) rfl ?_
       exact bJ (al.out (by rw[ap.out,au.out an.out])) _ _ _ rfl
      ·have an:=zh ai
       clear ai
       go_wp2_with fail
       go_round
       case rel=>exact⟨k+1,by omega,by go_num,by show _=_;rw[HS.out,af.out,an.out];rfl⟩
       case measure=>simp[intOf];omega
     ·obtain rfl:k=e.length:=by omega
      have ac:e.all Vm.dig=true:=by have:=af.out;rwa [List.take_length] at this
      have HE:Hid (Vm.epOk (Vm.ep l)=true):=by show _=_;rw[ar.out,ap.out,ac]
      clear af ac
      cases h2:Vm.has 45 r
      ·have HV:Hid (Vm.verOk l=(true&&Vm.partOk r)):=by show _=_;rw[verOksplit l r HR.out,h2,kx _ _ h2,HE.out,if_neg (by simp),part48,Bool.and_true]
       have HQ:Hid (rvR l=[]):=by show _=_;rw[rvRsplit l r HR.out,h2];rfl
       have aa:Hid (Vm.pt l=r):=by show _=_;rw[ptsplit l r HR.out,kx _ _ h2]
       have H2:=zh h2
       clear h2
       go_wp2_with fail
       refine (mK r 45 _ (by omega) H2.out).mono ?_
       rintro _ w2 ⟨rfl,rfl⟩
       go_wp2_with fail
       refine (di r _ (by omega)).mono ?_
       rintro _ w2 ⟨rfl,rfl⟩
       cases hp:Vm.partOk r
       ·have HP:=zh hp
        clear hp
        go_wp2_with fail
        refine bodyPost_ret (v:=.tuple #[.string ⟨e.toArray⟩,.string ⟨r.toArray⟩,.string ⟨#[]⟩,.bool false]) (by simp[results,Tryz.results38,go_sem]) rfl ?_
        exact bJ (by rw[HV.out,HP.out,Bool.and_false]) _ _ _ rfl
       ·have HP:=zh hp
        clear hp
        go_wp2_with fail
        refine bodyPost_ret (v:=.tuple #[.string ⟨e.toArray⟩,.string ⟨r.toArray⟩,.string ⟨#[]⟩,.bool true]) (by simp[results,Tryz.results38,go_sem]) rfl ?_
        exact eE (by rw[HV.out,HP.out];rfl) (by rw[HQ.out,aa.out,ag.out])
      ·have HV:Hid (Vm.verOk l=(true&&(Vm.partOk (Vm.fst 45 r)&&Vm.partOk (Vm.snd 45 r)))):=by show _=_;rw[verOksplit l r HR.out,h2,HE.out,if_pos rfl]
       have HQ:Hid (rvR l=Vm.snd 45 r):=by show _=_;rw[rvRsplit l r HR.out,h2];rfl
       have aa:Hid (Vm.pt l=Vm.fst 45 r):=by show _=_;rw[ptsplit l r HR.out]
       have H2:=zh h2
       have lf:=fp r 45
       have ls:=i7 45 r
       obtain⟨c1,c2,c3⟩:=kC r 45 h2
       clear h2
       go_wp2_with fail
       refine (kB r 45 _ (by omega) H2.out).mono ?_
       rintro _ w2 ⟨rfl,rfl⟩
       obtain⟨n2,ab⟩:=ex ((Vm.fst 45 r).length)
       rw[ab] at c1 c2 c3 lf
       rw[ab]
       obtain⟨p,hp⟩:=ex (Vm.fst 45 r)
       obtain⟨q,hq⟩:=ex (Vm.snd 45 r)
       rw[hp] at c2 HV aa ab
       rw[hq] at c3 HV HQ ls
       have lp:p.length<=r.length:=by omega
       clear hp hq ab
       go_wp2_with fail
       refine (di q _ (by omega)).mono ?_
       rintro _ w2 ⟨rfl,rfl⟩
       cases hq:Vm.partOk q
       ·have ad:=zh hq
        clear hq
        go_wp2_with fail
        refine bodyPost_ret (v:=.tuple #[.string ⟨#[]⟩,.string ⟨#[]⟩,.string ⟨#[]⟩,.bool false]) (by simp[results,Tryz.results38,go_sem]) rfl ?_
        exact bJ (by rw[HV.out,ad.out,Bool.and_false,Bool.and_false]) _ _ _ rfl
       ·have ad:=zh hq
        clear hq
        go_wp2_with fail
        refine (di p _ (by omega)).mono ?_
        rintro _ w2 ⟨rfl,rfl⟩
        cases hp:Vm.partOk p
        ·have HP:=zh hp
         clear hp
         go_wp2_with fail
         refine bodyPost_ret (v:=.tuple #[.string ⟨e.toArray⟩,.string ⟨p.toArray⟩,.string ⟨q.toArray⟩,.bool false]) (by simp[results,Tryz.results38,go_sem]) rfl ?_
         exact bJ (by rw[HV.out,HP.out,Bool.false_and,Bool.and_false]) _ _ _ rfl
        ·have HP:=zh hp
         clear hp
         go_wp2_with fail
         refine bodyPost_ret (v:=.tuple #[.string ⟨e.toArray⟩,.string ⟨p.toArray⟩,.string ⟨q.toArray⟩,.bool true]) (by simp[results,Tryz.results38,go_sem]) rfl ?_
         exact eE (by rw[HV.out,HP.out,ad.out];rfl) (by rw[HQ.out,aa.out,ag.out])
end
section
open Go.RowKit
theorem gF (l:List UInt8)(w:World) :
  Calls Tryz.prog 10 #[.string ⟨l.toArray⟩] w fun e w'=>e=.returned (.int .i64 (Vm.check l))/\w=w':=by
 have ab:∀ (x:Bool) (w:World),(Op.unary .not (.bool x)).run Tryz.prog w=.ok (.bool (!x)) w:=fun _ _=>rfl
 by_cases aa:40<l.length
 ·have HC:Hid (Vm.check l=4):=by show _=_;rw[Vm.check,if_pos aa]
  go_enter Tryz.func10,Tryz.ntmps10
  go_wp2_with fail
  go_ret
  exact⟨by rw[HC.out];rfl,rfl⟩
 ·cases hv:Vm.verOk l
  ·have HC:Hid (Vm.check l=5):=by show _=_;rw[Vm.check,if_neg aa,hv];rfl
   have HV:=zh hv
   clear hv
   go_enter Tryz.func10,Tryz.ntmps10
   go_wp2_with fail
   refine (kD l _ (by omega)).mono ?_
   rintro e w1 hp
   unfold PartsRet at hp
   rw[HV.out] at hp
   obtain⟨a,b,c,rfl,rfl⟩:=hp
   go_wp2_with fail
   go_ret
   exact⟨by rw[HC.out];rfl,rfl⟩
  ·have HC:Hid (Vm.check l=0):=by show _=_;rw[Vm.check,if_neg aa,hv];rfl
   have HV:=zh hv
   clear hv
   go_enter Tryz.func10,Tryz.ntmps10
   go_wp2_with fail
   refine (kD l _ (by omega)).mono ?_
   rintro e w1 hp
   unfold PartsRet at hp
   rw[HV.out] at hp
   obtain⟨rfl,rfl⟩:=hp
   go_wp2_with fail
   go_ret
   exact⟨by rw[HC.out];rfl,rfl⟩
theorem ic (l:List UInt8)(w:World)(h:Vm.check l=0) :
  Calls Tryz.prog 38 #[.string ⟨l.toArray⟩] w fun e w'=>e=.returned (.tuple #[.string ⟨(epR l).toArray⟩,.string ⟨(Vm.pt l).toArray⟩,.string ⟨(rvR l).toArray⟩,.bool true])/\w=w':=by
 have hv:=ch h
 have h2:Vm.verOk l=true:=by unfold Vm.verOk;rw[hv.2.1,hv.2.2.1,hv.2.2.2];rfl
 have:=kD l w hv.1
 unfold PartsRet at this
 rw[h2] at this
 exact this
theorem aco (l:List UInt8)(k:Nat)(h:k<l.length):Vm.num (l.take (k+1))=10*Vm.num (l.take k)+(l[k].toNat-48):=by
 unfold Vm.num
 rw[List.take_succ_eq_append_getElem h,List.foldl_append];rfl
theorem aal (l:List UInt8)(h:l.all Vm.dig=true):Vm.num l<10 ^ l.length:=by
 have key:∀ (l:List UInt8) (a:Nat),l.all Vm.dig=true->l.foldl (fun n c=>10*n+(c.toNat-48)) a<(a+1)*10 ^ l.length:=by
  intro l
  induction l with
  | nil=>intro a _;simp
  | cons c r ih =>
   intro a h
   simp only[List.all_cons,Bool.and_eq_true] at h
   have h1:=ih (10*a+(c.toNat-48)) h.2
   have h2:c.toNat-48<=9:=by have:=h.1;unfold Vm.dig at this;simp at this;omega
   simp only[List.foldl_cons,List.length_cons]
   refine Nat.lt_of_lt_of_le h1 ?_
   rw[Nat.pow_succ,Nat.mul_comm (10 ^ r.length) 10,<-Nat.mul_assoc]
   exact Nat.mul_le_mul_right _ (by omega)
 have:=key l 0 h
 simpa [Vm.num] using this
theorem aem {l:List UInt8}(h:Vm.check l=0):(epR l).all Vm.dig=true/\(epR l).length<=6/\Vm.num (epR l)=Vm.num (Vm.ep l):=by
 have hv:=(ch h).2.1
 unfold epR Vm.ep at *
 cases h1:Vm.has 58 l
 ·simp[Vm.num]
 ·rw[h1] at hv
  simp only[if_true] at *
  unfold Vm.epOk at hv
  simp only[Bool.and_eq_true,decide_eq_true_eq] at hv
  exact⟨hv.2.2,hv.2.1,trivial⟩
theorem afv {c:UInt8}(h:Vm.dig c=true):48<=c.toNat/\c.toNat<=57:=by unfold Vm.dig at h;simpa using h
theorem afw {n:Nat}(h:n<=6):10 ^ n<=1000000:=by
 have:(10:Nat) ^ n<=10 ^ 6:=Nat.pow_le_pow_right (by decide) h
 simpa using this
theorem kE (l:List UInt8)(w:World)(h:Vm.check l=0) :
  Calls Tryz.prog 88 #[.string ⟨l.toArray⟩] w fun e w'=>e=.returned (.int .i64 (Vm.num (Vm.ep l)))/\w=w':=by
 have hd:=aem h
 have H:=zh h
 clear h
 obtain⟨e,he⟩:=ex (epR l)
 rw[he] at hd
 have HA:=zh hd.1
 have HL:=hd.2.1
 have HN:=zh hd.2.2
 clear hd
 go_enter Tryz.func88,Tryz.ntmps88
 go_wp2_with fail
 refine (ic l _ H.out).mono ?_
 rintro _ w1 ⟨rfl,rfl⟩
 rw[he]
 clear he
 go_wp2_with fail
 go_loop [7,8] (fun n i=>∃ k:Nat,k<=e.length/\i=.int .i64 k/\n=.int .i64 (Vm.num (e.take k))) (fun _ i=>e.length-(intOf i).toNat)
 case atStart=>exact⟨0,Nat.zero_le _,rfl,rfl⟩
 case round =>
  obtain⟨k,hk,rfl,rfl⟩:=hrel
  by_cases aa:k<e.length
  ·obtain⟨c,hc,ab⟩:=byte_at e k aa
   have HS:=zh (aco e k aa)
   rw[ab] at HS
   have hb:Vm.num (e.take k)<1000000:=by
    have h1:=aal (e.take k) (by
     have:=HA.out
     rw[List.all_eq_true] at this ⊢
     exact fun x hx=>this x (List.mem_of_mem_take hx))
    refine Nat.lt_of_lt_of_le h1 (afw ?_)
    rw[List.length_take];omega
   have ac:Vm.dig c=true:=by
    have:=HA.out
    rw[List.all_eq_true] at this
    rw[<-ab];exact this _ (List.getElem_mem aa)
   have HD:=zh ac
   obtain⟨m,hm⟩:=ex (Vm.num (e.take k))
   rw[hm] at HS hb
   rw[hm]
   clear ab ac hm
   go_wp2_with fail
   go_round
   case rel =>
    refine⟨k+1,by omega,by go_num,congrArg (Value.int .i64) ?_⟩
    rw[HS.out]
    have:=afv HD.out
    omega
   case measure=>simp[intOf];omega
  ·obtain rfl:k=e.length:=by omega
   go_wp2_with fail
   go_ret
   refine⟨?_,rfl⟩
   show Ending.returned (.int .i64 (Vm.num e:Int))=_
   rw[HN.out]
theorem runT (l:List UInt8)(w:World)(hm:l.length<=1000) :
  Calls Tryz.prog 128 #[.string ⟨l.toArray⟩,.bool true] w fun e w'=>e=.returned (.tuple #[.string ⟨(Vm.digs l).toArray⟩,.string ⟨(Vm.undigs l).toArray⟩])/\Below w.heap.size w w':=by
 have:=xq l true w hm;rw[(sV l).1,(sV l).2] at this;exact this
theorem runF (l:List UInt8)(w:World)(hm:l.length<=1000) :
  Calls Tryz.prog 128 #[.string ⟨l.toArray⟩,.bool false] w fun e w'=>e=.returned (.tuple #[.string ⟨(Vm.oths l).toArray⟩,.string ⟨(Vm.unoths l).toArray⟩])/\Below w.heap.size w w':=by
 have:=xq l false w hm;rw[(qo l).1,(qo l).2] at this;exact this
def HdD (l:List UInt8):Prop:=l=[]\/Vm.digs l≠[]
theorem yP (l:List UInt8):HdD (Vm.unoths l):=by
 unfold HdD Vm.unoths Vm.digs
 induction l with
 | nil=>left;rfl
 | cons c r ih =>
  cases hd:Vm.dig c
  ·simp[hd];simpa using ih
  ·right;simp[hd]
theorem yQ (l:List UInt8):Vm.undigs l=[]\/Vm.oths (Vm.undigs l)≠[]:=by
 unfold Vm.undigs Vm.oths
 induction l with
 | nil=>left;rfl
 | cons c r ih =>
  cases hd:Vm.dig c
  ·right;simp[hd]
  ·simp[hd];simpa using ih
theorem acp {l:List UInt8}(h:Vm.partOk l=true):HdD l:=by
 right
 match l,kA h,h with
 | c :: r,_,h =>
  rw[iO _ (by simp)] at h
  simp only[Bool.and_eq_true,List.getElem_cons_zero] at h
  simp[Vm.digs,h.1]
theorem aam {l:List UInt8}(h:Vm.digs l≠[]):(Vm.undigs l).length<l.length:=by
 have h1:Vm.digs l++Vm.undigs l=l:=List.takeWhile_append_dropWhile
 have:=congrArg List.length h1;rw[List.length_append] at this
 have:=List.length_pos_iff.2 h;omega
theorem aan {l:List UInt8}(h:Vm.oths l≠[]):(Vm.unoths l).length<l.length:=by
 have h1:Vm.oths l++Vm.unoths l=l:=List.takeWhile_append_dropWhile
 have:=congrArg List.length h1;rw[List.length_append] at this
 have:=List.length_pos_iff.2 h;omega
def CanSt (l y c:List UInt8) (b:Bool):Prop:=y.length+2*c.length<=2*l.length /\
 (if b then HdD c/\∃ m,c.length<=m/\Vm.canonP 41 l=y++Vm.canonP m c else (c=[]\/Vm.oths c≠[])/\∃ m,(Vm.unoths c).length<=m/\Vm.canonP 41 l=y++(Vm.oths c++Vm.canonP m (Vm.unoths c)))
theorem v8 (l:List UInt8)(hl:l.length<=41)(h:HdD l):CanSt l [] l true:=⟨by simp,h,41,hl,rfl⟩
theorem aao {l y:List UInt8}{b:Bool}(h:CanSt l y [] b):Vm.canonP 41 l=y:=by
 obtain⟨_,h⟩:=h
 cases b
 ·obtain⟨_,m,_,h⟩:=h
  rw[h,show Vm.unoths []=[] from rfl,show Vm.oths []=[] from rfl,fX _ _ rfl];simp
 ·obtain⟨_,m,_,h⟩:=h
  rw[h,fX _ _ rfl];simp
theorem yR {l y c:List UInt8}(h:CanSt l y c true)(hc:c.isEmpty=false):CanSt l (y++bareR (Vm.digs c)) (Vm.undigs c) false/\(Vm.undigs c).length<c.length/\(bareR (Vm.digs c)).length<=2*l.length:=by
 obtain⟨hl,hd,m,hm,h⟩:=h
 have aa:Vm.digs c≠[]:=by
  rcases hd with hd | hd
  ·subst hd;cases hc
  ·exact hd
 have ab:=aam aa
 have h1:Vm.digs c++Vm.undigs c=c:=List.takeWhile_append_dropWhile
 have h2:=congrArg List.length h1
 rw[List.length_append] at h2
 have h3:=ef (Vm.digs c)
 have h4:=List.length_pos_iff.2 aa
 rw[jE _ aa]
 refine⟨⟨by rw[List.length_append];omega,yQ c,?_⟩,ab,by omega⟩
 obtain⟨m',rfl⟩:∃ m',m=m'+1:=⟨m-1,by omega⟩
 have h5:=cf c hc
 refine⟨m',by show (Vm.tail2 c).length<=m';omega,?_⟩
 rw[h,fg m' c hc]
 simp only[List.append_assoc];rfl
theorem yS {l y c:List UInt8}(h:CanSt l y c false)(hc:c.isEmpty=false):CanSt l (y++Vm.oths c) (Vm.unoths c) true/\(Vm.unoths c).length<c.length/\(Vm.oths c).length<=2*l.length:=by
 obtain⟨hl,hd,m,hm,h⟩:=h
 have aa:Vm.oths c≠[]:=by
  rcases hd with hd | hd
  ·subst hd;cases hc
  ·exact hd
 have ab:=aan aa
 have h1:Vm.oths c++Vm.unoths c=c:=List.takeWhile_append_dropWhile
 have h2:=congrArg List.length h1
 rw[List.length_append] at h2
 refine⟨⟨by rw[List.length_append];omega,yP c,m,hm,?_⟩,ab,by omega⟩
 rw[h];simp only[List.append_assoc]
theorem bq (l:List UInt8)(w:World)(hl:l.length<=41)(h:Vm.partOk l=true) :
  Calls Tryz.prog 157 #[.string ⟨l.toArray⟩] w fun e w'=>e=.returned (.string ⟨(Vm.canonP 41 l).toArray⟩)/\Below w.heap.size w w':=by
 have af:∀ (x:Bool) (w:World),(Op.unary .not (.bool x)).run Tryz.prog w=.ok (.bool (!x)) w:=fun _ _=>rfl
 have ag:=zh (v8 l hl (acp h))
 clear h
 go_enter Tryz.func157,Tryz.ntmps157
 go_wp2_with fail
 go_loopw [0,3,4] (fun s o d wr=>∃ (y c:List UInt8) (b:Bool),c.length<=41/\y.length<=200/\s=.string ⟨c.toArray⟩/\o=.string ⟨y.toArray⟩/\d=.bool b/\Hid (CanSt l y c b)/\Below w.heap.size w wr) (fun s _ _ _=>strLen s)
 case atStart=>exact⟨[],l,true,hl,by simp,rfl,rfl,rfl,ag,Below.refl _ _⟩
 case round =>
  obtain⟨y,c,b,hc,hy,rfl,rfl,rfl,HS,ab⟩:=hrel
  cases he:c.isEmpty
  ·cases b
   ·obtain⟨g1,g2,g3⟩:=yS HS.out he
    have ac:=zh g1
    have ae:=zh g2
    have ad:=g1.1
    rw[List.length_append] at ad
    clear g1 g2 HS
    go_wp2_with fail
    refine (runF c _ (by omega)).mono ?_
    rintro e w1 ⟨rfl,hb⟩
    have aa:Below w.heap.size w w1:=bt ab hb
    clear hb ab
    obtain⟨z,hz⟩:=ex (Vm.oths c)
    rw[hz] at ac g3 ad
    rw[hz]
    clear hz
    go_wp2_with fail
    go_roundw
    case rel=>exact⟨y++z,Vm.unoths c,true,by omega,by rw[List.length_append];omega,rfl,by rw[ByteArray.mk_append_mk],rfl,ac,aa⟩
    case measure=>have:=ae.out;simpa [strLen] using this
   ·obtain⟨g1,g2,g3⟩:=yR HS.out he
    have ac:=zh g1
    have ae:=zh g2
    have ad:=g1.1
    rw[List.length_append] at ad
    have ai:=pj c
    clear g1 g2 HS
    go_wp2_with fail
    refine (runT c _ (by omega)).mono ?_
    rintro e w1 ⟨rfl,hb⟩
    have aa:Below w.heap.size w w1:=bt ab hb
    clear hb ab
    go_wp2_with fail
    refine (bp _ _ (by omega)).mono ?_
    rintro e w2 ⟨rfl,rfl⟩
    obtain⟨z,hz⟩:=ex (bareR (Vm.digs c))
    rw[hz] at ac g3 ad
    rw[hz]
    clear hz
    go_wp2_with fail
    go_roundw
    case rel=>exact⟨y++z,Vm.undigs c,false,by omega,by rw[List.length_append];omega,rfl,by rw[ByteArray.mk_append_mk],rfl,ac,aa⟩
    case measure=>have:=ae.out;simpa [strLen] using this
  ·have ah:c=[]:=by simpa using he
   subst ah
   have HB:=zh (aao HS.out)
   clear HS
   go_wp2_with fail
   go_ret
   exact⟨by rw[HB.out];rfl,ab⟩
theorem canonP48:Vm.canonP 41 [48]=[48]:=by decide
theorem aap {l:List UInt8}(h:Vm.check l=0)(h0:(epR l).isEmpty=true):Vm.canonE l=[]:=by
 have hv:=(ch h).2.1
 unfold Vm.canonE
 unfold epR Vm.ep at *
 cases h1:Vm.has 58 l
 ·rfl
 ·rw[h1] at h0 hv
  simp only[if_true] at h0 hv
  have:Vm.fst 58 l=[]:=by simpa using h0
  rw[this] at hv;cases hv
theorem yT {l:List UInt8}(h0:(epR l).isEmpty=false):Vm.canonE l=(if Vm.bare (epR l)==[48] then [] else Vm.bare (epR l)++[58])/\bareR (epR l)=Vm.bare (epR l)/\(epR l).length<=l.length:=by
 refine⟨?_,jE _ (by intro h;rw[h] at h0;cases h0),?_⟩
 ·unfold Vm.canonE
  unfold epR Vm.ep at *
  cases h1:Vm.has 58 l
  ·rw[h1] at h0;cases h0
  ·rfl
 ·unfold epR;split
  ·exact fp _ _
  ·simp
theorem aaq {l:List UInt8}(h:Vm.check l=0)(h0:(rvR l).isEmpty=true):Vm.canonR l=[]:=by
 have hv:=(ch h).2.2.2
 unfold Vm.canonR
 unfold rvR Vm.rv at *
 cases h1:Vm.has 45 (Vm.rest l)
 ·have e:(if false=true then Vm.snd 45 (Vm.rest l) else [48])=[48]:=rfl
  rw[e,canonP48];rfl
 ·rw[h1] at h0 hv
  simp only[if_true] at h0 hv
  have:Vm.snd 45 (Vm.rest l)=[]:=by simpa using h0
  rw[this] at hv;cases hv
theorem yU {l:List UInt8}(h:Vm.check l=0)(h0:(rvR l).isEmpty=false):Vm.canonR l=(if Vm.canonP 41 (rvR l)==[48] then [] else 45 :: Vm.canonP 41 (rvR l))/\Vm.partOk (rvR l)=true/\(rvR l).length<=41:=by
 have hv:=(ch h).2.2.2
 have hl:=(ch h).1
 have hr:=nK l
 have e:rvR l=Vm.rv l:=by
  unfold rvR Vm.rv at *
  cases h1:Vm.has 45 (Vm.rest l)
  ·rw[h1] at h0;cases h0
  ·rfl
 rw[e]
 exact⟨rfl,hv,by omega⟩
theorem aar (l:List UInt8)(h:l.length<=40):(Vm.canonE l).length<=50:=by
 unfold Vm.canonE
 have h1:=ef (Vm.ep l)
 have h2:=yN l
 split
 ·simp
 ·simp;omega
theorem eF (l:List UInt8)(w:World) :
  Calls Tryz.prog 119 #[.string ⟨l.toArray⟩] w fun e w'=>e=.returned (.tuple #[.string ⟨(canonOf l).toArray⟩,.int .i64 (Vm.check l)])/\Below w.heap.size w w':=by
 by_cases ag:Vm.check l=0
 ·have HC:Hid (canonOf l=Vm.canonE l++Vm.canonP 41 (Vm.pt l)++Vm.canonR l):=by show _=_;rw[canonOf,if_pos ag];rfl
  have HK:=zh ag
  have hv:=ch ag
  have hl:=hv.1
  have lp:=nJ l
  have az:=aar l hl
  have av:=ia 41 (Vm.pt l)
  have aw:=zh hv.2.2.1
  have al:Hid ((epR l).isEmpty=true->Vm.canonE l=[]):=aap ag
  have am:Hid ((epR l).isEmpty=false->Vm.canonE l=(if Vm.bare (epR l)==[48] then [] else Vm.bare (epR l)++[58])/\bareR (epR l)=Vm.bare (epR l)/\(epR l).length<=l.length):=yT
  have an:Hid ((rvR l).isEmpty=true->Vm.canonR l=[]):=aaq ag
  have ao:Hid ((rvR l).isEmpty=false->Vm.canonR l=(if Vm.canonP 41 (rvR l)==[48] then [] else 45 :: Vm.canonP 41 (rvR l))/\Vm.partOk (rvR l)=true/\(rvR l).length<=41):=yU ag
  obtain⟨e,he⟩:=ex (epR l)
  obtain⟨r,hr⟩:=ex (rvR l)
  rw[he] at al am
  rw[hr] at an ao
  obtain⟨x,hx⟩:=ex (Vm.canonP 41 (Vm.pt l))
  rw[hx] at HC av
  have HX:=zh hx
  have HEq:=zh he
  have ax:=zh hr
  clear hv ag hx he hr
  go_enter Tryz.func119,Tryz.ntmps119
  go_wp2_with fail
  refine (gF l _).mono ?_
  rintro _ w1 ⟨rfl,rfl⟩
  rw[HK.out]
  go_wp2_with fail
  refine (ic l _ HK.out).mono ?_
  rintro _ w1 ⟨rfl,rfl⟩
  rw[HEq.out,ax.out]
  go_wp2_with fail
  refine (bq _ _ (by omega) aw.out).mono ?_
  rintro _ w1 ⟨rfl,ac⟩
  rw[HX.out]
  cases ap:r.isEmpty
  ·obtain⟨q1,q2,q3⟩:=ao.out ap
   have lc:=ia 41 r
   have ah:=zh q2
   obtain⟨y,hy⟩:=ex (Vm.canonP 41 r)
   rw[hy] at q1 lc
   have HY:=zh hy
   cases aq:y==[48]
   ·have ae:Hid (Vm.canonR l=45 :: y):=by show _=_;rw[q1,aq];rfl
    clear hy q1 q2
    cases ai:e.isEmpty
    ·obtain⟨p1,p2,p3⟩:=am.out ai
     obtain⟨b,hb⟩:=ex (Vm.bare e)
     have lb:=ef e
     rw[hb] at p1 p2 lb
     have af:=zh p2
     cases hz:b==[48]
     ·obtain⟨X,hX⟩:=ex (b++[58]++x)
      have ar:X.length<=200:=by rw[<-hX];simp;omega
      have aj:(⟨b.toArray⟩:ByteArray)++⟨#[58]⟩++⟨x.toArray⟩=⟨X.toArray⟩:=by
       show ByteArray.mk b.toArray++ByteArray.mk [58].toArray++ByteArray.mk x.toArray=_
       rw[ByteArray.mk_append_mk,ByteArray.mk_append_mk,hX]
      have ab:Hid (Vm.canonE l++x=X):=by show _=_;rw[p1,hz,<-hX];rfl
      clear hb p1 p2 hX
      obtain⟨Z,hZ⟩:=ex (X++[45]++y)
      have au:(⟨X.toArray⟩:ByteArray)++⟨#[45]⟩++⟨y.toArray⟩=⟨Z.toArray⟩:=by
       show ByteArray.mk (X).toArray++ByteArray.mk [45].toArray++ByteArray.mk y.toArray=_
       rw[ByteArray.mk_append_mk,ByteArray.mk_append_mk,hZ]
      have HF:Hid (canonOf l=Z):=by show _=_;rw[HC.out,ae.out,ab.out,<-hZ];simp
      clear hZ
      go_wp2_with fail
      refine (bp e _ (by omega)).mono ?_
      rintro _ w2 ⟨rfl,rfl⟩
      rw[af.out]
      go_wp2_with fail
      refine (bp e _ (by omega)).mono ?_
      rintro _ w2 ⟨rfl,rfl⟩
      rw[af.out]
      go_wp2_with fail
      refine (bq r _ q3 ah.out).mono ?_
      rintro _ w2 ⟨rfl,aa⟩
      rw[HY.out]
      have ad:Below w.heap.size w w2:=bt ac aa
      clear ac aa
      go_wp2_with fail
      refine (bq r _ q3 ah.out).mono ?_
      rintro _ w3 ⟨rfl,aa⟩
      rw[HY.out]
      have ak:Below w.heap.size w w3:=bt ad aa
      clear ad aa
      go_wp2_with fail
      go_ret2
      exact⟨by rw[HF.out,HK.out];rfl,ak⟩
     ·have ab:Hid (Vm.canonE l++x=x):=by show _=_;rw[p1,hz];rfl
      clear hb p1 p2
      obtain⟨Z,hZ⟩:=ex (x++[45]++y)
      have au:(⟨x.toArray⟩:ByteArray)++⟨#[45]⟩++⟨y.toArray⟩=⟨Z.toArray⟩:=by
       show ByteArray.mk (x).toArray++ByteArray.mk [45].toArray++ByteArray.mk y.toArray=_
       rw[ByteArray.mk_append_mk,ByteArray.mk_append_mk,hZ]
      have HF:Hid (canonOf l=Z):=by show _=_;rw[HC.out,ae.out,ab.out,<-hZ];simp
      clear hZ
      go_wp2_with fail
      refine (bp e _ (by omega)).mono ?_
      rintro _ w2 ⟨rfl,rfl⟩
      rw[af.out]
      go_wp2_with fail
      refine (bq r _ q3 ah.out).mono ?_
      rintro _ w2 ⟨rfl,aa⟩
      rw[HY.out]
      have ad:Below w.heap.size w w2:=bt ac aa
      clear ac aa
      go_wp2_with fail
      refine (bq r _ q3 ah.out).mono ?_
      rintro _ w3 ⟨rfl,aa⟩
      rw[HY.out]
      have ak:Below w.heap.size w w3:=bt ad aa
      clear ad aa
      go_wp2_with fail
      go_ret2
      exact⟨by rw[HF.out,HK.out];rfl,ak⟩
    ·have ab:Hid (Vm.canonE l++x=x):=by show _=_;rw[al.out ai];rfl
     obtain⟨Z,hZ⟩:=ex (x++[45]++y)
     have au:(⟨x.toArray⟩:ByteArray)++⟨#[45]⟩++⟨y.toArray⟩=⟨Z.toArray⟩:=by
      show ByteArray.mk (x).toArray++ByteArray.mk [45].toArray++ByteArray.mk y.toArray=_
      rw[ByteArray.mk_append_mk,ByteArray.mk_append_mk,hZ]
     have HF:Hid (canonOf l=Z):=by show _=_;rw[HC.out,ae.out,ab.out,<-hZ];simp
     clear hZ
     go_wp2_with fail
     refine (bq r _ q3 ah.out).mono ?_
     rintro _ w2 ⟨rfl,aa⟩
     rw[HY.out]
     have ad:Below w.heap.size w w2:=bt ac aa
     clear ac aa
     go_wp2_with fail
     refine (bq r _ q3 ah.out).mono ?_
     rintro _ w3 ⟨rfl,aa⟩
     rw[HY.out]
     have ak:Below w.heap.size w w3:=bt ad aa
     clear ad aa
     go_wp2_with fail
     go_ret2
     exact⟨by rw[HF.out,HK.out];rfl,ak⟩
   ·have ae:Hid (Vm.canonR l=[]):=by show _=_;rw[q1,aq];rfl
    clear hy q1 q2
    cases ai:e.isEmpty
    ·obtain⟨p1,p2,p3⟩:=am.out ai
     obtain⟨b,hb⟩:=ex (Vm.bare e)
     have lb:=ef e
     rw[hb] at p1 p2 lb
     have af:=zh p2
     cases hz:b==[48]
     ·obtain⟨X,hX⟩:=ex (b++[58]++x)
      have ar:X.length<=200:=by rw[<-hX];simp;omega
      have aj:(⟨b.toArray⟩:ByteArray)++⟨#[58]⟩++⟨x.toArray⟩=⟨X.toArray⟩:=by
       show ByteArray.mk b.toArray++ByteArray.mk [58].toArray++ByteArray.mk x.toArray=_
       rw[ByteArray.mk_append_mk,ByteArray.mk_append_mk,hX]
      have ab:Hid (Vm.canonE l++x=X):=by show _=_;rw[p1,hz,<-hX];rfl
      clear hb p1 p2 hX
      have HF:Hid (canonOf l=X):=by show _=_;rw[HC.out,ae.out,ab.out];simp
      go_wp2_with fail
      refine (bp e _ (by omega)).mono ?_
      rintro _ w2 ⟨rfl,rfl⟩
      rw[af.out]
      go_wp2_with fail
      refine (bp e _ (by omega)).mono ?_
      rintro _ w2 ⟨rfl,rfl⟩
      rw[af.out]
      go_wp2_with fail
      refine (bq r _ q3 ah.out).mono ?_
      rintro _ w2 ⟨rfl,aa⟩
      rw[HY.out]
      have ad:Below w.heap.size w w2:=bt ac aa
      clear ac aa
      go_wp2_with fail
      go_ret2
      exact⟨by rw[HF.out,HK.out];rfl,ad⟩
     ·have ab:Hid (Vm.canonE l++x=x):=by show _=_;rw[p1,hz];rfl
      clear hb p1 p2
      have HF:Hid (canonOf l=x):=by show _=_;rw[HC.out,ae.out,ab.out];simp
      go_wp2_with fail
      refine (bp e _ (by omega)).mono ?_
      rintro _ w2 ⟨rfl,rfl⟩
      rw[af.out]
      go_wp2_with fail
      refine (bq r _ q3 ah.out).mono ?_
      rintro _ w2 ⟨rfl,aa⟩
      rw[HY.out]
      have ad:Below w.heap.size w w2:=bt ac aa
      clear ac aa
      go_wp2_with fail
      go_ret2
      exact⟨by rw[HF.out,HK.out];rfl,ad⟩
    ·have ab:Hid (Vm.canonE l++x=x):=by show _=_;rw[al.out ai];rfl
     have HF:Hid (canonOf l=x):=by show _=_;rw[HC.out,ae.out,ab.out];simp
     go_wp2_with fail
     refine (bq r _ q3 ah.out).mono ?_
     rintro _ w2 ⟨rfl,aa⟩
     rw[HY.out]
     have ad:Below w.heap.size w w2:=bt ac aa
     clear ac aa
     go_wp2_with fail
     go_ret2
     exact⟨by rw[HF.out,HK.out];rfl,ad⟩
  ·have ae:Hid (Vm.canonR l=[]):=an.out ap
   cases ai:e.isEmpty
   ·obtain⟨p1,p2,p3⟩:=am.out ai
    obtain⟨b,hb⟩:=ex (Vm.bare e)
    have lb:=ef e
    rw[hb] at p1 p2 lb
    have af:=zh p2
    cases hz:b==[48]
    ·obtain⟨X,hX⟩:=ex (b++[58]++x)
     have ar:X.length<=200:=by rw[<-hX];simp;omega
     have aj:(⟨b.toArray⟩:ByteArray)++⟨#[58]⟩++⟨x.toArray⟩=⟨X.toArray⟩:=by
      show ByteArray.mk b.toArray++ByteArray.mk [58].toArray++ByteArray.mk x.toArray=_
      rw[ByteArray.mk_append_mk,ByteArray.mk_append_mk,hX]
     have ab:Hid (Vm.canonE l++x=X):=by show _=_;rw[p1,hz,<-hX];rfl
     clear hb p1 p2 hX
     have HF:Hid (canonOf l=X):=by show _=_;rw[HC.out,ae.out,ab.out];simp
     go_wp2_with fail
     refine (bp e _ (by omega)).mono ?_
     rintro _ w2 ⟨rfl,rfl⟩
     rw[af.out]
     go_wp2_with fail
     refine (bp e _ (by omega)).mono ?_
     rintro _ w2 ⟨rfl,rfl⟩
     rw[af.out]
     go_wp2_with fail
     go_ret2
     exact⟨by rw[HF.out,HK.out];rfl,ac⟩
    ·have ab:Hid (Vm.canonE l++x=x):=by show _=_;rw[p1,hz];rfl
     clear hb p1 p2
     have HF:Hid (canonOf l=x):=by show _=_;rw[HC.out,ae.out,ab.out];simp
     go_wp2_with fail
     refine (bp e _ (by omega)).mono ?_
     rintro _ w2 ⟨rfl,rfl⟩
     rw[af.out]
     go_wp2_with fail
     go_ret2
     exact⟨by rw[HF.out,HK.out];rfl,ac⟩
   ·have ab:Hid (Vm.canonE l++x=x):=by show _=_;rw[al.out ai];rfl
    have HF:Hid (canonOf l=x):=by show _=_;rw[HC.out,ae.out,ab.out];simp
    go_wp2_with fail
    go_ret2
    exact⟨by rw[HF.out,HK.out];rfl,ac⟩
 ·have HC:Hid (canonOf l=[]):=by show _=_;rw[canonOf,if_neg ag]
  have ay:(Vm.check l != 0)=true:=by simpa using ag
  go_enter Tryz.func119,Tryz.ntmps119
  go_wp2_with fail
  refine (gF l _).mono ?_
  rintro _ w1 ⟨rfl,rfl⟩
  obtain⟨c,hc⟩:=ex (Vm.check l)
  rw[hc] at ay
  rw[hc]
  clear ag
  go_wp2_with fail
  go_ret2
  exact⟨by rw[HC.out,hc];rfl,Below.refl _ _⟩
end
end Go.Proofs.YtgnaiidgjmicaaaGreatDoor
