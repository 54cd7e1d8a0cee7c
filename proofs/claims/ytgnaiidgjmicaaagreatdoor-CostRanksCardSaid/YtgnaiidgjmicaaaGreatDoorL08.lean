/- Part 8 of what the laws lean on. -/
import Derived.Test.YtgnaiidgjmicaaaGreatDoorL07
set_option maxRecDepth 100000
set_option maxHeartbeats 3200000
namespace Go.Proofs.YtgnaiidgjmicaaaGreatDoor
section
open Go.RowKit Rs
attribute [local go_sem ↓] Go.wp_at_zero Go.wp_at_succ
theorem alloc5 (w:World)(a b c d e:Obj):(((((w.alloc a).alloc b).alloc c).alloc d).alloc e).heap[w.heap.size+1+1+1+1]?=some e:=by
 have h:=heap_alloc_new ((((w.alloc a).alloc b).alloc c).alloc d) e
 rw[show ((((w.alloc a).alloc b).alloc c).alloc d).heap.size=w.heap.size+1+1+1+1 from by simp] at h
 exact h
def encX (x:List UInt8 × Int):List Value:=[.string ⟨x.1.toArray⟩,.int .i64 x.2]
def XRet (w:World) (l:List (List UInt8 × Int)) (e:Ending) (w':World):Prop:=∃ M,e=.returned (.slice (some ⟨M,0,none⟩) l.length l.length)/\w'.heap[M]?=some (.cells (l.flatMap encX).toArray 221 (0,0))/\Below w.heap.size w w'
def sgnT:Nat->List UInt8
 | 0=>[61]
 | 1=>[33,61]
 | 2=>[60]
 | 3=>[60,61]
 | 4=>[62]
 | _=>[62,61]
def sgnL (v:List UInt8):Nat->List (List UInt8 × Int)
 | 0=>[(v,-1),(v,1)]
 | 1=>[([],-1),(v,-1),(v,1),([],1)]
 | 2=>[([],-1),(v,-1)]
 | 3=>[([],-1),(v,1)]
 | 4=>[(v,1),([],1)]
 | _=>[(v,-1),([],1)]
theorem xa (v:List UInt8)(w:World):Calls Tryz.prog 337 #[.string ⟨#[61]⟩,.string ⟨v.toArray⟩] w (XRet w (sgnL v 0)):=by
 go_enter Tryz.func337,Tryz.ntmps337
 go_wp2_with fail
 go_ret
 refine⟨_,rfl,?_,((((Below.refl _ _).alloc (Nat.le_refl _) _).alloc (by simp) _).alloc (by simp;omega) _).alloc (by simp;omega) _ |>.alloc (by simp;omega) _⟩
 exact alloc5 _ _ _ _ _ _
theorem xb (v:List UInt8)(w:World):Calls Tryz.prog 337 #[.string ⟨#[33,61]⟩,.string ⟨v.toArray⟩] w (XRet w (sgnL v 1)):=by
 go_enter Tryz.func337,Tryz.ntmps337
 go_wp2_with fail
 go_ret
 refine⟨_,rfl,?_,((((Below.refl _ _).alloc (Nat.le_refl _) _).alloc (by simp) _).alloc (by simp;omega) _).alloc (by simp;omega) _ |>.alloc (by simp;omega) _⟩
 exact alloc5 _ _ _ _ _ _
theorem xc (v:List UInt8)(w:World):Calls Tryz.prog 337 #[.string ⟨#[60]⟩,.string ⟨v.toArray⟩] w (XRet w (sgnL v 2)):=by
 go_enter Tryz.func337,Tryz.ntmps337
 go_wp2_with fail
 go_ret
 refine⟨_,rfl,?_,((((Below.refl _ _).alloc (Nat.le_refl _) _).alloc (by simp) _).alloc (by simp;omega) _).alloc (by simp;omega) _ |>.alloc (by simp;omega) _⟩
 exact alloc5 _ _ _ _ _ _
theorem xd (v:List UInt8)(w:World):Calls Tryz.prog 337 #[.string ⟨#[60,61]⟩,.string ⟨v.toArray⟩] w (XRet w (sgnL v 3)):=by
 go_enter Tryz.func337,Tryz.ntmps337
 go_wp2_with fail
 go_ret
 refine⟨_,rfl,?_,((((Below.refl _ _).alloc (Nat.le_refl _) _).alloc (by simp) _).alloc (by simp;omega) _).alloc (by simp;omega) _ |>.alloc (by simp;omega) _⟩
 exact alloc5 _ _ _ _ _ _
theorem xe (v:List UInt8)(w:World):Calls Tryz.prog 337 #[.string ⟨#[62]⟩,.string ⟨v.toArray⟩] w (XRet w (sgnL v 4)):=by
 go_enter Tryz.func337,Tryz.ntmps337
 go_wp2_with fail
 go_ret
 refine⟨_,rfl,?_,((((Below.refl _ _).alloc (Nat.le_refl _) _).alloc (by simp) _).alloc (by simp;omega) _).alloc (by simp;omega) _ |>.alloc (by simp;omega) _⟩
 exact alloc5 _ _ _ _ _ _
theorem xf (v:List UInt8)(w:World):Calls Tryz.prog 337 #[.string ⟨#[62,61]⟩,.string ⟨v.toArray⟩] w (XRet w (sgnL v 5)):=by
 go_enter Tryz.func337,Tryz.ntmps337
 go_wp2_with fail
 go_ret
 refine⟨_,rfl,?_,((((Below.refl _ _).alloc (Nat.le_refl _) _).alloc (by simp) _).alloc (by simp;omega) _).alloc (by simp;omega) _ |>.alloc (by simp;omega) _⟩
 exact alloc5 _ _ _ _ _ _
def NoSign (s:List UInt8):Prop:=∀ i,i<6->s≠sgnT i
theorem uC (s v:List UInt8)(w:World)(h:NoSign s):Calls Tryz.prog 337 #[.string ⟨s.toArray⟩,.string ⟨v.toArray⟩] w fun e w'=>e=pan 2/\Below w.heap.size w w':=by
 have g0:(s==[61])=false:=beq_eq_false_iff_ne.2 (h 0 (by decide))
 have g1:(s==[33,61])=false:=beq_eq_false_iff_ne.2 (h 1 (by decide))
 have g2:(s==[60])=false:=beq_eq_false_iff_ne.2 (h 2 (by decide))
 have g3:(s==[60,61])=false:=beq_eq_false_iff_ne.2 (h 3 (by decide))
 have g4:(s==[62])=false:=beq_eq_false_iff_ne.2 (h 4 (by decide))
 have g5:(s==[62,61])=false:=beq_eq_false_iff_ne.2 (h 5 (by decide))
 clear h
 go_enter Tryz.func337,Tryz.ntmps337
 go_wp2_with fail
 exact⟨rfl,rfl,(((Below.refl _ _).alloc (Nat.le_refl _) _).alloc (by simp) _).alloc (by simp;omega) _ |>.alloc (by simp;omega) _⟩
end
section
open Go.RowKit Rs
attribute [local go_sem ↓] Go.wp_at_zero Go.wp_at_succ
theorem eC (p:Addr)(x:Int)(n:Int)(w:World)(hc:w.cell? p=some (.int .i64 x))(hz:w.frozen? p=false) :
  CallsD Tryz.prog 299 #[.pointer (some p)] (.panicking [{ v:=.iface 77 (.int .i64 n),recovered:=false }]) w fun e u' w' =>
   e=.returned (.tuple #[])/\u'=.panicking [{ v:=.iface 77 (.int .i64 n),recovered:=true }]/\w'=w.setCell p (.int .i64 n):=by
 refine callsD_of_wpS Tryz.func299 rfl fun c₀ cs hu=>?_
 apply wpS_region
 simp[wpOpsS,go_sem,recoverD,hu,Tryz.ntmps299]
 refine (db n _).mono ?_
 rintro e w' ⟨rfl,rfl⟩
 simp[go_sem,hc,hz,bodyPostS,results,Tryz.results299]
theorem qI (p:Addr)(x:Int)(w:World)(hc:w.cell? p=some (.int .i64 x))(hz:w.frozen? p=false) :
  CallsD Tryz.prog 299 #[.pointer (some p)] .returning w fun e u' w'=>e=.returned (.tuple #[])/\u'=.returning/\w'=w.setCell p (.int .i64 0):=by
 refine callsD_of_wpS Tryz.func299 rfl fun c₀ cs hu=>?_
 apply wpS_region
 simp[wpOpsS,go_sem,recoverD,hu,Tryz.ntmps299]
 refine (da _).mono ?_
 rintro e w' ⟨rfl,rfl⟩
 cases c₀
 simp_all [go_sem,bodyPostS,results,Tryz.results299]
theorem mx (p:Addr)(x:Int)(n:Int)(w:World)(hc:w.cell? p=some (.int .i64 x))(hz:w.frozen? p=false) :
  CallsD Tryz.prog 336 #[.pointer (some p)] (.panicking [{ v:=.iface 77 (.int .i64 n),recovered:=false }]) w fun e u' w' =>
   e=.returned (.tuple #[])/\u'=.panicking [{ v:=.iface 77 (.int .i64 n),recovered:=true }]/\w'=w.setCell p (.int .i64 n):=by
 refine callsD_of_wpS Tryz.func336 rfl fun c₀ cs hu=>?_
 apply wpS_region
 simp[wpOpsS,go_sem,recoverD,hu,Tryz.ntmps336]
 refine (db n _).mono ?_
 rintro e w' ⟨rfl,rfl⟩
 simp[go_sem,hc,hz,bodyPostS,results,Tryz.results336]
theorem xg (p:Addr)(x:Int)(w:World)(hc:w.cell? p=some (.int .i64 x))(hz:w.frozen? p=false) :
  CallsD Tryz.prog 336 #[.pointer (some p)] .returning w fun e u' w'=>e=.returned (.tuple #[])/\u'=.returning/\w'=w.setCell p (.int .i64 0):=by
 refine callsD_of_wpS Tryz.func336 rfl fun c₀ cs hu=>?_
 apply wpS_region
 simp[wpOpsS,go_sem,recoverD,hu,Tryz.ntmps336]
 refine (da _).mono ?_
 rintro e w' ⟨rfl,rfl⟩
 cases c₀
 simp_all [go_sem,bodyPostS,results,Tryz.results336]
theorem uD {α:Type}{enc:α->List Value}{K:Nat}(hf:Rg.Fits enc K){w:World}{M:Nat}{T:TypeId}{l:List α}(h:w.heap[M]?=some (.cells (Rg.flat enc l).toArray T (0,0))):Rg.Row enc K w (some ⟨M,0,none⟩) l:=by
 intro _
 refine⟨_,rfl,(Array.getElem?_eq_some_iff.1 h).1,fun i hi j v hv=>?_⟩
 have hj:j<K:=by rw[<-hf.len l[i]];exact (List.getElem?_eq_some_iff.1 hv).1
 rw[<-Rg.eM]
 exact World.news_of_block h _ _ (by simpa using (Rg.flat_get hf l i hi j hj).trans hv)
theorem xh (c:List UInt8)(i:Nat):(sgnL c i).flatMap encX=Rg.flat encC (Rm.cuts (signR c i))/\(sgnL c i).length=(Rm.cuts (signR c i)).length:=by
 match i with
 | 0=>exact⟨rfl,rfl⟩
 | 1=>exact⟨rfl,rfl⟩
 | 2=>exact⟨rfl,rfl⟩
 | 3=>exact⟨rfl,rfl⟩
 | 4=>exact⟨rfl,rfl⟩
 | _+5=>exact⟨rfl,rfl⟩
theorem za (c:List UInt8)(i:Nat):(sgnL c i).length<=4:=by
 match i with
 | 0=>exact Nat.le_of_ble_eq_true rfl
 | 1=>exact Nat.le_of_ble_eq_true rfl
 | 2=>exact Nat.le_of_ble_eq_true rfl
 | 3=>exact Nat.le_of_ble_eq_true rfl
 | 4=>exact Nat.le_of_ble_eq_true rfl
 | _+5=>exact Nat.le_of_ble_eq_true rfl
theorem sU (i:Nat)(hi:i<6)(v:List UInt8)(w:World):Calls Tryz.prog 337 #[.string ⟨(sgnT i).toArray⟩,.string ⟨v.toArray⟩] w (XRet w (sgnL v i)):=by
 match i,hi with
 | 0,_=>exact xa v w
 | 1,_=>exact xb v w
 | 2,_=>exact xc v w
 | 3,_=>exact xd v w
 | 4,_=>exact xe v w
 | 5,_=>exact xf v w
theorem i9 (i:Nat)(hi:i<6)(c:List UInt8)(w:World):Calls Tryz.prog 337 #[.string ⟨(sgnT i).toArray⟩,.string ⟨c.toArray⟩] w fun e w'=>(∃ B d,e=.returned (.slice B (Rm.cuts (signR c i)).length d)/\CutsOf w' (signR c i) B d)/\Below w.heap.size w w':=by
 refine (sU i hi c w).mono ?_
 rintro e w' ⟨M,rfl,h,hb⟩
 have:=za c i
 obtain⟨e1,e2⟩:=xh c i
 rw[e1] at h
 refine⟨⟨_,_,by rw[<-e2],uD fitsC h,by rw[<-e2];exact Nat.le_refl _,by unfold maxLen;omega⟩,hb⟩
def OfRet (w:World) (R:List Sp) (k:Int) (e:Ending) (w':World):Prop:=(∃ C d,e=.returned (.tuple #[.slice C R.length d,.int .i64 k])/\SRow w' C R/\R.length<=d)/\Below w.heap.size w w'
theorem uE (s v:List UInt8)(w:World)(hw:MaxOk w)(h:NoSign s):Calls Tryz.prog 325 #[.string ⟨s.toArray⟩,.string ⟨v.toArray⟩] w (OfRet w [] 2):=by
 have ah:∀ (fn:Fn) (first cap:Array Value) (w:World),(Instr.makeFunc fn first cap).run Tryz.prog w=.ok (.func fn first cap) w:=fun _ _ _ _=>rfl
 have hM:MaxOk (w.alloc (.cells #[.int .i64 0] 77)):=ab hw ((Below.refl _ _).alloc (Nat.le_refl _) _)
 have HM:=zh hM
 have H:=zh h
 clear hw hM h
 go_enter_defers Tryz.func325,Tryz.ntmps325
 go_wp2_with fail
 refine (cA v _ HM.out).mono ?_
 rintro _ w1 ⟨rfl,hb⟩
 have af:Below (w.heap.size+1) (w.alloc (.cells #[.int .i64 0] 77)) w1:=by simpa using hb
 have ac:=zh af
 clear hb af
 go_wp2_with fail
 refine (uC s (canonOf v) _ H.out).mono ?_
 rintro _ w2 ⟨rfl,hb⟩
 have ad:Below (w.heap.size+1) (w.alloc (.cells #[.int .i64 0] 77)) w2:=ac.out.trans (hb.mono (by have:=ac.out.size;simpa using this))
 obtain⟨aa,ae⟩:=bg w w2 _ _ ad
 have ag:=zh ad
 clear hb ad ac
 go_wp2_with fail
 refine leaves_cons (f:=336) (args:=#[.pointer (some ⟨w.heap.size,0,none⟩)]) (by simp) (by simp[go_sem]) ?_
 refine (mx ⟨w.heap.size,0,none⟩ 0 _ _ ?_ ?_).mono ?_
 ·simp[go_sem,aa]
 ·simp[go_sem,ae]
 rintro e u' w4 ⟨rfl,rfl,rfl⟩
 simp[Leaves,settle,results,Tryz.results325,go_sem,aa]
 exact⟨⟨none,0,rfl,fun h=>absurd h (by simp),Nat.le_refl _⟩,(aW ag.out).setCell (Nat.le_refl _) _⟩
theorem xk (i:Nat)(hi:i<6)(v:List UInt8)(w:World)(hw:MaxOk w)(h:Vm.check v≠0):Calls Tryz.prog 325 #[.string ⟨(sgnT i).toArray⟩,.string ⟨v.toArray⟩] w (OfRet w [] (Vm.check v)):=by
 have al:∀ (fn:Fn) (first cap:Array Value) (w:World),(Instr.makeFunc fn first cap).run Tryz.prog w=.ok (.func fn first cap) w:=fun _ _ _ _=>rfl
 have hM:MaxOk (w.alloc (.cells #[.int .i64 0] 77)):=ab hw ((Below.refl _ _).alloc (Nat.le_refl _) _)
 have HM:=zh hM
 have ah:(Vm.check v==0)=false:=beq_eq_false_iff_ne.2 h
 obtain⟨k,hk⟩:=ex (Vm.check v)
 rw[hk] at ah
 have hc:∀ W:World,MaxOk W->Calls Tryz.prog 215 #[.string ⟨v.toArray⟩] W fun e w'=>e=.returned (.tuple #[.string ⟨(canonOf v).toArray⟩,.int .i64 k])/\Below W.heap.size W w':=fun W hW=>by rw[<-hk];exact cA v W hW
 rw[hk]
 have HC:=zh hc
 have HI:=zh hi
 obtain⟨S,hS⟩:=ex (sgnT i)
 obtain⟨c,ag⟩:=ex (canonOf v)
 have aj:Hid (∀ W:World,Calls Tryz.prog 337 #[.string ⟨S.toArray⟩,.string ⟨c.toArray⟩] W fun e w'=>(∃ B d,e=.returned (.slice B (Rm.cuts (signR c i)).length d)/\CutsOf w' (signR c i) B d)/\Below W.heap.size W w'):=by
  show ∀ W:World,_
  intro W
  rw[<-hS];exact i9 i hi c W
 rw[ag] at HC
 rw[hS]
 clear hw hM h hk hc hi hS ag
 go_enter_defers Tryz.func325,Tryz.ntmps325
 go_wp2_with fail
 refine (HC.out _ HM.out).mono ?_
 rintro _ w1 ⟨rfl,hb⟩
 have af:Below (w.heap.size+1) (w.alloc (.cells #[.int .i64 0] 77)) w1:=by simpa using hb
 have ac:=zh af
 clear hb af
 go_wp2_with fail
 refine (aj.out _).mono ?_
 rintro _ w2 ⟨⟨B,d,rfl,_⟩,hb⟩
 have ad:Below (w.heap.size+1) (w.alloc (.cells #[.int .i64 0] 77)) w2:=ac.out.trans (hb.mono (by have:=ac.out.size;simpa using this))
 obtain⟨aa,ae⟩:=bg w w2 _ _ ad
 have ak:=zh ad
 clear hb ad ac
 go_wp2_with fail
 refine (ai _).mono ?_
 rintro _ w3 ⟨rfl,rfl⟩
 go_wp2_with fail
 refine leaves_cons (f:=336) (args:=#[.pointer (some ⟨w.heap.size,0,none⟩)]) (by simp) (by simp[go_sem]) ?_
 refine (mx ⟨w.heap.size,0,none⟩ 0 _ _ ?_ ?_).mono ?_
 ·simp[go_sem,aa]
 ·simp[go_sem,ae]
 rintro e u' w4 ⟨rfl,rfl,rfl⟩
 simp[Leaves,settle,results,Tryz.results325,go_sem,aa]
 exact⟨⟨none,0,rfl,fun h=>absurd h (by simp),Nat.le_refl _⟩,(aW ak.out).setCell (Nat.le_refl _) _⟩
theorem zb (i:Nat)(hi:i<6)(v:List UInt8)(w:World)(hw:MaxOk w)(h:Vm.check v=0):Calls Tryz.prog 325 #[.string ⟨(sgnT i).toArray⟩,.string ⟨v.toArray⟩] w (OfRet w ((signR (Vm.canon v) i).map spOf) 0):=by
 have aq:∀ (fn:Fn) (first cap:Array Value) (w:World),(Instr.makeFunc fn first cap).run Tryz.prog w=.ok (.func fn first cap) w:=fun _ _ _ _=>rfl
 have hM:MaxOk (w.alloc (.cells #[.int .i64 0] 77)):=ab hw ((Below.refl _ _).alloc (Nat.le_refl _) _)
 have HM:=zh hM
 obtain⟨R,hR⟩:=ex ((signR (Vm.canon v) i).map spOf)
 rw[hR]
 have hg:Rs.Good (signR (Vm.canon v) i):=mm (mh h) i hi
 have ad:((signR (Vm.canon v) i).take 64).map spOf=R:=by rw[wG hg.2.2];exact hR
 obtain⟨S,hS⟩:=ex (sgnT i)
 obtain⟨c,ai⟩:=ex (Vm.canon v)
 have hc:∀ W:World,MaxOk W->Calls Tryz.prog 215 #[.string ⟨v.toArray⟩] W fun e w'=>e=.returned (.tuple #[.string ⟨c.toArray⟩,.int .i64 0])/\Below W.heap.size W w':=fun W hW=>by
  have:=cA v W hW
  rw[canonOf,if_pos h,h,ai] at this
  exact this
 rw[ai] at hg ad
 have HC:=zh hc
 have HG:=zh hg
 have HR:=zh ad
 have an:Hid (∀ W:World,Calls Tryz.prog 337 #[.string ⟨S.toArray⟩,.string ⟨c.toArray⟩] W fun e w'=>(∃ B d,e=.returned (.slice B (Rm.cuts (signR c i)).length d)/\CutsOf w' (signR c i) B d)/\Below W.heap.size W w'):=by
  show ∀ W:World,_
  intro W
  rw[<-hS];exact i9 i hi c W
 rw[hS]
 clear hw hM h hc hi hS ai hg hR ad
 go_enter_defers Tryz.func325,Tryz.ntmps325
 go_wp2_with fail
 refine (HC.out _ HM.out).mono ?_
 rintro _ w1 ⟨rfl,hb⟩
 have ak:Below (w.heap.size+1) (w.alloc (.cells #[.int .i64 0] 77)) w1:=by simpa using hb
 have ae:=zh ak
 clear hb ak
 go_wp2_with fail
 refine (an.out _).mono ?_
 rintro _ w2 ⟨⟨B,d,rfl,am⟩,hb⟩
 have ao:=zh am
 have ac:Hid (Below (w.heap.size+1) (w.alloc (.cells #[.int .i64 0] 77)) w2):=ae.out.trans (hb.mono (by have:=ae.out.size;simpa using this))
 clear hb am ae
 go_wp2_with fail
 refine (ah _).mono ?_
 rintro _ w3 ⟨rfl,rfl⟩
 go_wp2_with fail
 refine (gi B d (signR c i) _ ao.out HG.out.2.1 (by have:=HG.out.2.2;omega) R HR.out).mono ?_
 rintro _ w3 ⟨⟨C,e,rfl,hf⟩,hb⟩
 have HF:=zh hf
 have af:Below (w.heap.size+1) (w.alloc (.cells #[.int .i64 0] 77)) w3:=ac.out.trans (hb.mono (by have:=ac.out.size;simpa using this))
 obtain⟨aa,aj⟩:=bg w w3 _ _ af
 have ap:=zh af
 have ag:w.heap.size<w2.heap.size:=by have:=ac.out.size;simp at this;omega
 clear hb hf af ac
 go_wp2_with fail
 refine leaves_cons (f:=336) (args:=#[.pointer (some ⟨w.heap.size,0,none⟩)]) (by simp) (by simp[go_sem]) ?_
 refine (xg ⟨w.heap.size,0,none⟩ 0 _ ?_ ?_).mono ?_
 ·simp[go_sem,aa]
 ·simp[go_sem,aj]
 rintro e u' w4 ⟨rfl,rfl,rfl⟩
 simp[Leaves,settle,results,Tryz.results325,go_sem,aa]
 have al:∀ a,C=some a->a.block≠w.heap.size:=fun a ha=>by have:=HF.out.2.2 a ha;have:=ag;omega
 exact⟨⟨_,_,rfl,oH (oH HF.out.1 _ al) _ al,HF.out.2.1⟩,((aW ap.out).setCell (Nat.le_refl _) _).setCell (Nat.le_refl _) _⟩
end
section
open Go.RowKit Rs
attribute [local go_sem ↓] Go.wp_at_zero Go.wp_at_succ
theorem lH {w u u':World}{T:TypeId}(h:Hid (Below (w.heap.size+1) (w.alloc (.cells #[.int .i64 0] T)) u))(hb:Below u.heap.size u u'):Hid (Below (w.heap.size+1) (w.alloc (.cells #[.int .i64 0] T)) u') :=
 h.out.trans (hb.mono (by have:=h.out.size;simpa using this))
end
section
open Go.RowKit Rs
attribute [local go_sem ↓] Go.wp_at_zero Go.wp_at_succ
def prevS (l:List Sp) (k:Nat):Option Sp:=if k=0 then none else l[k-1]?
def CkSt (l:List Sp) (k:Nat):Prop:=checkR l=checkF k (prevS l k) (l.drop k)/\(∀ s,prevS l k=some s->s.err=0)/\k<=64
theorem sV (l:List Sp):CkSt l 0:=⟨rfl,fun s hs=>(by cases hs),by decide⟩
theorem qJ (i:Nat)(o:Option Sp)(s:Sp)(t:List Sp):checkF i o (s :: t)=if 64<=i then 4 else if s.err≠0 then s.err else match o with | none=>checkF (i+1) (some s) t | some p=>if behind p s then checkF (i+1) (some s) t else 7:=rfl
theorem oI {p s:Sp}(hp:p.err=0)(hs:s.err=0):afterI p.hi p.hn s.lo s.li=if behind p s then 0 else 7:=by
 obtain⟨e1,o1,_⟩:=bS hp
 obtain⟨e2,o2,_⟩:=bS hs
 have:=mj o1 o2
 rw[e1,e2] at this
 rw[this];rfl
theorem uF {l:List Sp}{k:Nat}(h:CkSt l k)(hk:k<l.length):(64<=k->checkR l=4)/\(¬ 64<=k->l[k].err≠0->checkR l=l[k].err)/\(k=0->l[k].err=0->CkSt l 1) /\
  (¬ 64<=k->∀ p,0<k->l[k-1]?=some p->l[k].err=0->p.err=0/\(behind p l[k]=true->CkSt l (k+1))/\(behind p l[k]=false->checkR l=7)):=by
 obtain⟨h1,h2,h3⟩:=h
 rw[List.drop_eq_getElem_cons hk,qJ] at h1
 have aa:prevS l (k+1)=some l[k]:=by unfold prevS;rw[if_neg (by omega),Nat.add_sub_cancel,List.getElem?_eq_getElem hk]
 refine⟨fun h=>?_,fun h he=>?_,fun h he=>?_,fun h p h0 hp he=>⟨?_,fun hb=>?_,fun hb=>?_⟩⟩
 ·rw[if_pos h] at h1;exact h1
 ·rw[if_neg h,if_pos he] at h1;exact h1
 ·subst h
  rw[if_neg (by omega),if_neg (by rw[he];simp)] at h1
  exact⟨by rw[aa];exact h1,fun s hs=>by rw[aa] at hs;cases hs;exact he,by omega⟩
 ·refine h2 p ?_;unfold prevS;rw[if_neg (by omega)];exact hp
 ·have e:prevS l k=some p:=by unfold prevS;rw[if_neg (by omega)];exact hp
  rw[if_neg h,if_neg (by rw[he];simp),e] at h1
  replace h1:checkR l=if behind p l[k]=true then checkF (k+1) (some l[k]) (l.drop (k+1)) else 7:=h1
  rw[if_pos hb] at h1
  exact⟨by rw[aa];exact h1,fun s hs=>by rw[aa] at hs;cases hs;exact he,by omega⟩
 ·have e:prevS l k=some p:=by unfold prevS;rw[if_neg (by omega)];exact hp
  rw[if_neg h,if_neg (by rw[he];simp),e] at h1
  replace h1:checkR l=if behind p l[k]=true then checkF (k+1) (some l[k]) (l.drop (k+1)) else 7:=h1
  rw[if_neg (by rw[hb];simp)] at h1
  exact h1
theorem keepCk {w1 u u':World}{b:Nat}{q:Addr}{x0 x1 x2 x3 y0 y1 y2 y3:Value}(hb1:b<w1.heap.size)(hq1:q.block<w1.heap.size)
  (h:u.cell? ⟨b,0,none⟩=some x0/\u.cell? ⟨b,1,none⟩=some x1/\u.cell? ⟨b,2,none⟩=some x2/\u.cell? ⟨b,3,none⟩=some x3/\u.cell? q=some y0/\u.cell? ⟨q.block,q.off+1,none⟩=some y1/\u.cell? ⟨q.block,q.off+2,none⟩=some y2/\u.cell? ⟨q.block,q.off+3,none⟩=some y3/\w1.heap.size<=u.heap.size/\Below w1.heap.size w1 u) (hb:Below u.heap.size u u') :
  u'.cell? ⟨b,0,none⟩=some x0/\u'.cell? ⟨b,1,none⟩=some x1/\u'.cell? ⟨b,2,none⟩=some x2/\u'.cell? ⟨b,3,none⟩=some x3/\u'.cell? q=some y0/\u'.cell? ⟨q.block,q.off+1,none⟩=some y1/\u'.cell? ⟨q.block,q.off+2,none⟩=some y2/\u'.cell? ⟨q.block,q.off+3,none⟩=some y3/\w1.heap.size<=u'.heap.size/\Below w1.heap.size w1 u':=by
 obtain⟨h0,h1,h2,h3,h4,h5,h6,h7,h8,h9⟩:=h
 have e:∀ a:Addr,a.block<w1.heap.size->u'.cell? a=u.cell? a:=fun a ha=>hb.cell (by omega)
 refine⟨?_,?_,?_,?_,?_,?_,?_,?_,Nat.le_trans h8 hb.size,h9.trans (hb.mono h8)⟩
 ·rw[e _ hb1];exact h0
 ·rw[e _ hb1];exact h1
 ·rw[e _ hb1];exact h2
 ·rw[e _ hb1];exact h3
 ·rw[e _ hq1];exact h4
 ·rw[e ⟨q.block,q.off+1,none⟩ hq1];exact h5
 ·rw[e ⟨q.block,q.off+2,none⟩ hq1];exact h6
 ·rw[e ⟨q.block,q.off+3,none⟩ hq1];exact h7
theorem sW (A:Option Addr)(n c:Nat)(l:List Sp)(w:World)(hw:MaxOk w)(hn:l.length=n)(hr:SRow w A l)(hl:n<=1000) :
  Calls Tryz.prog 278 #[.slice A n c] w fun e w'=>e=.returned (.int .i64 (checkR l))/\Below w.heap.size w w':=by
 have aQ:∀ (fn:Fn) (first cap:Array Value) (w:World),(Instr.makeFunc fn first cap).run Tryz.prog w=.ok (.func fn first cap) w:=fun _ _ _ _=>rfl
 have HM:Hid (MaxOk (w.alloc (.cells #[.int .i64 0] 77))):=ab hw ((Below.refl _ _).alloc (Nat.le_refl _) _)
 have HR:Hid (SRow (w.alloc (.cells #[.int .i64 0] 77)) A l):=aL hr ((Below.refl _ _).alloc (Nat.le_refl _) _)
 have HN:=zh hn
 obtain⟨E,hE⟩:=ex (checkR l)
 rw[hE]
 have HE:=zh hE
 clear hw hn hr hE
 go_enter_defers Tryz.func278,Tryz.ntmps278
 go_wp2_with fail
 go_loopw [8] (fun i wr=>∃ k:Nat,k<=n/\i=.int .i64 k/\Hid (CkSt l k)/\Hid (Below (w.heap.size+1) (w.alloc (.cells #[.int .i64 0] 77)) wr)) (fun i _=>n-(intOf i).toNat)
 case atStart=>exact⟨0,Nat.zero_le _,rfl,sV l,Below.refl _ _⟩
 case round =>
  obtain⟨k,hk,rfl,HS,HB⟩:=hrel
  by_cases aK:k<n
  ·have ay:k<l.length:=by rw[HN.out];exact aK
   obtain⟨ad,lo,hi,li,hh,rfl,hs,aP,c0,c1,c2,c3⟩:=iP (aL HR.out (by simpa using HB.out)) k ay
   obtain⟨st1,st2,aw,ax⟩:=uF HS.out ay
   rw[hs] at st2 aw ax
   have an:=zh st1
   have ao:=zh st2
   have ap:=zh aw
   have aq:=zh ax
   have az:=zh (fB wr lo hi li hh 145)
   have aA:Hid (MaxOk (wr.alloc (.cells #[.string ⟨lo.toArray⟩,.string ⟨hi.toArray⟩,.bool li,.bool hh] 145))):=ab HM.out ((by simpa using HB.out:Below _ _ wr).alloc (by have:=HB.out.size;simpa using this) _)
   clear hs st1 st2 aw ax
   go_wp2_with fail
   refine (kg k lo hi li hh _ (by omega) aA.out).mono ?_
   rintro _ w1 ⟨rfl,hb⟩
   have ar:=zh (cC az.out hb)
   have au:Below wr.heap.size wr w1:=((Below.refl _ _).alloc (Nat.le_refl _) _).trans (hb.mono (by simp))
   have aM:=zh au
   have af:=lH HB au
   clear hb au c0 c1 c2 c3 az aA
   by_cases ag:64<=k
   ·rw[if_pos ag,bZ (by decide)]
    have ak:Hid (E=4):=by show _=_;rw[<-HE.out];exact an.out ag
    obtain⟨aa,ae⟩:=bg w w1 _ _ af.out
    clear ag
    go_wp2_with fail
    refine leaves_cons (f:=299) (args:=#[.pointer (some ⟨w.heap.size,0,none⟩)]) (by simp) (by simp[go_sem]) ?_
    refine (eC ⟨w.heap.size,0,none⟩ 0 _ _ ?_ ?_).mono ?_
    ·simp[go_sem,aa]
    ·simp[go_sem,ae]
    rintro e u' w9 ⟨rfl,rfl,rfl⟩
    simp[Leaves,settle,results,Tryz.results278,go_sem,aa]
    exact⟨ak.out.symm,(aW af.out).setCell (Nat.le_refl _) _⟩
   rw[if_neg ag]
   by_cases ah:span lo hi li hh=0
   ·rw[ah,dG]
    have al:(Sp.mk lo hi li hh).err=0:=ah
    by_cases aB:k=0
    ·have NS:Hid (CkSt l 1):=ap.out aB al
     subst aB
     clear ah al ag an ao ap aq
     go_wp2_with fail
     go_roundw
     case rel=>exact⟨1,by omega,rfl,NS,af⟩
     case measure=>simp[intOf];omega
    ·have aC:k-1<l.length:=by omega
     have aD:l[k-1]?=some l[k-1]:=List.getElem?_eq_getElem aC
     obtain⟨pe,sy,sn⟩:=aq.out ag _ (by omega) aD al
     obtain⟨aR,ai,phi,aj,ph,aG,aH,_,d0,d1,d2,d3⟩:=iP (aL HR.out (by simpa using af.out)) (k-1) aC
     obtain rfl:=Option.some.inj aG
     rw[aH] at pe sy sn
     have aE:=oI pe al
     have ac:afterI phi ph lo li=if behind ⟨ai,phi,aj,ph⟩ ⟨lo,hi,li,hh⟩ then 0 else 7:=aE
     have B1:=zh (dw ah).1
     have B2:=zh (dw (lo:=ai) (hi:=phi) (li:=aj) (hn:=ph) pe).2.1
     obtain⟨bh,aI⟩:=ex (behind (Sp.mk ai phi aj ph) ⟨lo,hi,li,hh⟩)
     rw[aI] at sy sn ac
     have SY:=zh sy
     have SN:=zh sn
     obtain⟨k0,k1,k2,k3,k4⟩:=ar.out
     have g1:(0:Int)<=(k:Int)-1:=by omega
     have g6:(1:Int)<=(k:Int):=by omega
     have g7:((k-1:Nat):Int)=(k:Int)-1:=by omega
     clear g7
     have g2:(k:Int)-1<(n:Int):=by omega
     have g3:((k:Int)-1).toNat=k-1:=by omega
     have g4:(0:Int)<(k:Int):=by omega
     have g5:IntKind.i64.wrap ((k:Int)-1)=(k:Int)-1:=IntWalk.i64_in _ (by omega)
     clear ah al ag an ao ap aq pe sy sn aH aD aI aG aE
     have aN:(ad.add ((k-1)*4)).block<w1.heap.size:=by rw[add_block];exact Nat.lt_of_lt_of_le aP aM.out.size
     have aF:Hid (MaxOk w1):=ab HM.out (by simpa using af.out)
     cases bh
     ·rw[if_neg Bool.false_ne_true] at ac
      have av:=zh ac
      have ak:Hid (E=7):=by show _=_;rw[<-HE.out];exact SN.out rfl
      clear ac
      go_wp2_with fail
      first
      | go_region_with (first
        | (go_at_call 301;refine (eB lo hi li hh ai phi aj ph _ (ab aF.out (Below.refl _ _).drew) B1.out B2.out).mono ?_;rintro _ w4 ⟨rfl,hb⟩;rw[av.out,bZ (by decide)];have am:=lH af (drewb hb);clear hb;refine cT (P:=Tryz.prog) (a:={ tmps:=#[],defers:=[] }) (w:=w) ?_))
      | fail
      all_goals
       obtain⟨aa,ae⟩:=bg w w4 _ _ am.out
       refine leaves_cons (f:=299) (args:=#[.pointer (some ⟨w.heap.size,0,none⟩)]) (by simp) (by simp[go_sem]) ?_
       refine (eC ⟨w.heap.size,0,none⟩ 0 _ _ ?_ ?_).mono ?_
       ·simp[go_sem,aa]
       ·simp[go_sem,ae]
       rintro e u' w9 ⟨rfl,rfl,rfl⟩
       simp[Leaves,settle,results,Tryz.results278,go_sem,aa]
       exact⟨ak.out.symm,(aW am.out).setCell (Nat.le_refl _) _⟩
     ·rw[if_pos rfl] at ac
      have av:=zh ac
      have NS:Hid (CkSt l (k+1)):=SY.out rfl
      clear ac
      go_wp2_with fail
      go_region_held3 (fun w'=>w'.cell? ⟨wr.heap.size,0,none⟩=some (.string ⟨lo.toArray⟩)/\w'.cell? ⟨wr.heap.size,1,none⟩=some (.string ⟨hi.toArray⟩)/\w'.cell? ⟨wr.heap.size,2,none⟩=some (.bool li)/\w'.cell? ⟨wr.heap.size,3,none⟩=some (.bool hh) /\
        w'.cell? (ad.add ((k-1)*4))=some (.string ⟨ai.toArray⟩)/\w'.cell? ⟨(ad.add ((k-1)*4)).block,(ad.add ((k-1)*4)).off+1,none⟩=some (.string ⟨phi.toArray⟩)/\w'.cell? ⟨(ad.add ((k-1)*4)).block,(ad.add ((k-1)*4)).off+2,none⟩=some (.bool aj)/\w'.cell? ⟨(ad.add ((k-1)*4)).block,(ad.add ((k-1)*4)).off+3,none⟩=some (.bool ph)/\w1.heap.size<=w'.heap.size/\Below w1.heap.size w1 w')
       (first
        | exact⟨k0,k1,k2,k3,d0,d1,d2,d3,Nat.le_refl _,(Below.refl _ _).drew⟩
        | assumption
        | (refine keepCk k4 aN ?_ hb;assumption))
       (first
        | (go_at_call 301;refine (eB lo hi li hh ai phi aj ph _ ?_ B1.out B2.out).mono ?_;(go_split_ands;exact ab aF.out (by assumption));rintro _ w4 ⟨rfl,hb⟩;rw[av.out,dG]))
      rename_i aJ
      have am:=lH af aJ.2.2.2.2.2.2.2.2.2
      clear aJ k0 k1 k2 k3 d0 d1 d2 d3 g3 g5
      go_wp2_with fail
      go_roundw
      case rel=>exact⟨k+1,by omega,by go_num,NS,am⟩
      case measure=>simp[intOf];omega
   ·have ak:Hid (E=span lo hi li hh):=by show _=_;rw[<-HE.out];exact ao.out ag ah
    rw[bZ ah]
    obtain⟨aa,ae⟩:=bg w w1 _ _ af.out
    clear ag ah
    go_wp2_with fail
    refine leaves_cons (f:=299) (args:=#[.pointer (some ⟨w.heap.size,0,none⟩)]) (by simp) (by simp[go_sem]) ?_
    refine (eC ⟨w.heap.size,0,none⟩ 0 _ _ ?_ ?_).mono ?_
    ·simp[go_sem,aa]
    ·simp[go_sem,ae]
    rintro e u' w9 ⟨rfl,rfl,rfl⟩
    simp[Leaves,settle,results,Tryz.results278,go_sem,aa]
    exact⟨ak.out.symm,(aW af.out).setCell (Nat.le_refl _) _⟩
  ·have aO:Hid (E=0):=by
    show _=_
    rw[<-HE.out,HS.out.1,List.drop_eq_nil_of_le (by rw[HN.out];omega)];rfl
   obtain⟨aa,ae⟩:=bg w wr _ _ HB.out
   go_wp2_with fail
   refine leaves_cons (f:=299) (args:=#[.pointer (some ⟨w.heap.size,0,none⟩)]) (by simp) (by simp[go_sem]) ?_
   refine (qI ⟨w.heap.size,0,none⟩ 0 _ ?_ ?_).mono ?_
   ·simp[go_sem,aa]
   ·simp[go_sem,ae]
   rintro e u' w4 ⟨rfl,rfl,rfl⟩
   simp[Leaves,settle,results,Tryz.results278,go_sem,aa]
   exact⟨aO.out.symm,((aW HB.out).setCell (Nat.le_refl _) _).setCell (Nat.le_refl _) _⟩
end
section
open Go.RowKit Rs
attribute [local go_sem ↓] Go.wp_at_zero Go.wp_at_succ
theorem dH {α:Type}{enc:α->List Value}{K:Nat}{T:TypeId}{v:Value}{l:List α}{w wr W5:World}{o:Obj}(hB:Hid (Below w.heap.size w wr/\w.heap.size<=wr.heap.size))(hO:Hid (Rg.Own enc K wr w.heap.size T v l))(hg:(wr.drew.alloc o).grownBy W5 v.ownBlock) :
  Hid (Below w.heap.size w W5/\w.heap.size<=W5.heap.size):=by
 have hs:w.heap.size<=wr.drew.heap.size:=hB.out.2
 have h1:Below w.heap.size w (wr.drew.alloc o):=(hB.out.1.drew).alloc hs _
 have h2:w.heap.size<=(wr.drew.alloc o).heap.size:=by
  have e:(wr.drew.alloc o).heap.size=wr.drew.heap.size+1:=by simp
  omega
 exact⟨h1.trans (Rg.ak (Rg.own_below hO.out ((Below.refl _ _).drew.alloc (Nat.le_refl _) _)) h2 hg),Nat.le_trans h2 hg.size⟩
theorem fF {w wr:World}{o:Obj}(hB:Hid (Below w.heap.size w wr/\w.heap.size<=wr.heap.size)):w.heap.size<=(wr.drew.alloc o).heap.size:=by
 have hs:w.heap.size<=wr.drew.heap.size:=hB.out.2
 have e:(wr.drew.alloc o).heap.size=wr.drew.heap.size+1:=by simp
 omega
end
section
open Go.RowKit Rs
structure Ent where
 A:Option Addr
 n:Nat
 l:List Sp
def St (w0 u:World) (L:List Ent):Prop:=MaxOk w0/\Below w0.heap.size w0 u/\∀ x∈L,SRow u x.A x.l/\x.l.length=x.n
section
variable {w0 u u':World} {L:List Ent}
theorem eD (h:St w0 u L):MaxOk u:=ab h.1 h.2.1
theorem eh (h:St w0 u L)(hb:Below u.heap.size u u'):St w0 u' L:=⟨h.1,h.2.1.trans (hb.mono h.2.1.size),fun x hx=>⟨aL (h.2.2 x hx).1 hb,(h.2.2 x hx).2⟩⟩
theorem kh {C:Option Addr}{n:Nat}{l:List Sp}(h:St w0 u L)(hb:Below u.heap.size u u')(hr:SRow u' C l)(hn:l.length=n):St w0 u' (⟨C,n,l⟩ :: L):=by
 obtain⟨h1,h2,h3⟩:=eh h hb
 refine⟨h1,h2,fun x hx=>?_⟩
 rcases List.mem_cons.1 hx with rfl | hx
 ·exact⟨hr,hn⟩
 ·exact h3 x hx
theorem a7 {A:Option Addr}{n:Nat}{l:List Sp}(h:St w0 u L)(i:Nat)(hi:L[i]?=some ⟨A,n,l⟩):SRow u A l/\l.length=n:=h.2.2 _ (List.mem_of_getElem? hi)
theorem xl (h:St w0 u L)(o:Obj):St w0 (u.alloc o) L:=eh h ((Below.refl _ _).alloc (Nat.le_refl _) _)
def RowRet (w0:World) (L:List Ent) (l:List Sp) (e:Ending) (u':World):Prop:=∃ C n d,e=.returned (.slice C n d)/\St w0 u' (⟨C,n,l⟩ :: L)
def RowErr (w0:World) (L:List Ent) (l:List Sp) (k:Int) (e:Ending) (u':World):Prop:=∃ C n d,e=.returned (.tuple #[.slice C n d,.int .i64 k])/\St w0 u' (⟨C,n,l⟩ :: L)
theorem lI (h:St w0 u L){l:List Sp}{e:Ending}(hr:SpansRet u l e u'):RowRet w0 L l e u':=by
 obtain⟨⟨C,d,rfl,h1,_,_⟩,hb⟩:=hr
 exact⟨C,_,d,rfl,kh h hb h1 rfl⟩
theorem zc (h:St w0 u L){l:List Sp}{k:Int}{e:Ending}(hr:OfRet u l k e u'):RowErr w0 L l k e u':=by
 obtain⟨⟨C,d,rfl,h1,_⟩,hb⟩:=hr
 exact⟨C,_,d,rfl,kh h hb h1 rfl⟩
def sgnOf (s:List UInt8):Option Nat:=if s=sgnT 0 then some 0 else if s=sgnT 1 then some 1 else if s=sgnT 2 then some 2 else if s=sgnT 3 then some 3 else if s=sgnT 4 then some 4 else if s=sgnT 5 then some 5 else none
def ofE (s v:List UInt8):Int:=match sgnOf s with | none=>2 | some _=>Vm.check v
def ofR (s v:List UInt8):List (Rm.P Cut):=match sgnOf s with | none=>[] | some i=>if Vm.check v=0 then signR (Vm.canon v) i else []
theorem ki {s:List UInt8}{i:Nat}(h:sgnOf s=some i):i<6/\s=sgnT i:=by
 unfold sgnOf at h
 split at h
 ·cases h;exact⟨by decide,by assumption⟩
 split at h
 ·cases h;exact⟨by decide,by assumption⟩
 split at h
 ·cases h;exact⟨by decide,by assumption⟩
 split at h
 ·cases h;exact⟨by decide,by assumption⟩
 split at h
 ·cases h;exact⟨by decide,by assumption⟩
 split at h
 ·cases h;exact⟨by decide,by assumption⟩
 cases h
theorem sX {s:List UInt8}(h:sgnOf s=none):NoSign s:=fun i hi e=>by
 subst e
 match i,hi with
 | 0,_=>cases h
 | 1,_=>cases h
 | 2,_=>cases h
 | 3,_=>cases h
 | 4,_=>cases h
 | 5,_=>cases h
theorem oJ (s v:List UInt8):Rs.Good (ofR s v):=by
 unfold ofR
 split
 ·exact⟨trivial,fun p hp=>(by cases hp),by decide⟩
 ·rename_i i hs
  split
  ·exact mm (mh (by assumption)) i (ki hs).1
  ·exact⟨trivial,fun p hp=>(by cases hp),by decide⟩
theorem oK (s v:List UInt8)(w:World)(hw:MaxOk w):Calls Tryz.prog 325 #[.string ⟨s.toArray⟩,.string ⟨v.toArray⟩] w (OfRet w ((ofR s v).map spOf) (ofE s v)):=by
 unfold ofR ofE
 cases hs:sgnOf s with
 | none=>exact uE s v w hw (sX hs)
 | some i =>
  obtain⟨hi,rfl⟩:=ki hs
  by_cases hv:Vm.check v=0
  ·simp only[hv,if_true];exact zb i hi v w hw hv
  ·simp only[hv,if_false];exact xk i hi v w hw hv
theorem s_of (h:St w0 u L)(s v:List UInt8)(R:List (Rm.P Cut))(k:Int)(hR:ofR s v=R)(hk:ofE s v=k):Calls Tryz.prog 325 #[.string ⟨s.toArray⟩,.string ⟨v.toArray⟩] u (RowErr w0 L (R.map spOf) k):=by
 subst hR hk
 exact (oK s v u (eD h)).mono fun _ _=>zc h
variable {A B:Option Addr} {n m:Nat}
theorem aaI (h:St w0 u L)(i j:Nat){a b:List (Rm.P Cut)}(hi:L[i]?=some ⟨A,n,a.map spOf⟩)(hj:L[j]?=some ⟨B,m,b.map spOf⟩)(ga:Rs.Good a)(gb:Rs.Good b)(ca cb:Nat)(R:List (Rm.P Cut))(hR:andR a b=R) :
  Calls Tryz.prog 326 #[.slice A n ca,.slice B m cb] u (RowRet w0 L (R.map spOf)):=by
 subst hR
 exact (y9 A B n m ca cb a b u (eD h) (a7 h i hi).2 (a7 h j hj).2 (a7 h i hi).1 (a7 h j hj).1 ga gb).mono fun _ _=>lI h
theorem s_or (h:St w0 u L)(i j:Nat){a b:List (Rm.P Cut)}(hi:L[i]?=some ⟨A,n,a.map spOf⟩)(hj:L[j]?=some ⟨B,m,b.map spOf⟩)(ga:Rs.Good a)(gb:Rs.Good b)(ca cb:Nat)(R:List (Rm.P Cut))(hR:orR a b=R) :
  Calls Tryz.prog 311 #[.slice A n ca,.slice B m cb] u (RowRet w0 L (R.map spOf)):=by
 subst hR
 exact (aaj A B n m ca cb a b u (eD h) (a7 h i hi).2 (a7 h j hj).2 (a7 h i hi).1 (a7 h j hj).1 ga gb).mono fun _ _=>lI h
theorem aaJ (h:St w0 u L)(R:List (Rm.P Cut))(hR:allR=R):Calls Tryz.prog 136 #[] u (RowRet w0 L (R.map spOf)):=by
 subst hR
 exact (rJ u).mono fun _ _=>lI h
end
end
namespace At
theorem uG {s m:List UInt8}{i:Nat}(hm:m≠[])(h:Lib.index s m=i):Lib.split s m=s.take i :: Lib.split (s.drop (i+m.length)) m:=by
 unfold Lib.split
 rw[Lib.count_hit hm h,Nat.add_comm 1]
 show (if (Lib.index s m == -1)=true then _ else _)=_
 rw[if_neg (by rw[h];simp),h]
 rfl
end At
namespace At
open Rs Rm
def low (c:UInt8):Bool:=decide (97<=c.toNat)&&decide (c.toNat<=122)
def nameC (c:UInt8):Bool:=low c||(Vm.dig c||c==45)
def nameB (s:List UInt8):Bool := !s.isEmpty&&(decide (s.length<=24)&&(low (s.getD 0 0)&&s.all nameC))
abbrev Cond:=List UInt8 × List UInt8
def conds (s:Sp):List Cond :=
 if s.lo=s.hi/\s.lo≠[] then [([61],s.lo)]
 else (if s.lo=[] then [] else [(if s.li then [62,61] else [62],s.lo)])++(if s.hi=[] then [] else [(if s.hn then [60,61] else [60],s.hi)])
def termOf (r:List Sp):List (List Cond):=r.map conds
def vers (t:List (List Cond)):Nat:=(t.map List.length).sum
def condT (c:Cond):List UInt8:=c.1++32 :: c.2
def altT (l:List Cond):List UInt8:=Lib.join (l.map condT) [32,38,32]
def noneT:List UInt8:=[110,111,110,101]
def termT (t:List (List Cond)):List UInt8:=if t=[] then noneT else Lib.join (t.map altT) [32,124,32]
def allS:List Sp:=[⟨[],[],false,false⟩]
structure Atm where
 name:List UInt8
 rng:List Sp
 deriving DecidableEq
def checkA (a:Atm):Int:=if nameB a.name then (if checkR a.rng=0 then (if 16<vers (termOf a.rng) then 4 else 0) else checkR a.rng) else 3
def textA (a:Atm):List UInt8:=if a.rng=allS then a.name else a.name++32 :: 40 :: (termT (termOf a.rng)++[41])
def wordC (c:UInt8):Bool := !(c==32||(c==40||c==41))
def wordB (s:List UInt8):Bool := !s.isEmpty&&s.all wordC
def signB (s:List UInt8):Bool:=(sgnOf s).isSome
def condP (s:List UInt8):Option Cond:=if signB (Vm.fst 32 s)&&(Vm.has 32 s&&wordB (Vm.snd 32 s)) then some (Vm.fst 32 s,Vm.snd 32 s) else none
def altP (s:List UInt8):Option (List Cond):=(Lib.split s [32,38,32]).mapM condP
def termP (s:List UInt8):Option (List (List Cond)):=if s=noneT then some [] else (Lib.split s [32,124,32]).mapM altP
def bodyP (s:List UInt8):Option (List UInt8):=if 2<=s.length/\s.getD 0 0=40/\s.getD (s.length-1) 0=41 then some ((s.drop 1).take (s.length-2)) else none
def hAlt:List (P Cut)->List Cond->Int × List (P Cut)
 | r,[]=>(0,r)
 | r,c :: l=>if ofE c.1 c.2=0 then hAlt (andR r (ofR c.1 c.2)) l else (ofE c.1 c.2,[])
def hTerm:List (P Cut)->List (List Cond)->Int × List (P Cut)
 | r,[]=>(0,r)
 | r,a :: t=>if (hAlt allR a).1=0 then hTerm (orR r (hAlt allR a).2) t else ((hAlt allR a).1,[])
def zeroA:Atm:=⟨[],[]⟩
def readA (name:List UInt8) (t:List (List Cond)):Int × Atm :=
 if nameB name then (if vers t<=16 then (if (hTerm [] t).1=0 then (if checkA ⟨name,(hTerm [] t).2.map spOf⟩=0 then (0,⟨name,(hTerm [] t).2.map spOf⟩) else (checkA ⟨name,(hTerm [] t).2.map spOf⟩,zeroA)) else ((hTerm [] t).1,zeroA)) else (4,zeroA)) else (3,zeroA)
def parseA (s:List UInt8):Int × Atm :=
 if wordB (Vm.fst 32 s) then
  (
   if Vm.has 32 s then
    (
     match (bodyP (Vm.snd 32 s)).bind termP with
     | none=>(2,zeroA)
     | some t=>readA (Vm.fst 32 s) t)
   else readA s [[]])
 else (2,zeroA)
theorem oL {c:UInt8}{p:List UInt8}(h:c ∉ p):Vm.fst c p=p/\Vm.has c p=false:=by
 constructor
 ·unfold Vm.fst
  have hp:∀ x∈p,(x != c)=true:=fun x hx=>by simp;exact fun e=>h (e ▸ hx)
  have:=List.takeWhile_append_of_pos (l₂:=[]) hp
  simpa using this
 ·unfold Vm.has;simpa using h
end At
namespace At
open Rs Rm
def CondOk (c:Cond):Prop:=∃ i,i<6/\c.1=sgnT i/\Rs.Own c.2
theorem sY {s:Sp}(h:s.err=0):(s.lo≠[]->Rs.Own s.lo)/\(s.hi≠[]->Rs.Own s.hi)/\(s.lo=[]->s.li=false)/\(s.hi=[]->s.hn=false):=by
 obtain⟨h1,h2,h3,h4⟩:=dw h
 have ne:∀ v:List UInt8,v≠[]->v.isEmpty=false:=fun v hv=>by cases v with
  | nil=>exact absurd rfl hv
  | cons _ _=>rfl
 exact⟨fun e=>bp h1 (ne _ e),fun e=>bp h2 (ne _ e),fun e=>h3 (by rw[e];rfl),fun e=>h4 (by rw[e];rfl)⟩
theorem xm {s:Sp}(h:s.err=0):∀ c∈conds s,CondOk c:=by
 obtain⟨b1,b2,_,_⟩:=sY h
 intro c hc
 unfold conds at hc
 split at hc
 ·rename_i h1
  rw[List.mem_singleton.1 hc]
  exact⟨0,by decide,rfl,b1 h1.2⟩
 ·rcases List.mem_append.1 hc with hc | hc
  ·split at hc
   ·cases hc
   ·rename_i h1
    rw[List.mem_singleton.1 hc]
    cases s.li
    ·exact⟨4,by decide,rfl,b1 h1⟩
    ·exact⟨5,by decide,rfl,b1 h1⟩
  ·split at hc
   ·cases hc
   ·rename_i h1
    rw[List.mem_singleton.1 hc]
    cases s.hn
    ·exact⟨2,by decide,rfl,b2 h1⟩
    ·exact⟨3,by decide,rfl,b2 h1⟩
theorem qK {l:List Sp}(h:checkR l=0):Rs.Good (l.map Sp.piece)/\(l.map Sp.piece).map spOf=l/\∀ s∈l,s.err=0:=by
 obtain⟨h1,h2⟩:=j7 h
 refine⟨h1,h2,fun s hs=>?_⟩
 rw[<-h2] at hs
 obtain⟨p,hp,rfl⟩:=List.mem_map.1 hs
 rw[wE (h1.2.1 p hp),if_pos (dU Ln h1.1 p hp)]
end At
section
open Go.RowKit Rs
theorem kj (c:UInt8)(w:World) :
  Calls Tryz.prog 213 #[.int .u8 c.toNat] w fun e w'=>e=.returned (.bool (At.low c))/\w=w':=by
 unfold At.low
 by_cases h1:97<=c.toNat <;> by_cases h2:c.toNat<=122
 all_goals
  go_enter Tryz.func213,Tryz.ntmps213
  go_wp2
 all_goals
  go_ret
  exact⟨by first | (simp[h1,h2];done) | (simp[h1,h2];omega),rfl⟩
theorem sZ (c:UInt8)(w:World) :
  Calls Tryz.prog 214 #[.int .u8 c.toNat] w fun e w'=>e=.returned (.bool (Vm.dig c))/\w=w':=by
 unfold Vm.dig
 by_cases h1:48<=c.toNat <;> by_cases h2:c.toNat<=57
 all_goals
  go_enter Tryz.func214,Tryz.ntmps214
  go_wp2
 all_goals
  go_ret
  exact⟨by first | (simp[h1,h2];done) | (simp[h1,h2];omega),rfl⟩
theorem s7 (s:List UInt8)(b:Bool)(w:World)(hs:s.length<=10) :
  Calls Tryz.prog 255 #[.string ⟨s.toArray⟩,.bool b] w fun e w'=>e=.returned (.string ⟨(if b then s++[61] else s).toArray⟩)/\w=w':=by
 cases b
 all_goals
  go_enter Tryz.func255,Tryz.ntmps255
  go_wp2
  go_ret
  exact⟨by first | rfl | (simp;done) | (simp only[if_true];exact congrArg (fun x=>Ending.returned (Value.string x)) (ByteArray.mk_append_mk s [61])),rfl⟩
namespace At
theorem my {l:List UInt8}(h:24<l.length):nameB l=false:=by
 unfold nameB
 rw[decide_eq_false (show ¬ l.length<=24 by omega)];simp
theorem uH {c:UInt8}{l:List UInt8}(h:(c :: l).length<=24):nameB (c :: l)=(low c&&(c :: l).all nameC):=by
 unfold nameB
 rw[decide_eq_true h];rfl
theorem fY {l:List UInt8}{k:Nat}{c:UInt8}{f:UInt8->Bool}(hk:k<l.length)(hc:l[k]=c):(l.take (k+1)).all f=((l.take k).all f&&f c):=by
 rw[List.take_succ_eq_append_getElem hk,hc];simp
theorem aak {l:List UInt8}{k:Nat}{c:UInt8}{f:UInt8->Bool}(hk:k<l.length)(hc:l[k]=c)(hf:f c=false):l.all f=false:=by
 cases h:l.all f with
 | false=>rfl
 | true=>have:=List.all_eq_true.1 h c (hc ▸ List.getElem_mem hk);rw[hf] at this;cases this
theorem uI {c:UInt8}(h:low c=true):nameC c=true:=by unfold nameC;rw[h];rfl
theorem uJ {c:UInt8}(h:Vm.dig c=true):nameC c=true:=by unfold nameC;rw[h];simp
theorem s8 {c:UInt8}(h:low c=false)(h2:Vm.dig c=false):nameC c=(c==45):=by unfold nameC;rw[h,h2];rfl
end At
theorem ig (l:List UInt8)(w:World)(hm:l.length<=maxLen) :
  Calls Tryz.prog 183 #[.string ⟨l.toArray⟩] w fun e w'=>e=.returned (.bool (At.nameB l))/\w=w':=by
 unfold maxLen at hm
 obtain⟨R,hR⟩:=ex (At.nameB l)
 rw[hR]
 cases l with
 | nil =>
  obtain rfl:R=false:=hR.symm
  go_enter Tryz.func183,Tryz.ntmps183
  go_wp2_with fail
  go_ret
  exact⟨rfl,rfl⟩
 | cons c0 t =>
  have ai:(c0 :: t).isEmpty=false:=rfl
  have ab:0<(c0 :: t).length:=by simp
  obtain⟨l,hl⟩:=ex (c0 :: t)
  have ag:Hid (24<l.length->R=false):=fun h=>by rw[<-hR,hl];exact At.my h
  have HC:Hid (l.length<=24->R=(At.low c0&&l.all At.nameC)):=fun h=>by rw[<-hR,<-hl];exact At.uH (by rw[hl];exact h)
  have aj:0<l.length:=by rw[<-hl];exact ab
  obtain⟨cb,an,ad⟩:=byte_at l 0 aj
  have h0:cb=c0:=by rw[<-ad];simp[<-hl]
  subst h0
  rw[hl] at ai hm ⊢
  clear hR ad ab hl
  by_cases ak:24<l.length
  ·obtain rfl:R=false:=ag.out ak
   have d0:decide ((24:Int)<(l.length:Int))=true:=decide_eq_true (by omega)
   go_enter Tryz.func183,Tryz.ntmps183
   go_wp2_with fail
   go_ret
   exact⟨rfl,rfl⟩
  ·have HR:=zh (HC.out (by omega))
   have d0:decide ((24:Int)<(l.length:Int))=false:=decide_eq_false (by omega)
   clear HC ag
   go_enter Tryz.func183,Tryz.ntmps183
   go_wp2_with fail
   refine (kj cb _).mono ?_
   rintro e w' ⟨rfl,rfl⟩
   cases aa:At.low cb
   ·have al:Hid (R=false):=by show _=_;rw[HR.out,aa];rfl
    clear aa HR
    go_wp2_with fail
    go_ret
    exact⟨by rw[al.out];rfl,rfl⟩
   ·have ah:Hid (R=l.all At.nameC):=by show _=_;rw[HR.out,aa];rfl
    clear aa HR
    go_wp2_with fail
    go_loop [19] (fun i=>∃ k:Nat,k<=l.length/\i=.int .i64 k/\Hid ((l.take k).all At.nameC=true)) (fun i=>l.length-(intOf i).toNat)
    case atStart=>exact⟨0,Nat.zero_le _,rfl,rfl⟩
    case round =>
     obtain⟨k,hk,rfl,HK⟩:=hrel
     by_cases ae:k<l.length
     ·obtain⟨c,hc,af⟩:=byte_at l k ae
      have HS:=zh (At.fY (f:=At.nameC) ae af)
      have HN:Hid (At.nameC c=false->R=false):=fun h=>by rw[ah.out];exact At.aak ae af h
      have HY:Hid (At.nameC c=true->(l.take (k+1)).all At.nameC=true):=fun h=>by rw[HS.out,HK.out,h];rfl
      clear af HS HK
      go_wp2_with fail
      refine (kj c _).mono ?_
      rintro e w' ⟨rfl,rfl⟩
      cases h1:At.low c
      ·have H1:=zh h1
       clear h1
       go_wp2_with fail
       refine (sZ c _).mono ?_
       rintro e w' ⟨rfl,rfl⟩
       cases h2:Vm.dig c
       ·have HE:=zh (At.s8 H1.out h2)
        clear h2
        by_cases h3:c.toNat=45
        ·have n1:((c.toNat:Int) != 45)=false:=by simp[h3]
         have e3:c=45:=by rw[<-UInt8.toNat_inj];exact h3
         have ac:=zh (HY.out (by rw[HE.out,e3];rfl))
         clear h3 e3
         go_wp2_with fail
         go_round
         case rel=>exact⟨k+1,by omega,by go_num,ac⟩
         case measure=>simp[intOf];omega
        ·have n1:((c.toNat:Int) != 45)=true:=by simp;omega
         have am:=zh (HN.out (by rw[HE.out];rw[beq_eq_false_iff_ne];intro e;exact h3 (by rw[e];rfl)))
         clear h3
         go_wp2_with fail
         go_ret
         exact⟨by rw[am.out];rfl,rfl⟩
       ·have ac:=zh (HY.out (At.uJ h2))
        clear h2
        go_wp2_with fail
        go_round
        case rel=>exact⟨k+1,by omega,by go_num,ac⟩
        case measure=>simp[intOf];omega
      ·have ac:=zh (HY.out (At.uI h1))
       clear h1
       go_wp2_with fail
       go_round
       case rel=>exact⟨k+1,by omega,by go_num,ac⟩
       case measure=>simp[intOf];omega
     ·have HT:Hid (R=true):=by show _=_;rw[ah.out];have:=HK.out;rwa [List.take_of_length_le (by omega)] at this
      go_wp2_with fail
      go_ret
      exact⟨by rw[HT.out];rfl,rfl⟩
end
section
open Go.RowKit Rs At
attribute [local go_sem ↓] Go.wp_at_zero Go.wp_at_succ
def encD (c:Cond):List Value:=[.string ⟨c.1.toArray⟩,.string ⟨c.2.toArray⟩]
theorem fitsD:Rg.Fits encD 2:=⟨fun _=>rfl,fun x u hu=>by
 simp only[encD,List.mem_cons,List.not_mem_nil,or_false] at hu
 rcases hu with rfl | rfl <;> rfl⟩
theorem sliceD:Rg.SliceT Tryz.prog encD 2 261 296:=⟨fitsD,by decide,by kernel_rfl,Rg.bw (z:=.agg #[.string ByteArray.empty,.string ByteArray.empty]) (b:=32) (by kernel_rfl) (by rfl) (by decide)⟩
theorem sliceO:Rg.SliceT Tryz.prog encO 1 241 261:=⟨fitsO,by decide,by kernel_rfl,Rg.bw (z:=.slice none 0 0) (b:=24) (by kernel_rfl) (by rfl) (by decide)⟩
abbrev DRow (w:World) (A:Option Addr) (l:List Cond):Prop:=Rg.Row encD 2 w A l
abbrev DOwn (w:World) (B:Nat) (v:Value) (l:List Cond):Prop:=Rg.Own encD 2 w B 296 v l
def TIn (w:World) (ds:List Desc) (t:List (List Cond)):Prop:=ds.length=t.length/\∀ (i:Nat) (d:Desc) (l:List Cond),ds[i]?=some d->t[i]?=some l->d.2.1=l.length/\DRow w d.1 l
def TFree (v:Value) (ds:List Desc) (t:List (List Cond)):Prop:=∀ (i:Nat) (d:Desc) (l:List Cond),ds[i]?=some d->t[i]?=some l->0<l.length->∀ a,d.1=some a->v.ownBlock≠some a.block
def TRow (w:World) (A:Option Addr) (t:List (List Cond)):Prop:=∃ ds,Rg.Row encO 1 w A ds/\TIn w ds t
def TOwn (w:World) (B:Nat) (v:Value) (t:List (List Cond)):Prop:=∃ ds,Rg.Own encO 1 w B 261 v ds/\TIn w ds t/\TFree v ds t
theorem ij {w w':World}{ds:List Desc}{t:List (List Cond)}(h:TIn w ds t)(hb:Below w.heap.size w w'):TIn w' ds t:=⟨h.1,fun i d l h1 h2=>⟨(h.2 i d l h1 h2).1,Rg.ag (h.2 i d l h1 h2).2 hb⟩⟩
theorem kk {w w':World}{A:Option Addr}{t:List (List Cond)}(h:TRow w A t)(hb:Below w.heap.size w w'):TRow w' A t:=by
 obtain⟨ds,h1,h2⟩:=h;exact⟨ds,Rg.ag h1 hb,ij h2 hb⟩
theorem kl {w w':World}{B:Nat}{v:Value}{t:List (List Cond)}(h:TOwn w B v t)(hb:Below w.heap.size w w'):TOwn w' B v t:=by
 obtain⟨ds,h1,h2,h3⟩:=h;exact⟨ds,Rg.own_below h1 hb,ij h2 hb,h3⟩
theorem oM (w:World)(B:Nat):TOwn w B (.slice none 0 0) []:=⟨[],Rg.an _ _ _,⟨rfl,fun i d l h=>by simp at h⟩,fun i d l h=>by simp at h⟩
theorem ja {ops:Array Oper}{rest:List Oper}{o:Oper}{a:Act}{Q:Exit->Act->World->Prop}{u:World}{Tc:TypeId}(hgd:o.guard=none)(sl x:Operand)
  (ho:o.op=.call { callee:=.builtin .append,args:=#[sl,x],argTypes:=#[241,241] })
  (B:Nat) (v:Value) (t:List (List Cond)) (l:List Cond) (C:Option Addr) (n c:Nat) (hs:a.eval sl=v) (hx:a.eval x=.slice (some ⟨u.heap.size,0,none⟩) 1 1) (hT:TOwn u B v t) (hn:l.length=n) (hrow:DRow u C l)
  (hfresh:0<l.length->∀ a,C=some a->v.ownBlock≠some a.block) (hsz:t.length+1<=1000000) (hB:B<=u.heap.size)
  (h:∀ v' w',TOwn w' B v' (t++[l])->Below B u w'->u.heap.size<=w'.heap.size->wpList Tryz.prog ops Q rest (a.put o.dst v') w'):wpList Tryz.prog ops Q (o :: rest) a (u.alloc (.cells #[.slice C n c] Tc)):=by
 obtain⟨ds,h1,h2,h3⟩:=hT
 obtain⟨i,z,hi,al,am,an,hb⟩:=sliceO.info
 have aa:Below u.heap.size u (u.alloc (.cells #[.slice C n c] Tc)):=(Below.refl _ _).alloc (Nat.le_refl _) _
 have ab:=Rg.own_below h1 aa
 have af:ds.length+1<=1000000:=by rw[h2.1];exact hsz
 refine wpList_append_lies _ hgd sl x 241 ho B 261 i z 1 i.bytes sliceO.under hi al an rfl am sliceO.pos v ds.length (Rg.flat encO ds) hs ab ⟨u.heap.size,0,none⟩ 1 1 (Rg.flat encO [(C,n,c)]) hx rfl (Rg.aw u Tc [(C,n,c)] _ (by rfl)) (Rg.bd fitsO _) (by decide) (by unfold maxLen;omega) (by
  have:(ds.length+1)*i.bytes<=1000000*1000:=Nat.mul_le_mul af hb
  omega) (Nat.le_trans hB aa.size) _ rfl ?_
 intro g cap w' g1 g2 g3 g4
 have ah:(u.alloc (.cells #[.slice C n c] Tc)).heap.size=u.heap.size+1:=by simp
 have ai:Rg.Own encO 1 w' B 261 (.slice (some ⟨g,0,none⟩) (ds.length+1) cap) (ds++[(C,n,c)]):=by
  unfold Rg.Own
  rw[Rg.bG,List.length_append]
  exact g1
 have aj:=ij h2 aa
 have keep:∀ (j:Nat) (d:Desc) (m:List Cond),ds[j]?=some d->t[j]?=some m->DRow w' d.1 m:=fun j d m e1 e2=>bq (aj.2 j d m e1 e2).2 g2 (h3 j d m e1 e2)
 have ac:∀ (b:Nat),b<u.heap.size->v.ownBlock≠some b->(some g:Option Nat)≠some b:=fun b hb hv e=>by
  rcases g3 with g3 | g3
  ·exact hv (by rw[g3,e])
  ·have:=Option.some.inj e;omega
 refine h _ w' ⟨ds++[(C,n,c)],ai,⟨by rw[List.length_append,List.length_append,h2.1];rfl,fun j d m e1 e2=>?_⟩,fun j d m e1 e2 hm ad had=>?_⟩ ?_ (by have:=g2.size;omega)
 ·rcases aF e1 with⟨q1,q2⟩ | ⟨q1,q2⟩
  ·rcases aF e2 with⟨_,p2⟩ | ⟨p1,_⟩
   ·exact⟨(h2.2 j d m q2 p2).1,keep j d m q2 p2⟩
   ·have:=h2.1;omega
  ·rcases aF e2 with⟨p1,_⟩ | ⟨_,p2⟩
   ·have:=h2.1;omega
   ·subst q2 p2
    exact⟨hn.symm,bq (Rg.ag hrow aa) g2 hfresh⟩
 ·rcases aF e1 with⟨q1,q2⟩ | ⟨q1,q2⟩
  ·rcases aF e2 with⟨_,p2⟩ | ⟨p1,_⟩
   ·obtain⟨a2,ea,ae,_⟩:=(h2.2 j d m q2 p2).2 hm
    rw[had] at ea
    cases ea
    exact ac _ ae (h3 j d m q2 p2 hm ad had)
   ·have:=h2.1;omega
  ·rcases aF e2 with⟨p1,_⟩ | ⟨_,p2⟩
   ·have:=h2.1;omega
   ·subst q2 p2
    obtain⟨a2,ea,ae,_⟩:=hrow hm
    rw[show C=some ad from had] at ea
    cases ea
    exact ac _ ae (hfresh hm ad had)
 ·exact (aa.mono hB).trans (Rg.ak ab (Nat.le_trans hB aa.size) g2)
def CondsRet (w:World) (l:List Cond) (e:Ending) (w':World):Prop:=∃ C n c,e=.returned (.slice C n c)/\l.length=n/\DRow w' C l/\(∀ a,C=some a->w.heap.size<=a.block)/\Below w.heap.size w w'
def TermRet (w:World) (t:List (List Cond)) (e:Ending) (w':World):Prop:=∃ C n c,e=.returned (.slice C n c)/\t.length=n/\TRow w' C t/\Below w.heap.size w w'
theorem eE {w:World}{B:Nat}{v:Value}{l:List Cond}(h:DOwn w B v l):∃ C d,v=.slice C l.length d/\DRow w C l/\∀ a,C=some a->B<=a.block:=by
 obtain⟨C,d,hv,hr,_,_⟩:=Rg.au fitsD h
 exact⟨C,d,hv,hr,fun a ha=>by subst ha;exact (Rg.aT h a.block (by rw[hv];rfl)).1⟩
theorem oN {w:World}{B:Nat}{v:Value}{t:List (List Cond)}(h:TOwn w B v t):∃ C d,v=.slice C t.length d/\TRow w C t:=by
 obtain⟨ds,h1,h2,_⟩:=h
 obtain⟨C,d,hv,hr,_,_⟩:=Rg.au fitsO h1
 rw[h2.1] at hv
 exact⟨C,d,hv,ds,hr,h2⟩
theorem fH {w:World}{A:Option Addr}{t:List (List Cond)}(h:TRow w A t)(k:Nat)(hk:k<t.length):∃ ad C n c,A=some ad/\ad.block<w.heap.size/\w.cell? (ad.add k)=some (.slice C n c)/\t[k].length=n/\DRow w C t[k]:=by
 obtain⟨ds,h1,h2,h3⟩:=h
 have aa:k<ds.length:=by omega
 obtain⟨ad,x,e,hx,ab,hc⟩:=Rg.bz h1 k aa
 obtain⟨q1,q2⟩:=h3 k x t[k] (by rw[List.getElem?_eq_getElem aa,hx]) (List.getElem?_eq_getElem hk)
 refine⟨ad,x.1,x.2.1,x.2.2,e,ab,?_,q1.symm,q2⟩
 have:=hc 0 _ rfl
 rw[if_pos rfl,Nat.mul_one] at this
 exact this
theorem zd {w:World}{A:Option Addr}{l:List Cond}(h:DRow w A l)(k:Nat)(hk:k<l.length):∃ ad,A=some ad/\ad.block<w.heap.size/\w.cell? (ad.add (k*2))=some (.string ⟨l[k].1.toArray⟩)/\w.cell? ⟨(ad.add (k*2)).block,(ad.add (k*2)).off+1,none⟩=some (.string ⟨l[k].2.toArray⟩):=by
 obtain⟨ad,x,e,hx,aa,hc⟩:=Rg.bz h k hk
 subst hx
 exact⟨ad,e,aa,hc 0 _ rfl,hc 1 _ rfl⟩
end
end Go.Proofs.YtgnaiidgjmicaaaGreatDoor
