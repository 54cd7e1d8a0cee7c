/- Part 5 of what the laws lean on. -/
import Derived.Test.YtgnaiidgjmicaaaGreatDoorM04
set_option maxHeartbeats 1000000
namespace Go.Proofs.YtgnaiidgjmicaaaGreatDoor
section
open Go.RowKit
def orL:List Int->Int
 | []=>0
 | x :: r=>Vm.both x (orL r)
theorem acj (zs:List Int)(k:Nat)(h:k<zs.length):orL (zs.drop k)=Vm.both zs[k] (orL (zs.drop (k+1))):=by
 rw[List.drop_eq_getElem_cons h];rfl
theorem gZ (zs:List Int)(b cap:Nat)(w:World)(hm:zs.length<=100)(hc:∀ (k:Nat) (h:k<zs.length),w.cell? ⟨b,k,none⟩=some (.int .i64 zs[k])) :
  Calls Tryz.prog 125 #[.slice (some ⟨b,0,none⟩) zs.length cap] w fun e w'=>e=.returned (.int .i64 (orL zs))/\w=w':=by
 have HC:=zh hc
 clear hc
 go_enter Tryz.func125,Tryz.ntmps125
 go_wp2_with fail
 go_loop [8] (fun i=>∃ k:Nat,k<=zs.length/\i=.int .i64 k/\Hid (orL zs=orL (zs.drop k))) (fun i=>zs.length-(intOf i).toNat)
 case atStart=>exact⟨0,Nat.zero_le _,rfl,rfl⟩
 case round =>
  obtain⟨k,hk,rfl,HE⟩:=hrel
  by_cases ab:k<zs.length
  ·have aa:=HC.out k ab
   have HD:=zh (acj zs k ab)
   obtain⟨x,hx⟩:=ex (zs[k])
   rw[hx] at aa HD
   clear hx
   cases h0:x==0
   ·have n1:(x != 0)=true:=by rw[bne,h0];rfl
    have HB:Hid (orL zs=x):=by show _=_;rw[HE.out,HD.out,Vm.both,h0];rfl
    clear h0
    go_wp2_with fail
    go_ret
    exact⟨by rw[HB.out];rfl,rfl⟩
   ·have n1:(x != 0)=false:=by rw[bne,h0];rfl
    have HB:Hid (orL zs=orL (zs.drop (k+1))):=by show _=_;rw[HE.out,HD.out,Vm.both,h0];rfl
    clear h0
    go_wp2_with fail
    go_round
    case rel=>exact⟨k+1,by omega,by go_num,HB⟩
    case measure=>simp[intOf];omega
  ·obtain rfl:k=zs.length:=by omega
   have HB:Hid (orL zs=0):=by show _=_;rw[HE.out,List.drop_length];rfl
   go_wp2_with fail
   go_ret
   exact⟨by rw[HB.out];rfl,rfl⟩
theorem g9 (y:Int):Vm.both y 0=y:=by unfold Vm.both;split <;> simp_all
theorem cells2 (w:World)(p q:Int)(k:Nat)(h:k < [p,q].length):(w.alloc (.cells #[.int .i64 p,.int .i64 q] 3)).cell? ⟨w.heap.size,k,none⟩=some (.int .i64 [p,q][k]):=by
 rw[World.cell?_alloc_mark]
 match k,h with
 | 0,_=>rfl
 | 1,_=>rfl
theorem dv (x y:Int)(w:World) :
  Calls Tryz.prog 99 #[.int .i64 x,.int .i64 y] w fun e w'=>e=.returned (.int .i64 (Vm.sgn x y))/\w=w' :=
 (Tryz.cmp_Compare_int x y w).mono fun _ _ h=>⟨by rw[h.1];rfl,h.2.symm⟩
theorem kt (a b:List UInt8)(w:World) :
  Calls Tryz.prog 143 #[.string ⟨a.toArray⟩,.string ⟨b.toArray⟩] w fun e w'=>e=.returned (.int .i64 (Lib.compareBytes a b))/\w=w' :=
 (Tryz.strings_Compare ⟨a.toArray⟩ ⟨b.toArray⟩ w).mono fun _ _ h=>⟨h.1,h.2.symm⟩
theorem fP (a b:List UInt8)(w:World) :
  Calls Tryz.prog 126 #[.string ⟨a.toArray⟩,.string ⟨b.toArray⟩] w fun e w'=>e=.returned (.int .i64 (Vm.cmpD a b))/\Below w.heap.size w w':=by
 have HX:Hid (Vm.cmpD a b=Vm.both (Vm.sgn (Vm.bare a).length (Vm.bare b).length) (Lib.compareBytes (Vm.bare a) (Vm.bare b))):=rfl
 go_enter Tryz.func126,Tryz.ntmps126
 go_wp2_with fail
 refine (jD a _).mono ?_
 rintro e w' ⟨rfl,rfl⟩
 go_wp2_with fail
 refine (jD b _).mono ?_
 rintro e w' ⟨rfl,rfl⟩
 obtain⟨x,hx⟩:=ex (Vm.bare a)
 obtain⟨y,hy⟩:=ex (Vm.bare b)
 rw[hx,hy] at HX
 rw[hx,hy]
 clear hx hy
 go_wp2_with fail
 refine (dv _ _ _).mono ?_
 rintro e w' ⟨rfl,rfl⟩
 go_wp2_with fail
 refine (kt _ _ _).mono ?_
 rintro e w' ⟨rfl,rfl⟩
 go_wp2_with fail
 obtain⟨p,hp⟩:=ex (Vm.sgn (x.length:Int) (y.length:Int))
 obtain⟨q,hq⟩:=ex (Lib.compareBytes x y)
 rw[hp,hq] at HX
 rw[hp,hq]
 clear hp hq
 refine (gZ [p,q] _ _ _ (by simp) (cells2 w p q)).mono ?_
 rintro e w' ⟨rfl,rfl⟩
 go_wp2_with fail
 go_ret
 refine⟨?_,(Below.refl _ _).alloc (Nat.le_refl _) _⟩
 show Ending.returned (.int .i64 (orL [p,q]))=_
 rw[HX.out,orL,orL,orL,g9]
theorem nH (a b:List UInt8)(M k:Nat)(h:k<M):Vm.cmpOF a b (M-k) k=Vm.both (Vm.sgn (Vm.mark a k) (Vm.mark b k)) (Vm.cmpOF a b (M-(k+1)) (k+1)):=by
 have:M-k=(M-(k+1))+1:=by omega
 rw[this];rfl
theorem lV (a b:List UInt8)(w:World)(ha:a.length<=1000)(hb:b.length<=1000) :
  Calls Tryz.prog 165 #[.string ⟨a.toArray⟩,.string ⟨b.toArray⟩] w fun e w'=>e=.returned (.int .i64 (Vm.cmpO a b))/\w=w':=by
 obtain⟨M,hM,aa⟩:∃ M:Nat,max (a.length:Int) (b.length:Int)=M/\max a.length b.length=M:=⟨max a.length b.length,by omega,rfl⟩
 have ac:M<=1000:=by omega
 have HX:Hid (Vm.cmpO a b=Vm.cmpOF a b M 0):=by show _=_;rw[<-aa];rfl
 clear aa
 go_enter Tryz.func165,Tryz.ntmps165
 go_wp2_with fail
 clear hM
 go_loop [12] (fun i=>∃ k:Nat,k<=M/\i=.int .i64 k/\Hid (Vm.cmpO a b=Vm.cmpOF a b (M-k) k)) (fun i=>M-(intOf i).toNat)
 case atStart=>exact⟨0,Nat.zero_le _,rfl,HX⟩
 case round =>
  obtain⟨k,hk,rfl,HE⟩:=hrel
  by_cases ab:k<M
  ·have HS:=zh (nH a b M k ab)
   go_wp2_with fail
   refine (sS a k _).mono ?_
   rintro e w' ⟨rfl,rfl⟩
   go_wp2_with fail
   refine (sS b k _).mono ?_
   rintro e w' ⟨rfl,rfl⟩
   obtain⟨x,hx⟩:=ex (Vm.mark a k)
   obtain⟨y,hy⟩:=ex (Vm.mark b k)
   rw[hx,hy] at HS
   rw[hx,hy]
   clear hx hy
   go_wp2_with fail
   refine (dv _ _ _).mono ?_
   rintro e w' ⟨rfl,rfl⟩
   obtain⟨c,hc⟩:=ex (Vm.sgn x y)
   rw[hc] at HS
   rw[hc]
   clear hc
   cases h0:c==0
   ·have n1:(c != 0)=true:=by rw[bne,h0];rfl
    have HB:Hid (Vm.cmpO a b=c):=by show _=_;rw[HE.out,HS.out,Vm.both,h0];rfl
    clear h0
    go_wp2_with fail
    go_ret
    exact⟨by rw[HB.out];rfl,rfl⟩
   ·have n1:(c != 0)=false:=by rw[bne,h0];rfl
    have HB:Hid (Vm.cmpO a b=Vm.cmpOF a b (M-(k+1)) (k+1)):=by show _=_;rw[HE.out,HS.out,Vm.both,h0];rfl
    clear h0
    go_wp2_with fail
    go_round
    case rel=>exact⟨k+1,by omega,by go_num,HB⟩
    case measure=>simp[intOf];omega
  ·obtain rfl:k=M:=by omega
   have HB:Hid (Vm.cmpO a b=0):=by show _=_;rw[HE.out,Nat.sub_self];rfl
   go_wp2_with fail
   go_ret
   exact⟨by rw[HB.out];rfl,rfl⟩
theorem jF (l:List UInt8):(Vm.tail2 l).length<=l.length:=Nat.le_trans (kq _) (cO _)
theorem cf (l:List UInt8)(h:l.isEmpty=false):(Vm.tail2 l).length<l.length:=by
 match l,h with
 | c :: r,_ =>
  unfold Vm.tail2
  cases hd:Vm.dig c
  ·have h1:Vm.undigs (c :: r)=c :: r:=by simp[Vm.undigs,hd]
   rw[h1]
   have h2:Vm.unoths (c :: r)=Vm.unoths r:=by simp[Vm.unoths,hd]
   rw[h2]
   have:=kq r
   simp;omega
  ·have h1:Vm.undigs (c :: r)=Vm.undigs r:=by simp[Vm.undigs,hd]
   rw[h1]
   have:=kq (Vm.undigs r)
   have:=cO r
   simp;omega
theorem cL {l:List UInt8}(h:ascii l):ascii (Vm.undigs l):=by
 intro j b hb
 have h1:=List.mem_of_getElem? hb
 have h2:b∈l:=by rw[<-(List.takeWhile_append_dropWhile:Vm.digs l++Vm.undigs l=l)];exact List.mem_append_right _ h1
 obtain⟨i,hi⟩:=List.getElem?_of_mem h2
 exact h i b hi
theorem gE {l:List UInt8}(h:ascii l):ascii (Vm.unoths l):=by
 intro j b hb
 have h1:=List.mem_of_getElem? hb
 have h2:b∈l:=by rw[<-(List.takeWhile_append_dropWhile:Vm.oths l++Vm.unoths l=l)];exact List.mem_append_right _ h1
 obtain⟨i,hi⟩:=List.getElem?_of_mem h2
 exact h i b hi
theorem qp (n:Nat)(a b:List UInt8)(h:(a.isEmpty&&b.isEmpty)=false) :
  Vm.cmpP (n+1) a b=Vm.both (Vm.cmpD (Vm.digs a) (Vm.digs b)) (Vm.both (Vm.cmpO (Vm.oths (Vm.undigs a)) (Vm.oths (Vm.undigs b))) (Vm.cmpP n (Vm.tail2 a) (Vm.tail2 b))):=by
 rw[Vm.cmpP,h];rfl
theorem sW (n:Nat)(a b:List UInt8)(h:(a.isEmpty&&b.isEmpty)=true):Vm.cmpP n a b=0:=by
 cases n with
 | zero=>rfl
 | succ n=>rw[Vm.cmpP,h];rfl
theorem mJ (n:Nat)(a b:List UInt8)(w:World)(hn:n<=1000)(ha:a.length<=n)(hb:b.length<=n)(hasa:ascii a)(hasb:ascii b) :
  Calls Tryz.prog 127 #[.string ⟨a.toArray⟩,.string ⟨b.toArray⟩] w fun e w'=>e=.returned (.int .i64 (Vm.cmpP n a b))/\Below w.heap.size w w':=by
 have HX:Hid (ascii a/\ascii b):=⟨hasa,hasb⟩
 clear hasa hasb
 go_enter Tryz.func127,Tryz.ntmps127
 go_wp2_with fail
 go_loopw [0,1] (fun p q wr=>∃ (m:Nat) (c d:List UInt8),m<=n/\c.length<=m/\d.length<=m/\p=.string ⟨c.toArray⟩/\q=.string ⟨d.toArray⟩/\Hid (ascii c/\ascii d)/\Hid (Vm.cmpP n a b=Vm.cmpP m c d)/\Below w.heap.size w wr) (fun p q _=>strLen p+strLen q)
 case atStart=>exact⟨n,a,b,Nat.le_refl _,ha,hb,rfl,rfl,HX,rfl,Below.refl _ _⟩
 case round =>
  obtain⟨m,c,d,hm,hc,hd,rfl,rfl,HA,HE,af⟩:=hrel
  by_cases ac:(c.isEmpty&&d.isEmpty)=true
  ·have HB:Hid (Vm.cmpP n a b=0):=by show _=_;rw[HE.out];exact sW _ _ _ ac
   have h1:c.isEmpty=true:=by cases hc:c.isEmpty <;> simp_all
   have h2:d.isEmpty=true:=by cases hd:d.isEmpty <;> simp_all
   clear ac
   go_wp2_with fail
   go_ret
   exact⟨by rw[HB.out];rfl,af⟩
  ·have aa:(c.isEmpty&&d.isEmpty)=false:=by simpa using ac
   clear ac
   have ag:0<m:=by
    rcases Nat.eq_zero_or_pos m with h | h
    ·subst h
     have h1:c=[]:=List.eq_nil_of_length_eq_zero (by omega)
     have h2:d=[]:=List.eq_nil_of_length_eq_zero (by omega)
     subst h1 h2;simp at aa
    ·exact h
   obtain⟨m',rfl⟩:∃ m',m=m'+1:=⟨m-1,by omega⟩
   have HS:=zh (qp m' c d aa)
   have l1:=cO c
   have l2:=cO d
   have l3:=iZ (Vm.undigs c)
   have l4:=iZ (Vm.undigs d)
   have l5:(Vm.tail2 c).length<=m':=by
    cases he:c.isEmpty
    ·have:=cf c he;omega
    ·have:c=[]:=by simpa using he
     subst this;show 0<=m';omega
   have l6:(Vm.tail2 d).length<=m':=by
    cases he:d.isEmpty
    ·have:=cf d he;omega
    ·have:d=[]:=by simpa using he
     subst this;show 0<=m';omega
   have l7:(Vm.tail2 c).length+(Vm.tail2 d).length<c.length+d.length:=by
    have h1:=jF c
    have h2:=jF d
    cases he:c.isEmpty
    ·have:=cf c he;omega
    ·cases aj:d.isEmpty
     ·have:=cf d aj;omega
     ·rw[he,aj] at aa;cases aa
   have an:=zh l5
   have ao:=zh l6
   have ap:=zh l7
   have HM:=zh aa
   clear l5 l6 l7 aa ag
   cases aq:c.isEmpty
   all_goals
    try (have ar:d.isEmpty=false:=by have:=HM.out;rw[aq] at this;simpa using this)
    go_wp2_with fail
    refine (fH c _ (by omega)).mono ?_
    rintro e w1 ⟨rfl,ah⟩
    go_wp2_with fail
    refine (fH d _ (by omega)).mono ?_
    rintro e w2 ⟨rfl,ak⟩
    have ad:Below w.heap.size w w2:=(bt af ah).trans (ak.mono (Nat.le_trans af.size ah.size))
    clear ah ak
    go_wp2_with fail
    refine (fP _ _ _).mono ?_
    rintro e w3 ⟨rfl,al⟩
    have ab:Below w.heap.size w w3:=bt ad al
    clear al ad
    obtain⟨x,hx⟩:=ex (Vm.cmpD (Vm.digs c) (Vm.digs d))
    rw[hx] at HS
    rw[hx]
    clear hx
    cases h0:x==0
    ·have n1:(x != 0)=true:=by rw[bne,h0];rfl
     have HB:Hid (Vm.cmpP n a b=x):=by show _=_;rw[HE.out,HS.out,Vm.both,h0];rfl
     clear h0
     go_wp2_with fail
     go_ret
     exact⟨by rw[HB.out];rfl,ab⟩
    ·have n1:(x != 0)=false:=by rw[bne,h0];rfl
     have HB:Hid (Vm.cmpP n a b=Vm.both (Vm.cmpO (Vm.oths (Vm.undigs c)) (Vm.oths (Vm.undigs d))) (Vm.cmpP m' (Vm.tail2 c) (Vm.tail2 d))):=by show _=_;rw[HE.out,HS.out,Vm.both,h0];rfl
     clear h0
     go_wp2_with fail
     refine (fI _ _ (by omega) (cL HA.out.1)).mono ?_
     rintro e w4 ⟨rfl,ai⟩
     go_wp2_with fail
     refine (fI _ _ (by omega) (cL HA.out.2)).mono ?_
     rintro e w5 ⟨rfl,am⟩
     have ae:Below w.heap.size w w5:=(bt ab ai).trans (am.mono (Nat.le_trans ab.size ai.size))
     clear ai am ab
     go_wp2_with fail
     refine (lV _ _ _ (by omega) (by omega)).mono ?_
     rintro e w6 ⟨rfl,rfl⟩
     obtain⟨y,hy⟩:=ex (Vm.cmpO (Vm.oths (Vm.undigs c)) (Vm.oths (Vm.undigs d)))
     rw[hy] at HB
     rw[hy]
     clear hy
     cases h0:y==0
     ·have n1:(y != 0)=true:=by rw[bne,h0];rfl
      have HC:Hid (Vm.cmpP n a b=y):=by show _=_;rw[HB.out,Vm.both,h0];rfl
      clear h0
      go_wp2_with fail
      go_ret
      exact⟨by rw[HC.out];rfl,ae⟩
     ·have n1:(y != 0)=false:=by rw[bne,h0];rfl
      have HC:Hid (Vm.cmpP n a b=Vm.cmpP m' (Vm.tail2 c) (Vm.tail2 d)):=by show _=_;rw[HB.out,Vm.both,h0];rfl
      clear h0
      go_wp2_with fail
      go_roundw
      case rel=>exact⟨m',Vm.tail2 c,Vm.tail2 d,by omega,an.out,ao.out,rfl,rfl,⟨gE (cL HA.out.1),gE (cL HA.out.2)⟩,HC,ae⟩
      case measure=>have:=ap.out;simpa [strLen,Vm.tail2] using this
end
section
open Go.RowKit
theorem infoByte:(Tryz.prog.info? 5).map (fun i=>(i.zero,i.size,i.bytes))=some (some (.int .u8 0),1,1):=by kernel_rfl
def Own (w:World) (B:Nat) (v:Value) (l:List UInt8):Prop:=w.ownsRow B 5 1 v l.length (Lib.strCells ⟨l.toArray⟩)
theorem aB (w:World)(B:Nat):Own w B (.slice none 0 0) []:=World.ownsRow_nil w B _ 1
theorem ku (a b:List UInt8):Lib.strCells ⟨(a++b).toArray⟩=Lib.strCells ⟨a.toArray⟩++Lib.strCells ⟨b.toArray⟩:=by simp[Lib.strCells]
theorem own_below {w w':World}{B:Nat}{v:Value}{l:List UInt8}(h:Own w B v l)(hb:Below w.heap.size w w'):Own w' B v l:=by
 obtain⟨h1,h2⟩:=h
 refine⟨h1,?_⟩
 rcases h2 with h2 | ⟨g,cap,cur,e1,e2,e3,e4⟩
 ·exact Or.inl h2
 ·refine Or.inr ⟨g,cap,cur,e1,e2,?_,e4⟩
  rw[hb.block g ?_];exact e3
  have:=(Array.getElem?_eq_some_iff.1 e3).1;exact this
theorem bw {w:World}{B:Nat}{v:Value}{l:List UInt8}(h:Own w B v l):∀ k,v.ownBlock=some k->B<=k/\k<w.heap.size:=World.ownsRow.lt h
theorem aA {w w':World}{B:Nat}{v:Value}{l:List UInt8}(h:Own w B v l)(hB:B<=w.heap.size)(hg:w.grownBy w' v.ownBlock):Below B w w' :=
 (Below.refl B w).grown hg hB (fun k hk=>(bw h k hk).1)
theorem jG {ops:Array Oper}{rest:List Oper}{o:Oper}{a:Act}{Q:Exit->Act->World->Prop}{w:World}(hgd:o.guard=none)(sl x:Operand)
  (ho:o.op=.call { callee:=.builtin .append,args:=#[sl,x],argTypes:=#[61,9] })
  (B:Nat) (v:Value) (l m:List UInt8) (hs:a.eval sl=v) (hown:Own w B v l) (hx:a.eval x=.string ⟨m.toArray⟩) (hsz:l.length+m.length<=10000) (hB:B<=w.heap.size)
  (h:∀ v' w',Own w' B v' (l++m)->w.grownBy w' v.ownBlock->wpList Tryz.prog ops Q rest (a.put o.dst v') w'):wpList Tryz.prog ops Q (o :: rest) a w:=by
 obtain⟨i0,hi,ab,ac,ad⟩:=info_parts infoByte
 have aa:(ByteArray.mk m.toArray).size=m.length:=by simp[ByteArray.size]
 refine Lib.wpList_append_own_string w hgd sl x _ _ ho B _ i0 Tryz.underlying61 Tryz.underlying9 hi ab ac ad v _ _ hs hown _ hx (by rw[aa];unfold maxLen;omega) (by rw[aa];omega) hB ?_
 intro v' w' h1 h2 _
 refine h v' w' ?_ h2
 unfold Own
 rw[ku,List.length_append,<-aa]
 exact h1
theorem dG {w:World}{B:Nat}{v:Value}{l:List UInt8}(h:Own w B v l):(convert 61 9 v).run Tryz.prog w=.ok (.string ⟨l.toArray⟩) w:=by
 obtain⟨h1,h2⟩:=h
 rcases h2 with⟨rfl,h2⟩ | ⟨g,cap,cur,rfl,e2,e3,e4,e5,e6,e7⟩
 ·have:l=[]:=List.eq_nil_of_length_eq_zero h2
  subst this
  exact Lib.run_convert_nil_bytes w _ _ _ 0 Tryz.underlying61 Tryz.underlying5 Tryz.underlying9
 ·refine run_convert_bytes_back w _ _ _ _ cap l Tryz.underlying61 Tryz.underlying5 Tryz.underlying9 ?_
  intro j hj
  have:=World.ownsRow.cells (w:=w) (base:=B) (e:=5) (size:=1) (n:=l.length) (xs:=Lib.strCells ⟨l.toArray⟩) (v:=.slice (some ⟨g,0,none⟩) l.length cap) ⟨h1,Or.inr ⟨g,cap,cur,rfl,e2,e3,e4,e5,e6,e7⟩⟩ rfl j (.int .u8 (l[j].toNat:Int)) (by simp[Lib.strCells,hj])
  exact this
theorem cP {w:World}{B:Nat}{v:Value}{l:List UInt8}(h:Own w B v l)(o:Obj):Own (w.alloc o) B v l:=World.ownsRow.alloc h o
theorem bP {w w':World}{B:Nat}{v:Value}{l:List UInt8}{row:Option Nat}(h:Own w B v l)(hg:w.grownBy w' row)(hne:v.ownBlock=none\/v.ownBlock≠row):Own w' B v l:=World.ownsRow.kept h hg hne
theorem dw {ops:Array Oper}{rest:List Oper}{o:Oper}{a:Act}{Q:Exit->Act->World->Prop}{w:World}(hgd:o.guard=none)(sl x:Operand)
  (ho:o.op=.call { callee:=.builtin .append,args:=#[sl,x],argTypes:=#[61,61] })
  (B:Nat) (v:Value) (l m:List UInt8) (hs:a.eval sl=v) (hown:Own w B v l) (ad:Addr) (c:Nat) (hx:a.eval x=.slice (some ad) m.length c)
  (hnews:∀ j u,(Lib.strCells ⟨m.toArray⟩)[j]?=some u->w.cell? (ad.add j)=some u) (hsz:l.length+m.length<=10000) (hB:B<=w.heap.size)
  (h:∀ v' w',Own w' B v' (l++m)->w.grownBy w' v.ownBlock->wpList Tryz.prog ops Q rest (a.put o.dst v') w'):wpList Tryz.prog ops Q (o :: rest) a w:=by
 obtain⟨i0,hi,aa,ab,ac⟩:=info_parts infoByte
 refine wpList_append_own w hgd sl x _ ho B _ i0 (.int .u8 0) 1 1 Tryz.underlying61 hi aa ab ac rfl (by decide) v _ _ hs hown ad m.length c (Lib.strCells ⟨m.toArray⟩) hx (by rw[Lib.strCells_length];simp[ByteArray.size]) hnews (Lib.strCells_oneCell _) (by unfold maxLen;omega) (by omega) hB ?_
 intro v' w' h1 h2 _
 refine h v' w' ?_ h2
 unfold Own
 rw[ku,List.length_append]
 exact h1
theorem cz {w:World}{B:Nat}{v:Value}{l:List UInt8}(h:Own w B v l)(hl:l≠[]):∃ ad c,v=.slice (some ad) l.length c/\v.ownBlock=some ad.block/\∀ j u,(Lib.strCells ⟨l.toArray⟩)[j]?=some u->w.cell? (ad.add j)=some u:=by
 have h0:=h
 obtain⟨h1,h2⟩:=h
 rcases h2 with⟨rfl,h2⟩ | ⟨g,cap,cur,rfl,e2,e3,e4,e5,e6,e7⟩
 ·exact absurd (List.eq_nil_of_length_eq_zero h2) hl
 ·exact⟨⟨g,0,none⟩,cap,rfl,rfl,World.ownsRow.cells h0 rfl⟩
theorem ef (l:List UInt8):(Vm.bare l).length<=l.length+1:=by
 unfold Vm.bare
 have h:(l.dropWhile (. == 48)).length<=l.length:=by
  have h:l.takeWhile (. == 48)++l.dropWhile (. == 48)=l:=List.takeWhile_append_dropWhile
  have:=congrArg List.length h;rw[List.length_append] at this;omega
 split <;> simp;omega
theorem mc (c:List UInt8):(Vm.digs c).length+(Vm.oths (Vm.undigs c)).length+(Vm.tail2 c).length=c.length:=by
 have h1:Vm.digs c++Vm.undigs c=c:=List.takeWhile_append_dropWhile
 have h2:Vm.oths (Vm.undigs c)++Vm.unoths (Vm.undigs c)=Vm.undigs c:=List.takeWhile_append_dropWhile
 have e1:=congrArg List.length h1
 have e2:=congrArg List.length h2
 rw[List.length_append] at e1 e2
 unfold Vm.tail2;omega
theorem fg (n:Nat)(l:List UInt8)(h:l.isEmpty=false):Vm.canonP (n+1) l=Vm.bare (Vm.digs l)++Vm.oths (Vm.undigs l)++Vm.canonP n (Vm.tail2 l):=by
 rw[Vm.canonP,h];rfl
theorem fX (n:Nat)(l:List UInt8)(h:l.isEmpty=true):Vm.canonP n l=[]:=by
 cases n with
 | zero=>rfl
 | succ n=>rw[Vm.canonP,h];rfl
def OwnRet (B:Nat) (w:World) (l:List UInt8) (e:Ending) (w':World):Prop:=∃ v,e=.returned v/\Own w' B v l/\Below B w w'
theorem dH (n B:Nat)(v:Value)(x l:List UInt8)(w:World)(hn:n<=100)(hl:l.length<=n)(hx:x.length<=100)(hasl:ascii l)(hB:B<=w.heap.size)(hown:Own w B v x) :
  Calls Tryz.prog 277 #[v,.string ⟨l.toArray⟩] w (OwnRet B w (x++Vm.canonP n l)):=by
 have HA:Hid (ascii l):=hasl
 have HO:Hid (Own w B v x):=hown
 clear hasl hown
 go_enter Tryz.func277,Tryz.ntmps277
 go_wp2_with fail
 go_loopw [0,1] (fun p q wr=>∃ (m:Nat) (y c:List UInt8),m<=n/\c.length<=m/\y.length+2*c.length<=x.length+2*l.length/\q=.string ⟨c.toArray⟩/\Hid (Own wr B p y)/\Hid (ascii c)/\Hid (x++Vm.canonP n l=y++Vm.canonP m c)/\Below B w wr/\B<=wr.heap.size) (fun _ q _=>strLen q)
 case atStart=>exact⟨n,x,l,Nat.le_refl _,hl,Nat.le_refl _,rfl,HO,HA,rfl,Below.refl _ _,hB⟩
 case round =>
  obtain⟨m,y,c,hm,hc,hy,rfl,ax,aD,HE,al,ay⟩:=hrel
  cases aa:c.isEmpty
  ·obtain⟨m',rfl⟩:∃ m',m=m'+1:=⟨m-1,by
    cases m with
    | zero =>
     have:c=[]:=List.eq_nil_of_length_eq_zero (by omega)
     subst this;cases aa
    | succ m=>rfl⟩
   have HS:=zh (fg m' c aa)
   have l1:=cO c
   have aC:=zh (cf c aa)
   have aq:=zh (mc c)
   have ar:=zh (ef (Vm.digs c))
   go_wp2_with fail
   refine (fH c _ (by omega)).mono ?_
   rintro e w1 ⟨rfl,ao⟩
   have am:=zh (own_below ax.out ao)
   have ad:Below B w w1:=al.trans (ao.mono ay)
   have ai:B<=w1.heap.size:=Nat.le_trans ay ao.size
   clear ao ax al ay
   go_wp2_with fail
   refine (fI _ _ (by omega) (cL aD.out)).mono ?_
   rintro e w2 ⟨rfl,ap⟩
   have aj:=zh (own_below am.out ap)
   have ae:Below B w w2:=ad.trans (ap.mono ai)
   have ab:B<=w2.heap.size:=Nat.le_trans ai ap.size
   clear ap am ad ai
   go_wp2_with fail
   refine (jD _ _).mono ?_
   rintro e w3 ⟨rfl,rfl⟩
   obtain⟨b,hb⟩:=ex (Vm.bare (Vm.digs c))
   obtain⟨o,ho⟩:=ex (Vm.oths (Vm.undigs c))
   rw[hb,ho] at HS
   rw[ho] at aq
   rw[hb] at ar
   rw[hb,ho]
   clear hb ho
   have aE:=aC.out
   have au:=aq.out
   have aF:b.length+o.length+y.length+2*(Vm.tail2 c).length<=x.length+2*l.length:=by have:=ar.out;omega
   clear au ar aq l1
   go_wp2_with (at_builtin;refine jG rfl _ _ rfl B _ y b rfl aj.out rfl ?c1 ab ?_)
   case c1=>omega
   intro v4 w4 ag az
   have af:Below B w w4:=ae.trans (aA aj.out ab az)
   have ac:B<=w4.heap.size:=Nat.le_trans ab az.size
   have ak:=zh ag
   clear az ag aj ae ab
   go_wp2_with (at_builtin;refine jG rfl _ _ rfl B _ (y++b) o rfl ak.out rfl ?c2 ac ?_)
   case c2=>rw[List.length_append];omega
   intro v5 w5 ah aB
   have an:Below B w w5:=af.trans (aA ak.out ac aB)
   have av:B<=w5.heap.size:=Nat.le_trans ac aB.size
   have aw:=zh ah
   clear aB ah ak af ac
   go_wp2_with fail
   go_roundw
   case rel=>exact⟨m',y++(b++o),Vm.tail2 c,by omega,by omega,by rw[List.length_append,List.length_append];omega,rfl,aw,gE (cL aD.out),by show _=_;rw[HE.out,HS.out];simp only[List.append_assoc],an,av⟩
   case measure=>have:=aC.out;simpa [strLen,Vm.tail2] using this
  ·have HB:Hid (x++Vm.canonP n l=y):=by show _=_;rw[HE.out,fX m c aa,List.append_nil]
   go_wp2_with fail
   go_ret
   exact⟨_,rfl,by rw[HB.out];exact ax.out,al⟩
end
section
open Go.RowKit
theorem lG (l:List UInt8)(c:UInt8)(w:World)(hm:MaxOk w)(hl:l.length<=1000)(h:Vm.has c l=true) :
  Calls Tryz.prog 122 #[.string ⟨l.toArray⟩,.string ⟨#[c]⟩] w fun e w'=>e=.returned (.tuple #[.string ⟨(Vm.fst c l).toArray⟩,.string ⟨(Vm.snd c l).toArray⟩,.bool true])/\∃ n,w'=w.drewN n:=by
 obtain⟨m,hm⟩:=hm
 refine (Tryz.strings_Cut ⟨l.toArray⟩ ⟨#[c]⟩ m w (by simp[ByteArray.size];omega) hm).mono fun e w' ⟨h1,h2⟩=>⟨?_,h2⟩
 rw[h1]
 have e:Lib.cut (⟨l.toArray⟩:ByteArray).data.toList (⟨#[c]⟩:ByteArray).data.toList=Lib.cut l [c]:=rfl
 rw[e,pf,h];rfl
theorem nI (l:List UInt8)(c:UInt8)(w:World)(hm:MaxOk w)(hl:l.length<=1000)(h:Vm.has c l=false) :
  Calls Tryz.prog 122 #[.string ⟨l.toArray⟩,.string ⟨#[c]⟩] w fun e w'=>e=.returned (.tuple #[.string ⟨l.toArray⟩,.string ⟨#[]⟩,.bool false])/\∃ n,w'=w.drewN n:=by
 obtain⟨m,hm⟩:=hm
 refine (Tryz.strings_Cut ⟨l.toArray⟩ ⟨#[c]⟩ m w (by simp[ByteArray.size];omega) hm).mono fun e w' ⟨h1,h2⟩=>⟨?_,h2⟩
 rw[h1]
 have e:Lib.cut (⟨l.toArray⟩:ByteArray).data.toList (⟨#[c]⟩:ByteArray).data.toList=Lib.cut l [c]:=rfl
 rw[e,pf,h];rfl
theorem cZ (l:List UInt8)(w:World)(hm:l.length<=100)(h:Vm.epOk l=true):Calls Tryz.prog 123 #[.string ⟨l.toArray⟩] w fun e w'=>e=.returned (.tuple #[])/\w=w':=by
 have:=gD l w hm;rw[h] at this;exact this
theorem dp (l:List UInt8)(w:World)(hm:l.length<=100)(h:Vm.epOk l=false):Calls Tryz.prog 123 #[.string ⟨l.toArray⟩] w fun e w'=>e=pan 5/\w=w':=by
 have:=gD l w hm;rw[h] at this;exact this
theorem bu (l:List UInt8)(w:World)(hm:l.length<=100)(h:Vm.partOk l=true):Calls Tryz.prog 124 #[.string ⟨l.toArray⟩] w fun e w'=>e=.returned (.tuple #[])/\w=w':=by
 have:=gY l w hm;rw[h] at this;exact this
theorem bz (l:List UInt8)(w:World)(hm:l.length<=100)(h:Vm.partOk l=false):Calls Tryz.prog 124 #[.string ⟨l.toArray⟩] w fun e w'=>e=pan 5/\w=w':=by
 have:=gY l w hm;rw[h] at this;exact this
theorem yM (l:List UInt8)(w:World)(h:40<l.length) :
  Calls Tryz.prog 84 #[.string ⟨l.toArray⟩] w fun e w'=>e=pan 4/\Below w.heap.size w w':=by
 go_enter Tryz.func84,Tryz.ntmps84
 go_wp2_with fail
 rw[show decide ((l.length:Int)<=40)=false from by simp;omega]
 refine (au _).mono ?_
 rintro e w' ⟨rfl,rfl⟩
 go_wp2_with fail
 exact⟨rfl,rfl,(Below.refl _ _).alloc (Nat.le_refl _) _⟩
theorem kx (l:List UInt8)(c:UInt8)(h:Vm.has c l=false):Vm.fst c l=l:=by
 have h1:=lD (. != c) l
 have h2:¬ (Vm.fst c l).length<l.length:=fun hh=>by have:=(lE l c).2 hh;rw[h] at this;cases this
 have h3:=yJ (. != c) l
 unfold Vm.fst at *
 rw[List.take_of_length_le (by omega)] at h1
 exact h1.symm
theorem i7 (c:UInt8)(l:List UInt8):(Vm.snd c l).length<=l.length:=by
 unfold Vm.snd
 have h:l.takeWhile (. != c)++l.dropWhile (. != c)=l:=List.takeWhile_append_dropWhile
 have:=congrArg List.length h;rw[List.length_append] at this
 rw[List.length_drop];omega
def ended (e p q:List UInt8):Ending:=if Vm.epOk e&&(Vm.partOk p&&Vm.partOk q) then .returned (.agg #[.string ⟨e.toArray⟩,.string ⟨p.toArray⟩,.string ⟨q.toArray⟩]) else pan 5
def parsed (l:List UInt8):Ending:=ended (Vm.ep l) (Vm.pt l) (Vm.rv l)
theorem pieces (l:List UInt8):∃ r,Vm.rest l=r/\r.length<=l.length /\
  ((Vm.has 58 l=true/\Vm.fst 58 l=Vm.ep l/\Vm.snd 58 l=r)\/(Vm.has 58 l=false/\[48]=Vm.ep l/\l=r)) /\
  ((Vm.has 45 r=true/\Vm.fst 45 r=Vm.pt l/\Vm.snd 45 r=Vm.rv l)\/(Vm.has 45 r=false/\r=Vm.pt l/\[48]=Vm.rv l)):=by
 refine⟨Vm.rest l,rfl,?_,?_,?_⟩
 ·unfold Vm.rest;split
  ·exact i7 _ _
  ·exact Nat.le_refl _
 ·unfold Vm.ep Vm.rest
  cases h:Vm.has 58 l
  ·right;exact⟨rfl,rfl,rfl⟩
  ·left;exact⟨rfl,rfl,rfl⟩
 ·unfold Vm.pt Vm.rv
  cases h:Vm.has 45 (Vm.rest l)
  ·right;exact⟨rfl,(kx _ _ h).symm,rfl⟩
  ·left;exact⟨rfl,rfl,rfl⟩
theorem yN (l:List UInt8):(Vm.ep l).length<=l.length+1:=by
 unfold Vm.ep;split
 ·have:=fp l 58;omega
 ·simp
theorem nJ (l:List UInt8):(Vm.pt l).length<=l.length:=by
 unfold Vm.pt
 have h1:=fp (Vm.rest l) 45
 obtain⟨r,h2,h3,_⟩:=pieces l
 rw[h2] at h1 ⊢;omega
theorem nK (l:List UInt8):(Vm.rv l).length<=l.length+1:=by
 unfold Vm.rv;split
 ·have h1:=i7 45 (Vm.rest l)
  obtain⟨r,h2,h3,_⟩:=pieces l
  rw[h2] at h1 ⊢;omega
 ·simp
def Blk (w:World) (b:Nat) (x y z:List UInt8):Prop:=w.heap[b]?=some (.cells #[.string ⟨x.toArray⟩,.string ⟨y.toArray⟩,.string ⟨z.toArray⟩] 137 (0,0))
theorem aQ {w:World}{b:Nat}{x y z:List UInt8}(h:Blk w b x y z):w.cell? ⟨b,0,none⟩=some (.string ⟨x.toArray⟩)/\w.cell? ⟨b,1,none⟩=some (.string ⟨y.toArray⟩)/\w.cell? ⟨b,2,none⟩=some (.string ⟨z.toArray⟩) /\
  w.frozen? ⟨b,0,none⟩=false/\w.frozen? ⟨b,1,none⟩=false/\w.frozen? ⟨b,2,none⟩=false:=by
 unfold Blk at h
 refine⟨?_,?_,?_,?_,?_,?_⟩ <;> simp[World.cell?,World.frozen?,h]
theorem ack {w:World}{b:Nat}{x y z:List UInt8}(h:Blk w b x y z)(v:List UInt8):Blk (w.setCell ⟨b,0,none⟩ (.string ⟨v.toArray⟩)) b v y z:=by
 unfold Blk at *;simp[World.setCell,Array.getElem?_modify,h]
theorem sX {w:World}{b:Nat}{x y z:List UInt8}(h:Blk w b x y z)(v:List UInt8):Blk (w.setCell ⟨b,1,none⟩ (.string ⟨v.toArray⟩)) b x v z:=by
 unfold Blk at *;simp[World.setCell,Array.getElem?_modify,h]
theorem acm {w:World}{b:Nat}{x y z:List UInt8}(h:Blk w b x y z)(v:List UInt8):Blk (w.setCell ⟨b,2,none⟩ (.string ⟨v.toArray⟩)) b x y v:=by
 unfold Blk at *;simp[World.setCell,Array.getElem?_modify,h]
theorem hJ {w:World}{b c i:Nat}{x y z:List UInt8}(h:Blk w b x y z)(hn:c≠b)(v:Value):Blk (w.setCell ⟨c,i,none⟩ v) b x y z:=by
 unfold Blk at *;simp[World.setCell,Array.getElem?_modify,h,hn]
def PSt (w W:World) (x y z:List UInt8):Prop:=Below w.heap.size w W/\W.heap.size=w.heap.size+2/\Blk W w.heap.size [] [] []/\Blk W (w.heap.size+1) x y z
theorem xr (w:World)(l:List UInt8):PSt w ((w.alloc (.cells #[.string ⟨#[]⟩,.string ⟨#[]⟩,.string ⟨#[]⟩] 137)).alloc (.cells #[.string ⟨#[48]⟩,.string ⟨l.toArray⟩,.string ⟨#[48]⟩] 137)) [48] l [48]:=by
 refine⟨((Below.refl _ _).alloc (Nat.le_refl _) _).alloc (by simp) _,by simp,?_,?_⟩
 ·unfold Blk
  rw[Below.heap_alloc _ _ _ (by simp)];exact heap_alloc_new w _
 ·have h:=heap_alloc_new (w.alloc (.cells #[.string ⟨#[]⟩,.string ⟨#[]⟩,.string ⟨#[]⟩] 137)) (.cells #[.string ⟨#[48]⟩,.string ⟨l.toArray⟩,.string ⟨#[48]⟩] 137)
  rw[show (w.alloc (.cells #[.string ⟨#[]⟩,.string ⟨#[]⟩,.string ⟨#[]⟩] 137)).heap.size=w.heap.size+1 from by simp] at h
  exact h
theorem eS {w W W':World}{x y z:List UInt8}(h:PSt w W x y z)(hd:∃ n,W'=W.drewN n):PSt w W' x y z:=by
 obtain⟨n,rfl⟩:=hd
 exact⟨below_drewN h.1 n,h.2.1,h.2.2.1,h.2.2.2⟩
theorem aah {w W:World}{x y z:List UInt8}(h:PSt w W x y z)(a b:List UInt8):PSt w ((W.setCell ⟨w.heap.size+1,0,none⟩ (.string ⟨a.toArray⟩)).setCell ⟨w.heap.size+1,1,none⟩ (.string ⟨b.toArray⟩)) a b z :=
 ⟨(h.1.setCell (Nat.le_succ _) _).setCell (Nat.le_succ _) _,by simp only[World.setCell,Array.size_modify];exact h.2.1,hJ (hJ h.2.2.1 (by omega) _) (by omega) _,sX (ack h.2.2.2 a) b⟩
theorem aai {w W:World}{x y z:List UInt8}(h:PSt w W x y z)(a b:List UInt8):PSt w ((W.setCell ⟨w.heap.size+1,1,none⟩ (.string ⟨a.toArray⟩)).setCell ⟨w.heap.size+1,2,none⟩ (.string ⟨b.toArray⟩)) x a b :=
 ⟨(h.1.setCell (Nat.le_succ _) _).setCell (Nat.le_succ _) _,by simp only[World.setCell,Array.size_modify];exact h.2.1,hJ (hJ h.2.2.1 (by omega) _) (by omega) _,acm (sX h.2.2.2 a) b⟩
theorem qq (l:List UInt8)(w:World)(hw:MaxOk w)(h:l.length<=40) :
  Calls Tryz.prog 84 #[.string ⟨l.toArray⟩] w fun e w'=>e=parsed l/\Below w.heap.size w w':=by
 obtain⟨r,_,ay,hA,hB⟩:=pieces l
 have le:=yN l
 have lp:=nJ l
 have lq:=nK l
 have HP:Hid (parsed l=ended (Vm.ep l) (Vm.pt l) (Vm.rv l)):=rfl
 generalize Vm.ep l=e at *
 generalize Vm.pt l=p at *
 generalize Vm.rv l=q at *
 have ax:∀ (W:World) (x y z:List UInt8),PSt w W x y z->MaxOk W:=fun W x y z hb=>ag hw hb.1
 have HW:=zh ax
 clear hw ax
 rcases hA with⟨a1,a2,a3⟩ | ⟨a1,a2,a3⟩
 ·have A1:=zh a1
  clear a1
  go_enter Tryz.func84,Tryz.ntmps84
  go_wp2_with fail
  rw[show decide ((l.length:Int)<=40)=true from by simp;omega]
  refine (ak _).mono ?_
  rintro e0 w0 ⟨rfl,rfl⟩
  go_wp2_with fail
  have ao:=zh (xr w l)
  refine (lG l 58 _ (HW.out _ _ _ _ ao.out) (by omega) A1.out).mono ?_
  rintro e1 w1 ⟨g1,g2⟩;subst g1
  have HS:=zh (eS ao.out g2)
  clear g2 ao
  obtain⟨ad,ae,af,ah,ai,aj⟩:=aQ HS.out.2.2.2
  go_wp2_with fail
  rcases hB with⟨b1,b2,b3⟩ | ⟨b1,b2,b3⟩
  ·have B1:=zh b1
   clear b1
   have al:Hid (PSt w ((w1.setCell ⟨w.heap.size+1,0,none⟩ (.string ⟨e.toArray⟩)).setCell ⟨w.heap.size+1,1,none⟩ (.string ⟨r.toArray⟩)) e r [48]):=aah HS.out e r
   refine (lG r 45 _ (HW.out _ _ _ _ al.out) (by omega) B1.out).mono ?_
   rintro e2 w2 ⟨g1,g2⟩;subst g1
   have an:=zh (eS al.out g2)
   clear g2 al HS ad ae af ah ai aj
   have HS:=an
   clear an
   obtain⟨ad,ae,af,ah,ai,aj⟩:=aQ HS.out.2.2.2
   go_wp2_with fail
   have am:Hid (PSt w ((w2.setCell ⟨w.heap.size+1,1,none⟩ (.string ⟨p.toArray⟩)).setCell ⟨w.heap.size+1,2,none⟩ (.string ⟨q.toArray⟩)) e p q):=aai HS.out p q
   cases he:Vm.epOk e
   ·have aa:=zh he
    clear he
    refine (dp e _ (by omega) aa.out).mono ?_
    rintro e2 w2 ⟨g1,g2⟩;subst g1
    have HB:=zh (g2 ▸ am.out.1:Below w.heap.size w w2)
    clear g2
    go_wp2_with fail
    exact⟨rfl,by rw[HP.out,ended,aa.out];rfl,HB.out⟩
   ·have aa:=zh he
    clear he
    refine (cZ e _ (by omega) aa.out).mono ?_
    rintro e2 w2 ⟨g1,g2⟩;subst g1
    have ac:=zh (g2 ▸ am.out:PSt w w2 e p q)
    clear g2 ad ae af ah ai aj HS am
    obtain⟨ad,ae,af,ah,ai,aj⟩:=aQ ac.out.2.2.2
    obtain⟨ap,aq,ar,au,av,aw⟩:=aQ ac.out.2.2.1
    go_wp2_with fail
    cases hp:Vm.partOk p
    ·have ab:=zh hp
     clear hp
     refine (bz p _ (by omega) ab.out).mono ?_
     rintro e3 w3 ⟨g1,g2⟩;subst g1
     have HB:=zh (g2 ▸ ac.out.1:Below w.heap.size w w3)
     clear g2
     go_wp2_with fail
     exact⟨rfl,by rw[HP.out,ended,aa.out,ab.out];rfl,HB.out⟩
    ·have ab:=zh hp
     clear hp
     refine (bu p _ (by omega) ab.out).mono ?_
     rintro e3 w3 ⟨g1,g2⟩;subst g2;subst g1
     go_wp2_with fail
     cases hq:Vm.partOk q
     ·have HEq:=zh hq
      clear hq
      refine (bz q _ (by omega) HEq.out).mono ?_
      rintro e3 w3 ⟨g1,g2⟩;subst g1
      have HB:=zh (g2 ▸ ac.out.1:Below w.heap.size w w3)
      clear g2
      go_wp2_with fail
      exact⟨rfl,by rw[HP.out,ended,aa.out,ab.out,HEq.out];rfl,HB.out⟩
     ·have HEq:=zh hq
      clear hq
      refine (bu q _ (by omega) HEq.out).mono ?_
      rintro e3 w3 ⟨g1,g2⟩;subst g2;subst g1
      go_wp2_with fail
      refine bodyPost_ret (v:=.agg #[.string ⟨e.toArray⟩,.string ⟨p.toArray⟩,.string ⟨q.toArray⟩]) (by simp[results,Tryz.results84,go_sem,ap,aq,ar]) rfl ⟨by rw[HP.out,ended,aa.out,ab.out,HEq.out];rfl,?_⟩
      exact ((ac.out.1.setCell (Nat.le_refl _) _).setCell (Nat.le_refl _) _).setCell (Nat.le_refl _) _
  ·have B1:=zh b1
   clear b1
   subst b2 b3
   have al:Hid (PSt w ((w1.setCell ⟨w.heap.size+1,0,none⟩ (.string ⟨e.toArray⟩)).setCell ⟨w.heap.size+1,1,none⟩ (.string ⟨r.toArray⟩)) e r [48]):=aah HS.out e r
   refine (nI r 45 _ (HW.out _ _ _ _ al.out) (by omega) B1.out).mono ?_
   rintro e2 w2 ⟨g1,g2⟩;subst g1
   have an:=zh (eS al.out g2)
   clear g2 al HS ad ae af ah ai aj
   have HS:=an
   clear an
   obtain⟨ad,ae,af,ah,ai,aj⟩:=aQ HS.out.2.2.2
   go_wp2_with fail
   have am:Hid (PSt w w2 e r [48]):=HS.out
   cases he:Vm.epOk e
   ·have aa:=zh he
    clear he
    refine (dp e _ (by omega) aa.out).mono ?_
    rintro e2 w2 ⟨g1,g2⟩;subst g1
    have HB:=zh (g2 ▸ am.out.1:Below w.heap.size w w2)
    clear g2
    go_wp2_with fail
    exact⟨rfl,by rw[HP.out,ended,aa.out];rfl,HB.out⟩
   ·have aa:=zh he
    clear he
    refine (cZ e _ (by omega) aa.out).mono ?_
    rintro e2 w2 ⟨g1,g2⟩;subst g1
    have ac:=zh (g2 ▸ am.out:PSt w w2 e r [48])
    clear g2 ad ae af ah ai aj HS am
    obtain⟨ad,ae,af,ah,ai,aj⟩:=aQ ac.out.2.2.2
    obtain⟨ap,aq,ar,au,av,aw⟩:=aQ ac.out.2.2.1
    go_wp2_with fail
    cases hp:Vm.partOk r
    ·have ab:=zh hp
     clear hp
     refine (bz r _ (by omega) ab.out).mono ?_
     rintro e3 w3 ⟨g1,g2⟩;subst g1
     have HB:=zh (g2 ▸ ac.out.1:Below w.heap.size w w3)
     clear g2
     go_wp2_with fail
     exact⟨rfl,by rw[HP.out,ended,aa.out,ab.out];rfl,HB.out⟩
    ·have ab:=zh hp
     clear hp
     refine (bu r _ (by omega) ab.out).mono ?_
     rintro e3 w3 ⟨g1,g2⟩;subst g2;subst g1
     go_wp2_with fail
     cases hq:Vm.partOk [48]
     ·have HEq:=zh hq
      clear hq
      refine (bz [48] _ (by simp) HEq.out).mono ?_
      rintro e3 w3 ⟨g1,g2⟩;subst g1
      have HB:=zh (g2 ▸ ac.out.1:Below w.heap.size w w3)
      clear g2
      go_wp2_with fail
      exact⟨rfl,by rw[HP.out,ended,aa.out,ab.out,HEq.out];rfl,HB.out⟩
     ·have HEq:=zh hq
      clear hq
      refine (bu [48] _ (by simp) HEq.out).mono ?_
      rintro e3 w3 ⟨g1,g2⟩;subst g2;subst g1
      go_wp2_with fail
      refine bodyPost_ret (v:=.agg #[.string ⟨e.toArray⟩,.string ⟨r.toArray⟩,.string ⟨#[48]⟩]) (by simp[results,Tryz.results84,go_sem,ap,aq,ar]) rfl ⟨by rw[HP.out,ended,aa.out,ab.out,HEq.out];rfl,?_⟩
      exact ((ac.out.1.setCell (Nat.le_refl _) _).setCell (Nat.le_refl _) _).setCell (Nat.le_refl _) _
 ·have A1:=zh a1
  clear a1
  subst a2 a3
  go_enter Tryz.func84,Tryz.ntmps84
  go_wp2_with fail
  rw[show decide ((l.length:Int)<=40)=true from by simp;omega]
  refine (ak _).mono ?_
  rintro e0 w0 ⟨rfl,rfl⟩
  go_wp2_with fail
  have ao:=zh (xr w l)
  refine (nI l 58 _ (HW.out _ _ _ _ ao.out) (by omega) A1.out).mono ?_
  rintro e1 w1 ⟨g1,g2⟩;subst g1
  have HS:=zh (eS ao.out g2)
  clear g2 ao
  obtain⟨ad,ae,af,ah,ai,aj⟩:=aQ HS.out.2.2.2
  go_wp2_with fail
  rcases hB with⟨b1,b2,b3⟩ | ⟨b1,b2,b3⟩
  ·have B1:=zh b1
   clear b1
   have al:Hid (PSt w w1 [48] l [48]):=HS.out
   refine (lG l 45 _ (HW.out _ _ _ _ al.out) (by omega) B1.out).mono ?_
   rintro e2 w2 ⟨g1,g2⟩;subst g1
   have an:=zh (eS al.out g2)
   clear g2 al HS ad ae af ah ai aj
   have HS:=an
   clear an
   obtain⟨ad,ae,af,ah,ai,aj⟩:=aQ HS.out.2.2.2
   go_wp2_with fail
   have am:Hid (PSt w ((w2.setCell ⟨w.heap.size+1,1,none⟩ (.string ⟨p.toArray⟩)).setCell ⟨w.heap.size+1,2,none⟩ (.string ⟨q.toArray⟩)) [48] p q):=aai HS.out p q
   cases he:Vm.epOk [48]
   ·have aa:=zh he
    clear he
    refine (dp [48] _ (by simp) aa.out).mono ?_
    rintro e2 w2 ⟨g1,g2⟩;subst g1
    have HB:=zh (g2 ▸ am.out.1:Below w.heap.size w w2)
    clear g2
    go_wp2_with fail
    exact⟨rfl,by rw[HP.out,ended,aa.out];rfl,HB.out⟩
   ·have aa:=zh he
    clear he
    refine (cZ [48] _ (by simp) aa.out).mono ?_
    rintro e2 w2 ⟨g1,g2⟩;subst g1
    have ac:=zh (g2 ▸ am.out:PSt w w2 [48] p q)
    clear g2 ad ae af ah ai aj HS am
    obtain⟨ad,ae,af,ah,ai,aj⟩:=aQ ac.out.2.2.2
    obtain⟨ap,aq,ar,au,av,aw⟩:=aQ ac.out.2.2.1
    go_wp2_with fail
    cases hp:Vm.partOk p
    ·have ab:=zh hp
     clear hp
     refine (bz p _ (by omega) ab.out).mono ?_
     rintro e3 w3 ⟨g1,g2⟩;subst g1
     have HB:=zh (g2 ▸ ac.out.1:Below w.heap.size w w3)
     clear g2
     go_wp2_with fail
     exact⟨rfl,by rw[HP.out,ended,aa.out,ab.out];rfl,HB.out⟩
    ·have ab:=zh hp
     clear hp
     refine (bu p _ (by omega) ab.out).mono ?_
     rintro e3 w3 ⟨g1,g2⟩;subst g2;subst g1
     go_wp2_with fail
     cases hq:Vm.partOk q
     ·have HEq:=zh hq
      clear hq
      refine (bz q _ (by omega) HEq.out).mono ?_
      rintro e3 w3 ⟨g1,g2⟩;subst g1
      have HB:=zh (g2 ▸ ac.out.1:Below w.heap.size w w3)
      clear g2
      go_wp2_with fail
      exact⟨rfl,by rw[HP.out,ended,aa.out,ab.out,HEq.out];rfl,HB.out⟩
     ·have HEq:=zh hq
      clear hq
      refine (bu q _ (by omega) HEq.out).mono ?_
      rintro e3 w3 ⟨g1,g2⟩;subst g2;subst g1
      go_wp2_with fail
      refine bodyPost_ret (v:=.agg #[.string ⟨#[48]⟩,.string ⟨p.toArray⟩,.string ⟨q.toArray⟩]) (by simp[results,Tryz.results84,go_sem,ap,aq,ar]) rfl ⟨by rw[HP.out,ended,aa.out,ab.out,HEq.out];rfl,?_⟩
      exact ((ac.out.1.setCell (Nat.le_refl _) _).setCell (Nat.le_refl _) _).setCell (Nat.le_refl _) _
  ·have B1:=zh b1
   clear b1
   subst b2 b3
   have al:Hid (PSt w w1 [48] l [48]):=HS.out
   refine (nI l 45 _ (HW.out _ _ _ _ al.out) (by omega) B1.out).mono ?_
   rintro e2 w2 ⟨g1,g2⟩;subst g1
   have an:=zh (eS al.out g2)
   clear g2 al HS ad ae af ah ai aj
   have HS:=an
   clear an
   obtain⟨ad,ae,af,ah,ai,aj⟩:=aQ HS.out.2.2.2
   go_wp2_with fail
   have am:Hid (PSt w w2 [48] l [48]):=HS.out
   cases he:Vm.epOk [48]
   ·have aa:=zh he
    clear he
    refine (dp [48] _ (by simp) aa.out).mono ?_
    rintro e2 w2 ⟨g1,g2⟩;subst g1
    have HB:=zh (g2 ▸ am.out.1:Below w.heap.size w w2)
    clear g2
    go_wp2_with fail
    exact⟨rfl,by rw[HP.out,ended,aa.out];rfl,HB.out⟩
   ·have aa:=zh he
    clear he
    refine (cZ [48] _ (by simp) aa.out).mono ?_
    rintro e2 w2 ⟨g1,g2⟩;subst g1
    have ac:=zh (g2 ▸ am.out:PSt w w2 [48] l [48])
    clear g2 ad ae af ah ai aj HS am
    obtain⟨ad,ae,af,ah,ai,aj⟩:=aQ ac.out.2.2.2
    obtain⟨ap,aq,ar,au,av,aw⟩:=aQ ac.out.2.2.1
    go_wp2_with fail
    cases hp:Vm.partOk l
    ·have ab:=zh hp
     clear hp
     refine (bz l _ (by omega) ab.out).mono ?_
     rintro e3 w3 ⟨g1,g2⟩;subst g1
     have HB:=zh (g2 ▸ ac.out.1:Below w.heap.size w w3)
     clear g2
     go_wp2_with fail
     exact⟨rfl,by rw[HP.out,ended,aa.out,ab.out];rfl,HB.out⟩
    ·have ab:=zh hp
     clear hp
     refine (bu l _ (by omega) ab.out).mono ?_
     rintro e3 w3 ⟨g1,g2⟩;subst g2;subst g1
     go_wp2_with fail
     cases hq:Vm.partOk [48]
     ·have HEq:=zh hq
      clear hq
      refine (bz [48] _ (by simp) HEq.out).mono ?_
      rintro e3 w3 ⟨g1,g2⟩;subst g1
      have HB:=zh (g2 ▸ ac.out.1:Below w.heap.size w w3)
      clear g2
      go_wp2_with fail
      exact⟨rfl,by rw[HP.out,ended,aa.out,ab.out,HEq.out];rfl,HB.out⟩
     ·have HEq:=zh hq
      clear hq
      refine (bu [48] _ (by simp) HEq.out).mono ?_
      rintro e3 w3 ⟨g1,g2⟩;subst g2;subst g1
      go_wp2_with fail
      refine bodyPost_ret (v:=.agg #[.string ⟨#[48]⟩,.string ⟨l.toArray⟩,.string ⟨#[48]⟩]) (by simp[results,Tryz.results84,go_sem,ap,aq,ar]) rfl ⟨by rw[HP.out,ended,aa.out,ab.out,HEq.out];rfl,?_⟩
      exact ((ac.out.1.setCell (Nat.le_refl _) _).setCell (Nat.le_refl _) _).setCell (Nat.le_refl _) _
end
section
open Go.RowKit
theorem ia (n:Nat):∀ l:List UInt8,(Vm.canonP n l).length<=2*l.length:=by
 induction n with
 | zero=>intro l;simp[Vm.canonP]
 | succ n ih =>
  intro l
  cases h:l.isEmpty
  ·rw[fg n l h]
   have h1:=mc l
   have h2:=ef (Vm.digs l)
   have h3:=ih (Vm.tail2 l)
   have h4:=cf l h
   simp only[List.length_append]
   omega
  ·rw[fX _ l h];simp
def textOf (e p q:List UInt8):List UInt8:=(if Vm.bare e==[48] then [] else Vm.bare e++[58])++Vm.canonP 41 p++(if Vm.canonP 41 q==[48] then [] else 45 :: Vm.canonP 41 q)
theorem qt (l:List UInt8)(h:l≠[]):Vm.canonP 41 l≠[]:=by
 rw[fg 40 l (by simpa using h)]
 have:Vm.bare (Vm.digs l)≠[]:=by
  unfold Vm.bare;split
  ·simp
  ·rename_i h;simpa using h
 simp[this]
theorem ky {w:World}{B:Nat}{ad:Addr}{n c:Nat}{l:List UInt8}(h:Own w B (.slice (some ad) n c) l):∀ j u,(Lib.strCells ⟨l.toArray⟩)[j]?=some u->w.cell? (ad.add j)=some u:=by
 have h0:=h
 obtain⟨h1,h2⟩:=h
 rcases h2 with⟨h2,_⟩ | ⟨g,cap,cur,h2,_⟩
 ·cases h2
 ·obtain rfl:ad=⟨g,0,none⟩:=by injection h2 with h2;exact Option.some.inj h2
  exact World.ownsRow.cells h0 rfl
theorem kz (w:World)(x:Value)(T:TypeId)(b:UInt8)(hx:x=.int .u8 b.toNat):∀ j u,(Lib.strCells ⟨[b].toArray⟩)[j]?=some u->(w.alloc (.cells #[x] T)).cell? ((⟨w.heap.size,0,none⟩:Addr).add j)=some u:=by
 subst hx
 intro j u h
 match j,h with
 | 0,h =>
  simp[Lib.strCells] at h
  subst h
  simp[Addr.add]
theorem acn (e p q:List UInt8)(w:World)(he:e.length<=41)(hp:p.length<=41)(hq:q.length<=41)(hp0:p≠[])(hq0:q≠[])(hap:ascii p)(haq:ascii q) :
  Calls Tryz.prog 251 #[.agg #[.string ⟨e.toArray⟩,.string ⟨p.toArray⟩,.string ⟨q.toArray⟩]] w fun r w'=>r=.returned (.string ⟨(textOf e p q).toArray⟩)/\Below w.heap.size w w':=by
 have HT:Hid (textOf e p q=(if Vm.bare e==[48] then [] else Vm.bare e++[58])++Vm.canonP 41 p++(if Vm.canonP 41 q==[48] then [] else 45 :: Vm.canonP 41 q)):=rfl
 have a9:=zh hap
 have ba:=zh haq
 have av:=zh (ef e)
 have aJ:=zh (ia 41 p)
 have aV:=zh (ia 41 q)
 have aW:=zh (qt q hq0)
 have aX:=zh (qt p hp0)
 clear hap haq hp0 hq0
 go_enter Tryz.func251,Tryz.ntmps251
 go_wp2_with fail
 refine (jD e _).mono ?_
 rintro _ _ ⟨rfl,rfl⟩
 obtain⟨b,hb⟩:=ex (Vm.bare e)
 rw[hb] at HT av
 rw[hb]
 clear hb
 obtain⟨W,hW⟩:=ex (w.alloc (.cells #[.string ⟨e.toArray⟩,.string ⟨p.toArray⟩,.string ⟨q.toArray⟩] 137))
 have ae:Below w.heap.size w W:=by rw[<-hW];exact (Below.refl _ _).alloc (Nat.le_refl _) _
 have bf:w.heap.size+1=W.heap.size:=by rw[<-hW];simp
 have aK:Blk W w.heap.size e p q:=by rw[<-hW];exact heap_alloc_new w _
 rw[hW]
 clear hW
 have ap:=zh aK
 clear aK
 have ai:w.heap.size+1<=W.heap.size:=by omega
 clear bf
 cases hz:b==[48]
 ·have HZ:=zh hz
  clear hz
  have bg:(b==[48])=false:=HZ.out
  go_wp2_with (at_builtin;refine jG rfl _ _ rfl (w.heap.size+1) _ [] b rfl (aB _ _) rfl ?c1 ai ?_)
  case c1=>have:=av.out;simp;omega
  intro v0 W0 bb bc
  have a0:Hid (Own W0 (w.heap.size+1) v0 b):=bb
  have aY:=aA (aB W (w.heap.size+1)) ai bc
  have aL:Hid (Blk W0 w.heap.size e p q):=by show Blk _ _ _ _ _;unfold Blk;rw[aY.block _ (Nat.lt_succ_self _)];exact ap.out
  have aw:Below w.heap.size w W0:=ae.trans (aY.mono (Nat.le_succ _))
  have a1:w.heap.size+1<=W0.heap.size:=Nat.le_trans ai aY.size
  clear aY bb bc ap ae ai
  go_wp2_with (at_builtin;refine dw rfl _ _ rfl (w.heap.size+1) _ b [58] rfl (cP a0.out _) ⟨W0.heap.size,0,none⟩ _ rfl (kz W0 _ _ 58 rfl) ?c2 ?c3 ?_)
  case c2=>have:=av.out;simp;omega
  case c3=>simp;omega
  intro v5 W5 bd be
  have HO:Hid (Own W5 (w.heap.size+1) v5 (b++[58])):=bd
  have aZ:=aA (cP a0.out _) (by simp;omega) be
  have ap:Hid (Blk W5 w.heap.size e p q):=by show Blk _ _ _ _ _;unfold Blk;rw[aZ.block _ (Nat.lt_succ_self _),Below.heap_alloc _ _ _ (by omega)];exact aL.out
  have ae:Below w.heap.size w W5:=(aw.alloc (by omega) _).trans (aZ.mono (Nat.le_succ _))
  have ai:w.heap.size+1<=W5.heap.size:=Nat.le_trans (by simp;omega) aZ.size
  clear aZ bd be aL aw a1 a0
  obtain⟨aC,aD,aE,aF,aG,aH⟩:=aQ ap.out
  go_wp2_with fail
  refine (dH 41 (w.heap.size+1) _ (b++[58]) p _ (by omega) (by omega) (by have:=av.out;simp;omega) a9.out ai HO.out).mono ?_
  rintro r1 W1 ⟨v1,g1,aP,aq⟩
  subst g1
  have ab:=zh aP
  have aj:Hid (Blk W1 w.heap.size e p q):=by show Blk _ _ _ _ _;unfold Blk;rw[aq.block _ (Nat.lt_succ_self _)];exact ap.out
  have ac:Below w.heap.size w W1:=ae.trans (aq.mono (Nat.le_succ _))
  have af:w.heap.size+1<=W1.heap.size:=Nat.le_trans ai aq.size
  clear aq aP HO ap ai ae aC aD aE aF aG aH
  obtain⟨aC,aD,aE,aF,aG,aH⟩:=aQ aj.out
  go_wp2_with fail
  refine (dH 41 W1.heap.size _ [] q _ (by omega) (by omega) (by simp) ba.out (Nat.le_refl _) (aB _ _)).mono ?_
  rintro r2 W2 ⟨v2,g2,aI,ar⟩
  subst g2
  have ak:Hid (Own W2 W1.heap.size v2 (Vm.canonP 41 q)):=aI
  have ag:=zh (own_below ab.out ar)
  have a2:Hid (∀ k,v1.ownBlock=some k->k<W1.heap.size):=fun k hk=>(bw ab.out k hk).2
  have a3:Hid (∀ k,v2.ownBlock=some k->W1.heap.size<=k):=fun k hk=>(bw aI k hk).1
  have aa:Below w.heap.size w W2:=ac.trans (ar.mono (Nat.le_trans (Nat.le_succ _) af))
  have ax:w.heap.size+1<=W2.heap.size:=Nat.le_trans af ar.size
  clear ar aI ab aj af ac aC aD aE aF aG aH
  obtain⟨y,hy⟩:=ex (Vm.canonP 41 q)
  rw[hy] at ak HT aV aW
  obtain⟨x,hx⟩:=ex (Vm.canonP 41 p)
  rw[hx] at ag HT aJ aX
  clear hy hx
  obtain⟨X,hX⟩:=ex (b++[58]++x)
  have bh:X.length<=300:=by rw[<-hX];have:=aJ.out;have:=av.out;simp;omega
  have aM:Hid (textOf e p q=X++(if y==[48] then [] else 45 :: y)):=by show _=_;rw[HT.out,HZ.out,<-hX];rfl
  have ab:Hid (Own W2 (w.heap.size+1) v1 X):=by show Own _ _ _ _;rw[<-hX];exact ag.out
  clear hX HT HZ ag aJ aX av
  have a4:=dG ak.out
  obtain⟨an,aR,rfl,ao,-⟩:=cz ak.out aW.out
  have aN:=zh ao
  clear ao
  cases aO:y==[48]
  ·have ay:Hid (textOf e p q=X++(45 :: y)):=by show _=_;rw[aM.out,aO];rfl
   have a5:Hid ((Value.slice (some an) y.length aR).ownBlock=none\/(Value.slice (some an) y.length aR).ownBlock≠v1.ownBlock):=by
    refine Or.inr fun h=>?_
    have h1:=a3.out an.block aN.out
    have h2:=a2.out an.block (h ▸ aN.out)
    omega
   have a6:Hid (Below w.heap.size w W2):=aa
   go_wp2_with (at_builtin;refine dw rfl _ _ rfl (w.heap.size+1) _ X [45] rfl (cP ab.out _) ⟨W2.heap.size,0,none⟩ _ rfl (kz W2 _ _ 45 rfl) ?c2 ?c3 ?_)
   case c2=>simp;omega
   case c3=>simp;omega
   intro v3 W3 aS au
   have az:=zh aS
   have al:=zh (bP (cP ak.out _) au a5.out)
   have ad:Below w.heap.size w W3:=(aa.alloc (by omega) _).trans ((aA (cP ab.out _) (by simp;omega) au).mono (Nat.le_succ _))
   have ah:w.heap.size+1<=W3.heap.size:=Nat.le_trans (by simp;omega) au.size
   clear aS au ak ab a4 aa ax a6
   go_wp2_with (at_builtin;refine dw rfl _ _ rfl (w.heap.size+1) _ (X++[45]) y rfl az.out an _ rfl (ky al.out) ?c4 ah ?_)
   case c4=>have:=aV.out;simp;omega
   intro v4 W4 aT aU
   have am:Below w.heap.size w W4:=ad.trans ((aA az.out ah aU).mono (Nat.le_succ _))
   have a7:=dG aT
   clear aT aU az al ad ah
   go_wp2_with fail
   go_ret
   exact⟨by rw[ay.out];simp,am⟩
  ·have ay:Hid (textOf e p q=X):=by show _=_;rw[aM.out,aO];simp
   have a8:=dG ab.out
   go_wp2_with fail
   go_ret
   exact⟨by rw[ay.out];rfl,aa⟩
 ·have HZ:=zh hz
  clear hz
  have bg:(b==[48])=true:=HZ.out
  have HO:Hid (Own W (w.heap.size+1) (.slice none 0 0) []):=aB _ _
  obtain⟨aC,aD,aE,aF,aG,aH⟩:=aQ ap.out
  go_wp2_with fail
  refine (dH 41 (w.heap.size+1) _ [] p _ (by omega) (by omega) (by simp) a9.out ai HO.out).mono ?_
  rintro r1 W1 ⟨v1,g1,aP,aq⟩
  subst g1
  have ab:=zh aP
  have aj:Hid (Blk W1 w.heap.size e p q):=by show Blk _ _ _ _ _;unfold Blk;rw[aq.block _ (Nat.lt_succ_self _)];exact ap.out
  have ac:Below w.heap.size w W1:=ae.trans (aq.mono (Nat.le_succ _))
  have af:w.heap.size+1<=W1.heap.size:=Nat.le_trans ai aq.size
  clear aq aP HO ap ai ae aC aD aE aF aG aH
  obtain⟨aC,aD,aE,aF,aG,aH⟩:=aQ aj.out
  go_wp2_with fail
  refine (dH 41 W1.heap.size _ [] q _ (by omega) (by omega) (by simp) ba.out (Nat.le_refl _) (aB _ _)).mono ?_
  rintro r2 W2 ⟨v2,g2,aI,ar⟩
  subst g2
  have ak:Hid (Own W2 W1.heap.size v2 (Vm.canonP 41 q)):=aI
  have ag:=zh (own_below ab.out ar)
  have a2:Hid (∀ k,v1.ownBlock=some k->k<W1.heap.size):=fun k hk=>(bw ab.out k hk).2
  have a3:Hid (∀ k,v2.ownBlock=some k->W1.heap.size<=k):=fun k hk=>(bw aI k hk).1
  have aa:Below w.heap.size w W2:=ac.trans (ar.mono (Nat.le_trans (Nat.le_succ _) af))
  have ax:w.heap.size+1<=W2.heap.size:=Nat.le_trans af ar.size
  clear ar aI ab aj af ac aC aD aE aF aG aH
  obtain⟨y,hy⟩:=ex (Vm.canonP 41 q)
  rw[hy] at ak HT aV aW
  obtain⟨x,hx⟩:=ex (Vm.canonP 41 p)
  rw[hx] at ag HT aJ aX
  clear hy hx
  obtain⟨X,hX⟩:=ex ([]++x)
  have bh:X.length<=300:=by rw[<-hX];have:=aJ.out;have:=av.out;simp;omega
  have aM:Hid (textOf e p q=X++(if y==[48] then [] else 45 :: y)):=by show _=_;rw[HT.out,HZ.out,<-hX];rfl
  have ab:Hid (Own W2 (w.heap.size+1) v1 X):=by show Own _ _ _ _;rw[<-hX];exact ag.out
  clear hX HT HZ ag aJ aX av
  have a4:=dG ak.out
  obtain⟨an,aR,rfl,ao,-⟩:=cz ak.out aW.out
  have aN:=zh ao
  clear ao
  cases aO:y==[48]
  ·have ay:Hid (textOf e p q=X++(45 :: y)):=by show _=_;rw[aM.out,aO];rfl
   have a5:Hid ((Value.slice (some an) y.length aR).ownBlock=none\/(Value.slice (some an) y.length aR).ownBlock≠v1.ownBlock):=by
    refine Or.inr fun h=>?_
    have h1:=a3.out an.block aN.out
    have h2:=a2.out an.block (h ▸ aN.out)
    omega
   have a6:Hid (Below w.heap.size w W2):=aa
   go_wp2_with (at_builtin;refine dw rfl _ _ rfl (w.heap.size+1) _ X [45] rfl (cP ab.out _) ⟨W2.heap.size,0,none⟩ _ rfl (kz W2 _ _ 45 rfl) ?c2 ?c3 ?_)
   case c2=>simp;omega
   case c3=>simp;omega
   intro v3 W3 aS au
   have az:=zh aS
   have al:=zh (bP (cP ak.out _) au a5.out)
   have ad:Below w.heap.size w W3:=(aa.alloc (by omega) _).trans ((aA (cP ab.out _) (by simp;omega) au).mono (Nat.le_succ _))
   have ah:w.heap.size+1<=W3.heap.size:=Nat.le_trans (by simp;omega) au.size
   clear aS au ak ab a4 aa ax a6
   go_wp2_with (at_builtin;refine dw rfl _ _ rfl (w.heap.size+1) _ (X++[45]) y rfl az.out an _ rfl (ky al.out) ?c4 ah ?_)
   case c4=>have:=aV.out;simp;omega
   intro v4 W4 aT aU
   have am:Below w.heap.size w W4:=ad.trans ((aA az.out ah aU).mono (Nat.le_succ _))
   have a7:=dG aT
   clear aT aU az al ad ah
   go_wp2_with fail
   go_ret
   exact⟨by rw[ay.out];simp,am⟩
  ·have ay:Hid (textOf e p q=X):=by show _=_;rw[aM.out,aO];simp
   have a8:=dG ab.out
   go_wp2_with fail
   go_ret
   exact⟨by rw[ay.out];rfl,aa⟩
end
end Go.Proofs.YtgnaiidgjmicaaaGreatDoor
