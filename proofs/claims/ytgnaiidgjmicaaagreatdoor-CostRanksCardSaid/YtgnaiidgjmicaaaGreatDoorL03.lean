/- Part 3 of what the laws lean on. -/
import Derived.Test.YtgnaiidgjmicaaaGreatDoorL02
set_option maxHeartbeats 800000
namespace Go.Proofs.YtgnaiidgjmicaaaGreatDoor
namespace Rs
open Go.RowKit Go.ChangeShapes Go.WideShapes Go.Joins
instance:Inhabited Sp:=⟨⟨[],[],false,false⟩⟩
def SpAt (w:World) (a:Addr) (s:Sp):Prop :=
 w.cell? (a.add 0)=some (.string ⟨s.lo.toArray⟩)/\w.cell? (a.add 1)=some (.string ⟨s.hi.toArray⟩)/\w.cell? (a.add 2)=some (.bool s.li)/\w.cell? (a.add 3)=some (.bool s.hn)
def SRow (w:World) (A:Option Addr) (l:List Sp):Prop:=0<l.length->∃ a,A=some a/\a.block<w.heap.size/\∀ (i:Nat) (h:i<l.length),SpAt w (a.add (i*4)) l[i]
end Rs
namespace Rs
open Go.RowKit Go.ChangeShapes Go.WideShapes
def spC (s:Sp):List Value:=[.string ⟨s.lo.toArray⟩,.string ⟨s.hi.toArray⟩,.bool s.li,.bool s.hn]
def flat (l:List Sp):List Value:=l.flatMap spC
theorem mn (s:Sp)(l:List Sp):flat (s :: l)=spC s++flat l:=rfl
theorem flat_get:∀ (l:List Sp) (i:Nat) (h:i<l.length) (j:Nat),j<4->(flat l)[i*4+j]?=(spC l[i])[j]?
 | [],_,h,_,_=>absurd h (by simp)
 | s :: l,0,_,j,hj=>by
  rw[mn,List.getElem?_append_left (by show 0*4+j<4;omega),Nat.zero_mul,Nat.zero_add];rfl
 | s :: l,i+1,h,j,hj=>by
  rw[mn,List.getElem?_append_right (by show 4<=_;omega)]
  rw[show (i+1)*4+j-(spC s).length=i*4+j from by show (i+1)*4+j-4=_;omega]
  exact flat_get l i (by simpa using h) j hj
def SOwn (w:World) (B:Nat) (T:TypeId) (v:Value) (l:List Sp):Prop:=w.ownsRow B T 4 v l.length (flat l)
theorem wL {w:World}{B:Nat}{T:TypeId}{v:Value}{l:List Sp}(h:SOwn w B T v l):∃ A c,v=.slice A l.length c/\SRow w A l:=by
 have h0:=h
 rcases h.2 with⟨rfl,h1⟩ | ⟨g,cap,cur,rfl,hb,hg,hn,hm,hs,ht⟩
 ·refine⟨none,0,by rw[h1],fun h2=>by omega⟩
 ·refine⟨_,_,rfl,fun h2=>⟨_,rfl,?_,fun i hi=>?_⟩⟩
  ·exact (Array.getElem?_eq_some_iff.1 hg).1
  ·have hc:=World.ownsRow.cells h0 (g:=g) rfl
   have key:∀ j u,j<4->(spC l[i])[j]?=some u->w.cell? (((⟨g,0,none⟩:Addr).add (i*4)).add j)=some u:=fun j u hj hu=>by
    rw[Go.Deep.add_add]
    exact hc _ _ (by rw[flat_get l i hi j hj];exact hu)
   exact⟨key 0 _ (by omega) rfl,key 1 _ (by omega) rfl,key 2 _ (by omega) rfl,key 3 _ (by omega) rfl⟩
theorem sH {w w':World}{a:Addr}{s:Sp}(h:SpAt w a s)(hb:Below w.heap.size w w'):SpAt w' a s:=by
 obtain⟨h0,h1,h2,h3⟩:=h
 exact⟨by rw[hb.cell (bH h0)];exact h0,by rw[hb.cell (bH h1)];exact h1,by rw[hb.cell (bH h2)];exact h2,by rw[hb.cell (bH h3)];exact h3⟩
theorem aL {w w':World}{A:Option Addr}{l:List Sp}(h:SRow w A l)(hb:Below w.heap.size w w'):SRow w' A l:=fun h0=>by
 obtain⟨a,e,hl,hc⟩:=h h0
 exact⟨a,e,Nat.lt_of_lt_of_le hl hb.size,fun i hi=>sH (hc i hi) hb⟩
end Rs
section
open Go.RowKit
theorem beq46 (c:UInt8):((c.toNat:Int)==46)=(c.toNat==46):=by rw[Bool.eq_iff_iff];simp;omega
theorem beq43 (c:UInt8):((c.toNat:Int)==43)=(c.toNat==43):=by rw[Bool.eq_iff_iff];simp;omega
theorem beq126 (c:UInt8):((c.toNat:Int)==126)=(c.toNat==126):=by rw[Bool.eq_iff_iff];simp;omega
theorem dx (c:UInt8)(w:World) :
  Calls Tryz.prog 160 #[.int .u8 c.toNat] w fun e w'=>e=.returned (.bool (Vm.dig c))/\w=w':=by
 unfold Vm.dig
 by_cases h1:48<=c.toNat <;> by_cases h2:c.toNat<=57
 all_goals
  go_enter Tryz.func160,Tryz.ntmps160
  go_wp2
 all_goals
  go_ret
  exact⟨by first | (simp[h1,h2];done) | (simp[h1,h2];omega),rfl⟩
theorem gV (c:UInt8)(w:World) :
  Calls Tryz.prog 197 #[.int .u8 c.toNat] w fun e w'=>e=.returned (.bool (Vm.ltr c))/\w=w':=by
 unfold Vm.ltr
 by_cases h1:97<=c.toNat <;> by_cases h2:c.toNat<=122 <;> by_cases h3:65<=c.toNat <;> by_cases h4:c.toNat<=90
 all_goals
  go_enter Tryz.func197,Tryz.ntmps197
  go_wp2
 all_goals
  go_ret
  exact⟨by first | (simp[h1,h2,h3,h4];done) | (simp[h1,h2,h3,h4];omega),rfl⟩
theorem qy (c:UInt8)(w:World) :
  Calls Tryz.prog 161 #[.int .u8 c.toNat] w fun e w'=>e=.returned (.bool (Vm.oth c))/\w=w':=by
 go_enter Tryz.func161,Tryz.ntmps161
 go_wp2_with fail
 refine (gV c _).mono ?_
 rintro e w' ⟨rfl,rfl⟩
 cases hl:Vm.ltr c
 all_goals
  have HL:=zh hl
  clear hl
  go_wp2
 all_goals
  go_ret
  refine⟨?_,rfl⟩
  have hl:=HL.out
  clear HL
  unfold Vm.oth
  rw[hl]
  first | (simp[beq46,beq43,beq126];done) | (simp[beq46,beq43,beq126];omega) | (simp[beq46,beq43,beq126,Bool.or_assoc];done)
theorem uj (c:UInt8):wrap64 (c.toNat:Int)=c.toNat:=IntWalk.wrap64_in _ ⟨by omega,by have:=rE c;omega⟩
theorem wM (c:UInt8):wrap64 (256+(c.toNat:Int))=256+c.toNat:=IntWalk.wrap64_in _ ⟨by omega,by have:=rE c;omega⟩
theorem wN (l:List UInt8)(i:Nat)(h:l.length<=i):Vm.mark l i=0:=by simp[Vm.mark,h]
theorem y6 (l:List UInt8)(i:Nat)(h:i<l.length):Vm.mark l i=Vm.markB l[i]:=by
 unfold Vm.mark Vm.markB
 rw[if_neg (by omega)]
 simp[h]
theorem ot (l:List UInt8)(i:Nat)(w:World) :
  Calls Tryz.prog 200 #[.string ⟨l.toArray⟩,.int .i64 i] w fun e w'=>e=.returned (.int .i64 (Vm.mark l i))/\w=w':=by
 by_cases h:i<l.length
 ·obtain⟨c,hc,aa⟩:=byte_at l i h
  have H:=zh (y6 l i h)
  rw[aa] at H
  clear aa
  by_cases h1:c.toNat=126
  ·have h2:((c.toNat:Int)==126)=true:=by simp[h1]
   have H1:=zh h1
   clear h1
   go_enter Tryz.func200,Tryz.ntmps200
   go_wp2_with fail
   go_ret
   exact⟨by rw[H.out];simp[Vm.markB,H1.out],rfl⟩
  ·have h2:((c.toNat:Int)==126)=false:=by simp;omega
   go_enter Tryz.func200,Tryz.ntmps200
   go_wp2_with fail
   refine (gV c _).mono ?_
   rintro e w' ⟨rfl,rfl⟩
   cases hl:Vm.ltr c
   all_goals
    have HL:=zh hl
    clear hl
    go_wp2
   all_goals
    go_ret
    exact⟨by rw[H.out];simp[Vm.markB,HL.out,h1,uj,wM],rfl⟩
 ·have H:=zh (wN l i (by omega))
  go_enter Tryz.func200,Tryz.ntmps200
  go_wp2_with fail
  go_ret
  exact⟨by rw[H.out];rfl,rfl⟩
end
section
open Go.RowKit
theorem fY (l:List UInt8)(p:UInt8->Bool)(k:Nat)(h:k<l.length):(l.take (k+1)).all p=((l.take k).all p&&p l[k]):=by
 rw[List.take_succ_eq_append_getElem h,List.all_append];simp only[List.all_cons,List.all_nil,Bool.and_true]
theorem gW (l:List UInt8)(p:UInt8->Bool)(k:Nat)(h:k<l.length)(hp:p l[k]=false):l.all p=false:=by
 rw[Bool.eq_false_iff];intro ha;rw[List.all_eq_true] at ha;have:=ha _ (List.getElem_mem h);simp[hp] at this
theorem qz (l:List UInt8)(h:0<l.length):Vm.partOk l=(Vm.dig l[0]&&(Vm.dig (l[l.length-1]'(by omega))&&l.all Vm.ok1)):=by
 have hl:l.length-1<l.length:=by omega
 have he:l.isEmpty=false:=by cases l <;> simp at *
 simp[Vm.partOk,h,he,hl]
theorem eN (l:List UInt8)(w:World)(hm:l.length<=100) :
  Calls Tryz.prog 124 #[.string ⟨l.toArray⟩] w fun e w'=>e=okOr (Vm.partOk l) 5/\w=w':=by
 by_cases h0:l=[]
 ·subst h0
  go_enter Tryz.func124,Tryz.ntmps124
  go_wp2_with fail
  refine (ai _).mono ?_
  rintro e w' ⟨rfl,rfl⟩
  go_wp2_with fail
  exact⟨rfl,rfl,rfl⟩
 ·have ac:0<l.length:=List.length_pos_iff.2 h0
  have ad:l.length-1<l.length:=by omega
  have he:l.isEmpty=false:=by cases l <;> simp at *
  obtain⟨c0,ap,ae⟩:=byte_at l 0 ac
  obtain⟨cn,aq,af⟩:=byte_at l (l.length-1) ad
  have H:=zh (qz l ac)
  rw[ae,af] at H
  clear ae af h0
  cases hd:Vm.dig c0
  all_goals
   have HD:=zh hd
   clear hd
   go_enter Tryz.func124,Tryz.ntmps124
   go_wp2_with fail
   refine (dx c0 _).mono ?_
   rintro e w' ⟨rfl,rfl⟩
   rw[HD.out]
   go_wp2_with fail
  ·refine (ai _).mono ?_
   rintro e w' ⟨rfl,rfl⟩
   go_wp2_with fail
   refine⟨rfl,?_,rfl⟩
   rw[H.out,HD.out];rfl
  ·refine (dx cn _).mono ?_
   rintro e w' ⟨rfl,rfl⟩
   cases ag:Vm.dig cn
   ·have aj:=zh ag
    clear ag
    go_wp2_with fail
    refine (ai _).mono ?_
    rintro e w' ⟨rfl,rfl⟩
    go_wp2_with fail
    refine⟨rfl,?_,rfl⟩
    rw[H.out,HD.out,aj.out];rfl
   ·have aj:=zh ag
    clear ag
    go_wp2_with fail
    refine (ah _).mono ?_
    rintro e w' ⟨rfl,rfl⟩
    go_wp2_with fail
    have HE:Hid (Vm.partOk l=l.all Vm.ok1):=by
     show Vm.partOk l=l.all Vm.ok1
     rw[H.out,HD.out,aj.out];rfl
    clear ap aq H HD aj
    go_loop [21] (fun i=>∃ k:Nat,k<=l.length/\i=.int .i64 k/\Hid ((l.take k).all Vm.ok1=true)) (fun i=>l.length-(intOf i).toNat)
    case atStart=>exact⟨0,Nat.zero_le _,rfl,rfl⟩
    case round =>
     obtain⟨k,hk,rfl,aa⟩:=hrel
     by_cases am:k<l.length
     ·obtain⟨c,hc,an⟩:=byte_at l k am
      have HS:=zh (fY l Vm.ok1 k am)
      rw[an] at HS
      have HF:Vm.ok1 c=false->l.all Vm.ok1=false:=fun h=>gW l _ k am (by rw[an];exact h)
      have ao:=zh HF
      clear an HF
      go_wp2_with fail
      refine (dx c _).mono ?_
      rintro e w' ⟨rfl,rfl⟩
      cases ak:Vm.dig c
      ·have al:=zh ak
       clear ak
       go_wp2_with fail
       refine (qy c _).mono ?_
       rintro e w' ⟨rfl,rfl⟩
       cases ho:Vm.oth c
       ·have HO:=zh ho
        clear ho
        go_wp2_with fail
        refine (ai _).mono ?_
        rintro e w' ⟨rfl,rfl⟩
        go_wp2_with fail
        refine⟨rfl,?_,rfl⟩
        rw[HE.out,ao.out (by rw[Vm.ok1,al.out,HO.out];rfl)];rfl
       ·have HO:=zh ho
        clear ho
        go_wp2_with fail
        refine (ah _).mono ?_
        rintro e w' ⟨rfl,rfl⟩
        go_wp2_with fail
        go_round
        case rel=>exact⟨k+1,by omega,by go_num,by show _=_;rw[HS.out,aa.out,Vm.ok1,al.out,HO.out];rfl⟩
        case measure=>simp[intOf];omega
      ·have al:=zh ak
       clear ak
       go_wp2_with fail
       refine (ah _).mono ?_
       rintro e w' ⟨rfl,rfl⟩
       go_wp2_with fail
       go_round
       case rel=>exact⟨k+1,by omega,by go_num,by show _=_;rw[HS.out,aa.out,Vm.ok1,al.out];rfl⟩
       case measure=>simp[intOf];omega
     ·obtain rfl:k=l.length:=by omega
      have ab:l.all Vm.ok1=true:=by have:=aa.out;rwa [List.take_length] at this
      have HA:=zh ab
      clear aa ab
      go_wp2_with fail
      go_end0
      exact⟨by rw[HE.out,HA.out];rfl,rfl⟩
end
section
open Go.RowKit
def cs10:List UInt8:=[48,49,50,51,52,53,54,55,56,57]
theorem ou (c:UInt8):cs10.contains c=Vm.dig c:=aaf (fun c=>cs10.contains c) Vm.dig (by decide +kernel) c
theorem qA (l:List UInt8):Lib.trimLeftS l cs10=Vm.undigs l:=by
 unfold Lib.trimLeftS Vm.undigs
 congr 1;funext c;exact ou c
theorem uk (l:List UInt8):l.take (l.length-(Vm.undigs l).length)=Vm.digs l:=by
 have h:Vm.digs l++Vm.undigs l=l:=List.takeWhile_append_dropWhile
 have h2:l.length-(Vm.undigs l).length=(Vm.digs l).length:=by
  have:=congrArg List.length h;rw[List.length_append] at this;omega
 rw[h2]
 exact js h
theorem cS (l:List UInt8):(Vm.undigs l).length<=l.length:=by
 have h:Vm.digs l++Vm.undigs l=l:=List.takeWhile_append_dropWhile
 have:=congrArg List.length h;rw[List.length_append] at this;omega
theorem gX (l:List UInt8):(Vm.unoths l).length<=l.length:=by
 have h:Vm.oths l++Vm.unoths l=l:=List.takeWhile_append_dropWhile
 have:=congrArg List.length h;rw[List.length_append] at this;omega
theorem lC (l:List UInt8):(Vm.oths l).length<=l.length:=by
 have h:Vm.oths l++Vm.unoths l=l:=List.takeWhile_append_dropWhile
 have:=congrArg List.length h;rw[List.length_append] at this;omega
theorem um (l:List UInt8):l.take (Vm.oths l).length=Vm.oths l:=by
 have h:Vm.oths l++Vm.unoths l=l:=List.takeWhile_append_dropWhile
 exact js h
theorem qB (l:List UInt8):l.drop (Vm.oths l).length=Vm.unoths l:=by
 have h:Vm.oths l++Vm.unoths l=l:=List.takeWhile_append_dropWhile
 exact oh h
theorem j8:∀ l:List UInt8,(Lib.indexAny l cs10 = -1/\Vm.oths l=l)\/Lib.indexAny l cs10=(Vm.oths l).length
 | []=>Or.inl ⟨rfl,rfl⟩
 | b :: l=>by
  have ih:=j8 l
  have hg:=Lib.indexAny_ge cs10 l
  unfold Lib.indexAny Vm.oths
  rw[ou,List.takeWhile_cons]
  cases hb:Vm.dig b
  ·simp only[Bool.false_eq_true,if_false,Bool.not_false,if_true]
   rcases ih with⟨h1,h2⟩ | h1
   ·left
    rw[h1]
    refine⟨rfl,?_⟩
    show b :: Vm.oths l=b :: l
    rw[h2]
   ·right
    rw[h1,if_neg (by simp)]
    show _=(((b :: Vm.oths l).length:Nat):Int)
    simp
  ·right;simp
def ascii (l:List UInt8):Prop:=∀ (j:Nat) b,l[j]?=some b->b.toNat<128
theorem j9:ascii cs10:=by
 intro j b h
 have:=List.mem_of_getElem? h
 simp[cs10] at this
 rcases this with rfl | rfl | rfl | rfl | rfl | rfl | rfl | rfl | rfl | rfl <;> decide
theorem fA (l:List UInt8)(w:World) :
  Calls Tryz.prog 198 #[.string ⟨l.toArray⟩,.string ⟨#[48,49,50,51,52,53,54,55,56,57]⟩] w fun e w'=>e=.returned (.string ⟨(Vm.undigs l).toArray⟩)/\Below w.heap.size w w' :=
 (Tryz.strings_TrimLeft_laid ⟨l.toArray⟩ ⟨cs10.toArray⟩ w (by decide) j9).mono fun _ _ h=>⟨by rw[h.1,<-qA],h.2⟩
theorem ni (l:List UInt8)(w:World) :
  Calls Tryz.prog 198 #[.string ⟨l.toArray⟩,.string ⟨#[48]⟩] w fun e w'=>e=.returned (.string ⟨(l.dropWhile (. == 48)).toArray⟩)/\w=w' :=
 (Tryz.strings_TrimLeft_one ⟨l.toArray⟩ 48 (by decide) w).mono fun _ _ h=>⟨h.1,h.2.symm⟩
theorem ka (l:List UInt8)(w:World)(hl:l.length<=1000)(ha:ascii l) :
  Calls Tryz.prog 199 #[.string ⟨l.toArray⟩,.string ⟨#[48,49,50,51,52,53,54,55,56,57]⟩] w fun e w'=>e=.returned (.int .i64 (Lib.indexAny l cs10))/\Below w.heap.size w w' :=
 Tryz.strings_IndexAny_laid ⟨l.toArray⟩ ⟨cs10.toArray⟩ w (by show l.toArray.size<_;simp;omega) (by decide) ha j9
theorem fZ (l:List UInt8)(w:World) :
  Calls Tryz.prog 162 #[.string ⟨l.toArray⟩] w fun e w'=>e=.returned (.string ⟨(Vm.bare l).toArray⟩)/\w=w':=by
 have H:Hid (Vm.bare l=if (l.dropWhile (. == 48)).isEmpty then [48] else l.dropWhile (. == 48)):=rfl
 go_enter Tryz.func162,Tryz.ntmps162
 go_wp2_with fail
 refine (ni l _).mono ?_
 rintro e w' ⟨rfl,rfl⟩
 generalize l.dropWhile (. == 48)=r at *
 cases hz:r.isEmpty
 all_goals
  go_wp2_with fail
 ·go_ret
  exact⟨by rw[H.out,hz];rfl,rfl⟩
 ·go_ret
  exact⟨by rw[H.out,hz];rfl,rfl⟩
theorem dN (l:List UInt8)(w:World)(hl:l.length<=1000) :
  Calls Tryz.prog 163 #[.string ⟨l.toArray⟩] w fun e w'=>e=.returned (.tuple #[.string ⟨(Vm.digs l).toArray⟩,.string ⟨(Vm.undigs l).toArray⟩])/\Below w.heap.size w w':=by
 have H:=zh (uk l)
 have hle:=cS l
 go_enter Tryz.func163,Tryz.ntmps163
 go_wp2_with fail
 refine (fA l _).mono ?_
 rintro e w' ⟨rfl,hb⟩
 obtain⟨r,hr⟩:=ex (Vm.undigs l)
 rw[hr] at H hle
 rw[hr]
 have HR:=zh hr
 clear hr
 go_wp2_with fail
 go_ret2
 refine⟨?_,hb⟩
 show Ending.returned (.tuple #[.string (ByteArray.extract ⟨l.toArray⟩ 0 (l.length-r.length)),.string ⟨r.toArray⟩])=_
 rw[ByteArray.extract_mk,List.drop_zero,Nat.sub_zero,H.out,HR.out]
theorem dO (l:List UInt8)(w:World)(hl:l.length<=1000)(ha:ascii l) :
  Calls Tryz.prog 164 #[.string ⟨l.toArray⟩] w fun e w'=>e=.returned (.tuple #[.string ⟨(Vm.oths l).toArray⟩,.string ⟨(Vm.unoths l).toArray⟩])/\Below w.heap.size w w':=by
 have HT:=zh (um l)
 have HD:=zh (qB l)
 have hle:=lC l
 have hA:=zh ha
 clear ha
 go_enter Tryz.func164,Tryz.ntmps164
 go_wp2_with fail
 refine (ka l _ hl hA.out).mono ?_
 rintro e w' ⟨rfl,hb⟩
 rcases j8 l with⟨h1,h2⟩ | h1
 ·rw[h1]
  have H2:=zh h2
  clear h1 h2
  go_wp2_with fail
  go_quiet (fail)
  go_wp2_with fail
  go_ret2
  refine⟨?_,below_drewN hb _⟩
  have e1:Vm.unoths l=[]:=by rw[<-HD.out,H2.out,List.drop_length]
  show Ending.returned (.tuple #[.string (ByteArray.extract ⟨l.toArray⟩ 0 l.length),.string ⟨([]:List UInt8).toArray⟩])=_
  rw[ByteArray.extract_mk,List.drop_zero,Nat.sub_zero,List.take_length,e1,H2.out]
 ·rw[h1]
  clear h1
  go_wp2_with fail
  go_quiet (fail)
  go_wp2_with fail
  go_ret2
  refine⟨?_,below_drewN hb _⟩
  show Ending.returned (.tuple #[.string (ByteArray.extract ⟨l.toArray⟩ 0 (Vm.oths l).length),.string (ByteArray.extract ⟨l.toArray⟩ (Vm.oths l).length l.length)])=_
  rw[ByteArray.extract_mk,ByteArray.extract_mk,List.drop_zero,Nat.sub_zero,HT.out,HD.out,List.take_of_length_le (by rw[<-HD.out,List.length_drop];exact Nat.le_refl _)]
end
section
open Go.RowKit
theorem uo (l:List UInt8)(h:0<l.length):Vm.epOk l=(decide (l.length<=6)&&l.all Vm.dig):=by
 have he:l.isEmpty=false:=by cases l <;> simp at *
 simp[Vm.epOk,he]
theorem ew (l:List UInt8)(w:World)(hm:l.length<=100) :
  Calls Tryz.prog 123 #[.string ⟨l.toArray⟩] w fun e w'=>e=okOr (Vm.epOk l) 5/\w=w':=by
 by_cases h0:l=[]
 ·subst h0
  go_enter Tryz.func123,Tryz.ntmps123
  go_wp2_with fail
  refine (ai _).mono ?_
  rintro e w' ⟨rfl,rfl⟩
  go_wp2_with fail
  exact⟨rfl,rfl,rfl⟩
 ·have ad:0<l.length:=List.length_pos_iff.2 h0
  have he:l.isEmpty=false:=by cases l <;> simp at *
  have H:=zh (uo l ad)
  clear h0
  by_cases h6:l.length<=6
  ·have HE:Hid (Vm.epOk l=l.all Vm.dig):=by show _=_;rw[H.out];simp[h6]
   clear H
   go_enter Tryz.func123,Tryz.ntmps123
   go_wp2_with fail
   rw[show decide ((l.length:Int)<=6)=true from by simp;omega]
   refine (ah _).mono ?_
   rintro e w' ⟨rfl,rfl⟩
   go_wp2_with fail
   go_loop [13] (fun i=>∃ k:Nat,k<=l.length/\i=.int .i64 k/\Hid ((l.take k).all Vm.dig=true)) (fun i=>l.length-(intOf i).toNat)
   case atStart=>exact⟨0,Nat.zero_le _,rfl,rfl⟩
   case round =>
    obtain⟨k,hk,rfl,ab⟩:=hrel
    by_cases ae:k<l.length
    ·obtain⟨c,hc,ag⟩:=byte_at l k ae
     have HS:=zh (fY l Vm.dig k ae)
     rw[ag] at HS
     have HF:Vm.dig c=false->l.all Vm.dig=false:=fun h=>gW l _ k ae (by rw[ag];exact h)
     have aj:=zh HF
     clear ag HF
     go_wp2_with fail
     refine (dx c _).mono ?_
     rintro e w' ⟨rfl,rfl⟩
     cases ac:Vm.dig c
     ·have af:=zh ac
      clear ac
      go_wp2_with fail
      refine (ai _).mono ?_
      rintro e w' ⟨rfl,rfl⟩
      go_wp2_with fail
      refine⟨rfl,?_,rfl⟩
      rw[HE.out,aj.out af.out];rfl
     ·have af:=zh ac
      clear ac
      go_wp2_with fail
      refine (ah _).mono ?_
      rintro e w' ⟨rfl,rfl⟩
      go_wp2_with fail
      go_round
      case rel=>exact⟨k+1,by omega,by go_num,by show _=_;rw[HS.out,ab.out,af.out];rfl⟩
      case measure=>simp[intOf];omega
    ·obtain rfl:k=l.length:=by omega
     have aa:l.all Vm.dig=true:=by have:=ab.out;rwa [List.take_length] at this
     have HA:=zh aa
     clear ab aa
     go_wp2_with fail
     go_end0
     exact⟨by rw[HE.out,HA.out];rfl,rfl⟩
  ·go_enter Tryz.func123,Tryz.ntmps123
   go_wp2_with fail
   rw[show decide ((l.length:Int)<=6)=false from by simp;omega]
   refine (ai _).mono ?_
   rintro e w' ⟨rfl,rfl⟩
   go_wp2_with fail
   refine⟨rfl,?_,rfl⟩
   rw[H.out];simp[h6,okOr]
end
end Go.Proofs.YtgnaiidgjmicaaaGreatDoor
