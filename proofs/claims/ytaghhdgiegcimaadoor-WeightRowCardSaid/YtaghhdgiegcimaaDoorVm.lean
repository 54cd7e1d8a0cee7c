/- Plain functions on bytes that say what the versions' functions compute. No program is named here. -/
import Derived.Lib.Strings
import Derived.Lib.IndexMore
import Derived.Lib.IndexAny
import Derived.Lib.SlTrimSet
import Derived.Lib.Bytealg
namespace Go.Proofs.YtaghhdgiegcimaaDoor.Vm

def dig (c : UInt8) : Bool := decide (48 ≤ c.toNat) && decide (c.toNat ≤ 57)
def ltr (c : UInt8) : Bool := (decide (97 ≤ c.toNat) && decide (c.toNat ≤ 122)) || (decide (65 ≤ c.toNat) && decide (c.toNat ≤ 90))
def oth (c : UInt8) : Bool := ltr c || (c.toNat == 46 || (c.toNat == 43 || c.toNat == 126))
def ok1 (c : UInt8) : Bool := dig c || oth c

/-- May it be a part of a version? -/
def partOk (l : List UInt8) : Bool := !l.isEmpty && (dig (l.getD 0 0) && (dig (l.getD (l.length - 1) 0) && l.all ok1))
def epOk (l : List UInt8) : Bool := !l.isEmpty && (decide (l.length ≤ 6) && l.all dig)

def fst (c : UInt8) (l : List UInt8) : List UInt8 := l.takeWhile (· != c)
def snd (c : UInt8) (l : List UInt8) : List UInt8 := (l.dropWhile (· != c)).drop 1
def has (c : UInt8) (l : List UInt8) : Bool := l.contains c

/-- The pieces of a version; "0" for a missing one. -/
def ep (l : List UInt8) : List UInt8 := if has 58 l then fst 58 l else [48]
def rest (l : List UInt8) : List UInt8 := if has 58 l then snd 58 l else l
def pt (l : List UInt8) : List UInt8 := fst 45 (rest l)
def rv (l : List UInt8) : List UInt8 := if has 45 (rest l) then snd 45 (rest l) else [48]
def verOk (l : List UInt8) : Bool := epOk (ep l) && (partOk (pt l) && partOk (rv l))
/-- P101's Check, as a number. -/
def check (l : List UInt8) : Int := if 40 < l.length then 4 else if verOk l then 0 else 5

/-- A run of digits without noughts ahead. -/
def bare (l : List UInt8) : List UInt8 := if (l.dropWhile (· == 48)).isEmpty then [48] else l.dropWhile (· == 48)
def digs (l : List UInt8) : List UInt8 := l.takeWhile dig
def undigs (l : List UInt8) : List UInt8 := l.dropWhile dig
def oths (l : List UInt8) : List UInt8 := l.takeWhile (fun c => !dig c)
def unoths (l : List UInt8) : List UInt8 := l.dropWhile (fun c => !dig c)
/-- What a part is behind its first two runs. -/
def tail2 (l : List UInt8) : List UInt8 := unoths (undigs l)

def canonP : Nat → List UInt8 → List UInt8
  | 0, _ => []
  | n + 1, l => if l.isEmpty then [] else bare (digs l) ++ oths (undigs l) ++ canonP n (tail2 l)
def canonE (l : List UInt8) : List UInt8 := if bare (ep l) == [48] then [] else bare (ep l) ++ [58]
def canonR (l : List UInt8) : List UInt8 := if canonP 41 (rv l) == [48] then [] else 45 :: canonP 41 (rv l)
def canon (l : List UInt8) : List UInt8 := canonE l ++ canonP 41 (pt l) ++ canonR l

def sgn (a b : Int) : Int := if a < b then -1 else if b < a then 1 else 0
def both (a b : Int) : Int := if a == 0 then b else a
def cmpD (a b : List UInt8) : Int := both (sgn (bare a).length (bare b).length) (Lib.compareBytes (bare a) (bare b))
/-- How byte i of a run stands; the end of the run is 0. -/
def mark (l : List UInt8) (i : Nat) : Int :=
  if l.length ≤ i then 0 else if (l.getD i 0).toNat == 126 then -1 else if ltr (l.getD i 0) then ((l.getD i 0).toNat : Int) else 256 + ((l.getD i 0).toNat : Int)
def markB (c : UInt8) : Int := if c.toNat == 126 then -1 else if ltr c then (c.toNat : Int) else 256 + (c.toNat : Int)
def cmpOF (a b : List UInt8) : Nat → Nat → Int
  | 0, _ => 0
  | n + 1, i => both (sgn (mark a i) (mark b i)) (cmpOF a b n (i + 1))
def cmpO (a b : List UInt8) : Int := cmpOF a b (max a.length b.length) 0
def cmpP : Nat → List UInt8 → List UInt8 → Int
  | 0, _, _ => 0
  | n + 1, a, b => if a.isEmpty && b.isEmpty then 0 else both (cmpD (digs a) (digs b)) (both (cmpO (oths (undigs a)) (oths (undigs b))) (cmpP n (tail2 a) (tail2 b)))
/-- P102's Compare, of two versions. -/
def cmpV (l m : List UInt8) : Int := both (cmpD (ep l) (ep m)) (both (cmpP 41 (pt l) (pt m)) (cmpP 41 (rv l) (rv m)))
def num (l : List UInt8) : Nat := l.foldl (fun n c => 10 * n + (c.toNat - 48)) 0
end Go.Proofs.YtaghhdgiegcimaaDoor.Vm
