/- A text cut at a mark, step by step. No program is named here. -/
import Derived.Test.YtjkmdghlhodhiaaQa
import Derived.Lib.Split
import Derived.Lib.SmallJoins
import Derived.Lib.IndexMore
namespace Go.Proofs.Ytjkmdghlhodhiaa.At
theorem split_miss {s m : List UInt8} (h : Lib.index s m = -1) : Lib.split s m = [s] := by
  unfold Lib.split; rw [Lib.count_miss h]; rfl
theorem split_hit {s m : List UInt8} {i : Nat} (hm : m ≠ []) (h : Lib.index s m = i) : Lib.split s m = s.take i :: Lib.split (s.drop (i + m.length)) m := by
  unfold Lib.split
  rw [Lib.count_hit hm h, Nat.add_comm 1]
  show (if (Lib.index s m == -1) = true then _ else _) = _
  rw [if_neg (by rw [h]; simp), h]
  rfl
end Go.Proofs.Ytjkmdghlhodhiaa.At
