/- From the rows' condition on the library's variables to what the walks lean on. -/
import Derived.Test.YtojhapnodjabdaaGreatDoorRows
import Derived.Test.YtojhapnodjabdaaGreatDoorCk
import Derived.Lib.LaidTab
import Derived.Lib.TrailingZeros
import Derived.Stop.LaidErr
import Derived.LaidMore
namespace Go.Proofs.YtojhapnodjabdaaGreatDoor
open Go.RowKit Go.ChangeShapes Lk
theorem Lk.wok_of {W : World} (hm : MaxOk W) (h : laidMet Tryz.prog [("math/bits.deBruijn32tab", Rows.laid_math_bits_deBruijn32tab), ("math/bits.deBruijn64tab", Rows.laid_math_bits_deBruijn64tab), ("internal/strconv.uint64pow10", Rows.laid_internal_strconv_uint64pow10), ("unicode/utf8.acceptRanges", Rows.laid_unicode_utf8_acceptRanges), ("unicode/utf8.first", Rows.laid_unicode_utf8_first)] W) : WOk W := by
  refine ⟨hm, ?_⟩
  have h3 := Lib.tabIs_of_head (k := .u8) (zs := Lib.deBruijn64tab.map Int.ofNat) (n := 64) (g := 3) (t := 148) (by kernel_rfl) (by kernel_rfl) (show Tryz.prog.underlying _ = some (.array 64 5) by kernel_rfl) Tryz.underlying5 (by kernel_rfl) (by kernel_rfl) h.tail
  have := Lib.TabIs.cell h3 (show Tryz.prog.globalNamed "math/bits.deBruijn64tab" = some 3 by kernel_rfl) 15 (by decide)
  exact this
end Go.Proofs.YtojhapnodjabdaaGreatDoor
