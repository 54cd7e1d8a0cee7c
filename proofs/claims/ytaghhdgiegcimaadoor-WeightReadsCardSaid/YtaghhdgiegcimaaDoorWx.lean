/- From the rows' condition on the library's variables to what the walks lean on. -/
import Derived.Test.YtaghhdgiegcimaaDoorRows
import Derived.Test.YtaghhdgiegcimaaDoorWh
import Derived.Lib.LaidTab
import Derived.Stop.LaidErr
import Derived.LaidMore
namespace Go.Proofs.YtaghhdgiegcimaaDoor
open Go.RowKit Go.ChangeShapes

theorem errStar : "*errors.errorString" = "*" ++ "errors.errorString" := by decide
theorem errRow (u : TypeId) (h : Tryd.prog.typeName? 3 u = some "*errors.errorString") : u = 140 :=
  typeName_ptr_named (nm := "errors.errorString") (by rw [← errStar]; kernel_rfl) (by kernel_rfl) (by decide) u (by rw [← errStar]; exact h)
theorem kOk_of {W : World} (hm : MaxOk W) (h : laidMet Tryd.prog [("math/bits.deBruijn32tab", Rows.laid_math_bits_deBruijn32tab), ("math/bits.deBruijn64tab", Rows.laid_math_bits_deBruijn64tab), ("internal/strconv.uint64pow10", Rows.laid_internal_strconv_uint64pow10), ("unicode/utf8.acceptRanges", Rows.laid_unicode_utf8_acceptRanges), ("strconv.ErrRange", Rows.laid_strconv_ErrRange), ("strconv.ErrSyntax", Rows.laid_strconv_ErrSyntax), ("unicode/utf8.first", Rows.laid_unicode_utf8_first)] W) : KOk W := by
  refine ⟨hm, ?_, ?_, ?_⟩
  · exact Lib.tabIs_of_head (k := .u64) (zs := Lib.pow10Tab) (n := 20) (g := 5) (t := 144) (by kernel_rfl) (by kernel_rfl) (show Tryd.prog.underlying _ = some (.array 20 35) by kernel_rfl) Tryd.underlying35 (by kernel_rfl) (by kernel_rfl) h.tail.tail
  · exact Lib.tabIs_of_head (k := .u8) (zs := Lib.deBruijn64tab.map Int.ofNat) (n := 64) (g := 1) (t := 112) (by kernel_rfl) (by kernel_rfl) (show Tryd.prog.underlying _ = some (.array 64 5) by kernel_rfl) Tryd.underlying5 (by kernel_rfl) (by kernel_rfl) h.tail
  · obtain ⟨a, s, hv, _⟩ := laid_sentinel h.tail.tail.tail.tail (g := 3) (ti := 74) (tp := 140) (te := 142) (ts := 9) (by kernel_rfl) (by kernel_rfl) Tryd.underlying74 errRow Tryd.underlying140 Tryd.underlying142 rfl rfl Tryd.underlying9 (by kernel_rfl) (by kernel_rfl)
    exact ⟨_, _, hv⟩
end Go.Proofs.YtaghhdgiegcimaaDoor
