/- Part 29 of what the laws lean on. -/
import Derived.Test.YtkplahkkmmoppaaGreatDoorL18
import Derived.Stop.LaidErr
import Derived.LaidMore
namespace Go.Proofs.YtkplahkkmmoppaaGreatDoor
open Go.RowKit Go.ChangeShapes
theorem errStar : "*errors.errorString" = "*" ++ "errors.errorString" := by decide
theorem errRow (u : TypeId) (h : Tryz.prog.typeName? 3 u = some "*errors.errorString") : u = 352 :=
 typeName_ptr_named (nm := "errors.errorString") (by rw [← errStar]; kernel_rfl) (by kernel_rfl) (by decide) u (by rw [← errStar]; exact h)
theorem kOk_of {W : World} (hm : MaxOk W) (h : laidMet Tryz.prog [("math/bits.deBruijn32tab", Rows.laid_math_bits_deBruijn32tab), ("math/bits.deBruijn64tab", Rows.laid_math_bits_deBruijn64tab), ("internal/strconv.uint64pow10", Rows.laid_internal_strconv_uint64pow10), ("unicode/utf8.acceptRanges", Rows.laid_unicode_utf8_acceptRanges), ("strconv.ErrRange", Rows.laid_strconv_ErrRange), ("strconv.ErrSyntax", Rows.laid_strconv_ErrSyntax), ("unicode/utf8.first", Rows.laid_unicode_utf8_first)] W) : KOk W := by
 refine ⟨hm,?_,?_,?_⟩
 ·exact Lib.tabIs_of_head (k:=.u64) (zs:=Lib.pow10Tab) (n:=20) (g:=3) (t:=296) (by kernel_rfl) (by kernel_rfl) (show Tryz.prog.underlying _=some (.array 20 161) by kernel_rfl) Tryz.underlying161 (by kernel_rfl) (by kernel_rfl) h.tail.tail
 ·exact Lib.tabIs_of_head (k:=.u8) (zs:=Lib.deBruijn64tab.map Int.ofNat) (n:=64) (g:=1) (t:=255) (by kernel_rfl) (by kernel_rfl) (show Tryz.prog.underlying _=some (.array 64 5) by kernel_rfl) Tryz.underlying5 (by kernel_rfl) (by kernel_rfl) h.tail
 ·obtain ⟨a,s,hv,_⟩:=laid_sentinel h.tail.tail.tail.tail (g:=8) (ti:=144) (tp:=352) (te:=354) (ts:=9) (by kernel_rfl) (by kernel_rfl) Tryz.underlying144 errRow Tryz.underlying352 Tryz.underlying354 rfl rfl Tryz.underlying9 (by kernel_rfl) (by kernel_rfl)
  exact ⟨_,_,hv⟩
end Go.Proofs.YtkplahkkmmoppaaGreatDoor
