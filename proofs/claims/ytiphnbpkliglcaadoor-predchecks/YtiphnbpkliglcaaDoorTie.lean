/-
  DERIVED. GIVEN WITH THE SEED: THE PROGRAM's TIES (one call each: nine closed facts by the kernel) AND EACH ROW's TIE, after the 31st guide's Derived/Test/Toyas{Tie, Card}.lean. No idea stands in it: it is a product of the set-up. Laid BY PROGRAM, IN A SANDBOX (cutbox-door.mjs). By AI agents, Wed Nov 11 2026. No macro, syntax, notation, axiom, sorry.
-/
import Derived.Test.YtiphnbpkliglcaaDoorRows
import Derived.LaidByTextLater
import Derived.SevenTiedAt
import Derived.LaidSub
import Derived.LaidOnce
namespace Go.Proofs.YtiphnbpkliglcaaDoor
open Go
set_option maxRecDepth 100000
theorem seatTie1 : Tryd.prog.laidByTextLater [("math/bits.deBruijn32tab", Rows.laid_math_bits_deBruijn32tab), ("math/bits.deBruijn64tab", Rows.laid_math_bits_deBruijn64tab), ("internal/strconv.uint64pow10", Rows.laid_internal_strconv_uint64pow10), ("unicode/utf8.acceptRanges", Rows.laid_unicode_utf8_acceptRanges), ("belvedere/api.ErrText", Rows.laid_belvedere_api_ErrText), ("belvedere/api.ErrType", Rows.laid_belvedere_api_ErrType), ("belvedere/api.ErrName", Rows.laid_belvedere_api_ErrName), ("belvedere/api.ErrTwice", Rows.laid_belvedere_api_ErrTwice), ("belvedere/api.ErrUse", Rows.laid_belvedere_api_ErrUse), ("belvedere/api.ErrArity", Rows.laid_belvedere_api_ErrArity), ("belvedere/api.ErrOver", Rows.laid_belvedere_api_ErrOver), ("belvedere/api.ErrFull", Rows.laid_belvedere_api_ErrFull), ("belvedere/api.ErrPending", Rows.laid_belvedere_api_ErrPending), ("belvedere/api.ErrNone", Rows.laid_belvedere_api_ErrNone), ("belvedere/api.ErrLimit", Rows.laid_belvedere_api_ErrLimit)] [.data, .data, .data, .data, .sentinel, .sentinel, .sentinel, .sentinel, .sentinel, .sentinel, .sentinel, .sentinel, .sentinel, .sentinel, .sentinel] true :=
  Program.laidByTextLater_by_one 243 8 65 (by kernel_rfl) (by kernel_rfl) (by kernel_rfl) (by kernel_rfl) (by kernel_rfl) (by kernel_rfl) (fun _ _ => by kernel_rfl)
theorem pin_laid_unicode_utf8_first : Tryd.pinned.checked.prog.pinnedFits "unicode/utf8.first" = true := by kernel_rfl
theorem noOwnUnsafe : Tryd.pinned.checked.prog.headLifts.contains "ownunsafe" = false := by kernel_rfl
theorem tie : Tryd.prog.laidByTextLater [("belvedere/api.ErrText", Rows.laid_belvedere_api_ErrText), ("belvedere/api.ErrType", Rows.laid_belvedere_api_ErrType), ("belvedere/api.ErrName", Rows.laid_belvedere_api_ErrName), ("belvedere/api.ErrTwice", Rows.laid_belvedere_api_ErrTwice), ("belvedere/api.ErrUse", Rows.laid_belvedere_api_ErrUse), ("belvedere/api.ErrArity", Rows.laid_belvedere_api_ErrArity), ("belvedere/api.ErrOver", Rows.laid_belvedere_api_ErrOver), ("belvedere/api.ErrFull", Rows.laid_belvedere_api_ErrFull), ("belvedere/api.ErrPending", Rows.laid_belvedere_api_ErrPending), ("belvedere/api.ErrNone", Rows.laid_belvedere_api_ErrNone), ("belvedere/api.ErrLimit", Rows.laid_belvedere_api_ErrLimit)] [.sentinel, .sentinel, .sentinel, .sentinel, .sentinel, .sentinel, .sentinel, .sentinel, .sentinel, .sentinel, .sentinel] true :=
  Program.laidByTextLater.sub seatTie1 ["belvedere/api.ErrText", "belvedere/api.ErrType", "belvedere/api.ErrName", "belvedere/api.ErrTwice", "belvedere/api.ErrUse", "belvedere/api.ErrArity", "belvedere/api.ErrOver", "belvedere/api.ErrFull", "belvedere/api.ErrPending", "belvedere/api.ErrNone", "belvedere/api.ErrLimit"] (by kernel_rfl) (by kernel_rfl)
theorem predChecks_row_tie : Rows.predChecksRow.laidByTextAt .later Tryd.pinned [.sentinel, .sentinel, .sentinel, .sentinel, .sentinel, .sentinel, .sentinel, .sentinel, .sentinel, .sentinel, .sentinel] true :=
  OpenClaim.laidByTextAt_later rfl rfl tie noOwnUnsafe
theorem fits2 : Tryd.pinned.checked.prog.listedFits [("math/bits.deBruijn32tab", Rows.laid_math_bits_deBruijn32tab), ("math/bits.deBruijn64tab", Rows.laid_math_bits_deBruijn64tab), ("internal/strconv.uint64pow10", Rows.laid_internal_strconv_uint64pow10), ("unicode/utf8.acceptRanges", Rows.laid_unicode_utf8_acceptRanges), ("unicode/utf8.first", Rows.laid_unicode_utf8_first)] = true := by
  unfold Program.listedFits
  rw [noOwnUnsafe]
  kernel_rfl
theorem tie2 : Tryd.prog.laidByTextLater [("math/bits.deBruijn32tab", Rows.laid_math_bits_deBruijn32tab), ("math/bits.deBruijn64tab", Rows.laid_math_bits_deBruijn64tab), ("internal/strconv.uint64pow10", Rows.laid_internal_strconv_uint64pow10), ("unicode/utf8.acceptRanges", Rows.laid_unicode_utf8_acceptRanges)] [.data, .data, .data, .data] true :=
  Program.laidByTextLater.sub seatTie1 ["math/bits.deBruijn32tab", "math/bits.deBruijn64tab", "internal/strconv.uint64pow10", "unicode/utf8.acceptRanges"] (by kernel_rfl) (by kernel_rfl)
theorem predTexts_row_tie : Rows.predTextsRow.laidByTextAt .later Tryd.pinned [.data, .data, .data, .data, .pinned] true :=
  OpenClaim.laidByTextAt_pinned rfl rfl tie2 rfl rfl rfl rfl (fun y hy _e => by
    simp only [Rows.predTextsRow, List.zip_cons_cons, List.zip_nil_right, List.mem_cons, List.mem_nil_iff, or_false] at hy
    rcases hy with rfl | rfl | rfl | rfl | rfl
    · cases _e
    · cases _e
    · cases _e
    · cases _e
    · exact ⟨pin_laid_unicode_utf8_first, by kernel_rfl⟩) fits2
theorem predChecksUpto_row_tie : Rows.predChecksUptoRow.laidByTextAt .later Tryd.pinned [.sentinel, .sentinel, .sentinel, .sentinel, .sentinel, .sentinel, .sentinel, .sentinel, .sentinel, .sentinel, .sentinel] true :=
  OpenClaim.laidByTextAt_later rfl rfl tie noOwnUnsafe
theorem predTextsUpto_row_tie : Rows.predTextsUptoRow.laidByTextAt .later Tryd.pinned [.data, .data, .data, .data, .pinned] true :=
  OpenClaim.laidByTextAt_pinned rfl rfl tie2 rfl rfl rfl rfl (fun y hy _e => by
    simp only [Rows.predTextsUptoRow, List.zip_cons_cons, List.zip_nil_right, List.mem_cons, List.mem_nil_iff, or_false] at hy
    rcases hy with rfl | rfl | rfl | rfl | rfl
    · cases _e
    · cases _e
    · cases _e
    · cases _e
    · exact ⟨pin_laid_unicode_utf8_first, by kernel_rfl⟩) fits2
end Go.Proofs.YtiphnbpkliglcaaDoor
