/-
  DERIVED. GIVEN WITH THE SEED: THE PROGRAM's TIES (one call each: nine closed facts by the kernel) AND EACH ROW's TIE, after the 31st guide's Derived/Test/Toyas{Tie, Card}.lean. No idea stands in it: it is a product of the set-up. Laid BY PROGRAM, IN A SANDBOX (cutbox-door.mjs). By AI agents, Wed Nov 11 2026. No macro, syntax, notation, axiom, sorry.
-/
import Derived.Test.YtmpochhcokmaiaaDoorRows
import Derived.LaidByTextLater
import Derived.SevenTiedAt
import Derived.LaidSub
import Derived.LaidOnce
namespace Go.Proofs.YtmpochhcokmaiaaDoor
open Go
set_option maxRecDepth 100000
theorem seatTie1 : Tryd.prog.laidByTextLater [("belvedere/api.ErrText", Rows.laid_belvedere_api_ErrText), ("belvedere/api.ErrType", Rows.laid_belvedere_api_ErrType), ("belvedere/api.ErrName", Rows.laid_belvedere_api_ErrName), ("belvedere/api.ErrTwice", Rows.laid_belvedere_api_ErrTwice), ("belvedere/api.ErrUse", Rows.laid_belvedere_api_ErrUse), ("belvedere/api.ErrArity", Rows.laid_belvedere_api_ErrArity), ("belvedere/api.ErrOver", Rows.laid_belvedere_api_ErrOver), ("belvedere/api.ErrFull", Rows.laid_belvedere_api_ErrFull), ("belvedere/api.ErrPending", Rows.laid_belvedere_api_ErrPending), ("belvedere/api.ErrNone", Rows.laid_belvedere_api_ErrNone), ("belvedere/api.ErrLimit", Rows.laid_belvedere_api_ErrLimit)] [.sentinel, .sentinel, .sentinel, .sentinel, .sentinel, .sentinel, .sentinel, .sentinel, .sentinel, .sentinel, .sentinel] true :=
  Program.laidByTextLater_by_one 218 8 2 (by kernel_rfl) (by kernel_rfl) (by kernel_rfl) (by kernel_rfl) (by kernel_rfl) (by kernel_rfl) (fun _ _ => by kernel_rfl)
theorem noOwnUnsafe : Tryd.pinned.checked.prog.headLifts.contains "ownunsafe" = false := by kernel_rfl
theorem tie : Tryd.prog.laidByTextLater [("belvedere/api.ErrText", Rows.laid_belvedere_api_ErrText), ("belvedere/api.ErrType", Rows.laid_belvedere_api_ErrType), ("belvedere/api.ErrName", Rows.laid_belvedere_api_ErrName), ("belvedere/api.ErrTwice", Rows.laid_belvedere_api_ErrTwice), ("belvedere/api.ErrUse", Rows.laid_belvedere_api_ErrUse), ("belvedere/api.ErrArity", Rows.laid_belvedere_api_ErrArity), ("belvedere/api.ErrOver", Rows.laid_belvedere_api_ErrOver), ("belvedere/api.ErrFull", Rows.laid_belvedere_api_ErrFull), ("belvedere/api.ErrPending", Rows.laid_belvedere_api_ErrPending), ("belvedere/api.ErrNone", Rows.laid_belvedere_api_ErrNone), ("belvedere/api.ErrLimit", Rows.laid_belvedere_api_ErrLimit)] [.sentinel, .sentinel, .sentinel, .sentinel, .sentinel, .sentinel, .sentinel, .sentinel, .sentinel, .sentinel, .sentinel] true :=
  Program.laidByTextLater.sub seatTie1 ["belvedere/api.ErrText", "belvedere/api.ErrType", "belvedere/api.ErrName", "belvedere/api.ErrTwice", "belvedere/api.ErrUse", "belvedere/api.ErrArity", "belvedere/api.ErrOver", "belvedere/api.ErrFull", "belvedere/api.ErrPending", "belvedere/api.ErrNone", "belvedere/api.ErrLimit"] (by kernel_rfl) (by kernel_rfl)
theorem onceSays_row_tie : Rows.onceSaysRow.laidByTextAt .later Tryd.pinned [.sentinel, .sentinel, .sentinel, .sentinel, .sentinel, .sentinel, .sentinel, .sentinel, .sentinel, .sentinel, .sentinel] true :=
  OpenClaim.laidByTextAt_later rfl rfl tie noOwnUnsafe
theorem tie2 : Tryd.prog.laidByTextLater [("belvedere/api.ErrOver", Rows.laid_belvedere_api_ErrOver)] [.sentinel] true :=
  Program.laidByTextLater.sub seatTie1 ["belvedere/api.ErrOver"] (by kernel_rfl) (by kernel_rfl)
theorem onceTwice_row_tie : Rows.onceTwiceRow.laidByTextAt .later Tryd.pinned [.sentinel] true :=
  OpenClaim.laidByTextAt_later rfl rfl tie2 noOwnUnsafe
theorem onceLittle_row_tie : Rows.onceLittleRow.laidByTextAt .later Tryd.pinned [.sentinel] true :=
  OpenClaim.laidByTextAt_later rfl rfl tie2 noOwnUnsafe
theorem onceSaysUpto_row_tie : Rows.onceSaysUptoRow.laidByTextAt .later Tryd.pinned [.sentinel, .sentinel, .sentinel, .sentinel, .sentinel, .sentinel, .sentinel, .sentinel, .sentinel, .sentinel, .sentinel] true :=
  OpenClaim.laidByTextAt_later rfl rfl tie noOwnUnsafe
theorem onceTwiceUpto_row_tie : Rows.onceTwiceUptoRow.laidByTextAt .later Tryd.pinned [.sentinel] true :=
  OpenClaim.laidByTextAt_later rfl rfl tie2 noOwnUnsafe
theorem onceLittleUpto_row_tie : Rows.onceLittleUptoRow.laidByTextAt .later Tryd.pinned [.sentinel] true :=
  OpenClaim.laidByTextAt_later rfl rfl tie2 noOwnUnsafe
end Go.Proofs.YtmpochhcokmaiaaDoor
