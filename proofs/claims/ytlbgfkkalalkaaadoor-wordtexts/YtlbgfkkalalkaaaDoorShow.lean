/- What value.Show and what it calls answer, in a world that holds the library's tables. -/
import Derived.Test.YtlbgfkkalalkaaaDoorSmall
import Derived.Test.YtlbgfkkalalkaaaDoorShelf
import Derived.Test.YtlbgfkkalalkaaaDoorDq
import Derived.Lib.AppendIntMem
import Derived.Lib.SplitLaws
namespace Go.Proofs.YtlbgfkkalalkaaaDoor
open Go.RowKit

/-- What the library wants of the world: its table of powers, its variable MaxLen. -/
def Ready (w : World) : Prop := Lib.TabIs Tryd.prog w "internal/strconv.uint64pow10" .u64 Lib.pow10Tab ∧ ∃ m, w.cell? ⟨7, 0, none⟩ = some (.int .i64 m)
theorem cell_lt {w : World} {a : Addr} {v : Value} (h : w.cell? a = some v) : a.block < w.heap.size := World.block_lt_of_cell? _ _ h
theorem Ready.on {w w' : World} (h : Ready w) (hb : Below w.heap.size w w') : Ready w' := by
  obtain ⟨ht, m, hm⟩ := h
  exact ⟨Lib.tabBelow_of_tabIs ht w' hb, m, by rw [hb.cell (p := ⟨7, 0, none⟩) (cell_lt hm)]; exact hm⟩

theorem formatInt (n : Int) (h0 : -9223372036854775808 ≤ n) (h1 : n ≤ 9223372036854775807) (w : World) (hr : Ready w) :
    Calls Tryd.prog 11 #[.int .i64 n, .int .i64 10] w fun e w' => e = .returned (.string ⟨(Lib.itoa n).toArray⟩) ∧ Below w.heap.size w w' := by
  refine (Tryd.strconv_FormatInt_10 n h0 h1 w hr.1).mono ?_
  rintro e w' ⟨rfl, k, os, rfl⟩
  exact ⟨rfl, Lib.below_grow _ _ (Nat.le_refl _) _ _⟩

/-- How a value is written; of a kind that is none nothing. -/
def shV (k n : Int) (s : ByteArray) : List UInt8 :=
  if k = 0 then [110, 117, 108, 108] else if k = 1 then Lib.itoa n else if k = 2 then 39 :: (dq s.data.toList ++ [39]) else if k = 3 then Lib.formatBool (n != 0) else []

end Go.Proofs.YtlbgfkkalalkaaaDoor
