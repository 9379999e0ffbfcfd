/- Is a text a name? The laws' own first examples. -/
import Derived.Test.YtlbgfkkalalkaaaDoorWdSplit
import Derived.Test.YtlbgfkkalalkaaaDoorWdText
import Derived.Deep.QuietTactic
import Derived.BigQuiet
namespace Go.Proofs.YtlbgfkkalalkaaaDoor
open Go.RowKit Go.Sort
set_option maxRecDepth 100000

/-- All of it is one Name. -/
def isNm (l : List UInt8) : Bool := match fstName l with
  | some x => (x.k == 1) && ((x.z : Int) == (l.length : Int))
  | none => false
set_option maxHeartbeats 2000000 in
theorem wIsName (s : ByteArray) (hs : s.size ≤ 65536) (w : World) :
    Calls Tryd.prog 9 #[.string s] w fun e w' => e = .returned (.bool (isNm s.data.toList)) ∧ Below w.heap.size w w' := by
  have q := wFirstName s hs w
  have hl : (s.data.toList.length : Int) = (s.size : Int) := by rw [← Lib.size_eq]
  unfold isNm
  rw [hl]
  clear hl
  cases hx : fstName s.data.toList with
  | none =>
    rw [hx, show wdA none = .returned (.tuple #[.agg #[.int .i64 0, .int .i64 0, .string ⟨#[]⟩, .int .i64 0], .int .i64 0]) from rfl] at q
    clear hx
    go_enter Tryd.func9, Tryd.ntmps9
    go_wp2_with fail
    refine q.mono ?_
    rintro e w1 ⟨rfl, hb1⟩
    have B : Hid (∀ o, Below w.heap.size w (w1.alloc o)) := fun o => hb1.alloc hb1.size o
    clear q hb1
    go_wp2_with fail
    go_ret
    exact ⟨rfl, B.out _⟩
  | some x =>
    obtain ⟨k, t, n, z⟩ := x
    rw [hx, show wdA (some ⟨k, t, n, z⟩) = .returned (.tuple #[.agg #[.int .i64 k, .int .i64 0, .string ⟨t.toArray⟩, .int .i64 n], .int .i64 (z : Int)]) from rfl] at q
    clear hx
    show Calls _ _ _ _ fun e w' => e = .returned (.bool ((k == 1) && ((z : Int) == (s.size : Int)))) ∧ Below w.heap.size w w'
    cases h1 : (k == 1)
    all_goals
      go_enter Tryd.func9, Tryd.ntmps9
      go_wp2_with fail
      refine q.mono ?_
      rintro e w1 ⟨rfl, hb1⟩
      have B : Hid (∀ o, Below w.heap.size w (w1.alloc o)) := fun o => hb1.alloc hb1.size o
      clear q hb1
      go_wp2_with fail
      go_ret
      exact ⟨rfl, B.out _⟩

theorem spl_a1 : spl 0 [97, 49] = .inl [(0, ⟨1, [97, 49], 0, 2⟩)] := by
  rw [spl_one 0 [97, 49] ⟨1, [97, 49], 0, 2⟩ (by decide) rfl (by decide)]
  rw [spl_end _ _ rfl]; rfl
theorem nm_ab : isNm [97, 95, 98] = true := by rfl
theorem nm_filter : isNm [102, 105, 108, 116, 101, 114] = false := by rfl
end Go.Proofs.YtlbgfkkalalkaaaDoor
