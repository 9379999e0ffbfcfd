/- The chapter's examples. -/
import Derived.Test.YtiphnbpkliglcaaDoorPdHolds
namespace Go.Proofs.YtiphnbpkliglcaaDoor
open Go.RowKit
set_option maxRecDepth 100000
set_option maxHeartbeats 1000000 in
theorem lawFirst10 (w : World) : Calls Tryd.prog 5 #[] w fun e w' => e = .returned (.bool true) ∧ Below w.heap.size w w' := by
  have q1 : ∀ W, Calls Tryd.prog 10 #[.agg #[.int .i64 4, .int .i64 0, .int .i64 0, .int .i64 0, .int .i64 0, .int .i64 0, .string ⟨#[]⟩, .slice none 0 0], .slice none 0 0] W fun e w' => e = .returned (.bool true) ∧ Below W.heap.size W w' := fun W => by
    have := predHolds 0 (fun _ => True) ⟨4, 0, 0, 0, nul, []⟩ (.slice none 0 0) (.slice none 0 0) [] W (PdL.nil _ _ _ _ _) (.inl ⟨none, 0, rfl, rfl⟩)
    rw [hd_eq] at this; exact this
  have q2 : ∀ W, Calls Tryd.prog 10 #[.agg #[.int .i64 5, .int .i64 0, .int .i64 0, .int .i64 0, .int .i64 0, .int .i64 0, .string ⟨#[]⟩, .slice none 0 0], .slice none 0 0] W fun e w' => e = .returned (.bool false) ∧ Below W.heap.size W w' := fun W => by
    have := predHolds 0 (fun _ => True) ⟨5, 0, 0, 0, nul, []⟩ (.slice none 0 0) (.slice none 0 0) [] W (PdL.nil _ _ _ _ _) (.inl ⟨none, 0, rfl, rfl⟩)
    rw [hd_eq] at this; exact this
  have Q1 : Hid _ := q1
  have Q2 : Hid _ := q2
  clear q1 q2
  go_enter Tryd.func5, Tryd.ntmps5
  go_wp2_with fail
  refine (Q1.out _).mono ?_
  rintro e w1 ⟨rfl, hb1⟩
  go_wp2_with fail
  refine (Q2.out _).mono ?_
  rintro e w2 ⟨rfl, hb2⟩
  go_wp2_with fail
  go_ret
  exact ⟨rfl, hb1.trans (hb2.mono hb1.size)⟩
end Go.Proofs.YtiphnbpkliglcaaDoor
