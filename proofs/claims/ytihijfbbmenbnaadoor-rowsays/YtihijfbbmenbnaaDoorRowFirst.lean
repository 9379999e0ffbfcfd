/- The first lines of each law of the second layer hold: the chapter's examples. -/
import Derived.Test.YtihijfbbmenbnaaDoorRowCmp
import Derived.Test.YtihijfbbmenbnaaDoorRowShow
namespace Go.Proofs.YtihijfbbmenbnaaDoor
open Go.RowKit
set_option maxRecDepth 100000

theorem one_null (w : World) : RowIs (w.alloc (.cells #[.int .i64 0, .int .i64 0, .string ⟨#[]⟩] 31)) (.slice (some ⟨w.heap.size, 0, none⟩) 1 1) [(0, 0, ⟨#[]⟩)] := by
  refine .inr ⟨w.heap.size, 0, 1, rfl, Nat.le_refl _, by decide, by simp, fun i hi => ?_⟩
  obtain rfl : i = 0 := by simp at hi; exact hi
  exact ⟨by rw [World.cell?_alloc_at _ _ _ _ rfl]; rfl, by rw [World.cell?_alloc_at _ _ _ _ rfl]; rfl, by rw [World.cell?_alloc_at _ _ _ _ rfl]; rfl⟩
set_option maxHeartbeats 1000000 in
theorem lawFirst2 (w : World) (hr : Ready w) :
    Calls Tryd.prog 9 #[] w fun e w' => e = .returned (.bool true) ∧ Below w.heap.size w w' := by
  go_enter Tryd.func9, Tryd.ntmps9
  go_wp2_with fail
  refine (rowShow [] (.slice none 0 0) w hr (by decide) (fun v h => by cases h) (.inl ⟨none, 0, rfl, rfl⟩)).mono ?_
  rintro e w1 ⟨rfl, hb1⟩
  rw [show shR [] = [40, 41] from rfl]
  go_wp2_with fail
  refine (rowCompare [] [(0, 0, ⟨#[]⟩)] (.slice none 0 0) _ _ (.inl ⟨none, 0, rfl, rfl⟩) (one_null w1)).mono ?_
  rintro e w2 ⟨rfl, hb2⟩
  rw [show cR [] [(0, 0, ⟨#[]⟩)] = -1 from rfl]
  go_wp2_with fail
  go_ret
  exact ⟨rfl, (hb1.trans (one_box.mono hb1.size)).trans (hb2.mono (by have := hb1.size; simp; omega))⟩
end Go.Proofs.YtihijfbbmenbnaaDoor
