/- What merge.Two answers. -/
import Derived.Test.YtanfjnhpdchbbabDoorPackTake
namespace Go.Proofs.YtanfjnhpdchbbabDoor
open Go.RowKit Go.Sort
set_option maxRecDepth 100000
theorem LOk.on {w w' : World} {x : QEnt} (h : LOk w x) (hb : Below w.heap.size w w') : LOk w' x := ⟨h.1.on hb, h.2⟩
theorem ls_two {w : World} {x y : QEnt} (hx : LOk w x) (hy : LOk w y) : LsIs (w.alloc (.cells #[x.1, y.1] 29)) (.slice (some ⟨w.heap.size, 0, none⟩) 2 2) [x, y] := by
  refine ⟨.inr ⟨w.heap.size, 0, 2, rfl, Nat.le_refl _, by unfold maxLen; omega, by simp, fun i hi => ?_⟩, fun z hz => ?_, by simp⟩
  · obtain rfl | rfl : i = 0 ∨ i = 1 := by simp at hi; omega
    · rw [World.cell?_alloc_at _ _ _ _ rfl]; rfl
    · rw [World.cell?_alloc_at _ _ _ _ rfl]; rfl
  · simp at hz
    rcases hz with rfl | rfl
    · exact hx.on one_box
    · exact hy.on one_box
set_option maxHeartbeats 1000000 in
theorem mgTwo (x y : QEnt) (a : Addr) (w : World) (ho : OverAt a w) (hx : LOk w x) (hy : LOk w y) (hN : x.2.length + y.2.length ≤ 65536) :
    Calls Tryd.prog 18 #[x.1, y.1] w fun e w' => ∃ v, e = .returned (.tuple #[v, ovE a (okZ (x.2 ++ y.2))]) ∧ ZHas w.heap.size (mkZ (x.2 ++ y.2)) v w' ∧ Below w.heap.size w w' := by
  have hf : flat [x, y] = x.2 ++ y.2 := by simp [flat]
  have q : Hid (Calls Tryd.prog 8 #[.slice (some ⟨w.heap.size, 0, none⟩) 2 2] (w.alloc (.cells #[x.1, y.1] 29)) fun e w' => ∃ v, e = .returned (.tuple #[v, ovE a (okZ (x.2 ++ y.2))]) ∧ ZHas w.heap.size (mkZ (x.2 ++ y.2)) v w' ∧ Below w.heap.size w w') := by
    have := mgAll [x, y] _ a _ (ho.on one_box) (ls_two hx hy) (by rw [hf]; simpa using hN)
    rw [hf] at this
    refine this.mono ?_
    rintro e w' ⟨v, h1, ⟨us, h2⟩, h3⟩
    exact ⟨v, h1, ⟨us, h2.mono (by simp)⟩, one_box.trans (h3.mono (by simp))⟩
  obtain ⟨vx, lx⟩ := x
  obtain ⟨vy, ly⟩ := y
  have hx1 : EntsIs w vx lx := hx.1
  have hy1 : EntsIs w vy ly := hy.1
  obtain ⟨a1, c1, rfl⟩ := hx1.form
  obtain ⟨a2, c2, rfl⟩ := hy1.form
  simp only at q hN ⊢
  clear hx hy ho hf hx1 hy1
  generalize ovE a (okZ (lx ++ ly)) = er at *
  go_enter Tryd.func18, Tryd.ntmps18
  go_wp2_with fail
  refine q.out.mono ?_
  rintro e w1 ⟨v, rfl, h1, h2⟩
  have F : Hid (ZHas w.heap.size (mkZ (lx ++ ly)) v w1) := h1
  clear q h1
  go_wp2_with fail
  go_ret2
  exact ⟨v, rfl, F.out, h2⟩
end Go.Proofs.YtanfjnhpdchbbabDoor
