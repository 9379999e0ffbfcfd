/- What a law of layer 9 holds: the world's variables; its first examples. -/
import Derived.Test.YtlbgfkkalalkaaaDoorWdIs
namespace Go.Proofs.YtlbgfkkalalkaaaDoor
open Go.RowKit Go.Sort
set_option maxRecDepth 100000

/-- What word's calls want, and the program's errors in their variables. -/
def WdA (w : World) : Prop := WdW w ∧ (∃ a, w.cell? ⟨1, 0, none⟩ = some (errV a)) ∧ (∃ a, w.cell? ⟨0, 0, none⟩ = some (errV a))
theorem WdA.on {w w' : World} (h : WdA w) (hb : Below w.heap.size w w') : WdA w' := by
  obtain ⟨h1, ⟨a, h2⟩, b, h3⟩ := h
  exact ⟨h1.on hb, ⟨a, cell_on h2 hb⟩, b, cell_on h3 hb⟩
/-- Split, where all is words. -/
theorem wSplitOk (s : ByteArray) (h4 : s.size ≤ 4000) (ws : List (Nat × Wd)) (hws : spl 0 s.data.toList = .inl ws) (w : World) (hw : WdA w) :
    Calls Tryd.prog 8 #[.string s] w fun e w' => (∃ v, e = .returned (.tuple #[v, .nilIface]) ∧ w'.ownsRow w.heap.size 40 4 v ws.length (wcs ws)) ∧ Below w.heap.size w w' := by
  obtain ⟨h1, ⟨a, h2⟩, _⟩ := hw
  refine (wSplit s h4 w h1 _ _ h2).mono fun e w' ⟨h, hb⟩ => ⟨?_, hb⟩
  rw [hws] at h
  exact h
theorem own_one {w : World} {base : Nat} {v : Value} {e : TypeId} {x y z u : Value} (h : w.ownsRow base e 4 v 1 [x, y, z, u]) : ∃ g cap, v = .slice (some ⟨g, 0, none⟩) 1 cap ∧ base ≤ g ∧ w.cell? ⟨g, 0, none⟩ = some x := by
  rcases h.2 with ⟨_, h0⟩ | ⟨g, cap, cur, hv, hg, _⟩
  · omega
  · subst hv
    exact ⟨g, cap, rfl, hg, by rw [h.cellAt 0 (by decide)]; rfl⟩
set_option maxHeartbeats 4000000 in
theorem lawFirst9 (w : World) (hw : WdA w) :
    Calls Tryd.prog 4 #[] w fun e w' => e = .returned (.bool true) ∧ Below w.heap.size w w' := by
  have q1 := wSplitOk ⟨#[97, 49]⟩ (by decide) _ spl_a1 w hw
  have q2 : Hid (∀ w, Calls Tryd.prog 9 #[.string ⟨#[97, 95, 98]⟩] w fun e w' => e = .returned (.bool true) ∧ Below w.heap.size w w') := fun w => wIsName ⟨#[97, 95, 98]⟩ (by decide) w
  have q3 : Hid (∀ w, Calls Tryd.prog 9 #[.string ⟨#[102, 105, 108, 116, 101, 114]⟩] w fun e w' => e = .returned (.bool false) ∧ Below w.heap.size w w') := fun w => wIsName ⟨#[102, 105, 108, 116, 101, 114]⟩ (by decide) w
  clear hw
  go_enter Tryd.func4, Tryd.ntmps4
  go_wp2_with fail
  refine q1.mono ?_
  rintro e w1 ⟨⟨v, rfl, ho⟩, hb⟩
  obtain ⟨g, cap, rfl, hg, hc⟩ := own_one ho
  have B1 : Hid (Below w.heap.size w w1) := hb
  clear q1 ho hb hg
  go_wp2_with fail
  refine (q2.out _).mono ?_
  rintro e w2 ⟨rfl, hb⟩
  have B2 : Hid (Below w.heap.size w w2) := B1.out.trans (hb.mono B1.out.size)
  clear hb hc
  go_wp2_with fail
  refine (q3.out _).mono ?_
  rintro e w3 ⟨rfl, hb⟩
  have B3 : Hid (Below w.heap.size w w3) := B2.out.trans (hb.mono B2.out.size)
  clear hb
  go_wp2_with fail
  go_ret
  exact ⟨rfl, B3.out⟩
end Go.Proofs.YtlbgfkkalalkaaaDoor
