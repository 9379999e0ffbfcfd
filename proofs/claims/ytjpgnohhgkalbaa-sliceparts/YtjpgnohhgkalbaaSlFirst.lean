/- The chapter's examples of parts hold: what the laws of layer 4 ask first. -/
import Derived.Test.YtjpgnohhgkalbaaSlProg
import Derived.Test.YtjpgnohhgkalbaaNewRows
namespace Go.Proofs.Ytjpgnohhgkalbaa
open Go.RowKit Go.Sort
set_option maxRecDepth 100000
theorem after_all (l : List Ent) (n : Int) (h : (l.length : Int) ≤ n) : after false [] l n = l := by
  have e : l.filter (afP false []) = l := List.filter_eq_self.2 (fun _ _ => rfl)
  unfold after; rw [e]; exact List.take_of_length_le (by omega)
set_option maxHeartbeats 2000000 in
theorem lawFirst4 (w : World) :
    Calls Try.prog 7 #[] w fun e w' => e = .returned (.bool true) ∧ Below w.heap.size w w' := by
  obtain ⟨W1, hW1⟩ : ∃ W1, W1 = (w.alloc (.cells #[.int .i64 1, .int .i64 5, .string ⟨#[]⟩] 45)).alloc (.cells #[.slice (some ⟨w.heap.size, 0, none⟩) 1 1, .int .i64 1] 34) := ⟨_, rfl⟩
  have hE : Hid (EntsIs W1 (.slice (some ⟨w.heap.size + 1, 0, none⟩) 1 1) [([(1, 5, ⟨#[]⟩)], 1)]) := by
    rw [hW1]
    have h := ents_one (row_new w 1 5 ⟨#[]⟩) 1
    rw [show (w.alloc (.cells #[.int .i64 1, .int .i64 5, .string ⟨#[]⟩] 45)).heap.size = w.heap.size + 1 by simp] at h
    exact h
  have hB1 : Hid (Below w.heap.size w W1) := by rw [hW1]; exact below_two
  have q1 : Hid (Calls Try.prog 12 #[.slice none 0 0, .slice none 0 0, .bool false, .int .i64 5] W1 fun e w' => ∃ a' cap', e = .returned (.slice a' 0 cap') ∧ Below W1.heap.size W1 w') := by
    refine (slAfter [] [] _ _ false 5 W1 (by simp) ⟨List.Pairwise.nil, fun e h => by cases h⟩ (fun e h => by cases h) (EntsIs.nil _ _ _) (.inl ⟨_, _, rfl, rfl⟩)).mono ?_
    rintro e w' ⟨v, rfl, h1, h2⟩
    obtain ⟨a', cap', rfl⟩ := h1.ents.form
    exact ⟨a', cap', rfl, h2⟩
  have q2 : Hid (∀ W, Below W1.heap.size W1 W → Calls Try.prog 12 #[.slice (some ⟨w.heap.size + 1, 0, none⟩) 1 1, .slice none 0 0, .bool false, .int .i64 5] W fun e w' => ∃ a' cap', e = .returned (.slice a' 1 cap') ∧ Below w.heap.size w w') := fun W hW => by
    refine (slAfter _ [] _ _ false 5 W (by simp) (isZ_one _ _ (by decide)) (fun e he => by simp at he; subst he; exact ⟨by decide, by simp⟩) (hE.out.on hW) (.inl ⟨_, _, rfl, rfl⟩)).mono ?_
    rintro e w' ⟨v, rfl, h1, h2⟩
    rw [after_all _ _ (by simp)] at h1
    obtain ⟨a', cap', rfl⟩ := h1.ents.form
    have hBW := hB1.out.trans (hW.mono hB1.out.size)
    exact ⟨a', cap', rfl, hBW.trans (h2.mono hBW.size)⟩
  rw [hW1] at q1 q2
  clear hE hB1 hW1
  go_enter Try.func7, Try.ntmps7
  go_wp2_with fail
  refine q1.out.mono ?_
  rintro e w2 ⟨a', cap', rfl, hb2⟩
  have q3 := q2.out w2 hb2
  clear q1 q2 hb2
  go_wp2_with fail
  refine q3.mono ?_
  rintro e w3 ⟨a2, cap2, rfl, hb3⟩
  clear q3
  go_wp2_with fail
  go_ret
  exact ⟨rfl, hb3⟩
end Go.Proofs.Ytjpgnohhgkalbaa
