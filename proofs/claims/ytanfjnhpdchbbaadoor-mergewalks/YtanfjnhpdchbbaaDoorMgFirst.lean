/- The chapter's examples of many as one hold: what the laws of layer 5 ask first. -/
import Derived.Test.YtanfjnhpdchbbaaDoorMgTwo
import Derived.Test.YtanfjnhpdchbbaaDoorNewRows
namespace Go.Proofs.YtanfjnhpdchbbaaDoor
open Go.RowKit Go.Sort
set_option maxRecDepth 100000
theorem mkZ_pair (r : List Val) : okZ ([(r, 1)] ++ [(r, 1)]) = true ∧ mkZ ([(r, 1)] ++ [(r, 1)]) = [(r, 2)] := by
  have g : gat ([(r, 1)] ++ [(r, 1)]) = [(r, 2)] := by
    unfold gat; simp only [List.cons_append, List.nil_append, List.foldl_cons, List.foldl_nil, ins]
    rw [cR_self]; simp
  have ho : okZ ([(r, 1)] ++ [(r, 1)]) = true := by unfold okZ; rw [g]; simp [fitsZ, inI]
  exact ⟨ho, by unfold mkZ; rw [ho, g]; simp [nzZ]⟩
theorem ls_nil (w : World) : LsIs w (.slice none 0 0) [] := ⟨.inl ⟨none, 0, rfl, rfl⟩, fun x hx => (by cases hx), by simp⟩
set_option maxHeartbeats 2000000 in
theorem lawFirst5 (a : Addr) (w : World) (ho : OverAt a w) :
    Calls Tryd.prog 20 #[] w fun e w' => e = .returned (.bool true) ∧ Below w.heap.size w w' := by
  obtain ⟨W1, hW1⟩ : ∃ W1, W1 = w.alloc (.cells #[.int .i64 1, .int .i64 5, .string ⟨#[]⟩] 62) := ⟨_, rfl⟩
  have hr : RowIs W1 (.slice (some ⟨w.heap.size, 0, none⟩) 1 1) [(1, 5, ⟨#[]⟩)] := by rw [hW1]; exact row_new w 1 5 ⟨#[]⟩
  have hs : W1.heap.size = w.heap.size + 1 := by rw [hW1]; simp
  have hB1 : Below w.heap.size w W1 := by rw [hW1]; exact one_box
  have he := ents_one hr 1
  rw [hs] at he
  obtain ⟨W2, hW2⟩ : ∃ W2, W2 = W1.alloc (.cells #[.slice (some ⟨w.heap.size, 0, none⟩) 1 1, .int .i64 1] 50) := ⟨_, rfl⟩
  rw [← hW2] at he
  have hB2 : Below w.heap.size w W2 := hB1.trans ((by rw [hW2]; exact one_box : Below W1.heap.size W1 W2).mono hB1.size)
  have q1 : Hid (Calls Tryd.prog 22 #[.slice none 0 0] W2 fun e w' => ∃ a' cap', e = .returned (.tuple #[.slice a' 0 cap', .nilIface]) ∧ Below W2.heap.size W2 w') :=
    (mgAll [] (.slice none 0 0) a W2 (ho.on hB2) (ls_nil _) (by simp [flat])).mono (by
      rintro e w' ⟨v, rfl, h1, h2⟩
      have e0 : mkZ (flat []) = [] := rfl
      rw [e0] at h1
      obtain ⟨a', cap', rfl⟩ := h1.ents.form
      exact ⟨a', cap', rfl, h2⟩)
  have q2 : Hid (∀ W, Below W2.heap.size W2 W → Calls Tryd.prog 24 #[.slice (some ⟨w.heap.size + 1, 0, none⟩) 1 1, .slice (some ⟨w.heap.size + 1, 0, none⟩) 1 1] W fun e w' => ∃ b cap', e = .returned (.tuple #[.slice (some ⟨b, 0, none⟩) 1 cap', .nilIface]) ∧ w'.cell? ⟨b, 1, none⟩ = some (.int .i64 2) ∧ Below w.heap.size w w') := fun W hW => by
    have hk : LOk W (.slice (some ⟨w.heap.size + 1, 0, none⟩) 1 1, [([(1, 5, ⟨#[]⟩)], 1)]) := ⟨he.on hW, by simp [SortedZ], fun e h => by simp at h; rw [h]; exact ⟨by decide, by simp⟩, by simp⟩
    refine (mgTwo _ _ a W ((ho.on hB2).on hW) hk hk (by simp)).mono ?_
    rintro e w' ⟨v, rfl, ⟨us, h1⟩, h2⟩
    simp only [(mkZ_pair [(1, 5, ⟨#[]⟩)]).1]
    simp only [(mkZ_pair [(1, 5, ⟨#[]⟩)]).2] at h1
    have hu : us.length = 1 := h1.2.1
    have ho' := h1.1
    rw [hu] at ho'
    rcases ho'.2 with ⟨_, e⟩ | ⟨g, c, cur, rfl, _⟩
    · omega
    · refine ⟨g, c, rfl, ?_, hB2.trans ((hW.trans (h2.mono hW.size)).mono hB2.size)⟩
      rw [ho'.cellAt 1 (by omega), (es_at us 0 (by omega)).2]
      have := (h1.2.2 0 (by omega) (by simp)).2
      rw [this]; rfl
  have HW : Hid ((w.alloc (.cells #[.int .i64 1, .int .i64 5, .string ⟨#[]⟩] 62)).alloc (.cells #[.slice (some ⟨w.heap.size, 0, none⟩) 1 1, .int .i64 1] 50) = W2) := by show _ = _; rw [hW2, hW1]
  clear hr hs hB1 hW1 he hB2 hW2
  go_enter Tryd.func20, Tryd.ntmps20
  go_wp2_with fail
  rw [HW.out]
  refine q1.out.mono ?_
  rintro e w2 ⟨a', cap', rfl, hb2⟩
  have q3 := q2.out w2 hb2
  clear q1 q2 hb2
  go_wp2_with fail
  refine q3.mono ?_
  rintro e w3 ⟨b2, cap2, rfl, c3, hb3⟩
  clear q3
  go_wp2_with fail
  go_ret
  exact ⟨rfl, hb3⟩
end Go.Proofs.YtanfjnhpdchbbaaDoor
