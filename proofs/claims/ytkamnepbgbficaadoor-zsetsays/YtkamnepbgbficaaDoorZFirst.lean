/- The chapter's examples of z-sets hold: what the laws of layer 3 ask first. -/
import Derived.Test.YtkamnepbgbficaaDoorZProg
namespace Go.Proofs.YtkamnepbgbficaaDoor
open Go.RowKit Go.Sort
set_option maxRecDepth 100000

/-- Small z-sets, reckoned. -/
theorem gat_one (r : List Val) (k : Int) : gat [(r, k)] = [(r, k)] := rfl
theorem gat_two (r : List Val) (k m : Int) : gat [(r, k), (r, m)] = [(r, k + m)] := by
  unfold gat; simp only [List.foldl_cons, List.foldl_nil, ins]
  rw [cR_self]; simp
theorem okZ_one (r : List Val) (k : Int) : okZ [(r, k)] = inI k := by unfold okZ; rw [gat_one]; simp [fitsZ]
theorem okZ_two (r : List Val) (k m : Int) : okZ [(r, k), (r, m)] = inI (k + m) := by unfold okZ; rw [gat_two]; simp [fitsZ]
theorem mkZ_one (r : List Val) (k : Int) (h : inI k = true) (h0 : k ≠ 0) : mkZ [(r, k)] = [(r, k)] := by
  unfold mkZ; rw [okZ_one, if_pos h, gat_one]; simp [nzZ, h0]
theorem mkZ_two (r : List Val) (k m : Int) : mkZ [(r, k), (r, m)] = if inI (k + m) then (if k + m = 0 then [] else [(r, k + m)]) else [] := by
  unfold mkZ; rw [okZ_two, gat_two]
  by_cases h : k + m = 0 <;> simp [nzZ, h]
theorem isZ_one (r : List Val) (k : Int) (h0 : k ≠ 0) : IsZ [(r, k)] := ⟨by simp [SortedZ], fun e he => by simp at he; rw [he]; exact h0⟩
/-- A row of one value, newly made; entries of it, newly made. -/
theorem row_new (w : World) (k n : Int) (s : ByteArray) : RowIs (w.alloc (.cells #[.int .i64 k, .int .i64 n, .string s] 48)) (.slice (some ⟨w.heap.size, 0, none⟩) 1 1) [(k, n, s)] := by
  refine .inr ⟨w.heap.size, 0, 1, rfl, Nat.le_refl _, by unfold maxLen; omega, by simp, fun i hi => ?_⟩
  obtain rfl : i = 0 := by simp at hi; exact hi
  exact ⟨by rw [World.cell?_alloc_at _ _ _ _ rfl]; rfl, by rw [World.cell?_alloc_at _ _ _ _ rfl]; rfl, by rw [World.cell?_alloc_at _ _ _ _ rfl]; rfl⟩
theorem ents_one {w : World} {v : Value} {r : List Val} (h : RowIs w v r) (n : Int) : EntsIs (w.alloc (.cells #[v, .int .i64 n] 50)) (.slice (some ⟨w.heap.size, 0, none⟩) 1 1) [(r, n)] := by
  refine ⟨[(v, n)], .inr ⟨w.heap.size, 0, 1, rfl, Nat.le_refl _, by unfold maxLen; omega, by simp, fun i hi => ?_⟩, Reads.one (h.on one_box) n⟩
  obtain rfl : i = 0 := by simp at hi; exact hi
  exact ⟨by rw [World.cell?_alloc_at _ _ _ _ rfl]; rfl, by rw [World.cell?_alloc_at _ _ _ _ rfl]; rfl⟩
theorem ents_two {w : World} {v : Value} {r : List Val} (h : RowIs w v r) (n m : Int) : EntsIs (w.alloc (.cells #[v, .int .i64 n, v, .int .i64 m] 50)) (.slice (some ⟨w.heap.size, 0, none⟩) 2 2) [(r, n), (r, m)] := by
  refine ⟨[(v, n), (v, m)], .inr ⟨w.heap.size, 0, 2, rfl, Nat.le_refl _, by unfold maxLen; omega, by simp, fun i hi => ?_⟩, (Reads.one (h.on one_box) n).snoc (h.on one_box) m⟩
  obtain rfl | rfl : i = 0 ∨ i = 1 := by simp at hi; omega
  · exact ⟨by rw [World.cell?_alloc_at _ _ _ _ rfl]; rfl, by rw [World.cell?_alloc_at _ _ _ _ rfl]; rfl⟩
  · exact ⟨by rw [World.cell?_alloc_at _ _ _ _ rfl]; rfl, by rw [World.cell?_alloc_at _ _ _ _ rfl]; rfl⟩
set_option maxHeartbeats 2000000 in
theorem lawFirst3 (a : Addr) (w : World) (ho : OverAt a w) :
    Calls Tryd.prog 8 #[] w fun e w' => e = .returned (.bool true) ∧ Below w.heap.size w w' := by
  obtain ⟨W1, hW1⟩ : ∃ W1, W1 = w.alloc (.cells #[.int .i64 1, .int .i64 5, .string ⟨#[]⟩] 48) := ⟨_, rfl⟩
  have hr : Hid (RowIs W1 (.slice (some ⟨w.heap.size, 0, none⟩) 1 1) [(1, 5, ⟨#[]⟩)]) := by rw [hW1]; exact row_new w 1 5 ⟨#[]⟩
  have hs : W1.heap.size = w.heap.size + 1 := by rw [hW1]; simp
  have hB1 : Hid (Below w.heap.size w W1) := by rw [hW1]; exact one_box
  have q1 : Hid (Calls Tryd.prog 11 #[.slice (some ⟨w.heap.size + 1, 0, none⟩) 2 2] (W1.alloc (.cells #[.slice (some ⟨w.heap.size, 0, none⟩) 1 1, .int .i64 1, .slice (some ⟨w.heap.size, 0, none⟩) 1 1, .int .i64 (-1)] 50)) fun e w' => ∃ a' cap', e = .returned (.tuple #[.slice a' 0 cap', .nilIface]) ∧ Below W1.heap.size W1 w') := by
    have he := ents_two hr.out 1 (-1)
    rw [hs] at he
    refine (zMake _ _ a _ ((ho.on hB1.out).on one_box) (by decide) (by intro e he; simp at he; rcases he with rfl | rfl <;> exact ⟨by decide, by simp⟩) he).mono ?_
    rintro e w' ⟨v, rfl, h1, h2⟩
    rw [mkZ_two] at h1
    simp only [okZ_two]
    obtain ⟨a', cap', rfl⟩ := h1.form
    exact ⟨a', cap', rfl, one_box.trans (h2.mono (by simp))⟩
  rw [hW1] at q1
  have q2 : Hid (∀ W, Below W1.heap.size W1 W → Calls Tryd.prog 11 #[.slice (some ⟨W.heap.size, 0, none⟩) 1 1] (W.alloc (.cells #[.slice (some ⟨w.heap.size, 0, none⟩) 1 1, .int .i64 2] 50)) fun e w' => ∃ a' cap', e = .returned (.tuple #[.slice a' 1 cap', .nilIface]) ∧ Below w.heap.size w w') := fun W hW => by
    have he := ents_one (hr.out.on hW) 2
    refine (zMake _ _ a _ (((ho.on hB1.out).on hW).on one_box) (by decide) (by intro e he; simp at he; subst he; exact ⟨by decide, by simp⟩) he).mono ?_
    rintro e w' ⟨v, rfl, h1, h2⟩
    rw [mkZ_one _ _ (by decide) (by decide)] at h1
    simp only [okZ_one]
    obtain ⟨a', cap', rfl⟩ := h1.form
    have hBW := hB1.out.trans (hW.mono hB1.out.size)
    exact ⟨a', cap', rfl, hBW.trans ((one_box.trans (h2.mono (by simp))).mono hBW.size)⟩
  rw [hW1] at q2
  clear hr hs hB1 hW1
  go_enter Tryd.func8, Tryd.ntmps8
  go_wp2_with fail
  refine q1.out.mono ?_
  rintro e w2 ⟨a', cap', rfl, hb2⟩
  have q3 := q2.out w2 hb2
  clear q1 q2 hb2
  go_wp2_with fail
  refine q3.mono ?_
  rintro e w3 ⟨a2, cap2, rfl, hb3⟩
  clear q3
  go_wp2_with fail
  go_ret
  exact ⟨rfl, hb3⟩
end Go.Proofs.YtkamnepbgbficaaDoor
