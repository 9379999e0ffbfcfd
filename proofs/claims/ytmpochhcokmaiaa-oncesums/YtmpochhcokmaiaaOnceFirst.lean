/- The chapter's examples hold. -/
import Derived.Test.YtmpochhcokmaiaaOnceOnce
import Derived.Test.YtmpochhcokmaiaaNewRows
namespace Go.Proofs.Ytmpochhcokmaiaa
open Go.RowKit Go.Sort
set_option maxRecDepth 100000
set_option linter.unusedVariables false

theorem eok_new {r : List Val} {k : Int} (h : inI k = true) (hr : r.length ≤ 65536) : EOk [(r, k)] := fun e he => by rw [List.mem_singleton.1 he]; exact ⟨h, hr⟩
set_option maxHeartbeats 2000000 in
theorem lawFirst13 (w : World) : Calls Try.prog 4 #[] w fun e w' => e = .returned (.bool true) ∧ Below w.heap.size w w' := by
  have q1 := onOnce [([(1, 5, ⟨#[]⟩)], -1)] _ _ (by simp) (eok_new rfl (by simp)) (ents_one (row_new w 1 5 ⟨#[]⟩) (-1))
  rw [World.size_alloc, show onZ [([((1 : Int), (5 : Int), (⟨#[]⟩ : ByteArray))], (-1 : Int))] = [] from rfl] at q1
  have q2 : Hid (∀ V, Below w.heap.size w V → RowIs V (.slice (some ⟨w.heap.size, 0, none⟩) 1 1) [(1, 5, ⟨#[]⟩)] → Calls Try.prog 5 #[.slice (some ⟨V.heap.size, 0, none⟩) 1 1] (V.alloc (.cells #[.slice (some ⟨w.heap.size, 0, none⟩) 1 1, .int .i64 7] 36)) fun e w' => ∃ v, e = .returned v ∧ EntsIs w' v [([(1, 5, ⟨#[]⟩)], 1)] ∧ Below w.heap.size w w') := fun V hV hr => by
    refine (onOnce [([(1, 5, ⟨#[]⟩)], 7)] _ _ (by simp) (eok_new rfl (by simp)) (ents_one hr 7)).mono ?_
    rintro e w' ⟨v, rfl, h1, h2⟩
    exact ⟨v, rfl, h1.ents, hV.trans ((one_box.trans (h2.mono (by simp))).mono hV.size)⟩
  have HR : Hid (RowIs (w.alloc (.cells #[.int .i64 1, .int .i64 5, .string ⟨#[]⟩] 39)) (.slice (some ⟨w.heap.size, 0, none⟩) 1 1) [(1, 5, ⟨#[]⟩)]) := row_new w 1 5 ⟨#[]⟩
  go_enter Try.func4, Try.ntmps4
  go_wp2_with fail
  refine q1.mono ?_
  rintro e w2 ⟨v2, rfl, h2, b2⟩
  have B2 : Below (w.alloc (.cells #[.int .i64 1, .int .i64 5, .string ⟨#[]⟩] 39)).heap.size (w.alloc (.cells #[.int .i64 1, .int .i64 5, .string ⟨#[]⟩] 39)) w2 := one_box.trans (b2.mono (by simp))
  have q3 := q2.out w2 (one_box.trans (B2.mono (by simp))) (HR.out.on B2)
  obtain ⟨a2, c2, rfl⟩ := h2.ents.form
  simp only [List.length_nil]
  clear q1 q2 h2 b2 B2 HR
  go_wp2_with fail
  refine q3.mono ?_
  rintro e w3 ⟨v3, rfl, h3, b3⟩
  have B3 : Hid (Below w.heap.size w w3) := b3
  obtain ⟨a3, c3, rfl⟩ := h3.form
  simp only [List.length_cons, List.length_nil, Nat.zero_add]
  clear q3 b3 h3
  go_wp2_with fail
  go_ret
  exact ⟨rfl, B3.out⟩
end Go.Proofs.Ytmpochhcokmaiaa
