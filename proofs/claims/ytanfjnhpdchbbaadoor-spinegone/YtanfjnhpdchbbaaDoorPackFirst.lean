/- Texts of one claim, one behind the other. -/
import Derived.Test.YtanfjnhpdchbbaaDoorZSum
import Derived.Test.YtanfjnhpdchbbaaDoorPackLaw
/- Rows and entries that are newly made. -/
namespace Go.Proofs.YtanfjnhpdchbbaaDoor
open Go.RowKit
set_option maxRecDepth 100000
theorem isZ_one (r : List Val) (k : Int) (h0 : k ≠ 0) : IsZ [(r, k)] := ⟨by simp [SortedZ], fun e he => by simp at he; rw [he]; exact h0⟩
theorem row_new (w : World) (k n : Int) (s : ByteArray) : RowIs (w.alloc (.cells #[.int .i64 k, .int .i64 n, .string s] 62)) (.slice (some ⟨w.heap.size, 0, none⟩) 1 1) [(k, n, s)] := by
  refine .inr ⟨w.heap.size, 0, 1, rfl, Nat.le_refl _, by unfold maxLen; omega, by simp, fun i hi => ?_⟩
  obtain rfl : i = 0 := by simp at hi; exact hi
  exact ⟨by rw [World.cell?_alloc_at _ _ _ _ rfl]; rfl, by rw [World.cell?_alloc_at _ _ _ _ rfl]; rfl, by rw [World.cell?_alloc_at _ _ _ _ rfl]; rfl⟩
theorem ents_one {w : World} {v : Value} {r : List Val} (h : RowIs w v r) (n : Int) : EntsIs (w.alloc (.cells #[v, .int .i64 n] 50)) (.slice (some ⟨w.heap.size, 0, none⟩) 1 1) [(r, n)] := by
  refine ⟨[(v, n)], .inr ⟨w.heap.size, 0, 1, rfl, Nat.le_refl _, by unfold maxLen; omega, by simp, fun i hi => ?_⟩, Reads.one (h.on one_box) n⟩
  obtain rfl : i = 0 := by simp at hi; exact hi
  exact ⟨by rw [World.cell?_alloc_at _ _ _ _ rfl]; rfl, by rw [World.cell?_alloc_at _ _ _ _ rfl]; rfl⟩
theorem ents_two {w : World} {v : Value} {r : List Val} (h : RowIs w v r) (n m : Int) : EntsIs (w.alloc (.cells #[v, .int .i64 n, v, .int .i64 m] 50)) (.slice (some ⟨w.heap.size, 0, none⟩) 2 2) [(r, n), (r, m)] := by
  refine ⟨[(v, n), (v, m)], .inr ⟨w.heap.size, 0, 2, rfl, Nat.le_refl _, by unfold maxLen; omega, by simp, fun i hi => ?_⟩, (Reads.one (h.on one_box) n).snoc (h.on one_box) m⟩
  obtain rfl | rfl : i = 0 ∨ i = 1 := by simp at hi; omega
  · exact ⟨by rw [World.cell?_alloc_at _ _ _ _ rfl]; rfl, by rw [World.cell?_alloc_at _ _ _ _ rfl]; rfl⟩
  · exact ⟨by rw [World.cell?_alloc_at _ _ _ _ rfl]; rfl, by rw [World.cell?_alloc_at _ _ _ _ rfl]; rfl⟩
end Go.Proofs.YtanfjnhpdchbbaaDoor
/- The chapter's examples of a spine hold: what the laws of layer 6 ask first. -/
namespace Go.Proofs.YtanfjnhpdchbbaaDoor
open Go.RowKit Go.Sort
set_option maxRecDepth 100000
theorem cols_xy (w : World) (x y : Int) : ColsAt w.heap.size [x, y] (w.alloc (.cells #[.int .i64 x, .int .i64 y] 3)) := by
  refine ⟨by simp, fun i hi => ?_⟩
  obtain rfl | rfl : i = 0 ∨ i = 1 := by simp at hi; omega
  · rw [World.cell?_alloc_at _ _ _ _ rfl]; rfl
  · rw [World.cell?_alloc_at _ _ _ _ rfl]; rfl
theorem cols_x (w : World) (x : Int) : ColsAt w.heap.size [x] (w.alloc (.cells #[.int .i64 x] 3)) := by
  refine ⟨by simp, fun i hi => ?_⟩
  obtain rfl : i = 0 := by simp at hi; exact hi
  rw [World.cell?_alloc_at _ _ _ _ rfl]; rfl
theorem PS.start {a : Option Addr} {len cap : Nat} {zs : List Int} {w0 w V : World} (hB : Below w0.heap.size w0 w) (hV : Below w.heap.size w V) (hS : SeqAt w.heap.size a len cap zs 0 V) : PS NoP [] w.heap.size a len cap zs 0 V.heap.size [] 0 0 w0 (V.alloc (.cells #[.slice none 0 0, .pointer none] 31)) := by
  have hf : ∀ k, Free { w with heap := #[] } k := fun k p v hp => by simp [World.cell?] at hp
  have hlt : w.heap.size < V.heap.size := hS.2.2.2.1
  refine ⟨fun k => k = V.heap.size, fun _ => False, { w with heap := #[] }, ⟨⟨by simp, fun p v hp => by simp [World.cell?] at hp⟩, hf _, fun k e => ⟨hf k, ?_⟩, hB.size, by simp; omega, ?_⟩, fun _ _ e => e, SpIs.new V, fun _ e => e, fun x hx => (by cases hx), hS.on one_box⟩
  · rcases e with e | e
    · rw [e]; exact hlt
    · cases e
  · exact hB.trans ((hV.trans (one_box.mono hV.size)).mono hB.size)
theorem sameEnts6 (l : List Ent) (va vb : Value) (w : World) (ha : EntsIs w va l) (hb : EntsIs w vb l) :
    Calls Tryd.prog 15 #[va, vb] w fun e w' => e = .returned (.bool true) ∧ Below w.heap.size w w' := by
  have := sameEntries l l va vb w ha hb
  have e : sEs l l = true := by unfold sEs; simp
  rw [e] at this; exact this
theorem okI {k : Int} (h : -100000 ≤ k ∧ k ≤ 100000) : inI k = true := by rw [inI_iff]; omega
set_option maxHeartbeats 2000000 in
theorem lawFirst6 (a : Addr) (w : World) (ho : OverAt a w) :
    Calls Tryd.prog 8 #[] w fun e w' => e = .returned (.bool true) ∧ Below w.heap.size w w' := by
  obtain ⟨W0, hW0⟩ : ∃ W0, W0 = w.alloc (.cells #[.slice none 0 0, .pointer none] 31) := ⟨_, rfl⟩
  have hs0 : W0.heap.size = w.heap.size + 1 := by rw [hW0]; simp
  have hX0 : SpIs (fun k => k = w.heap.size) w.heap.size [] 0 0 W0 := by rw [hW0]; exact SpIs.new w
  have hB0 : Below w.heap.size w W0 := by rw [hW0]; exact one_box
  obtain ⟨W1, hW1⟩ : ∃ W1, W1 = W0.alloc (.cells #[.int .i64 1, .int .i64 5, .string ⟨#[]⟩] 62) := ⟨_, rfl⟩
  have hr : RowIs W1 (.slice (some ⟨w.heap.size + 1, 0, none⟩) 1 1) [(1, 5, ⟨#[]⟩)] := by rw [hW1, ← hs0]; exact row_new W0 1 5 ⟨#[]⟩
  have hs1 : W1.heap.size = w.heap.size + 2 := by rw [hW1]; simp [hs0]
  have hB1 : Below W0.heap.size W0 W1 := by rw [hW1]; exact one_box
  have he := ents_one hr 1
  rw [hs1] at he
  obtain ⟨W2, hW2⟩ : ∃ W2, W2 = W1.alloc (.cells #[.slice (some ⟨w.heap.size + 1, 0, none⟩) 1 1, .int .i64 1] 50) := ⟨_, rfl⟩
  rw [← hW2] at he
  have hB2 : Below W0.heap.size W0 W2 := hB1.trans ((by rw [hW2]; exact one_box : Below W1.heap.size W1 W2).mono hB1.size)
  have hBw : Below w.heap.size w W2 := hB0.trans (hB2.mono hB0.size)
  have hX2 := hX0.on hB2
  have hZ : IsZ [([((1 : Int), (5 : Int), (⟨#[]⟩ : ByteArray))], (1 : Int))] := isZ_one _ 1 (by decide)
  have hE : EOk [([((1 : Int), (5 : Int), (⟨#[]⟩ : ByteArray))], (1 : Int))] := fun e h => by simp at h; rw [h]; exact ⟨by decide, by simp⟩
  obtain ⟨z1, z2⟩ := isZ_mk hZ hE
  have q1 : Hid (Calls Tryd.prog 14 #[.pointer (some ⟨w.heap.size, 0, none⟩)] W2 fun e w' => ∃ a' cap', e = .returned (.slice a' 0 cap') ∧ Below W2.heap.size W2 w') := by
    obtain ⟨st, k1, _⟩ := hX2
    refine (spAllX _ _ _ _ _ st a W2 k1 (ho.on hBw) (by omega)).mono ?_
    rintro e w' ⟨v, rfl, h1, h2⟩
    obtain ⟨a', cap', rfl⟩ := h1.ents.form
    exact ⟨a', cap', rfl, h2⟩
  have q2 : Hid (∀ W, Below W2.heap.size W2 W → Calls Tryd.prog 11 #[.pointer (some ⟨w.heap.size, 0, none⟩), .slice (some ⟨w.heap.size + 2, 0, none⟩) 1 1] W fun e w' => e = .returned .nilIface ∧ (∃ F, SpIs F w.heap.size [([((1 : Int), (5 : Int), (⟨#[]⟩ : ByteArray))], (1 : Int))] 1 1 w') ∧ Below w.heap.size w w') := fun W hW => by
    have hBW := hBw.trans (hW.mono hBw.size)
    refine (spInsert _ _ _ _ _ [([((1 : Int), (5 : Int), (⟨#[]⟩ : ByteArray))], (1 : Int))] _ a W (hX2.on hW) (ho.on hBW) hZ hE (he.on hW) (by simp)).mono ?_
    rintro e w' ⟨rfl, c1, c2, _⟩
    rw [List.nil_append, z1] at *
    have := c2 rfl
    rw [z2] at this
    refine ⟨rfl, ⟨_, this⟩, hBW.trans ⟨c1.1, c1.2.1, c1.2.2.1, c1.size, fun k hk => c1.2.2.2.2 k (fun e => by omega) (by have := hBW.size; omega)⟩⟩
  have HO : Hid (∀ W, Below w.heap.size w W → OverAt a W) := fun W hB => ho.on hB
  have HW : Hid (((w.alloc (.cells #[.slice none 0 0, .pointer none] 31)).alloc (.cells #[.int .i64 1, .int .i64 5, .string ⟨#[]⟩] 62)).alloc (.cells #[.slice (some ⟨w.heap.size + 1, 0, none⟩) 1 1, .int .i64 1] 50) = W2) := by show _ = _; rw [hW2, hW1, hW0]
  clear hr hs1 hB1 hW1 he hB2 hW2 hX0 hX2 hZ hE z1 z2 hW0 hs0 hB0 hBw ho
  go_enter Tryd.func8, Tryd.ntmps8
  go_wp2_with fail
  rw [HW.out]
  refine q1.out.mono ?_
  rintro e w2 ⟨a', cap', rfl, hb2⟩
  have q3 := q2.out w2 hb2
  clear q1 q2 hb2
  go_wp2_with fail
  refine q3.mono ?_
  rintro e w3 ⟨rfl, ⟨F, st, h3, _⟩, hb3⟩
  have q4 := spRowsX F _ _ 1 1 st a w3 h3 (HO.out w3 hb3) (by omega)
  have H3 : Hid (SpX F w.heap.size [([((1 : Int), (5 : Int), (⟨#[]⟩ : ByteArray))], (1 : Int))] 1 1 st w3) := h3
  have B3 : Hid (Below w.heap.size w w3) := hb3
  clear q3 h3 hb3
  go_wp2_with fail
  refine q4.mono ?_
  rintro e w4 ⟨rfl, hb4⟩
  have q5 := spBatchesX F _ _ 1 1 st w4 (H3.out.on hb4)
  have B4 : Hid (Below w.heap.size w w4) := B3.out.trans (hb4.mono B3.out.size)
  clear q4 hb4
  go_wp2_with fail
  refine q5.mono ?_
  rintro e w5 ⟨rfl, rfl⟩
  clear q5
  go_wp2_with fail
  go_ret
  exact ⟨rfl, B4.out⟩
end Go.Proofs.YtanfjnhpdchbbaaDoor
