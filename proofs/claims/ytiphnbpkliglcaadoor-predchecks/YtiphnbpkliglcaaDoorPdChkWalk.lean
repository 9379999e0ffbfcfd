/- The walk of the law that what can't be is told, from the outermost on. -/
import Derived.Test.YtiphnbpkliglcaaDoorPdChk
import Derived.Test.YtiphnbpkliglcaaDoorPdFirst
import Derived.Test.YtiphnbpkliglcaaDoorPdNew
import Derived.Test.YtiphnbpkliglcaaDoorLaidErrs
namespace Go.Proofs.YtiphnbpkliglcaaDoor
open Go.RowKit Go.Sort
set_option maxRecDepth 100000
set_option linter.unusedVariables false

/-- A list of predicates laid at once. -/
theorem PdL.of_alloc {n : Nat} {W : World} (ps : List PEnt) (t : TypeId) (hp : ∀ e ∈ ps, PdL (fun _ => True) n W e.2 e.1.l) (hm : ps.length ≤ maxLen) : PdL (fun _ => True) (n + 1) (W.alloc (.cells (pcs ps).toArray t)) (.slice (some ⟨W.heap.size, 0, none⟩) ps.length ps.length) (ps.map (·.1)) := by
  refine .inr ⟨W.heap.size, 0, ps.length, by rw [List.length_map], by rw [List.length_map]; exact Nat.le_refl _, hm, by simp, trivial, fun i hi => ?_⟩
  rw [List.length_map] at hi
  have ha : ∀ j, j < 8 → (W.alloc (.cells (pcs ps).toArray t)).cell? ⟨W.heap.size, 0 + i * 8 + j, none⟩ = (Go.Proofs.YtiphnbpkliglcaaDoor.hc ps[i].1 ps[i].2)[j]? := fun j hj => by
    rw [World.cell?_alloc_at _ _ _ _ rfl, Nat.zero_add]
    have := pcs_at ps i hi j hj
    simpa using this
  refine ⟨ps[i].2, ?_, ?_⟩
  · rw [List.getElem_map]
    exact ⟨ha 0 (by omega), ha 1 (by omega), ha 2 (by omega), ha 3 (by omega), ha 4 (by omega), ha 5 (by omega), ha 6 (by omega), ha 7 (by omega)⟩
  · rw [List.getElem_map]; exact (hp _ (List.getElem_mem hi)).on one_box
def gdP : Pd := ⟨1, 0, 1, 0, (1, 5, ⟨#[]⟩), []⟩
def n5P : Pd := ⟨3, 5, 0, 0, (0, 0, ⟨#[]⟩), []⟩
theorem fourteen (n : Int) : ∃ k : Nat, (wrap64 (n.tmod 14 + 14)).tmod 14 = (k : Int) ∧ k < 14 := by
  have t1 := Int.tmod_lt_of_pos n (by decide : (0 : Int) < 14)
  have t2 := Int.tmod_lt_of_pos (-n) (by decide : (0 : Int) < 14)
  rw [Int.neg_tmod] at t2
  have e : wrap64 (n.tmod 14 + 14) = n.tmod 14 + 14 := by unfold wrap64; omega
  rw [e, Int.tmod_eq_emod_of_nonneg (by omega)]
  exact ⟨((n.tmod 14 + 14) % 14).toNat, by omega, by omega⟩
theorem chk_ord : ordOk (regOf Tryd.f3.body 10) ((0, true) :: (1, true) :: (2, true) :: (3, true) :: (4, false) :: (5, true) :: (6, true) :: (7, true) :: (8, true) :: (9, true) :: (10, true) :: (11, true) :: (12, true) :: (14, true) :: (15, true) :: (16, true) :: (17, true) :: (13, false) :: (18, false) :: (19, true) :: (20, true) :: []) = true := by kernel_rfl
theorem chk_good : chP [1, 2, 3] gdP = none := by
  unfold gdP; rw [chP_eq]; simp [askOk, askP, fitP, ptsP, frstE, kAt, sgn, ckV]
theorem chk_n5 : chP [1, 2, 3] n5P = some 5 := by
  rw [chP_eq]; rfl
theorem chk_0 : chP [1, 2, 3] ⟨1, 3, 1, 0, (1, 5, ⟨#[]⟩), []⟩ = some 5 := by
  rw [chP_eq]; rfl
theorem chk_1 : chP [1, 2, 3] ⟨1, 1, 1, 0, (1, 5, ⟨#[]⟩), []⟩ = some 1 := by
  rw [chP_eq]; rfl
theorem chk_2 : chP [1, 2, 3] ⟨1, 0, 7, 0, (1, 5, ⟨#[]⟩), []⟩ = some 1 := by
  rw [chP_eq]; rfl
theorem chk_3 : chP [1, 2, 3] ⟨1, 0, 1, 0, (0, 0, ⟨#[]⟩), []⟩ = some 1 := by
  rw [chP_eq]; rfl
theorem chk_4 : chP [1, 2, 3] ⟨2, 0, 1, 1, (0, 0, ⟨#[]⟩), []⟩ = some 1 := by
  rw [chP_eq]; rfl
theorem chk_5 : chP [1, 2, 3] ⟨2, 0, 1, (-1), (0, 0, ⟨#[]⟩), []⟩ = some 5 := by
  rw [chP_eq]; rfl
theorem chk_6 : chP [1, 2, 3] ⟨3, (-1), 0, 0, (0, 0, ⟨#[]⟩), []⟩ = some 5 := by
  rw [chP_eq]; rfl
theorem chk_7 : chP [1, 2, 3] ⟨4, 0, 0, 0, (0, 0, ⟨#[]⟩), [gdP]⟩ = some 1 := by
  rw [chP_eq]; rfl
theorem chk_8 : chP [1, 2, 3] ⟨5, 0, 0, 0, (0, 0, ⟨#[]⟩), []⟩ = some 1 := by
  rw [chP_eq]; rfl
theorem chk_9 : chP [1, 2, 3] ⟨6, 0, 0, 0, (0, 0, ⟨#[]⟩), []⟩ = some 1 := by
  rw [chP_eq]; rfl
theorem chk_10 : chP [1, 2, 3] ⟨6, 0, 0, 0, (0, 0, ⟨#[]⟩), [gdP, gdP]⟩ = some 1 := by
  rw [chP_eq]; rfl
theorem chk_11 : chP [1, 2, 3] ⟨9, 0, 0, 0, (0, 0, ⟨#[]⟩), []⟩ = some 1 := by
  rw [chP_eq]; rfl
theorem chk_12 : chP [1, 2, 3] ⟨4, 0, 0, 0, (0, 0, ⟨#[]⟩), [gdP, n5P]⟩ = some 5 := by
  rw [chP_eq]
  show frstE [chP [1, 2, 3] gdP, chP [1, 2, 3] n5P] = some 5
  rw [chk_good, chk_n5]; rfl
theorem chk_13 : chP [1, 2, 3] ⟨1, 2, 1, 0, (3, 2, ⟨#[]⟩), []⟩ = some 1 := by
  rw [chP_eq]; rfl
def AgP (n : Nat) (b : Nat) (w : World) : Prop := PdL (fun _ => True) n w (.slice (some ⟨b, 0, none⟩) 14 14) [⟨1, 3, 1, 0, (1, 5, ⟨#[]⟩), []⟩, ⟨1, 1, 1, 0, (1, 5, ⟨#[]⟩), []⟩, ⟨1, 0, 7, 0, (1, 5, ⟨#[]⟩), []⟩, ⟨1, 0, 1, 0, (0, 0, ⟨#[]⟩), []⟩, ⟨2, 0, 1, 1, (0, 0, ⟨#[]⟩), []⟩, ⟨2, 0, 1, (-1), (0, 0, ⟨#[]⟩), []⟩, ⟨3, (-1), 0, 0, (0, 0, ⟨#[]⟩), []⟩, ⟨4, 0, 0, 0, (0, 0, ⟨#[]⟩), [gdP]⟩, ⟨5, 0, 0, 0, (0, 0, ⟨#[]⟩), []⟩, ⟨6, 0, 0, 0, (0, 0, ⟨#[]⟩), []⟩, ⟨6, 0, 0, 0, (0, 0, ⟨#[]⟩), [gdP, gdP]⟩, ⟨9, 0, 0, 0, (0, 0, ⟨#[]⟩), []⟩, ⟨4, 0, 0, 0, (0, 0, ⟨#[]⟩), [gdP, n5P]⟩, ⟨1, 2, 1, 0, (3, 2, ⟨#[]⟩), []⟩]
set_option maxHeartbeats 8000000 in
theorem predChecks_main (ad : Fin 11 → Addr) (z : Int) (w : World) (he : ErrsAt ad w) :
    Calls Tryd.prog 3 #[.int .i64 z] w fun e w' => e = .returned (.bool true) ∧ Below w.heap.size w w' := by
  have HE : Hid (ErrsAt ad w) := he
  clear he
  go_enter Tryd.func3, Tryd.ntmps3
  go_wp2_with fail
  refine (lawFirst10 w).mono ?_
  rintro e w1 ⟨rfl, hb1⟩
  have B1 : Hid (Below w.heap.size w w1) := hb1
  clear hb1
  go_wp2_with fail
  obtain ⟨W2, hW2⟩ : ∃ W, W = w1.alloc (.cells #[.int .i64 1, .int .i64 2, .int .i64 3] 3) := ⟨_, rfl⟩
  have hz2 : W2.heap.size = w1.heap.size + 1 := by rw [hW2, World.size_alloc]
  obtain ⟨W3, hW3⟩ : ∃ W, W = W2.alloc (.cells #[.int .i64 1, .int .i64 5, .string ⟨#[]⟩] 25) := ⟨_, rfl⟩
  have hz3 : W3.heap.size = w1.heap.size + 1 + 1 := by rw [hW3, World.size_alloc, hz2]
  obtain ⟨W4, hW4⟩ : ∃ W, W = W3.alloc (.cells #[.int .i64 1, .int .i64 0, .int .i64 1, .int .i64 0, .int .i64 1, .int .i64 5, .string ⟨#[]⟩, .slice none 0 0] 28) := ⟨_, rfl⟩
  have hz4 : W4.heap.size = w1.heap.size + 1 + 1 + 1 := by rw [hW4, World.size_alloc, hz3]
  obtain ⟨W5, hW5⟩ : ∃ W, W = W4.alloc (.cells #[.int .i64 1, .int .i64 0, .int .i64 1, .int .i64 0, .int .i64 1, .int .i64 5, .string ⟨#[]⟩, .slice none 0 0] 28) := ⟨_, rfl⟩
  have hz5 : W5.heap.size = w1.heap.size + 1 + 1 + 1 + 1 := by rw [hW5, World.size_alloc, hz4]
  obtain ⟨W6, hW6⟩ : ∃ W, W = W5.alloc (.cells #[.int .i64 1, .int .i64 0, .int .i64 1, .int .i64 0, .int .i64 1, .int .i64 5, .string ⟨#[]⟩, .slice none 0 0, .int .i64 1, .int .i64 0, .int .i64 1, .int .i64 0, .int .i64 1, .int .i64 5, .string ⟨#[]⟩, .slice none 0 0] 28) := ⟨_, rfl⟩
  have hz6 : W6.heap.size = w1.heap.size + 1 + 1 + 1 + 1 + 1 := by rw [hW6, World.size_alloc, hz5]
  obtain ⟨W7, hW7⟩ : ∃ W, W = W6.alloc (.cells #[.int .i64 1, .int .i64 0, .int .i64 1, .int .i64 0, .int .i64 1, .int .i64 5, .string ⟨#[]⟩, .slice none 0 0, .int .i64 3, .int .i64 5, .int .i64 0, .int .i64 0, .int .i64 0, .int .i64 0, .string ⟨#[]⟩, .slice none 0 0] 28) := ⟨_, rfl⟩
  have hz7 : W7.heap.size = w1.heap.size + 1 + 1 + 1 + 1 + 1 + 1 := by rw [hW7, World.size_alloc, hz6]
  obtain ⟨W8, hW8⟩ : ∃ W, W = W7.alloc (.cells #[.int .i64 1, .int .i64 3, .int .i64 1, .int .i64 0, .int .i64 1, .int .i64 5, .string ⟨#[]⟩, .slice none 0 0, .int .i64 1, .int .i64 1, .int .i64 1, .int .i64 0, .int .i64 1, .int .i64 5, .string ⟨#[]⟩, .slice none 0 0, .int .i64 1, .int .i64 0, .int .i64 7, .int .i64 0, .int .i64 1, .int .i64 5, .string ⟨#[]⟩, .slice none 0 0, .int .i64 1, .int .i64 0, .int .i64 1, .int .i64 0, .int .i64 0, .int .i64 0, .string ⟨#[]⟩, .slice none 0 0, .int .i64 2, .int .i64 0, .int .i64 1, .int .i64 1, .int .i64 0, .int .i64 0, .string ⟨#[]⟩, .slice none 0 0, .int .i64 2, .int .i64 0, .int .i64 1, .int .i64 (-1), .int .i64 0, .int .i64 0, .string ⟨#[]⟩, .slice none 0 0, .int .i64 3, .int .i64 (-1), .int .i64 0, .int .i64 0, .int .i64 0, .int .i64 0, .string ⟨#[]⟩, .slice none 0 0, .int .i64 4, .int .i64 0, .int .i64 0, .int .i64 0, .int .i64 0, .int .i64 0, .string ⟨#[]⟩, .slice (some ⟨w1.heap.size + 1 + 1 + 1, 0, none⟩) 1 1, .int .i64 5, .int .i64 0, .int .i64 0, .int .i64 0, .int .i64 0, .int .i64 0, .string ⟨#[]⟩, .slice none 0 0, .int .i64 6, .int .i64 0, .int .i64 0, .int .i64 0, .int .i64 0, .int .i64 0, .string ⟨#[]⟩, .slice none 0 0, .int .i64 6, .int .i64 0, .int .i64 0, .int .i64 0, .int .i64 0, .int .i64 0, .string ⟨#[]⟩, .slice (some ⟨w1.heap.size + 1 + 1 + 1 + 1, 0, none⟩) 2 2, .int .i64 9, .int .i64 0, .int .i64 0, .int .i64 0, .int .i64 0, .int .i64 0, .string ⟨#[]⟩, .slice none 0 0, .int .i64 4, .int .i64 0, .int .i64 0, .int .i64 0, .int .i64 0, .int .i64 0, .string ⟨#[]⟩, .slice (some ⟨w1.heap.size + 1 + 1 + 1 + 1 + 1, 0, none⟩) 2 2, .int .i64 1, .int .i64 2, .int .i64 1, .int .i64 0, .int .i64 3, .int .i64 2, .string ⟨#[]⟩, .slice none 0 0] 28) := ⟨_, rfl⟩
  have hz8 : W8.heap.size = w1.heap.size + 1 + 1 + 1 + 1 + 1 + 1 + 1 := by rw [hW8, World.size_alloc, hz7]
  obtain ⟨W9, hW9⟩ : ∃ W, W = W8.alloc (.cells #[.int .i64 106, .int .i64 102, .int .i64 102, .int .i64 102, .int .i64 102, .int .i64 106, .int .i64 106, .int .i64 102, .int .i64 102, .int .i64 102, .int .i64 102, .int .i64 102, .int .i64 106, .int .i64 102] 3) := ⟨_, rfl⟩
  have hz9 : W9.heap.size = w1.heap.size + 1 + 1 + 1 + 1 + 1 + 1 + 1 + 1 := by rw [hW9, World.size_alloc, hz8]
  rw [← hW2, ← hW3, ← hW4, ← hW5, ← hW6, ← hW7, ← hW8, ← hW9]
  have C2 := cols_newP w1 [1, 2, 3] 3
  have C2' : ColsAt w1.heap.size [1, 2, 3] W2 := by rw [hW2]; exact C2
  have G4 : PdBox (w1.heap.size + 1 + 1) gdP (.slice none 0 0) W4 := by
    have := PdBox.new W3 gdP (.slice none 0 0)
    rw [hz3] at this
    rw [hW4]; exact this
  have L5 : PdL (fun _ => True) 1 W5 (.slice (some ⟨w1.heap.size + 1 + 1 + 1, 0, none⟩) 1 1) [gdP] := by
    have := PdL.of_alloc (n := 0) (W := W4) [(gdP, .slice none 0 0)] 28 (fun e he => by obtain rfl : e = (gdP, .slice none 0 0) := (by simpa using he); exact PdL.nil _ _ _ _ _) (by simp [maxLen])
    rw [hz4] at this
    rw [hW5]; exact this
  have L6 : PdL (fun _ => True) 1 W6 (.slice (some ⟨w1.heap.size + 1 + 1 + 1 + 1, 0, none⟩) 2 2) [gdP, gdP] := by
    have := PdL.of_alloc (n := 0) (W := W5) [(gdP, .slice none 0 0), (gdP, .slice none 0 0)] 28 (fun e he => by obtain rfl : e = (gdP, .slice none 0 0) := (by simpa using he); exact PdL.nil _ _ _ _ _) (by simp [maxLen])
    rw [hz5] at this
    rw [hW6]; exact this
  have L7 : PdL (fun _ => True) 1 W7 (.slice (some ⟨w1.heap.size + 1 + 1 + 1 + 1 + 1, 0, none⟩) 2 2) [gdP, n5P] := by
    have := PdL.of_alloc (n := 0) (W := W6) [(gdP, .slice none 0 0), (n5P, .slice none 0 0)] 28 (fun e he => by rcases List.mem_cons.1 he with rfl | he; exact PdL.nil _ _ _ _ _; obtain rfl : e = (n5P, .slice none 0 0) := (by simpa using he); exact PdL.nil _ _ _ _ _) (by simp [maxLen])
    rw [hz6] at this
    rw [hW7]; exact this
  have o45 : Below W4.heap.size W4 W5 := by rw [hW5]; exact one_box
  have o56 : Below W5.heap.size W5 W6 := by rw [hW6]; exact one_box
  have o67 : Below W6.heap.size W6 W7 := by rw [hW7]; exact one_box
  have o78 : Below W7.heap.size W7 W8 := by rw [hW8]; exact one_box
  have o89 : Below W8.heap.size W8 W9 := by rw [hW9]; exact one_box
  have o24 : Below W2.heap.size W2 W4 := by rw [hW4, hW3]; exact two_boxes
  have o49 : Below W4.heap.size W4 W9 := o45.trans ((o56.trans ((o67.trans ((o78.trans (o89.mono o78.size)).mono o67.size)).mono o56.size)).mono o45.size)
  have A8 : AgP 2 (w1.heap.size + 1 + 1 + 1 + 1 + 1 + 1) W8 := by
    have := PdL.of_alloc (n := 1) (W := W7) [(⟨1, 3, 1, 0, (1, 5, ⟨#[]⟩), []⟩, .slice none 0 0), (⟨1, 1, 1, 0, (1, 5, ⟨#[]⟩), []⟩, .slice none 0 0), (⟨1, 0, 7, 0, (1, 5, ⟨#[]⟩), []⟩, .slice none 0 0), (⟨1, 0, 1, 0, (0, 0, ⟨#[]⟩), []⟩, .slice none 0 0), (⟨2, 0, 1, 1, (0, 0, ⟨#[]⟩), []⟩, .slice none 0 0), (⟨2, 0, 1, (-1), (0, 0, ⟨#[]⟩), []⟩, .slice none 0 0), (⟨3, (-1), 0, 0, (0, 0, ⟨#[]⟩), []⟩, .slice none 0 0), (⟨4, 0, 0, 0, (0, 0, ⟨#[]⟩), [gdP]⟩, .slice (some ⟨w1.heap.size + 1 + 1 + 1, 0, none⟩) 1 1), (⟨5, 0, 0, 0, (0, 0, ⟨#[]⟩), []⟩, .slice none 0 0), (⟨6, 0, 0, 0, (0, 0, ⟨#[]⟩), []⟩, .slice none 0 0), (⟨6, 0, 0, 0, (0, 0, ⟨#[]⟩), [gdP, gdP]⟩, .slice (some ⟨w1.heap.size + 1 + 1 + 1 + 1, 0, none⟩) 2 2), (⟨9, 0, 0, 0, (0, 0, ⟨#[]⟩), []⟩, .slice none 0 0), (⟨4, 0, 0, 0, (0, 0, ⟨#[]⟩), [gdP, n5P]⟩, .slice (some ⟨w1.heap.size + 1 + 1 + 1 + 1 + 1, 0, none⟩) 2 2), (⟨1, 2, 1, 0, (3, 2, ⟨#[]⟩), []⟩, .slice none 0 0)] 28 ?_ (by simp [maxLen])
    · rw [hz7] at this
      rw [hW8]; exact this
    · have n1 : ∀ v : Value, v = .slice none 0 0 → PdL (fun _ => True) 1 W7 v [] := fun v e => by rw [e]; exact PdL.nil _ _ _ _ _
      have l5 := (L5.on o56).on o67
      have l6 := L6.on o67
      intro e he
      simp only [List.mem_cons, List.not_mem_nil, or_false] at he
      rcases he with rfl | rfl | rfl | rfl | rfl | rfl | rfl | rfl | rfl | rfl | rfl | rfl | rfl | rfl <;> first | exact n1 _ rfl | exact l5 | exact l6 | exact L7
  have K9 : ∀ i (h : i < ([106, 102, 102, 102, 102, 106, 106, 102, 102, 102, 102, 102, 106, 102] : List Int).length), W9.cell? ⟨w1.heap.size + 1 + 1 + 1 + 1 + 1 + 1 + 1, i, none⟩ = some (.int .i64 ([106, 102, 102, 102, 102, 106, 106, 102, 102, 102, 102, 102, 106, 102] : List Int)[i]) := by
    have := (cols_newP W8 [106, 102, 102, 102, 102, 106, 106, 102, 102, 102, 102, 102, 106, 102] 3).2
    rw [hz8] at this
    rw [hW9]; exact this
  have o29 : Below W2.heap.size W2 W9 := o24.trans (o49.mono o24.size)
  have b29 : Below w1.heap.size w1 W9 := by
    have : Below w1.heap.size w1 W2 := by rw [hW2]; exact one_box
    exact this.trans (o29.mono this.size)
  have HF : Hid (ColsAt w1.heap.size [1, 2, 3] W9 ∧ PdBox (w1.heap.size + 1 + 1) gdP (.slice none 0 0) W9 ∧ AgP 2 (w1.heap.size + 1 + 1 + 1 + 1 + 1 + 1) W9 ∧ (∀ i (h : i < ([106, 102, 102, 102, 102, 106, 106, 102, 102, 102, 102, 102, 106, 102] : List Int).length), W9.cell? ⟨w1.heap.size + 1 + 1 + 1 + 1 + 1 + 1 + 1, i, none⟩ = some (.int .i64 ([106, 102, 102, 102, 102, 106, 106, 102, 102, 102, 102, 102, 106, 102] : List Int)[i])) ∧ Below w.heap.size w W9) :=
    ⟨C2'.but (But.of_below (S := w1.heap.size + 1) o29) (by omega), G4.on o49, PdL.on A8 o89, K9, B1.out.trans (b29.mono B1.out.size)⟩
  clear C2 C2' G4 L5 L6 L7 o45 o56 o67 o78 o89 o24 o49 A8 K9 o29 b29 hW2 hz2 hW3 hz3 hW4 hz4 hW5 hz5 hW6 hz6 hW7 hz7 hW8 hz8 hW9 hz9
  obtain ⟨k, hk, hlt⟩ := fourteen z
  rw [hk]
  clear hk
  have CV : Hid (∀ W, Below W9.heap.size W9 W → IntsIs W (.slice (some ⟨w1.heap.size, 0, none⟩) 3 3) [1, 2, 3]) := fun W hW => (HF.out.1.ints 3 rfl (by simp [maxLen])).on hW
  have EV : Hid (∀ W, Below W9.heap.size W9 W → ErrsAt ad W) := fun W hW => (HE.out.on HF.out.2.2.2.2).on hW
  have HCG : Hid (∀ W, Below W9.heap.size W9 W → Calls Tryd.prog 6 #[.agg #[.int .i64 1, .int .i64 0, .int .i64 1, .int .i64 0, .int .i64 1, .int .i64 5, .string ⟨#[]⟩, .slice none 0 0], .slice (some ⟨w1.heap.size, 0, none⟩) 3 3] W fun e w' => e = .returned .nilIface ∧ Below W.heap.size W w') := fun W hW => by
    have := predCheck ad [1, 2, 3] 0 (fun _ => True) gdP (.slice none 0 0) _ W (PdL.nil _ _ _ _ _) (CV.out W hW) (EV.out W hW)
    rw [chk_good] at this
    exact this
  obtain ⟨⟨g0, g1, g2, g3, g4, g5, g6, g7⟩, _, _⟩ := HF.out.2.1
  simp only [Nat.zero_add] at g1 g2 g3 g4 g5 g6 g7
  unfold gdP at g0 g1 g2 g3 g4 g5 g6
  simp only at g0 g1 g2 g3 g4 g5 g6
  replace g0 := Ex.cell g0
  replace g1 := Ex.cell g1
  replace g2 := Ex.cell g2
  replace g3 := Ex.cell g3
  replace g4 := Ex.cell g4
  replace g5 := Ex.cell g5
  replace g6 := Ex.cell g6
  replace g7 := Ex.cell g7
  have ne := Ex.ne W9
  have B0 : Hid (Below W9.heap.size W9 W9.drew) := (Below.refl _ _).drew
  have HB9 : Hid (Below w.heap.size w W9) := HF.out.2.2.2.2
  have kk : k = 0 ∨ k = 1 ∨ k = 2 ∨ k = 3 ∨ k = 4 ∨ k = 5 ∨ k = 6 ∨ k = 7 ∨ k = 8 ∨ k = 9 ∨ k = 10 ∨ k = 11 ∨ k = 12 ∨ k = 13 := by omega
  clear hlt HE
  rcases kk with rfl | rfl | rfl | rfl | rfl | rfl | rfl | rfl | rfl | rfl | rfl | rfl | rfl | rfl
  · obtain ⟨m, b, o', s', hm, hab, ⟨x0, x1, x2, x3, x4, x5, x6, x7⟩, hq, hbs⟩ := PdL.at (F := fun _ => True) HF.out.2.2.1 0 (by decide)
    simp only [Option.some.injEq, Addr.mk.injEq, and_true] at hab
    obtain ⟨rfl, rfl⟩ := hab
    obtain ⟨as1, cs1, hs1⟩ := hq.form
    subst hs1
    replace x0 : ∀ p : Wd (Ex W9), p.v.cell? ⟨w1.heap.size + 1 + 1 + 1 + 1 + 1 + 1, 0, none⟩ = some (.int .i64 1) := Ex.cell x0
    replace x1 : ∀ p : Wd (Ex W9), p.v.cell? ⟨w1.heap.size + 1 + 1 + 1 + 1 + 1 + 1, 1, none⟩ = some (.int .i64 3) := Ex.cell x1
    replace x2 : ∀ p : Wd (Ex W9), p.v.cell? ⟨w1.heap.size + 1 + 1 + 1 + 1 + 1 + 1, 2, none⟩ = some (.int .i64 1) := Ex.cell x2
    replace x3 : ∀ p : Wd (Ex W9), p.v.cell? ⟨w1.heap.size + 1 + 1 + 1 + 1 + 1 + 1, 3, none⟩ = some (.int .i64 0) := Ex.cell x3
    replace x4 : ∀ p : Wd (Ex W9), p.v.cell? ⟨w1.heap.size + 1 + 1 + 1 + 1 + 1 + 1, 4, none⟩ = some (.int .i64 1) := Ex.cell x4
    replace x5 : ∀ p : Wd (Ex W9), p.v.cell? ⟨w1.heap.size + 1 + 1 + 1 + 1 + 1 + 1, 5, none⟩ = some (.int .i64 5) := Ex.cell x5
    replace x6 : ∀ p : Wd (Ex W9), p.v.cell? ⟨w1.heap.size + 1 + 1 + 1 + 1 + 1 + 1, 6, none⟩ = some (.string ⟨#[]⟩) := Ex.cell x6
    replace x7 : ∀ p : Wd (Ex W9), p.v.cell? ⟨w1.heap.size + 1 + 1 + 1 + 1 + 1 + 1, 7, none⟩ = some (.slice as1 0 cs1) := Ex.cell x7
    have y : ∀ p : Wd (Ex W9), p.v.cell? ⟨w1.heap.size + 1 + 1 + 1 + 1 + 1 + 1 + 1, 0, none⟩ = some (.int .i64 106) := Ex.cell (HF.out.2.2.2.1 0 (by decide))
    have HCk : Hid (∀ W, Below W9.heap.size W9 W → Calls Tryd.prog 6 #[.agg #[.int .i64 1, .int .i64 3, .int .i64 1, .int .i64 0, .int .i64 1, .int .i64 5, .string ⟨#[]⟩, .slice as1 0 cs1], .slice (some ⟨w1.heap.size, 0, none⟩) 3 3] W fun e w' => e = .returned (errV (ad 5)) ∧ Below W.heap.size W w') := fun W hW => by
      have := predCheck ad [1, 2, 3] m (fun _ => True) ⟨1, 3, 1, 0, (1, 5, ⟨#[]⟩), []⟩ (.slice as1 0 cs1) _ W (hq.on hW) (CV.out W hW) (EV.out W hW)
      rw [chk_0] at this
      exact this
    have HIs : Hid (∀ W, Below W9.heap.size W9 W → Calls Tryd.prog 7 #[errV (ad 5), .int .i64 106] W fun e w' => e = .returned (.bool true) ∧ Below W.heap.size W w') := fun W hW => seeIs ad (some 5) 106 W (EV.out W hW)
    clear hm hq hbs HF CV EV
    generalize errV (ad 5) = er at *
    go_wp2_with fail
    refine wp_region_ord_at (Ex W9) (regOf Tryd.f3.body 10) ((0, true) :: (1, true) :: (2, true) :: (3, true) :: (4, false) :: (5, true) :: (6, true) :: (7, true) :: (8, true) :: (9, true) :: (10, true) :: (11, true) :: (12, true) :: (14, true) :: (15, true) :: (16, true) :: (17, true) :: (13, false) :: (18, false) :: (19, true) :: (20, true) :: []) (by kernel_rfl) (by kernel_rfl) chk_ord B0.out ?_
    generalize W9.drew = v0 at *
    repeat (refine ord_quiet rfl ?_; go_big_quiet_step (fail); refine wpQuiet_nil ?_)
    refine ord_call rfl (by rfl) 6 rfl (enters_of Tryd.func6 (by kernel_rfl) rfl) [.agg #[.int .i64 1, .int .i64 0, .int .i64 1, .int .i64 0, .int .i64 1, .int .i64 5, .string ⟨#[]⟩, .slice none 0 0], .slice (some ⟨w1.heap.size, 0, none⟩) 3 3] (by rfl) _ (HCG.out v0 B0.out) ?_
    rintro e v1 ⟨rfl, hb0⟩
    have B1 : Hid (Below W9.heap.size W9 v1) := B0.out.trans (hb0.mono B0.out.size)
    clear hb0
    refine ⟨_, rfl, Ex.of B1.out, ?_⟩
    simp only [Act.put, List.setIfInBounds_toArray, List.set_cons_zero, List.set_cons_succ]
    repeat (refine ord_quiet rfl ?_; go_big_quiet_step (fail); refine wpQuiet_nil ?_)
    refine ord_call rfl (by rfl) 6 rfl (enters_of Tryd.func6 (by kernel_rfl) rfl) [.agg #[.int .i64 1, .int .i64 3, .int .i64 1, .int .i64 0, .int .i64 1, .int .i64 5, .string ⟨#[]⟩, .slice as1 0 cs1], .slice (some ⟨w1.heap.size, 0, none⟩) 3 3] (by rfl) _ (HCk.out v1 B1.out) ?_
    rintro e v2 ⟨rfl, hb1⟩
    have B2 : Hid (Below W9.heap.size W9 v2) := B1.out.trans (hb1.mono B1.out.size)
    clear hb1
    refine ⟨_, rfl, Ex.of B2.out, ?_⟩
    simp only [Act.put, List.setIfInBounds_toArray, List.set_cons_zero, List.set_cons_succ]
    repeat (refine ord_quiet rfl ?_; go_big_quiet_step (fail); refine wpQuiet_nil ?_)
    refine ord_call rfl (by rfl) 7 rfl (enters_of Tryd.func7 (by kernel_rfl) rfl) [er, .int .i64 106] (by rfl) _ (HIs.out v2 B2.out) ?_
    rintro e v3 ⟨rfl, hb2⟩
    have B3 : Hid (Below W9.heap.size W9 v3) := B2.out.trans (hb2.mono B2.out.size)
    clear hb2
    refine ⟨_, rfl, Ex.of B3.out, ?_⟩
    simp only [Act.put, List.setIfInBounds_toArray, List.set_cons_zero, List.set_cons_succ]
    repeat (refine ord_quiet rfl ?_; go_big_quiet_step (fail); refine wpQuiet_nil ?_)
    refine ord_end ?_
    go_wp2_with fail
    go_ret
    exact ⟨rfl, HB9.out.trans (B3.out.mono HB9.out.size)⟩
  · obtain ⟨m, b, o', s', hm, hab, ⟨x0, x1, x2, x3, x4, x5, x6, x7⟩, hq, hbs⟩ := PdL.at (F := fun _ => True) HF.out.2.2.1 1 (by decide)
    simp only [Option.some.injEq, Addr.mk.injEq, and_true] at hab
    obtain ⟨rfl, rfl⟩ := hab
    obtain ⟨as1, cs1, hs1⟩ := hq.form
    subst hs1
    replace x0 : ∀ p : Wd (Ex W9), p.v.cell? ⟨w1.heap.size + 1 + 1 + 1 + 1 + 1 + 1, 8, none⟩ = some (.int .i64 1) := Ex.cell x0
    replace x1 : ∀ p : Wd (Ex W9), p.v.cell? ⟨w1.heap.size + 1 + 1 + 1 + 1 + 1 + 1, 9, none⟩ = some (.int .i64 1) := Ex.cell x1
    replace x2 : ∀ p : Wd (Ex W9), p.v.cell? ⟨w1.heap.size + 1 + 1 + 1 + 1 + 1 + 1, 10, none⟩ = some (.int .i64 1) := Ex.cell x2
    replace x3 : ∀ p : Wd (Ex W9), p.v.cell? ⟨w1.heap.size + 1 + 1 + 1 + 1 + 1 + 1, 11, none⟩ = some (.int .i64 0) := Ex.cell x3
    replace x4 : ∀ p : Wd (Ex W9), p.v.cell? ⟨w1.heap.size + 1 + 1 + 1 + 1 + 1 + 1, 12, none⟩ = some (.int .i64 1) := Ex.cell x4
    replace x5 : ∀ p : Wd (Ex W9), p.v.cell? ⟨w1.heap.size + 1 + 1 + 1 + 1 + 1 + 1, 13, none⟩ = some (.int .i64 5) := Ex.cell x5
    replace x6 : ∀ p : Wd (Ex W9), p.v.cell? ⟨w1.heap.size + 1 + 1 + 1 + 1 + 1 + 1, 14, none⟩ = some (.string ⟨#[]⟩) := Ex.cell x6
    replace x7 : ∀ p : Wd (Ex W9), p.v.cell? ⟨w1.heap.size + 1 + 1 + 1 + 1 + 1 + 1, 15, none⟩ = some (.slice as1 0 cs1) := Ex.cell x7
    have y : ∀ p : Wd (Ex W9), p.v.cell? ⟨w1.heap.size + 1 + 1 + 1 + 1 + 1 + 1 + 1, 1, none⟩ = some (.int .i64 102) := Ex.cell (HF.out.2.2.2.1 1 (by decide))
    have HCk : Hid (∀ W, Below W9.heap.size W9 W → Calls Tryd.prog 6 #[.agg #[.int .i64 1, .int .i64 1, .int .i64 1, .int .i64 0, .int .i64 1, .int .i64 5, .string ⟨#[]⟩, .slice as1 0 cs1], .slice (some ⟨w1.heap.size, 0, none⟩) 3 3] W fun e w' => e = .returned (errV (ad 1)) ∧ Below W.heap.size W w') := fun W hW => by
      have := predCheck ad [1, 2, 3] m (fun _ => True) ⟨1, 1, 1, 0, (1, 5, ⟨#[]⟩), []⟩ (.slice as1 0 cs1) _ W (hq.on hW) (CV.out W hW) (EV.out W hW)
      rw [chk_1] at this
      exact this
    have HIs : Hid (∀ W, Below W9.heap.size W9 W → Calls Tryd.prog 7 #[errV (ad 1), .int .i64 102] W fun e w' => e = .returned (.bool true) ∧ Below W.heap.size W w') := fun W hW => seeIs ad (some 1) 102 W (EV.out W hW)
    clear hm hq hbs HF CV EV
    generalize errV (ad 1) = er at *
    go_wp2_with fail
    refine wp_region_ord_at (Ex W9) (regOf Tryd.f3.body 10) ((0, true) :: (1, true) :: (2, true) :: (3, true) :: (4, false) :: (5, true) :: (6, true) :: (7, true) :: (8, true) :: (9, true) :: (10, true) :: (11, true) :: (12, true) :: (14, true) :: (15, true) :: (16, true) :: (17, true) :: (13, false) :: (18, false) :: (19, true) :: (20, true) :: []) (by kernel_rfl) (by kernel_rfl) chk_ord B0.out ?_
    generalize W9.drew = v0 at *
    repeat (refine ord_quiet rfl ?_; go_big_quiet_step (fail); refine wpQuiet_nil ?_)
    refine ord_call rfl (by rfl) 6 rfl (enters_of Tryd.func6 (by kernel_rfl) rfl) [.agg #[.int .i64 1, .int .i64 0, .int .i64 1, .int .i64 0, .int .i64 1, .int .i64 5, .string ⟨#[]⟩, .slice none 0 0], .slice (some ⟨w1.heap.size, 0, none⟩) 3 3] (by rfl) _ (HCG.out v0 B0.out) ?_
    rintro e v1 ⟨rfl, hb0⟩
    have B1 : Hid (Below W9.heap.size W9 v1) := B0.out.trans (hb0.mono B0.out.size)
    clear hb0
    refine ⟨_, rfl, Ex.of B1.out, ?_⟩
    simp only [Act.put, List.setIfInBounds_toArray, List.set_cons_zero, List.set_cons_succ]
    repeat (refine ord_quiet rfl ?_; go_big_quiet_step (fail); refine wpQuiet_nil ?_)
    refine ord_call rfl (by rfl) 6 rfl (enters_of Tryd.func6 (by kernel_rfl) rfl) [.agg #[.int .i64 1, .int .i64 1, .int .i64 1, .int .i64 0, .int .i64 1, .int .i64 5, .string ⟨#[]⟩, .slice as1 0 cs1], .slice (some ⟨w1.heap.size, 0, none⟩) 3 3] (by rfl) _ (HCk.out v1 B1.out) ?_
    rintro e v2 ⟨rfl, hb1⟩
    have B2 : Hid (Below W9.heap.size W9 v2) := B1.out.trans (hb1.mono B1.out.size)
    clear hb1
    refine ⟨_, rfl, Ex.of B2.out, ?_⟩
    simp only [Act.put, List.setIfInBounds_toArray, List.set_cons_zero, List.set_cons_succ]
    repeat (refine ord_quiet rfl ?_; go_big_quiet_step (fail); refine wpQuiet_nil ?_)
    refine ord_call rfl (by rfl) 7 rfl (enters_of Tryd.func7 (by kernel_rfl) rfl) [er, .int .i64 102] (by rfl) _ (HIs.out v2 B2.out) ?_
    rintro e v3 ⟨rfl, hb2⟩
    have B3 : Hid (Below W9.heap.size W9 v3) := B2.out.trans (hb2.mono B2.out.size)
    clear hb2
    refine ⟨_, rfl, Ex.of B3.out, ?_⟩
    simp only [Act.put, List.setIfInBounds_toArray, List.set_cons_zero, List.set_cons_succ]
    repeat (refine ord_quiet rfl ?_; go_big_quiet_step (fail); refine wpQuiet_nil ?_)
    refine ord_end ?_
    go_wp2_with fail
    go_ret
    exact ⟨rfl, HB9.out.trans (B3.out.mono HB9.out.size)⟩
  · obtain ⟨m, b, o', s', hm, hab, ⟨x0, x1, x2, x3, x4, x5, x6, x7⟩, hq, hbs⟩ := PdL.at (F := fun _ => True) HF.out.2.2.1 2 (by decide)
    simp only [Option.some.injEq, Addr.mk.injEq, and_true] at hab
    obtain ⟨rfl, rfl⟩ := hab
    obtain ⟨as1, cs1, hs1⟩ := hq.form
    subst hs1
    replace x0 : ∀ p : Wd (Ex W9), p.v.cell? ⟨w1.heap.size + 1 + 1 + 1 + 1 + 1 + 1, 16, none⟩ = some (.int .i64 1) := Ex.cell x0
    replace x1 : ∀ p : Wd (Ex W9), p.v.cell? ⟨w1.heap.size + 1 + 1 + 1 + 1 + 1 + 1, 17, none⟩ = some (.int .i64 0) := Ex.cell x1
    replace x2 : ∀ p : Wd (Ex W9), p.v.cell? ⟨w1.heap.size + 1 + 1 + 1 + 1 + 1 + 1, 18, none⟩ = some (.int .i64 7) := Ex.cell x2
    replace x3 : ∀ p : Wd (Ex W9), p.v.cell? ⟨w1.heap.size + 1 + 1 + 1 + 1 + 1 + 1, 19, none⟩ = some (.int .i64 0) := Ex.cell x3
    replace x4 : ∀ p : Wd (Ex W9), p.v.cell? ⟨w1.heap.size + 1 + 1 + 1 + 1 + 1 + 1, 20, none⟩ = some (.int .i64 1) := Ex.cell x4
    replace x5 : ∀ p : Wd (Ex W9), p.v.cell? ⟨w1.heap.size + 1 + 1 + 1 + 1 + 1 + 1, 21, none⟩ = some (.int .i64 5) := Ex.cell x5
    replace x6 : ∀ p : Wd (Ex W9), p.v.cell? ⟨w1.heap.size + 1 + 1 + 1 + 1 + 1 + 1, 22, none⟩ = some (.string ⟨#[]⟩) := Ex.cell x6
    replace x7 : ∀ p : Wd (Ex W9), p.v.cell? ⟨w1.heap.size + 1 + 1 + 1 + 1 + 1 + 1, 23, none⟩ = some (.slice as1 0 cs1) := Ex.cell x7
    have y : ∀ p : Wd (Ex W9), p.v.cell? ⟨w1.heap.size + 1 + 1 + 1 + 1 + 1 + 1 + 1, 2, none⟩ = some (.int .i64 102) := Ex.cell (HF.out.2.2.2.1 2 (by decide))
    have HCk : Hid (∀ W, Below W9.heap.size W9 W → Calls Tryd.prog 6 #[.agg #[.int .i64 1, .int .i64 0, .int .i64 7, .int .i64 0, .int .i64 1, .int .i64 5, .string ⟨#[]⟩, .slice as1 0 cs1], .slice (some ⟨w1.heap.size, 0, none⟩) 3 3] W fun e w' => e = .returned (errV (ad 1)) ∧ Below W.heap.size W w') := fun W hW => by
      have := predCheck ad [1, 2, 3] m (fun _ => True) ⟨1, 0, 7, 0, (1, 5, ⟨#[]⟩), []⟩ (.slice as1 0 cs1) _ W (hq.on hW) (CV.out W hW) (EV.out W hW)
      rw [chk_2] at this
      exact this
    have HIs : Hid (∀ W, Below W9.heap.size W9 W → Calls Tryd.prog 7 #[errV (ad 1), .int .i64 102] W fun e w' => e = .returned (.bool true) ∧ Below W.heap.size W w') := fun W hW => seeIs ad (some 1) 102 W (EV.out W hW)
    clear hm hq hbs HF CV EV
    generalize errV (ad 1) = er at *
    go_wp2_with fail
    refine wp_region_ord_at (Ex W9) (regOf Tryd.f3.body 10) ((0, true) :: (1, true) :: (2, true) :: (3, true) :: (4, false) :: (5, true) :: (6, true) :: (7, true) :: (8, true) :: (9, true) :: (10, true) :: (11, true) :: (12, true) :: (14, true) :: (15, true) :: (16, true) :: (17, true) :: (13, false) :: (18, false) :: (19, true) :: (20, true) :: []) (by kernel_rfl) (by kernel_rfl) chk_ord B0.out ?_
    generalize W9.drew = v0 at *
    repeat (refine ord_quiet rfl ?_; go_big_quiet_step (fail); refine wpQuiet_nil ?_)
    refine ord_call rfl (by rfl) 6 rfl (enters_of Tryd.func6 (by kernel_rfl) rfl) [.agg #[.int .i64 1, .int .i64 0, .int .i64 1, .int .i64 0, .int .i64 1, .int .i64 5, .string ⟨#[]⟩, .slice none 0 0], .slice (some ⟨w1.heap.size, 0, none⟩) 3 3] (by rfl) _ (HCG.out v0 B0.out) ?_
    rintro e v1 ⟨rfl, hb0⟩
    have B1 : Hid (Below W9.heap.size W9 v1) := B0.out.trans (hb0.mono B0.out.size)
    clear hb0
    refine ⟨_, rfl, Ex.of B1.out, ?_⟩
    simp only [Act.put, List.setIfInBounds_toArray, List.set_cons_zero, List.set_cons_succ]
    repeat (refine ord_quiet rfl ?_; go_big_quiet_step (fail); refine wpQuiet_nil ?_)
    refine ord_call rfl (by rfl) 6 rfl (enters_of Tryd.func6 (by kernel_rfl) rfl) [.agg #[.int .i64 1, .int .i64 0, .int .i64 7, .int .i64 0, .int .i64 1, .int .i64 5, .string ⟨#[]⟩, .slice as1 0 cs1], .slice (some ⟨w1.heap.size, 0, none⟩) 3 3] (by rfl) _ (HCk.out v1 B1.out) ?_
    rintro e v2 ⟨rfl, hb1⟩
    have B2 : Hid (Below W9.heap.size W9 v2) := B1.out.trans (hb1.mono B1.out.size)
    clear hb1
    refine ⟨_, rfl, Ex.of B2.out, ?_⟩
    simp only [Act.put, List.setIfInBounds_toArray, List.set_cons_zero, List.set_cons_succ]
    repeat (refine ord_quiet rfl ?_; go_big_quiet_step (fail); refine wpQuiet_nil ?_)
    refine ord_call rfl (by rfl) 7 rfl (enters_of Tryd.func7 (by kernel_rfl) rfl) [er, .int .i64 102] (by rfl) _ (HIs.out v2 B2.out) ?_
    rintro e v3 ⟨rfl, hb2⟩
    have B3 : Hid (Below W9.heap.size W9 v3) := B2.out.trans (hb2.mono B2.out.size)
    clear hb2
    refine ⟨_, rfl, Ex.of B3.out, ?_⟩
    simp only [Act.put, List.setIfInBounds_toArray, List.set_cons_zero, List.set_cons_succ]
    repeat (refine ord_quiet rfl ?_; go_big_quiet_step (fail); refine wpQuiet_nil ?_)
    refine ord_end ?_
    go_wp2_with fail
    go_ret
    exact ⟨rfl, HB9.out.trans (B3.out.mono HB9.out.size)⟩
  · obtain ⟨m, b, o', s', hm, hab, ⟨x0, x1, x2, x3, x4, x5, x6, x7⟩, hq, hbs⟩ := PdL.at (F := fun _ => True) HF.out.2.2.1 3 (by decide)
    simp only [Option.some.injEq, Addr.mk.injEq, and_true] at hab
    obtain ⟨rfl, rfl⟩ := hab
    obtain ⟨as1, cs1, hs1⟩ := hq.form
    subst hs1
    replace x0 : ∀ p : Wd (Ex W9), p.v.cell? ⟨w1.heap.size + 1 + 1 + 1 + 1 + 1 + 1, 24, none⟩ = some (.int .i64 1) := Ex.cell x0
    replace x1 : ∀ p : Wd (Ex W9), p.v.cell? ⟨w1.heap.size + 1 + 1 + 1 + 1 + 1 + 1, 25, none⟩ = some (.int .i64 0) := Ex.cell x1
    replace x2 : ∀ p : Wd (Ex W9), p.v.cell? ⟨w1.heap.size + 1 + 1 + 1 + 1 + 1 + 1, 26, none⟩ = some (.int .i64 1) := Ex.cell x2
    replace x3 : ∀ p : Wd (Ex W9), p.v.cell? ⟨w1.heap.size + 1 + 1 + 1 + 1 + 1 + 1, 27, none⟩ = some (.int .i64 0) := Ex.cell x3
    replace x4 : ∀ p : Wd (Ex W9), p.v.cell? ⟨w1.heap.size + 1 + 1 + 1 + 1 + 1 + 1, 28, none⟩ = some (.int .i64 0) := Ex.cell x4
    replace x5 : ∀ p : Wd (Ex W9), p.v.cell? ⟨w1.heap.size + 1 + 1 + 1 + 1 + 1 + 1, 29, none⟩ = some (.int .i64 0) := Ex.cell x5
    replace x6 : ∀ p : Wd (Ex W9), p.v.cell? ⟨w1.heap.size + 1 + 1 + 1 + 1 + 1 + 1, 30, none⟩ = some (.string ⟨#[]⟩) := Ex.cell x6
    replace x7 : ∀ p : Wd (Ex W9), p.v.cell? ⟨w1.heap.size + 1 + 1 + 1 + 1 + 1 + 1, 31, none⟩ = some (.slice as1 0 cs1) := Ex.cell x7
    have y : ∀ p : Wd (Ex W9), p.v.cell? ⟨w1.heap.size + 1 + 1 + 1 + 1 + 1 + 1 + 1, 3, none⟩ = some (.int .i64 102) := Ex.cell (HF.out.2.2.2.1 3 (by decide))
    have HCk : Hid (∀ W, Below W9.heap.size W9 W → Calls Tryd.prog 6 #[.agg #[.int .i64 1, .int .i64 0, .int .i64 1, .int .i64 0, .int .i64 0, .int .i64 0, .string ⟨#[]⟩, .slice as1 0 cs1], .slice (some ⟨w1.heap.size, 0, none⟩) 3 3] W fun e w' => e = .returned (errV (ad 1)) ∧ Below W.heap.size W w') := fun W hW => by
      have := predCheck ad [1, 2, 3] m (fun _ => True) ⟨1, 0, 1, 0, (0, 0, ⟨#[]⟩), []⟩ (.slice as1 0 cs1) _ W (hq.on hW) (CV.out W hW) (EV.out W hW)
      rw [chk_3] at this
      exact this
    have HIs : Hid (∀ W, Below W9.heap.size W9 W → Calls Tryd.prog 7 #[errV (ad 1), .int .i64 102] W fun e w' => e = .returned (.bool true) ∧ Below W.heap.size W w') := fun W hW => seeIs ad (some 1) 102 W (EV.out W hW)
    clear hm hq hbs HF CV EV
    generalize errV (ad 1) = er at *
    go_wp2_with fail
    refine wp_region_ord_at (Ex W9) (regOf Tryd.f3.body 10) ((0, true) :: (1, true) :: (2, true) :: (3, true) :: (4, false) :: (5, true) :: (6, true) :: (7, true) :: (8, true) :: (9, true) :: (10, true) :: (11, true) :: (12, true) :: (14, true) :: (15, true) :: (16, true) :: (17, true) :: (13, false) :: (18, false) :: (19, true) :: (20, true) :: []) (by kernel_rfl) (by kernel_rfl) chk_ord B0.out ?_
    generalize W9.drew = v0 at *
    repeat (refine ord_quiet rfl ?_; go_big_quiet_step (fail); refine wpQuiet_nil ?_)
    refine ord_call rfl (by rfl) 6 rfl (enters_of Tryd.func6 (by kernel_rfl) rfl) [.agg #[.int .i64 1, .int .i64 0, .int .i64 1, .int .i64 0, .int .i64 1, .int .i64 5, .string ⟨#[]⟩, .slice none 0 0], .slice (some ⟨w1.heap.size, 0, none⟩) 3 3] (by rfl) _ (HCG.out v0 B0.out) ?_
    rintro e v1 ⟨rfl, hb0⟩
    have B1 : Hid (Below W9.heap.size W9 v1) := B0.out.trans (hb0.mono B0.out.size)
    clear hb0
    refine ⟨_, rfl, Ex.of B1.out, ?_⟩
    simp only [Act.put, List.setIfInBounds_toArray, List.set_cons_zero, List.set_cons_succ]
    repeat (refine ord_quiet rfl ?_; go_big_quiet_step (fail); refine wpQuiet_nil ?_)
    refine ord_call rfl (by rfl) 6 rfl (enters_of Tryd.func6 (by kernel_rfl) rfl) [.agg #[.int .i64 1, .int .i64 0, .int .i64 1, .int .i64 0, .int .i64 0, .int .i64 0, .string ⟨#[]⟩, .slice as1 0 cs1], .slice (some ⟨w1.heap.size, 0, none⟩) 3 3] (by rfl) _ (HCk.out v1 B1.out) ?_
    rintro e v2 ⟨rfl, hb1⟩
    have B2 : Hid (Below W9.heap.size W9 v2) := B1.out.trans (hb1.mono B1.out.size)
    clear hb1
    refine ⟨_, rfl, Ex.of B2.out, ?_⟩
    simp only [Act.put, List.setIfInBounds_toArray, List.set_cons_zero, List.set_cons_succ]
    repeat (refine ord_quiet rfl ?_; go_big_quiet_step (fail); refine wpQuiet_nil ?_)
    refine ord_call rfl (by rfl) 7 rfl (enters_of Tryd.func7 (by kernel_rfl) rfl) [er, .int .i64 102] (by rfl) _ (HIs.out v2 B2.out) ?_
    rintro e v3 ⟨rfl, hb2⟩
    have B3 : Hid (Below W9.heap.size W9 v3) := B2.out.trans (hb2.mono B2.out.size)
    clear hb2
    refine ⟨_, rfl, Ex.of B3.out, ?_⟩
    simp only [Act.put, List.setIfInBounds_toArray, List.set_cons_zero, List.set_cons_succ]
    repeat (refine ord_quiet rfl ?_; go_big_quiet_step (fail); refine wpQuiet_nil ?_)
    refine ord_end ?_
    go_wp2_with fail
    go_ret
    exact ⟨rfl, HB9.out.trans (B3.out.mono HB9.out.size)⟩
  · obtain ⟨m, b, o', s', hm, hab, ⟨x0, x1, x2, x3, x4, x5, x6, x7⟩, hq, hbs⟩ := PdL.at (F := fun _ => True) HF.out.2.2.1 4 (by decide)
    simp only [Option.some.injEq, Addr.mk.injEq, and_true] at hab
    obtain ⟨rfl, rfl⟩ := hab
    obtain ⟨as1, cs1, hs1⟩ := hq.form
    subst hs1
    replace x0 : ∀ p : Wd (Ex W9), p.v.cell? ⟨w1.heap.size + 1 + 1 + 1 + 1 + 1 + 1, 32, none⟩ = some (.int .i64 2) := Ex.cell x0
    replace x1 : ∀ p : Wd (Ex W9), p.v.cell? ⟨w1.heap.size + 1 + 1 + 1 + 1 + 1 + 1, 33, none⟩ = some (.int .i64 0) := Ex.cell x1
    replace x2 : ∀ p : Wd (Ex W9), p.v.cell? ⟨w1.heap.size + 1 + 1 + 1 + 1 + 1 + 1, 34, none⟩ = some (.int .i64 1) := Ex.cell x2
    replace x3 : ∀ p : Wd (Ex W9), p.v.cell? ⟨w1.heap.size + 1 + 1 + 1 + 1 + 1 + 1, 35, none⟩ = some (.int .i64 1) := Ex.cell x3
    replace x4 : ∀ p : Wd (Ex W9), p.v.cell? ⟨w1.heap.size + 1 + 1 + 1 + 1 + 1 + 1, 36, none⟩ = some (.int .i64 0) := Ex.cell x4
    replace x5 : ∀ p : Wd (Ex W9), p.v.cell? ⟨w1.heap.size + 1 + 1 + 1 + 1 + 1 + 1, 37, none⟩ = some (.int .i64 0) := Ex.cell x5
    replace x6 : ∀ p : Wd (Ex W9), p.v.cell? ⟨w1.heap.size + 1 + 1 + 1 + 1 + 1 + 1, 38, none⟩ = some (.string ⟨#[]⟩) := Ex.cell x6
    replace x7 : ∀ p : Wd (Ex W9), p.v.cell? ⟨w1.heap.size + 1 + 1 + 1 + 1 + 1 + 1, 39, none⟩ = some (.slice as1 0 cs1) := Ex.cell x7
    have y : ∀ p : Wd (Ex W9), p.v.cell? ⟨w1.heap.size + 1 + 1 + 1 + 1 + 1 + 1 + 1, 4, none⟩ = some (.int .i64 102) := Ex.cell (HF.out.2.2.2.1 4 (by decide))
    have HCk : Hid (∀ W, Below W9.heap.size W9 W → Calls Tryd.prog 6 #[.agg #[.int .i64 2, .int .i64 0, .int .i64 1, .int .i64 1, .int .i64 0, .int .i64 0, .string ⟨#[]⟩, .slice as1 0 cs1], .slice (some ⟨w1.heap.size, 0, none⟩) 3 3] W fun e w' => e = .returned (errV (ad 1)) ∧ Below W.heap.size W w') := fun W hW => by
      have := predCheck ad [1, 2, 3] m (fun _ => True) ⟨2, 0, 1, 1, (0, 0, ⟨#[]⟩), []⟩ (.slice as1 0 cs1) _ W (hq.on hW) (CV.out W hW) (EV.out W hW)
      rw [chk_4] at this
      exact this
    have HIs : Hid (∀ W, Below W9.heap.size W9 W → Calls Tryd.prog 7 #[errV (ad 1), .int .i64 102] W fun e w' => e = .returned (.bool true) ∧ Below W.heap.size W w') := fun W hW => seeIs ad (some 1) 102 W (EV.out W hW)
    clear hm hq hbs HF CV EV
    generalize errV (ad 1) = er at *
    go_wp2_with fail
    refine wp_region_ord_at (Ex W9) (regOf Tryd.f3.body 10) ((0, true) :: (1, true) :: (2, true) :: (3, true) :: (4, false) :: (5, true) :: (6, true) :: (7, true) :: (8, true) :: (9, true) :: (10, true) :: (11, true) :: (12, true) :: (14, true) :: (15, true) :: (16, true) :: (17, true) :: (13, false) :: (18, false) :: (19, true) :: (20, true) :: []) (by kernel_rfl) (by kernel_rfl) chk_ord B0.out ?_
    generalize W9.drew = v0 at *
    repeat (refine ord_quiet rfl ?_; go_big_quiet_step (fail); refine wpQuiet_nil ?_)
    refine ord_call rfl (by rfl) 6 rfl (enters_of Tryd.func6 (by kernel_rfl) rfl) [.agg #[.int .i64 1, .int .i64 0, .int .i64 1, .int .i64 0, .int .i64 1, .int .i64 5, .string ⟨#[]⟩, .slice none 0 0], .slice (some ⟨w1.heap.size, 0, none⟩) 3 3] (by rfl) _ (HCG.out v0 B0.out) ?_
    rintro e v1 ⟨rfl, hb0⟩
    have B1 : Hid (Below W9.heap.size W9 v1) := B0.out.trans (hb0.mono B0.out.size)
    clear hb0
    refine ⟨_, rfl, Ex.of B1.out, ?_⟩
    simp only [Act.put, List.setIfInBounds_toArray, List.set_cons_zero, List.set_cons_succ]
    repeat (refine ord_quiet rfl ?_; go_big_quiet_step (fail); refine wpQuiet_nil ?_)
    refine ord_call rfl (by rfl) 6 rfl (enters_of Tryd.func6 (by kernel_rfl) rfl) [.agg #[.int .i64 2, .int .i64 0, .int .i64 1, .int .i64 1, .int .i64 0, .int .i64 0, .string ⟨#[]⟩, .slice as1 0 cs1], .slice (some ⟨w1.heap.size, 0, none⟩) 3 3] (by rfl) _ (HCk.out v1 B1.out) ?_
    rintro e v2 ⟨rfl, hb1⟩
    have B2 : Hid (Below W9.heap.size W9 v2) := B1.out.trans (hb1.mono B1.out.size)
    clear hb1
    refine ⟨_, rfl, Ex.of B2.out, ?_⟩
    simp only [Act.put, List.setIfInBounds_toArray, List.set_cons_zero, List.set_cons_succ]
    repeat (refine ord_quiet rfl ?_; go_big_quiet_step (fail); refine wpQuiet_nil ?_)
    refine ord_call rfl (by rfl) 7 rfl (enters_of Tryd.func7 (by kernel_rfl) rfl) [er, .int .i64 102] (by rfl) _ (HIs.out v2 B2.out) ?_
    rintro e v3 ⟨rfl, hb2⟩
    have B3 : Hid (Below W9.heap.size W9 v3) := B2.out.trans (hb2.mono B2.out.size)
    clear hb2
    refine ⟨_, rfl, Ex.of B3.out, ?_⟩
    simp only [Act.put, List.setIfInBounds_toArray, List.set_cons_zero, List.set_cons_succ]
    repeat (refine ord_quiet rfl ?_; go_big_quiet_step (fail); refine wpQuiet_nil ?_)
    refine ord_end ?_
    go_wp2_with fail
    go_ret
    exact ⟨rfl, HB9.out.trans (B3.out.mono HB9.out.size)⟩
  · obtain ⟨m, b, o', s', hm, hab, ⟨x0, x1, x2, x3, x4, x5, x6, x7⟩, hq, hbs⟩ := PdL.at (F := fun _ => True) HF.out.2.2.1 5 (by decide)
    simp only [Option.some.injEq, Addr.mk.injEq, and_true] at hab
    obtain ⟨rfl, rfl⟩ := hab
    obtain ⟨as1, cs1, hs1⟩ := hq.form
    subst hs1
    replace x0 : ∀ p : Wd (Ex W9), p.v.cell? ⟨w1.heap.size + 1 + 1 + 1 + 1 + 1 + 1, 40, none⟩ = some (.int .i64 2) := Ex.cell x0
    replace x1 : ∀ p : Wd (Ex W9), p.v.cell? ⟨w1.heap.size + 1 + 1 + 1 + 1 + 1 + 1, 41, none⟩ = some (.int .i64 0) := Ex.cell x1
    replace x2 : ∀ p : Wd (Ex W9), p.v.cell? ⟨w1.heap.size + 1 + 1 + 1 + 1 + 1 + 1, 42, none⟩ = some (.int .i64 1) := Ex.cell x2
    replace x3 : ∀ p : Wd (Ex W9), p.v.cell? ⟨w1.heap.size + 1 + 1 + 1 + 1 + 1 + 1, 43, none⟩ = some (.int .i64 (-1)) := Ex.cell x3
    replace x4 : ∀ p : Wd (Ex W9), p.v.cell? ⟨w1.heap.size + 1 + 1 + 1 + 1 + 1 + 1, 44, none⟩ = some (.int .i64 0) := Ex.cell x4
    replace x5 : ∀ p : Wd (Ex W9), p.v.cell? ⟨w1.heap.size + 1 + 1 + 1 + 1 + 1 + 1, 45, none⟩ = some (.int .i64 0) := Ex.cell x5
    replace x6 : ∀ p : Wd (Ex W9), p.v.cell? ⟨w1.heap.size + 1 + 1 + 1 + 1 + 1 + 1, 46, none⟩ = some (.string ⟨#[]⟩) := Ex.cell x6
    replace x7 : ∀ p : Wd (Ex W9), p.v.cell? ⟨w1.heap.size + 1 + 1 + 1 + 1 + 1 + 1, 47, none⟩ = some (.slice as1 0 cs1) := Ex.cell x7
    have y : ∀ p : Wd (Ex W9), p.v.cell? ⟨w1.heap.size + 1 + 1 + 1 + 1 + 1 + 1 + 1, 5, none⟩ = some (.int .i64 106) := Ex.cell (HF.out.2.2.2.1 5 (by decide))
    have HCk : Hid (∀ W, Below W9.heap.size W9 W → Calls Tryd.prog 6 #[.agg #[.int .i64 2, .int .i64 0, .int .i64 1, .int .i64 (-1), .int .i64 0, .int .i64 0, .string ⟨#[]⟩, .slice as1 0 cs1], .slice (some ⟨w1.heap.size, 0, none⟩) 3 3] W fun e w' => e = .returned (errV (ad 5)) ∧ Below W.heap.size W w') := fun W hW => by
      have := predCheck ad [1, 2, 3] m (fun _ => True) ⟨2, 0, 1, (-1), (0, 0, ⟨#[]⟩), []⟩ (.slice as1 0 cs1) _ W (hq.on hW) (CV.out W hW) (EV.out W hW)
      rw [chk_5] at this
      exact this
    have HIs : Hid (∀ W, Below W9.heap.size W9 W → Calls Tryd.prog 7 #[errV (ad 5), .int .i64 106] W fun e w' => e = .returned (.bool true) ∧ Below W.heap.size W w') := fun W hW => seeIs ad (some 5) 106 W (EV.out W hW)
    clear hm hq hbs HF CV EV
    generalize errV (ad 5) = er at *
    go_wp2_with fail
    refine wp_region_ord_at (Ex W9) (regOf Tryd.f3.body 10) ((0, true) :: (1, true) :: (2, true) :: (3, true) :: (4, false) :: (5, true) :: (6, true) :: (7, true) :: (8, true) :: (9, true) :: (10, true) :: (11, true) :: (12, true) :: (14, true) :: (15, true) :: (16, true) :: (17, true) :: (13, false) :: (18, false) :: (19, true) :: (20, true) :: []) (by kernel_rfl) (by kernel_rfl) chk_ord B0.out ?_
    generalize W9.drew = v0 at *
    repeat (refine ord_quiet rfl ?_; go_big_quiet_step (fail); refine wpQuiet_nil ?_)
    refine ord_call rfl (by rfl) 6 rfl (enters_of Tryd.func6 (by kernel_rfl) rfl) [.agg #[.int .i64 1, .int .i64 0, .int .i64 1, .int .i64 0, .int .i64 1, .int .i64 5, .string ⟨#[]⟩, .slice none 0 0], .slice (some ⟨w1.heap.size, 0, none⟩) 3 3] (by rfl) _ (HCG.out v0 B0.out) ?_
    rintro e v1 ⟨rfl, hb0⟩
    have B1 : Hid (Below W9.heap.size W9 v1) := B0.out.trans (hb0.mono B0.out.size)
    clear hb0
    refine ⟨_, rfl, Ex.of B1.out, ?_⟩
    simp only [Act.put, List.setIfInBounds_toArray, List.set_cons_zero, List.set_cons_succ]
    repeat (refine ord_quiet rfl ?_; go_big_quiet_step (fail); refine wpQuiet_nil ?_)
    refine ord_call rfl (by rfl) 6 rfl (enters_of Tryd.func6 (by kernel_rfl) rfl) [.agg #[.int .i64 2, .int .i64 0, .int .i64 1, .int .i64 (-1), .int .i64 0, .int .i64 0, .string ⟨#[]⟩, .slice as1 0 cs1], .slice (some ⟨w1.heap.size, 0, none⟩) 3 3] (by rfl) _ (HCk.out v1 B1.out) ?_
    rintro e v2 ⟨rfl, hb1⟩
    have B2 : Hid (Below W9.heap.size W9 v2) := B1.out.trans (hb1.mono B1.out.size)
    clear hb1
    refine ⟨_, rfl, Ex.of B2.out, ?_⟩
    simp only [Act.put, List.setIfInBounds_toArray, List.set_cons_zero, List.set_cons_succ]
    repeat (refine ord_quiet rfl ?_; go_big_quiet_step (fail); refine wpQuiet_nil ?_)
    refine ord_call rfl (by rfl) 7 rfl (enters_of Tryd.func7 (by kernel_rfl) rfl) [er, .int .i64 106] (by rfl) _ (HIs.out v2 B2.out) ?_
    rintro e v3 ⟨rfl, hb2⟩
    have B3 : Hid (Below W9.heap.size W9 v3) := B2.out.trans (hb2.mono B2.out.size)
    clear hb2
    refine ⟨_, rfl, Ex.of B3.out, ?_⟩
    simp only [Act.put, List.setIfInBounds_toArray, List.set_cons_zero, List.set_cons_succ]
    repeat (refine ord_quiet rfl ?_; go_big_quiet_step (fail); refine wpQuiet_nil ?_)
    refine ord_end ?_
    go_wp2_with fail
    go_ret
    exact ⟨rfl, HB9.out.trans (B3.out.mono HB9.out.size)⟩
  · obtain ⟨m, b, o', s', hm, hab, ⟨x0, x1, x2, x3, x4, x5, x6, x7⟩, hq, hbs⟩ := PdL.at (F := fun _ => True) HF.out.2.2.1 6 (by decide)
    simp only [Option.some.injEq, Addr.mk.injEq, and_true] at hab
    obtain ⟨rfl, rfl⟩ := hab
    obtain ⟨as1, cs1, hs1⟩ := hq.form
    subst hs1
    replace x0 : ∀ p : Wd (Ex W9), p.v.cell? ⟨w1.heap.size + 1 + 1 + 1 + 1 + 1 + 1, 48, none⟩ = some (.int .i64 3) := Ex.cell x0
    replace x1 : ∀ p : Wd (Ex W9), p.v.cell? ⟨w1.heap.size + 1 + 1 + 1 + 1 + 1 + 1, 49, none⟩ = some (.int .i64 (-1)) := Ex.cell x1
    replace x2 : ∀ p : Wd (Ex W9), p.v.cell? ⟨w1.heap.size + 1 + 1 + 1 + 1 + 1 + 1, 50, none⟩ = some (.int .i64 0) := Ex.cell x2
    replace x3 : ∀ p : Wd (Ex W9), p.v.cell? ⟨w1.heap.size + 1 + 1 + 1 + 1 + 1 + 1, 51, none⟩ = some (.int .i64 0) := Ex.cell x3
    replace x4 : ∀ p : Wd (Ex W9), p.v.cell? ⟨w1.heap.size + 1 + 1 + 1 + 1 + 1 + 1, 52, none⟩ = some (.int .i64 0) := Ex.cell x4
    replace x5 : ∀ p : Wd (Ex W9), p.v.cell? ⟨w1.heap.size + 1 + 1 + 1 + 1 + 1 + 1, 53, none⟩ = some (.int .i64 0) := Ex.cell x5
    replace x6 : ∀ p : Wd (Ex W9), p.v.cell? ⟨w1.heap.size + 1 + 1 + 1 + 1 + 1 + 1, 54, none⟩ = some (.string ⟨#[]⟩) := Ex.cell x6
    replace x7 : ∀ p : Wd (Ex W9), p.v.cell? ⟨w1.heap.size + 1 + 1 + 1 + 1 + 1 + 1, 55, none⟩ = some (.slice as1 0 cs1) := Ex.cell x7
    have y : ∀ p : Wd (Ex W9), p.v.cell? ⟨w1.heap.size + 1 + 1 + 1 + 1 + 1 + 1 + 1, 6, none⟩ = some (.int .i64 106) := Ex.cell (HF.out.2.2.2.1 6 (by decide))
    have HCk : Hid (∀ W, Below W9.heap.size W9 W → Calls Tryd.prog 6 #[.agg #[.int .i64 3, .int .i64 (-1), .int .i64 0, .int .i64 0, .int .i64 0, .int .i64 0, .string ⟨#[]⟩, .slice as1 0 cs1], .slice (some ⟨w1.heap.size, 0, none⟩) 3 3] W fun e w' => e = .returned (errV (ad 5)) ∧ Below W.heap.size W w') := fun W hW => by
      have := predCheck ad [1, 2, 3] m (fun _ => True) ⟨3, (-1), 0, 0, (0, 0, ⟨#[]⟩), []⟩ (.slice as1 0 cs1) _ W (hq.on hW) (CV.out W hW) (EV.out W hW)
      rw [chk_6] at this
      exact this
    have HIs : Hid (∀ W, Below W9.heap.size W9 W → Calls Tryd.prog 7 #[errV (ad 5), .int .i64 106] W fun e w' => e = .returned (.bool true) ∧ Below W.heap.size W w') := fun W hW => seeIs ad (some 5) 106 W (EV.out W hW)
    clear hm hq hbs HF CV EV
    generalize errV (ad 5) = er at *
    go_wp2_with fail
    refine wp_region_ord_at (Ex W9) (regOf Tryd.f3.body 10) ((0, true) :: (1, true) :: (2, true) :: (3, true) :: (4, false) :: (5, true) :: (6, true) :: (7, true) :: (8, true) :: (9, true) :: (10, true) :: (11, true) :: (12, true) :: (14, true) :: (15, true) :: (16, true) :: (17, true) :: (13, false) :: (18, false) :: (19, true) :: (20, true) :: []) (by kernel_rfl) (by kernel_rfl) chk_ord B0.out ?_
    generalize W9.drew = v0 at *
    repeat (refine ord_quiet rfl ?_; go_big_quiet_step (fail); refine wpQuiet_nil ?_)
    refine ord_call rfl (by rfl) 6 rfl (enters_of Tryd.func6 (by kernel_rfl) rfl) [.agg #[.int .i64 1, .int .i64 0, .int .i64 1, .int .i64 0, .int .i64 1, .int .i64 5, .string ⟨#[]⟩, .slice none 0 0], .slice (some ⟨w1.heap.size, 0, none⟩) 3 3] (by rfl) _ (HCG.out v0 B0.out) ?_
    rintro e v1 ⟨rfl, hb0⟩
    have B1 : Hid (Below W9.heap.size W9 v1) := B0.out.trans (hb0.mono B0.out.size)
    clear hb0
    refine ⟨_, rfl, Ex.of B1.out, ?_⟩
    simp only [Act.put, List.setIfInBounds_toArray, List.set_cons_zero, List.set_cons_succ]
    repeat (refine ord_quiet rfl ?_; go_big_quiet_step (fail); refine wpQuiet_nil ?_)
    refine ord_call rfl (by rfl) 6 rfl (enters_of Tryd.func6 (by kernel_rfl) rfl) [.agg #[.int .i64 3, .int .i64 (-1), .int .i64 0, .int .i64 0, .int .i64 0, .int .i64 0, .string ⟨#[]⟩, .slice as1 0 cs1], .slice (some ⟨w1.heap.size, 0, none⟩) 3 3] (by rfl) _ (HCk.out v1 B1.out) ?_
    rintro e v2 ⟨rfl, hb1⟩
    have B2 : Hid (Below W9.heap.size W9 v2) := B1.out.trans (hb1.mono B1.out.size)
    clear hb1
    refine ⟨_, rfl, Ex.of B2.out, ?_⟩
    simp only [Act.put, List.setIfInBounds_toArray, List.set_cons_zero, List.set_cons_succ]
    repeat (refine ord_quiet rfl ?_; go_big_quiet_step (fail); refine wpQuiet_nil ?_)
    refine ord_call rfl (by rfl) 7 rfl (enters_of Tryd.func7 (by kernel_rfl) rfl) [er, .int .i64 106] (by rfl) _ (HIs.out v2 B2.out) ?_
    rintro e v3 ⟨rfl, hb2⟩
    have B3 : Hid (Below W9.heap.size W9 v3) := B2.out.trans (hb2.mono B2.out.size)
    clear hb2
    refine ⟨_, rfl, Ex.of B3.out, ?_⟩
    simp only [Act.put, List.setIfInBounds_toArray, List.set_cons_zero, List.set_cons_succ]
    repeat (refine ord_quiet rfl ?_; go_big_quiet_step (fail); refine wpQuiet_nil ?_)
    refine ord_end ?_
    go_wp2_with fail
    go_ret
    exact ⟨rfl, HB9.out.trans (B3.out.mono HB9.out.size)⟩
  · obtain ⟨m, b, o', s', hm, hab, ⟨x0, x1, x2, x3, x4, x5, x6, x7⟩, hq, hbs⟩ := PdL.at (F := fun _ => True) HF.out.2.2.1 7 (by decide)
    simp only [Option.some.injEq, Addr.mk.injEq, and_true] at hab
    obtain ⟨rfl, rfl⟩ := hab
    obtain ⟨as1, cs1, hs1⟩ := hq.form
    subst hs1
    replace x0 : ∀ p : Wd (Ex W9), p.v.cell? ⟨w1.heap.size + 1 + 1 + 1 + 1 + 1 + 1, 56, none⟩ = some (.int .i64 4) := Ex.cell x0
    replace x1 : ∀ p : Wd (Ex W9), p.v.cell? ⟨w1.heap.size + 1 + 1 + 1 + 1 + 1 + 1, 57, none⟩ = some (.int .i64 0) := Ex.cell x1
    replace x2 : ∀ p : Wd (Ex W9), p.v.cell? ⟨w1.heap.size + 1 + 1 + 1 + 1 + 1 + 1, 58, none⟩ = some (.int .i64 0) := Ex.cell x2
    replace x3 : ∀ p : Wd (Ex W9), p.v.cell? ⟨w1.heap.size + 1 + 1 + 1 + 1 + 1 + 1, 59, none⟩ = some (.int .i64 0) := Ex.cell x3
    replace x4 : ∀ p : Wd (Ex W9), p.v.cell? ⟨w1.heap.size + 1 + 1 + 1 + 1 + 1 + 1, 60, none⟩ = some (.int .i64 0) := Ex.cell x4
    replace x5 : ∀ p : Wd (Ex W9), p.v.cell? ⟨w1.heap.size + 1 + 1 + 1 + 1 + 1 + 1, 61, none⟩ = some (.int .i64 0) := Ex.cell x5
    replace x6 : ∀ p : Wd (Ex W9), p.v.cell? ⟨w1.heap.size + 1 + 1 + 1 + 1 + 1 + 1, 62, none⟩ = some (.string ⟨#[]⟩) := Ex.cell x6
    replace x7 : ∀ p : Wd (Ex W9), p.v.cell? ⟨w1.heap.size + 1 + 1 + 1 + 1 + 1 + 1, 63, none⟩ = some (.slice as1 1 cs1) := Ex.cell x7
    have y : ∀ p : Wd (Ex W9), p.v.cell? ⟨w1.heap.size + 1 + 1 + 1 + 1 + 1 + 1 + 1, 7, none⟩ = some (.int .i64 102) := Ex.cell (HF.out.2.2.2.1 7 (by decide))
    have HCk : Hid (∀ W, Below W9.heap.size W9 W → Calls Tryd.prog 6 #[.agg #[.int .i64 4, .int .i64 0, .int .i64 0, .int .i64 0, .int .i64 0, .int .i64 0, .string ⟨#[]⟩, .slice as1 1 cs1], .slice (some ⟨w1.heap.size, 0, none⟩) 3 3] W fun e w' => e = .returned (errV (ad 1)) ∧ Below W.heap.size W w') := fun W hW => by
      have := predCheck ad [1, 2, 3] m (fun _ => True) ⟨4, 0, 0, 0, (0, 0, ⟨#[]⟩), [gdP]⟩ (.slice as1 1 cs1) _ W (hq.on hW) (CV.out W hW) (EV.out W hW)
      rw [chk_7] at this
      exact this
    have HIs : Hid (∀ W, Below W9.heap.size W9 W → Calls Tryd.prog 7 #[errV (ad 1), .int .i64 102] W fun e w' => e = .returned (.bool true) ∧ Below W.heap.size W w') := fun W hW => seeIs ad (some 1) 102 W (EV.out W hW)
    clear hm hq hbs HF CV EV
    generalize errV (ad 1) = er at *
    go_wp2_with fail
    refine wp_region_ord_at (Ex W9) (regOf Tryd.f3.body 10) ((0, true) :: (1, true) :: (2, true) :: (3, true) :: (4, false) :: (5, true) :: (6, true) :: (7, true) :: (8, true) :: (9, true) :: (10, true) :: (11, true) :: (12, true) :: (14, true) :: (15, true) :: (16, true) :: (17, true) :: (13, false) :: (18, false) :: (19, true) :: (20, true) :: []) (by kernel_rfl) (by kernel_rfl) chk_ord B0.out ?_
    generalize W9.drew = v0 at *
    repeat (refine ord_quiet rfl ?_; go_big_quiet_step (fail); refine wpQuiet_nil ?_)
    refine ord_call rfl (by rfl) 6 rfl (enters_of Tryd.func6 (by kernel_rfl) rfl) [.agg #[.int .i64 1, .int .i64 0, .int .i64 1, .int .i64 0, .int .i64 1, .int .i64 5, .string ⟨#[]⟩, .slice none 0 0], .slice (some ⟨w1.heap.size, 0, none⟩) 3 3] (by rfl) _ (HCG.out v0 B0.out) ?_
    rintro e v1 ⟨rfl, hb0⟩
    have B1 : Hid (Below W9.heap.size W9 v1) := B0.out.trans (hb0.mono B0.out.size)
    clear hb0
    refine ⟨_, rfl, Ex.of B1.out, ?_⟩
    simp only [Act.put, List.setIfInBounds_toArray, List.set_cons_zero, List.set_cons_succ]
    repeat (refine ord_quiet rfl ?_; go_big_quiet_step (fail); refine wpQuiet_nil ?_)
    refine ord_call rfl (by rfl) 6 rfl (enters_of Tryd.func6 (by kernel_rfl) rfl) [.agg #[.int .i64 4, .int .i64 0, .int .i64 0, .int .i64 0, .int .i64 0, .int .i64 0, .string ⟨#[]⟩, .slice as1 1 cs1], .slice (some ⟨w1.heap.size, 0, none⟩) 3 3] (by rfl) _ (HCk.out v1 B1.out) ?_
    rintro e v2 ⟨rfl, hb1⟩
    have B2 : Hid (Below W9.heap.size W9 v2) := B1.out.trans (hb1.mono B1.out.size)
    clear hb1
    refine ⟨_, rfl, Ex.of B2.out, ?_⟩
    simp only [Act.put, List.setIfInBounds_toArray, List.set_cons_zero, List.set_cons_succ]
    repeat (refine ord_quiet rfl ?_; go_big_quiet_step (fail); refine wpQuiet_nil ?_)
    refine ord_call rfl (by rfl) 7 rfl (enters_of Tryd.func7 (by kernel_rfl) rfl) [er, .int .i64 102] (by rfl) _ (HIs.out v2 B2.out) ?_
    rintro e v3 ⟨rfl, hb2⟩
    have B3 : Hid (Below W9.heap.size W9 v3) := B2.out.trans (hb2.mono B2.out.size)
    clear hb2
    refine ⟨_, rfl, Ex.of B3.out, ?_⟩
    simp only [Act.put, List.setIfInBounds_toArray, List.set_cons_zero, List.set_cons_succ]
    repeat (refine ord_quiet rfl ?_; go_big_quiet_step (fail); refine wpQuiet_nil ?_)
    refine ord_end ?_
    go_wp2_with fail
    go_ret
    exact ⟨rfl, HB9.out.trans (B3.out.mono HB9.out.size)⟩
  · obtain ⟨m, b, o', s', hm, hab, ⟨x0, x1, x2, x3, x4, x5, x6, x7⟩, hq, hbs⟩ := PdL.at (F := fun _ => True) HF.out.2.2.1 8 (by decide)
    simp only [Option.some.injEq, Addr.mk.injEq, and_true] at hab
    obtain ⟨rfl, rfl⟩ := hab
    obtain ⟨as1, cs1, hs1⟩ := hq.form
    subst hs1
    replace x0 : ∀ p : Wd (Ex W9), p.v.cell? ⟨w1.heap.size + 1 + 1 + 1 + 1 + 1 + 1, 64, none⟩ = some (.int .i64 5) := Ex.cell x0
    replace x1 : ∀ p : Wd (Ex W9), p.v.cell? ⟨w1.heap.size + 1 + 1 + 1 + 1 + 1 + 1, 65, none⟩ = some (.int .i64 0) := Ex.cell x1
    replace x2 : ∀ p : Wd (Ex W9), p.v.cell? ⟨w1.heap.size + 1 + 1 + 1 + 1 + 1 + 1, 66, none⟩ = some (.int .i64 0) := Ex.cell x2
    replace x3 : ∀ p : Wd (Ex W9), p.v.cell? ⟨w1.heap.size + 1 + 1 + 1 + 1 + 1 + 1, 67, none⟩ = some (.int .i64 0) := Ex.cell x3
    replace x4 : ∀ p : Wd (Ex W9), p.v.cell? ⟨w1.heap.size + 1 + 1 + 1 + 1 + 1 + 1, 68, none⟩ = some (.int .i64 0) := Ex.cell x4
    replace x5 : ∀ p : Wd (Ex W9), p.v.cell? ⟨w1.heap.size + 1 + 1 + 1 + 1 + 1 + 1, 69, none⟩ = some (.int .i64 0) := Ex.cell x5
    replace x6 : ∀ p : Wd (Ex W9), p.v.cell? ⟨w1.heap.size + 1 + 1 + 1 + 1 + 1 + 1, 70, none⟩ = some (.string ⟨#[]⟩) := Ex.cell x6
    replace x7 : ∀ p : Wd (Ex W9), p.v.cell? ⟨w1.heap.size + 1 + 1 + 1 + 1 + 1 + 1, 71, none⟩ = some (.slice as1 0 cs1) := Ex.cell x7
    have y : ∀ p : Wd (Ex W9), p.v.cell? ⟨w1.heap.size + 1 + 1 + 1 + 1 + 1 + 1 + 1, 8, none⟩ = some (.int .i64 102) := Ex.cell (HF.out.2.2.2.1 8 (by decide))
    have HCk : Hid (∀ W, Below W9.heap.size W9 W → Calls Tryd.prog 6 #[.agg #[.int .i64 5, .int .i64 0, .int .i64 0, .int .i64 0, .int .i64 0, .int .i64 0, .string ⟨#[]⟩, .slice as1 0 cs1], .slice (some ⟨w1.heap.size, 0, none⟩) 3 3] W fun e w' => e = .returned (errV (ad 1)) ∧ Below W.heap.size W w') := fun W hW => by
      have := predCheck ad [1, 2, 3] m (fun _ => True) ⟨5, 0, 0, 0, (0, 0, ⟨#[]⟩), []⟩ (.slice as1 0 cs1) _ W (hq.on hW) (CV.out W hW) (EV.out W hW)
      rw [chk_8] at this
      exact this
    have HIs : Hid (∀ W, Below W9.heap.size W9 W → Calls Tryd.prog 7 #[errV (ad 1), .int .i64 102] W fun e w' => e = .returned (.bool true) ∧ Below W.heap.size W w') := fun W hW => seeIs ad (some 1) 102 W (EV.out W hW)
    clear hm hq hbs HF CV EV
    generalize errV (ad 1) = er at *
    go_wp2_with fail
    refine wp_region_ord_at (Ex W9) (regOf Tryd.f3.body 10) ((0, true) :: (1, true) :: (2, true) :: (3, true) :: (4, false) :: (5, true) :: (6, true) :: (7, true) :: (8, true) :: (9, true) :: (10, true) :: (11, true) :: (12, true) :: (14, true) :: (15, true) :: (16, true) :: (17, true) :: (13, false) :: (18, false) :: (19, true) :: (20, true) :: []) (by kernel_rfl) (by kernel_rfl) chk_ord B0.out ?_
    generalize W9.drew = v0 at *
    repeat (refine ord_quiet rfl ?_; go_big_quiet_step (fail); refine wpQuiet_nil ?_)
    refine ord_call rfl (by rfl) 6 rfl (enters_of Tryd.func6 (by kernel_rfl) rfl) [.agg #[.int .i64 1, .int .i64 0, .int .i64 1, .int .i64 0, .int .i64 1, .int .i64 5, .string ⟨#[]⟩, .slice none 0 0], .slice (some ⟨w1.heap.size, 0, none⟩) 3 3] (by rfl) _ (HCG.out v0 B0.out) ?_
    rintro e v1 ⟨rfl, hb0⟩
    have B1 : Hid (Below W9.heap.size W9 v1) := B0.out.trans (hb0.mono B0.out.size)
    clear hb0
    refine ⟨_, rfl, Ex.of B1.out, ?_⟩
    simp only [Act.put, List.setIfInBounds_toArray, List.set_cons_zero, List.set_cons_succ]
    repeat (refine ord_quiet rfl ?_; go_big_quiet_step (fail); refine wpQuiet_nil ?_)
    refine ord_call rfl (by rfl) 6 rfl (enters_of Tryd.func6 (by kernel_rfl) rfl) [.agg #[.int .i64 5, .int .i64 0, .int .i64 0, .int .i64 0, .int .i64 0, .int .i64 0, .string ⟨#[]⟩, .slice as1 0 cs1], .slice (some ⟨w1.heap.size, 0, none⟩) 3 3] (by rfl) _ (HCk.out v1 B1.out) ?_
    rintro e v2 ⟨rfl, hb1⟩
    have B2 : Hid (Below W9.heap.size W9 v2) := B1.out.trans (hb1.mono B1.out.size)
    clear hb1
    refine ⟨_, rfl, Ex.of B2.out, ?_⟩
    simp only [Act.put, List.setIfInBounds_toArray, List.set_cons_zero, List.set_cons_succ]
    repeat (refine ord_quiet rfl ?_; go_big_quiet_step (fail); refine wpQuiet_nil ?_)
    refine ord_call rfl (by rfl) 7 rfl (enters_of Tryd.func7 (by kernel_rfl) rfl) [er, .int .i64 102] (by rfl) _ (HIs.out v2 B2.out) ?_
    rintro e v3 ⟨rfl, hb2⟩
    have B3 : Hid (Below W9.heap.size W9 v3) := B2.out.trans (hb2.mono B2.out.size)
    clear hb2
    refine ⟨_, rfl, Ex.of B3.out, ?_⟩
    simp only [Act.put, List.setIfInBounds_toArray, List.set_cons_zero, List.set_cons_succ]
    repeat (refine ord_quiet rfl ?_; go_big_quiet_step (fail); refine wpQuiet_nil ?_)
    refine ord_end ?_
    go_wp2_with fail
    go_ret
    exact ⟨rfl, HB9.out.trans (B3.out.mono HB9.out.size)⟩
  · obtain ⟨m, b, o', s', hm, hab, ⟨x0, x1, x2, x3, x4, x5, x6, x7⟩, hq, hbs⟩ := PdL.at (F := fun _ => True) HF.out.2.2.1 9 (by decide)
    simp only [Option.some.injEq, Addr.mk.injEq, and_true] at hab
    obtain ⟨rfl, rfl⟩ := hab
    obtain ⟨as1, cs1, hs1⟩ := hq.form
    subst hs1
    replace x0 : ∀ p : Wd (Ex W9), p.v.cell? ⟨w1.heap.size + 1 + 1 + 1 + 1 + 1 + 1, 72, none⟩ = some (.int .i64 6) := Ex.cell x0
    replace x1 : ∀ p : Wd (Ex W9), p.v.cell? ⟨w1.heap.size + 1 + 1 + 1 + 1 + 1 + 1, 73, none⟩ = some (.int .i64 0) := Ex.cell x1
    replace x2 : ∀ p : Wd (Ex W9), p.v.cell? ⟨w1.heap.size + 1 + 1 + 1 + 1 + 1 + 1, 74, none⟩ = some (.int .i64 0) := Ex.cell x2
    replace x3 : ∀ p : Wd (Ex W9), p.v.cell? ⟨w1.heap.size + 1 + 1 + 1 + 1 + 1 + 1, 75, none⟩ = some (.int .i64 0) := Ex.cell x3
    replace x4 : ∀ p : Wd (Ex W9), p.v.cell? ⟨w1.heap.size + 1 + 1 + 1 + 1 + 1 + 1, 76, none⟩ = some (.int .i64 0) := Ex.cell x4
    replace x5 : ∀ p : Wd (Ex W9), p.v.cell? ⟨w1.heap.size + 1 + 1 + 1 + 1 + 1 + 1, 77, none⟩ = some (.int .i64 0) := Ex.cell x5
    replace x6 : ∀ p : Wd (Ex W9), p.v.cell? ⟨w1.heap.size + 1 + 1 + 1 + 1 + 1 + 1, 78, none⟩ = some (.string ⟨#[]⟩) := Ex.cell x6
    replace x7 : ∀ p : Wd (Ex W9), p.v.cell? ⟨w1.heap.size + 1 + 1 + 1 + 1 + 1 + 1, 79, none⟩ = some (.slice as1 0 cs1) := Ex.cell x7
    have y : ∀ p : Wd (Ex W9), p.v.cell? ⟨w1.heap.size + 1 + 1 + 1 + 1 + 1 + 1 + 1, 9, none⟩ = some (.int .i64 102) := Ex.cell (HF.out.2.2.2.1 9 (by decide))
    have HCk : Hid (∀ W, Below W9.heap.size W9 W → Calls Tryd.prog 6 #[.agg #[.int .i64 6, .int .i64 0, .int .i64 0, .int .i64 0, .int .i64 0, .int .i64 0, .string ⟨#[]⟩, .slice as1 0 cs1], .slice (some ⟨w1.heap.size, 0, none⟩) 3 3] W fun e w' => e = .returned (errV (ad 1)) ∧ Below W.heap.size W w') := fun W hW => by
      have := predCheck ad [1, 2, 3] m (fun _ => True) ⟨6, 0, 0, 0, (0, 0, ⟨#[]⟩), []⟩ (.slice as1 0 cs1) _ W (hq.on hW) (CV.out W hW) (EV.out W hW)
      rw [chk_9] at this
      exact this
    have HIs : Hid (∀ W, Below W9.heap.size W9 W → Calls Tryd.prog 7 #[errV (ad 1), .int .i64 102] W fun e w' => e = .returned (.bool true) ∧ Below W.heap.size W w') := fun W hW => seeIs ad (some 1) 102 W (EV.out W hW)
    clear hm hq hbs HF CV EV
    generalize errV (ad 1) = er at *
    go_wp2_with fail
    refine wp_region_ord_at (Ex W9) (regOf Tryd.f3.body 10) ((0, true) :: (1, true) :: (2, true) :: (3, true) :: (4, false) :: (5, true) :: (6, true) :: (7, true) :: (8, true) :: (9, true) :: (10, true) :: (11, true) :: (12, true) :: (14, true) :: (15, true) :: (16, true) :: (17, true) :: (13, false) :: (18, false) :: (19, true) :: (20, true) :: []) (by kernel_rfl) (by kernel_rfl) chk_ord B0.out ?_
    generalize W9.drew = v0 at *
    repeat (refine ord_quiet rfl ?_; go_big_quiet_step (fail); refine wpQuiet_nil ?_)
    refine ord_call rfl (by rfl) 6 rfl (enters_of Tryd.func6 (by kernel_rfl) rfl) [.agg #[.int .i64 1, .int .i64 0, .int .i64 1, .int .i64 0, .int .i64 1, .int .i64 5, .string ⟨#[]⟩, .slice none 0 0], .slice (some ⟨w1.heap.size, 0, none⟩) 3 3] (by rfl) _ (HCG.out v0 B0.out) ?_
    rintro e v1 ⟨rfl, hb0⟩
    have B1 : Hid (Below W9.heap.size W9 v1) := B0.out.trans (hb0.mono B0.out.size)
    clear hb0
    refine ⟨_, rfl, Ex.of B1.out, ?_⟩
    simp only [Act.put, List.setIfInBounds_toArray, List.set_cons_zero, List.set_cons_succ]
    repeat (refine ord_quiet rfl ?_; go_big_quiet_step (fail); refine wpQuiet_nil ?_)
    refine ord_call rfl (by rfl) 6 rfl (enters_of Tryd.func6 (by kernel_rfl) rfl) [.agg #[.int .i64 6, .int .i64 0, .int .i64 0, .int .i64 0, .int .i64 0, .int .i64 0, .string ⟨#[]⟩, .slice as1 0 cs1], .slice (some ⟨w1.heap.size, 0, none⟩) 3 3] (by rfl) _ (HCk.out v1 B1.out) ?_
    rintro e v2 ⟨rfl, hb1⟩
    have B2 : Hid (Below W9.heap.size W9 v2) := B1.out.trans (hb1.mono B1.out.size)
    clear hb1
    refine ⟨_, rfl, Ex.of B2.out, ?_⟩
    simp only [Act.put, List.setIfInBounds_toArray, List.set_cons_zero, List.set_cons_succ]
    repeat (refine ord_quiet rfl ?_; go_big_quiet_step (fail); refine wpQuiet_nil ?_)
    refine ord_call rfl (by rfl) 7 rfl (enters_of Tryd.func7 (by kernel_rfl) rfl) [er, .int .i64 102] (by rfl) _ (HIs.out v2 B2.out) ?_
    rintro e v3 ⟨rfl, hb2⟩
    have B3 : Hid (Below W9.heap.size W9 v3) := B2.out.trans (hb2.mono B2.out.size)
    clear hb2
    refine ⟨_, rfl, Ex.of B3.out, ?_⟩
    simp only [Act.put, List.setIfInBounds_toArray, List.set_cons_zero, List.set_cons_succ]
    repeat (refine ord_quiet rfl ?_; go_big_quiet_step (fail); refine wpQuiet_nil ?_)
    refine ord_end ?_
    go_wp2_with fail
    go_ret
    exact ⟨rfl, HB9.out.trans (B3.out.mono HB9.out.size)⟩
  · obtain ⟨m, b, o', s', hm, hab, ⟨x0, x1, x2, x3, x4, x5, x6, x7⟩, hq, hbs⟩ := PdL.at (F := fun _ => True) HF.out.2.2.1 10 (by decide)
    simp only [Option.some.injEq, Addr.mk.injEq, and_true] at hab
    obtain ⟨rfl, rfl⟩ := hab
    obtain ⟨as1, cs1, hs1⟩ := hq.form
    subst hs1
    replace x0 : ∀ p : Wd (Ex W9), p.v.cell? ⟨w1.heap.size + 1 + 1 + 1 + 1 + 1 + 1, 80, none⟩ = some (.int .i64 6) := Ex.cell x0
    replace x1 : ∀ p : Wd (Ex W9), p.v.cell? ⟨w1.heap.size + 1 + 1 + 1 + 1 + 1 + 1, 81, none⟩ = some (.int .i64 0) := Ex.cell x1
    replace x2 : ∀ p : Wd (Ex W9), p.v.cell? ⟨w1.heap.size + 1 + 1 + 1 + 1 + 1 + 1, 82, none⟩ = some (.int .i64 0) := Ex.cell x2
    replace x3 : ∀ p : Wd (Ex W9), p.v.cell? ⟨w1.heap.size + 1 + 1 + 1 + 1 + 1 + 1, 83, none⟩ = some (.int .i64 0) := Ex.cell x3
    replace x4 : ∀ p : Wd (Ex W9), p.v.cell? ⟨w1.heap.size + 1 + 1 + 1 + 1 + 1 + 1, 84, none⟩ = some (.int .i64 0) := Ex.cell x4
    replace x5 : ∀ p : Wd (Ex W9), p.v.cell? ⟨w1.heap.size + 1 + 1 + 1 + 1 + 1 + 1, 85, none⟩ = some (.int .i64 0) := Ex.cell x5
    replace x6 : ∀ p : Wd (Ex W9), p.v.cell? ⟨w1.heap.size + 1 + 1 + 1 + 1 + 1 + 1, 86, none⟩ = some (.string ⟨#[]⟩) := Ex.cell x6
    replace x7 : ∀ p : Wd (Ex W9), p.v.cell? ⟨w1.heap.size + 1 + 1 + 1 + 1 + 1 + 1, 87, none⟩ = some (.slice as1 2 cs1) := Ex.cell x7
    have y : ∀ p : Wd (Ex W9), p.v.cell? ⟨w1.heap.size + 1 + 1 + 1 + 1 + 1 + 1 + 1, 10, none⟩ = some (.int .i64 102) := Ex.cell (HF.out.2.2.2.1 10 (by decide))
    have HCk : Hid (∀ W, Below W9.heap.size W9 W → Calls Tryd.prog 6 #[.agg #[.int .i64 6, .int .i64 0, .int .i64 0, .int .i64 0, .int .i64 0, .int .i64 0, .string ⟨#[]⟩, .slice as1 2 cs1], .slice (some ⟨w1.heap.size, 0, none⟩) 3 3] W fun e w' => e = .returned (errV (ad 1)) ∧ Below W.heap.size W w') := fun W hW => by
      have := predCheck ad [1, 2, 3] m (fun _ => True) ⟨6, 0, 0, 0, (0, 0, ⟨#[]⟩), [gdP, gdP]⟩ (.slice as1 2 cs1) _ W (hq.on hW) (CV.out W hW) (EV.out W hW)
      rw [chk_10] at this
      exact this
    have HIs : Hid (∀ W, Below W9.heap.size W9 W → Calls Tryd.prog 7 #[errV (ad 1), .int .i64 102] W fun e w' => e = .returned (.bool true) ∧ Below W.heap.size W w') := fun W hW => seeIs ad (some 1) 102 W (EV.out W hW)
    clear hm hq hbs HF CV EV
    generalize errV (ad 1) = er at *
    go_wp2_with fail
    refine wp_region_ord_at (Ex W9) (regOf Tryd.f3.body 10) ((0, true) :: (1, true) :: (2, true) :: (3, true) :: (4, false) :: (5, true) :: (6, true) :: (7, true) :: (8, true) :: (9, true) :: (10, true) :: (11, true) :: (12, true) :: (14, true) :: (15, true) :: (16, true) :: (17, true) :: (13, false) :: (18, false) :: (19, true) :: (20, true) :: []) (by kernel_rfl) (by kernel_rfl) chk_ord B0.out ?_
    generalize W9.drew = v0 at *
    repeat (refine ord_quiet rfl ?_; go_big_quiet_step (fail); refine wpQuiet_nil ?_)
    refine ord_call rfl (by rfl) 6 rfl (enters_of Tryd.func6 (by kernel_rfl) rfl) [.agg #[.int .i64 1, .int .i64 0, .int .i64 1, .int .i64 0, .int .i64 1, .int .i64 5, .string ⟨#[]⟩, .slice none 0 0], .slice (some ⟨w1.heap.size, 0, none⟩) 3 3] (by rfl) _ (HCG.out v0 B0.out) ?_
    rintro e v1 ⟨rfl, hb0⟩
    have B1 : Hid (Below W9.heap.size W9 v1) := B0.out.trans (hb0.mono B0.out.size)
    clear hb0
    refine ⟨_, rfl, Ex.of B1.out, ?_⟩
    simp only [Act.put, List.setIfInBounds_toArray, List.set_cons_zero, List.set_cons_succ]
    repeat (refine ord_quiet rfl ?_; go_big_quiet_step (fail); refine wpQuiet_nil ?_)
    refine ord_call rfl (by rfl) 6 rfl (enters_of Tryd.func6 (by kernel_rfl) rfl) [.agg #[.int .i64 6, .int .i64 0, .int .i64 0, .int .i64 0, .int .i64 0, .int .i64 0, .string ⟨#[]⟩, .slice as1 2 cs1], .slice (some ⟨w1.heap.size, 0, none⟩) 3 3] (by rfl) _ (HCk.out v1 B1.out) ?_
    rintro e v2 ⟨rfl, hb1⟩
    have B2 : Hid (Below W9.heap.size W9 v2) := B1.out.trans (hb1.mono B1.out.size)
    clear hb1
    refine ⟨_, rfl, Ex.of B2.out, ?_⟩
    simp only [Act.put, List.setIfInBounds_toArray, List.set_cons_zero, List.set_cons_succ]
    repeat (refine ord_quiet rfl ?_; go_big_quiet_step (fail); refine wpQuiet_nil ?_)
    refine ord_call rfl (by rfl) 7 rfl (enters_of Tryd.func7 (by kernel_rfl) rfl) [er, .int .i64 102] (by rfl) _ (HIs.out v2 B2.out) ?_
    rintro e v3 ⟨rfl, hb2⟩
    have B3 : Hid (Below W9.heap.size W9 v3) := B2.out.trans (hb2.mono B2.out.size)
    clear hb2
    refine ⟨_, rfl, Ex.of B3.out, ?_⟩
    simp only [Act.put, List.setIfInBounds_toArray, List.set_cons_zero, List.set_cons_succ]
    repeat (refine ord_quiet rfl ?_; go_big_quiet_step (fail); refine wpQuiet_nil ?_)
    refine ord_end ?_
    go_wp2_with fail
    go_ret
    exact ⟨rfl, HB9.out.trans (B3.out.mono HB9.out.size)⟩
  · obtain ⟨m, b, o', s', hm, hab, ⟨x0, x1, x2, x3, x4, x5, x6, x7⟩, hq, hbs⟩ := PdL.at (F := fun _ => True) HF.out.2.2.1 11 (by decide)
    simp only [Option.some.injEq, Addr.mk.injEq, and_true] at hab
    obtain ⟨rfl, rfl⟩ := hab
    obtain ⟨as1, cs1, hs1⟩ := hq.form
    subst hs1
    replace x0 : ∀ p : Wd (Ex W9), p.v.cell? ⟨w1.heap.size + 1 + 1 + 1 + 1 + 1 + 1, 88, none⟩ = some (.int .i64 9) := Ex.cell x0
    replace x1 : ∀ p : Wd (Ex W9), p.v.cell? ⟨w1.heap.size + 1 + 1 + 1 + 1 + 1 + 1, 89, none⟩ = some (.int .i64 0) := Ex.cell x1
    replace x2 : ∀ p : Wd (Ex W9), p.v.cell? ⟨w1.heap.size + 1 + 1 + 1 + 1 + 1 + 1, 90, none⟩ = some (.int .i64 0) := Ex.cell x2
    replace x3 : ∀ p : Wd (Ex W9), p.v.cell? ⟨w1.heap.size + 1 + 1 + 1 + 1 + 1 + 1, 91, none⟩ = some (.int .i64 0) := Ex.cell x3
    replace x4 : ∀ p : Wd (Ex W9), p.v.cell? ⟨w1.heap.size + 1 + 1 + 1 + 1 + 1 + 1, 92, none⟩ = some (.int .i64 0) := Ex.cell x4
    replace x5 : ∀ p : Wd (Ex W9), p.v.cell? ⟨w1.heap.size + 1 + 1 + 1 + 1 + 1 + 1, 93, none⟩ = some (.int .i64 0) := Ex.cell x5
    replace x6 : ∀ p : Wd (Ex W9), p.v.cell? ⟨w1.heap.size + 1 + 1 + 1 + 1 + 1 + 1, 94, none⟩ = some (.string ⟨#[]⟩) := Ex.cell x6
    replace x7 : ∀ p : Wd (Ex W9), p.v.cell? ⟨w1.heap.size + 1 + 1 + 1 + 1 + 1 + 1, 95, none⟩ = some (.slice as1 0 cs1) := Ex.cell x7
    have y : ∀ p : Wd (Ex W9), p.v.cell? ⟨w1.heap.size + 1 + 1 + 1 + 1 + 1 + 1 + 1, 11, none⟩ = some (.int .i64 102) := Ex.cell (HF.out.2.2.2.1 11 (by decide))
    have HCk : Hid (∀ W, Below W9.heap.size W9 W → Calls Tryd.prog 6 #[.agg #[.int .i64 9, .int .i64 0, .int .i64 0, .int .i64 0, .int .i64 0, .int .i64 0, .string ⟨#[]⟩, .slice as1 0 cs1], .slice (some ⟨w1.heap.size, 0, none⟩) 3 3] W fun e w' => e = .returned (errV (ad 1)) ∧ Below W.heap.size W w') := fun W hW => by
      have := predCheck ad [1, 2, 3] m (fun _ => True) ⟨9, 0, 0, 0, (0, 0, ⟨#[]⟩), []⟩ (.slice as1 0 cs1) _ W (hq.on hW) (CV.out W hW) (EV.out W hW)
      rw [chk_11] at this
      exact this
    have HIs : Hid (∀ W, Below W9.heap.size W9 W → Calls Tryd.prog 7 #[errV (ad 1), .int .i64 102] W fun e w' => e = .returned (.bool true) ∧ Below W.heap.size W w') := fun W hW => seeIs ad (some 1) 102 W (EV.out W hW)
    clear hm hq hbs HF CV EV
    generalize errV (ad 1) = er at *
    go_wp2_with fail
    refine wp_region_ord_at (Ex W9) (regOf Tryd.f3.body 10) ((0, true) :: (1, true) :: (2, true) :: (3, true) :: (4, false) :: (5, true) :: (6, true) :: (7, true) :: (8, true) :: (9, true) :: (10, true) :: (11, true) :: (12, true) :: (14, true) :: (15, true) :: (16, true) :: (17, true) :: (13, false) :: (18, false) :: (19, true) :: (20, true) :: []) (by kernel_rfl) (by kernel_rfl) chk_ord B0.out ?_
    generalize W9.drew = v0 at *
    repeat (refine ord_quiet rfl ?_; go_big_quiet_step (fail); refine wpQuiet_nil ?_)
    refine ord_call rfl (by rfl) 6 rfl (enters_of Tryd.func6 (by kernel_rfl) rfl) [.agg #[.int .i64 1, .int .i64 0, .int .i64 1, .int .i64 0, .int .i64 1, .int .i64 5, .string ⟨#[]⟩, .slice none 0 0], .slice (some ⟨w1.heap.size, 0, none⟩) 3 3] (by rfl) _ (HCG.out v0 B0.out) ?_
    rintro e v1 ⟨rfl, hb0⟩
    have B1 : Hid (Below W9.heap.size W9 v1) := B0.out.trans (hb0.mono B0.out.size)
    clear hb0
    refine ⟨_, rfl, Ex.of B1.out, ?_⟩
    simp only [Act.put, List.setIfInBounds_toArray, List.set_cons_zero, List.set_cons_succ]
    repeat (refine ord_quiet rfl ?_; go_big_quiet_step (fail); refine wpQuiet_nil ?_)
    refine ord_call rfl (by rfl) 6 rfl (enters_of Tryd.func6 (by kernel_rfl) rfl) [.agg #[.int .i64 9, .int .i64 0, .int .i64 0, .int .i64 0, .int .i64 0, .int .i64 0, .string ⟨#[]⟩, .slice as1 0 cs1], .slice (some ⟨w1.heap.size, 0, none⟩) 3 3] (by rfl) _ (HCk.out v1 B1.out) ?_
    rintro e v2 ⟨rfl, hb1⟩
    have B2 : Hid (Below W9.heap.size W9 v2) := B1.out.trans (hb1.mono B1.out.size)
    clear hb1
    refine ⟨_, rfl, Ex.of B2.out, ?_⟩
    simp only [Act.put, List.setIfInBounds_toArray, List.set_cons_zero, List.set_cons_succ]
    repeat (refine ord_quiet rfl ?_; go_big_quiet_step (fail); refine wpQuiet_nil ?_)
    refine ord_call rfl (by rfl) 7 rfl (enters_of Tryd.func7 (by kernel_rfl) rfl) [er, .int .i64 102] (by rfl) _ (HIs.out v2 B2.out) ?_
    rintro e v3 ⟨rfl, hb2⟩
    have B3 : Hid (Below W9.heap.size W9 v3) := B2.out.trans (hb2.mono B2.out.size)
    clear hb2
    refine ⟨_, rfl, Ex.of B3.out, ?_⟩
    simp only [Act.put, List.setIfInBounds_toArray, List.set_cons_zero, List.set_cons_succ]
    repeat (refine ord_quiet rfl ?_; go_big_quiet_step (fail); refine wpQuiet_nil ?_)
    refine ord_end ?_
    go_wp2_with fail
    go_ret
    exact ⟨rfl, HB9.out.trans (B3.out.mono HB9.out.size)⟩
  · obtain ⟨m, b, o', s', hm, hab, ⟨x0, x1, x2, x3, x4, x5, x6, x7⟩, hq, hbs⟩ := PdL.at (F := fun _ => True) HF.out.2.2.1 12 (by decide)
    simp only [Option.some.injEq, Addr.mk.injEq, and_true] at hab
    obtain ⟨rfl, rfl⟩ := hab
    obtain ⟨as1, cs1, hs1⟩ := hq.form
    subst hs1
    replace x0 : ∀ p : Wd (Ex W9), p.v.cell? ⟨w1.heap.size + 1 + 1 + 1 + 1 + 1 + 1, 96, none⟩ = some (.int .i64 4) := Ex.cell x0
    replace x1 : ∀ p : Wd (Ex W9), p.v.cell? ⟨w1.heap.size + 1 + 1 + 1 + 1 + 1 + 1, 97, none⟩ = some (.int .i64 0) := Ex.cell x1
    replace x2 : ∀ p : Wd (Ex W9), p.v.cell? ⟨w1.heap.size + 1 + 1 + 1 + 1 + 1 + 1, 98, none⟩ = some (.int .i64 0) := Ex.cell x2
    replace x3 : ∀ p : Wd (Ex W9), p.v.cell? ⟨w1.heap.size + 1 + 1 + 1 + 1 + 1 + 1, 99, none⟩ = some (.int .i64 0) := Ex.cell x3
    replace x4 : ∀ p : Wd (Ex W9), p.v.cell? ⟨w1.heap.size + 1 + 1 + 1 + 1 + 1 + 1, 100, none⟩ = some (.int .i64 0) := Ex.cell x4
    replace x5 : ∀ p : Wd (Ex W9), p.v.cell? ⟨w1.heap.size + 1 + 1 + 1 + 1 + 1 + 1, 101, none⟩ = some (.int .i64 0) := Ex.cell x5
    replace x6 : ∀ p : Wd (Ex W9), p.v.cell? ⟨w1.heap.size + 1 + 1 + 1 + 1 + 1 + 1, 102, none⟩ = some (.string ⟨#[]⟩) := Ex.cell x6
    replace x7 : ∀ p : Wd (Ex W9), p.v.cell? ⟨w1.heap.size + 1 + 1 + 1 + 1 + 1 + 1, 103, none⟩ = some (.slice as1 2 cs1) := Ex.cell x7
    have y : ∀ p : Wd (Ex W9), p.v.cell? ⟨w1.heap.size + 1 + 1 + 1 + 1 + 1 + 1 + 1, 12, none⟩ = some (.int .i64 106) := Ex.cell (HF.out.2.2.2.1 12 (by decide))
    have HCk : Hid (∀ W, Below W9.heap.size W9 W → Calls Tryd.prog 6 #[.agg #[.int .i64 4, .int .i64 0, .int .i64 0, .int .i64 0, .int .i64 0, .int .i64 0, .string ⟨#[]⟩, .slice as1 2 cs1], .slice (some ⟨w1.heap.size, 0, none⟩) 3 3] W fun e w' => e = .returned (errV (ad 5)) ∧ Below W.heap.size W w') := fun W hW => by
      have := predCheck ad [1, 2, 3] m (fun _ => True) ⟨4, 0, 0, 0, (0, 0, ⟨#[]⟩), [gdP, n5P]⟩ (.slice as1 2 cs1) _ W (hq.on hW) (CV.out W hW) (EV.out W hW)
      rw [chk_12] at this
      exact this
    have HIs : Hid (∀ W, Below W9.heap.size W9 W → Calls Tryd.prog 7 #[errV (ad 5), .int .i64 106] W fun e w' => e = .returned (.bool true) ∧ Below W.heap.size W w') := fun W hW => seeIs ad (some 5) 106 W (EV.out W hW)
    clear hm hq hbs HF CV EV
    generalize errV (ad 5) = er at *
    go_wp2_with fail
    refine wp_region_ord_at (Ex W9) (regOf Tryd.f3.body 10) ((0, true) :: (1, true) :: (2, true) :: (3, true) :: (4, false) :: (5, true) :: (6, true) :: (7, true) :: (8, true) :: (9, true) :: (10, true) :: (11, true) :: (12, true) :: (14, true) :: (15, true) :: (16, true) :: (17, true) :: (13, false) :: (18, false) :: (19, true) :: (20, true) :: []) (by kernel_rfl) (by kernel_rfl) chk_ord B0.out ?_
    generalize W9.drew = v0 at *
    repeat (refine ord_quiet rfl ?_; go_big_quiet_step (fail); refine wpQuiet_nil ?_)
    refine ord_call rfl (by rfl) 6 rfl (enters_of Tryd.func6 (by kernel_rfl) rfl) [.agg #[.int .i64 1, .int .i64 0, .int .i64 1, .int .i64 0, .int .i64 1, .int .i64 5, .string ⟨#[]⟩, .slice none 0 0], .slice (some ⟨w1.heap.size, 0, none⟩) 3 3] (by rfl) _ (HCG.out v0 B0.out) ?_
    rintro e v1 ⟨rfl, hb0⟩
    have B1 : Hid (Below W9.heap.size W9 v1) := B0.out.trans (hb0.mono B0.out.size)
    clear hb0
    refine ⟨_, rfl, Ex.of B1.out, ?_⟩
    simp only [Act.put, List.setIfInBounds_toArray, List.set_cons_zero, List.set_cons_succ]
    repeat (refine ord_quiet rfl ?_; go_big_quiet_step (fail); refine wpQuiet_nil ?_)
    refine ord_call rfl (by rfl) 6 rfl (enters_of Tryd.func6 (by kernel_rfl) rfl) [.agg #[.int .i64 4, .int .i64 0, .int .i64 0, .int .i64 0, .int .i64 0, .int .i64 0, .string ⟨#[]⟩, .slice as1 2 cs1], .slice (some ⟨w1.heap.size, 0, none⟩) 3 3] (by rfl) _ (HCk.out v1 B1.out) ?_
    rintro e v2 ⟨rfl, hb1⟩
    have B2 : Hid (Below W9.heap.size W9 v2) := B1.out.trans (hb1.mono B1.out.size)
    clear hb1
    refine ⟨_, rfl, Ex.of B2.out, ?_⟩
    simp only [Act.put, List.setIfInBounds_toArray, List.set_cons_zero, List.set_cons_succ]
    repeat (refine ord_quiet rfl ?_; go_big_quiet_step (fail); refine wpQuiet_nil ?_)
    refine ord_call rfl (by rfl) 7 rfl (enters_of Tryd.func7 (by kernel_rfl) rfl) [er, .int .i64 106] (by rfl) _ (HIs.out v2 B2.out) ?_
    rintro e v3 ⟨rfl, hb2⟩
    have B3 : Hid (Below W9.heap.size W9 v3) := B2.out.trans (hb2.mono B2.out.size)
    clear hb2
    refine ⟨_, rfl, Ex.of B3.out, ?_⟩
    simp only [Act.put, List.setIfInBounds_toArray, List.set_cons_zero, List.set_cons_succ]
    repeat (refine ord_quiet rfl ?_; go_big_quiet_step (fail); refine wpQuiet_nil ?_)
    refine ord_end ?_
    go_wp2_with fail
    go_ret
    exact ⟨rfl, HB9.out.trans (B3.out.mono HB9.out.size)⟩
  · obtain ⟨m, b, o', s', hm, hab, ⟨x0, x1, x2, x3, x4, x5, x6, x7⟩, hq, hbs⟩ := PdL.at (F := fun _ => True) HF.out.2.2.1 13 (by decide)
    simp only [Option.some.injEq, Addr.mk.injEq, and_true] at hab
    obtain ⟨rfl, rfl⟩ := hab
    obtain ⟨as1, cs1, hs1⟩ := hq.form
    subst hs1
    replace x0 : ∀ p : Wd (Ex W9), p.v.cell? ⟨w1.heap.size + 1 + 1 + 1 + 1 + 1 + 1, 104, none⟩ = some (.int .i64 1) := Ex.cell x0
    replace x1 : ∀ p : Wd (Ex W9), p.v.cell? ⟨w1.heap.size + 1 + 1 + 1 + 1 + 1 + 1, 105, none⟩ = some (.int .i64 2) := Ex.cell x1
    replace x2 : ∀ p : Wd (Ex W9), p.v.cell? ⟨w1.heap.size + 1 + 1 + 1 + 1 + 1 + 1, 106, none⟩ = some (.int .i64 1) := Ex.cell x2
    replace x3 : ∀ p : Wd (Ex W9), p.v.cell? ⟨w1.heap.size + 1 + 1 + 1 + 1 + 1 + 1, 107, none⟩ = some (.int .i64 0) := Ex.cell x3
    replace x4 : ∀ p : Wd (Ex W9), p.v.cell? ⟨w1.heap.size + 1 + 1 + 1 + 1 + 1 + 1, 108, none⟩ = some (.int .i64 3) := Ex.cell x4
    replace x5 : ∀ p : Wd (Ex W9), p.v.cell? ⟨w1.heap.size + 1 + 1 + 1 + 1 + 1 + 1, 109, none⟩ = some (.int .i64 2) := Ex.cell x5
    replace x6 : ∀ p : Wd (Ex W9), p.v.cell? ⟨w1.heap.size + 1 + 1 + 1 + 1 + 1 + 1, 110, none⟩ = some (.string ⟨#[]⟩) := Ex.cell x6
    replace x7 : ∀ p : Wd (Ex W9), p.v.cell? ⟨w1.heap.size + 1 + 1 + 1 + 1 + 1 + 1, 111, none⟩ = some (.slice as1 0 cs1) := Ex.cell x7
    have y : ∀ p : Wd (Ex W9), p.v.cell? ⟨w1.heap.size + 1 + 1 + 1 + 1 + 1 + 1 + 1, 13, none⟩ = some (.int .i64 102) := Ex.cell (HF.out.2.2.2.1 13 (by decide))
    have HCk : Hid (∀ W, Below W9.heap.size W9 W → Calls Tryd.prog 6 #[.agg #[.int .i64 1, .int .i64 2, .int .i64 1, .int .i64 0, .int .i64 3, .int .i64 2, .string ⟨#[]⟩, .slice as1 0 cs1], .slice (some ⟨w1.heap.size, 0, none⟩) 3 3] W fun e w' => e = .returned (errV (ad 1)) ∧ Below W.heap.size W w') := fun W hW => by
      have := predCheck ad [1, 2, 3] m (fun _ => True) ⟨1, 2, 1, 0, (3, 2, ⟨#[]⟩), []⟩ (.slice as1 0 cs1) _ W (hq.on hW) (CV.out W hW) (EV.out W hW)
      rw [chk_13] at this
      exact this
    have HIs : Hid (∀ W, Below W9.heap.size W9 W → Calls Tryd.prog 7 #[errV (ad 1), .int .i64 102] W fun e w' => e = .returned (.bool true) ∧ Below W.heap.size W w') := fun W hW => seeIs ad (some 1) 102 W (EV.out W hW)
    clear hm hq hbs HF CV EV
    generalize errV (ad 1) = er at *
    go_wp2_with fail
    refine wp_region_ord_at (Ex W9) (regOf Tryd.f3.body 10) ((0, true) :: (1, true) :: (2, true) :: (3, true) :: (4, false) :: (5, true) :: (6, true) :: (7, true) :: (8, true) :: (9, true) :: (10, true) :: (11, true) :: (12, true) :: (14, true) :: (15, true) :: (16, true) :: (17, true) :: (13, false) :: (18, false) :: (19, true) :: (20, true) :: []) (by kernel_rfl) (by kernel_rfl) chk_ord B0.out ?_
    generalize W9.drew = v0 at *
    repeat (refine ord_quiet rfl ?_; go_big_quiet_step (fail); refine wpQuiet_nil ?_)
    refine ord_call rfl (by rfl) 6 rfl (enters_of Tryd.func6 (by kernel_rfl) rfl) [.agg #[.int .i64 1, .int .i64 0, .int .i64 1, .int .i64 0, .int .i64 1, .int .i64 5, .string ⟨#[]⟩, .slice none 0 0], .slice (some ⟨w1.heap.size, 0, none⟩) 3 3] (by rfl) _ (HCG.out v0 B0.out) ?_
    rintro e v1 ⟨rfl, hb0⟩
    have B1 : Hid (Below W9.heap.size W9 v1) := B0.out.trans (hb0.mono B0.out.size)
    clear hb0
    refine ⟨_, rfl, Ex.of B1.out, ?_⟩
    simp only [Act.put, List.setIfInBounds_toArray, List.set_cons_zero, List.set_cons_succ]
    repeat (refine ord_quiet rfl ?_; go_big_quiet_step (fail); refine wpQuiet_nil ?_)
    refine ord_call rfl (by rfl) 6 rfl (enters_of Tryd.func6 (by kernel_rfl) rfl) [.agg #[.int .i64 1, .int .i64 2, .int .i64 1, .int .i64 0, .int .i64 3, .int .i64 2, .string ⟨#[]⟩, .slice as1 0 cs1], .slice (some ⟨w1.heap.size, 0, none⟩) 3 3] (by rfl) _ (HCk.out v1 B1.out) ?_
    rintro e v2 ⟨rfl, hb1⟩
    have B2 : Hid (Below W9.heap.size W9 v2) := B1.out.trans (hb1.mono B1.out.size)
    clear hb1
    refine ⟨_, rfl, Ex.of B2.out, ?_⟩
    simp only [Act.put, List.setIfInBounds_toArray, List.set_cons_zero, List.set_cons_succ]
    repeat (refine ord_quiet rfl ?_; go_big_quiet_step (fail); refine wpQuiet_nil ?_)
    refine ord_call rfl (by rfl) 7 rfl (enters_of Tryd.func7 (by kernel_rfl) rfl) [er, .int .i64 102] (by rfl) _ (HIs.out v2 B2.out) ?_
    rintro e v3 ⟨rfl, hb2⟩
    have B3 : Hid (Below W9.heap.size W9 v3) := B2.out.trans (hb2.mono B2.out.size)
    clear hb2
    refine ⟨_, rfl, Ex.of B3.out, ?_⟩
    simp only [Act.put, List.setIfInBounds_toArray, List.set_cons_zero, List.set_cons_succ]
    repeat (refine ord_quiet rfl ?_; go_big_quiet_step (fail); refine wpQuiet_nil ?_)
    refine ord_end ?_
    go_wp2_with fail
    go_ret
    exact ⟨rfl, HB9.out.trans (B3.out.mono HB9.out.size)⟩
theorem predChecks_walk (z : Int) (_ : (Lit.int .i64 z).wf = true) (w : World) (he : ∃ ad, ErrsAt ad w) :
    Calls Tryd.prog 3 #[.int .i64 z] w fun e w' => e = .returned (.bool true) ∧ Below w.heap.size w w' := by
  obtain ⟨ad, he⟩ := he
  exact predChecks_main ad z w he
end Go.Proofs.YtiphnbpkliglcaaDoor
