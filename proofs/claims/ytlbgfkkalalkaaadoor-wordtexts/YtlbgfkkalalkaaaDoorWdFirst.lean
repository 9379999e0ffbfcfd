/- The word that a text begins with. -/
import Derived.Test.YtlbgfkkalalkaaaDoorWdNum
namespace Go.Proofs.YtlbgfkkalalkaaaDoor
open Go.RowKit Go.Sort
set_option maxRecDepth 100000

theorem wdA_eq (x : Option Wd) : ∃ k n z : Int, ∃ t : ByteArray, wdA x = .returned (.tuple #[.agg #[.int .i64 k, .int .i64 0, .string t, .int .i64 n], .int .i64 z]) := ⟨_, _, _, _, rfl⟩
set_option maxHeartbeats 4000000 in
theorem wFirst (s : ByteArray) (hp : 0 < s.size) (hs : s.size ≤ 65536) (w : World) (hw : WdW w) :
    Calls Tryd.prog 14 #[.string s] w fun e w' => e = wdA (fstW s.data.toList) ∧ Below w.heap.size w w' := by
  have I2 : (0 : Int) < (s.size : Int) := by omega
  have I3 : (1 : Int) ≤ (s.size : Int) := by omega
  have eg : ∀ args w, (callFunc 18 args).run Tryd.prog w = .ok (.enter 18 args) w := fun _ _ => by kernel_rfl
  have ed : (s.extract 1 s.size).data.toList = s.data.toList.drop 1 := by rw [ext_drop]
  have HW : Hid (∀ o, WdW (w.alloc o)) := fun o => hw.on one_box
  have q1 : Hid (∀ w, Calls Tryd.prog 12 #[.string (s.extract 1 s.size), .func (.func 18) #[] #[]] w fun e w' => e = .returned (.int .i64 (rn wDig (s.data.toList.drop 1))) ∧ w' = w) := by
    rw [← ed]
    exact fun w => wRun 18 wDig _ (by simp [ByteArray.size_extract]; omega) w eg wDigit
  have q2 : Hid (∀ w, Calls Tryd.prog 17 #[.int .u8 (s[0].toNat : Int)] w fun e w' => e = .returned (.bool (wLow (s.data.toList.headD 0))) ∧ w' = w) := by
    rw [← head_at s hp]; exact wLetter s[0]
  have q3 : Hid (∀ w, Calls Tryd.prog 18 #[.int .u8 (s[0].toNat : Int)] w fun e w' => e = .returned (.bool (wDig (s.data.toList.headD 0))) ∧ w' = w) := by
    rw [← head_at s hp]; exact wDigit s[0]
  have e45 : ((s[0].toNat : Int) == 45) = (s.data.toList.headD 0 == 45) := by rw [← head_at s hp]; exact u8_eq s[0] 45
  have e39 : ((s[0].toNat : Int) == 39) = (s.data.toList.headD 0 == 39) := by rw [← head_at s hp]; exact u8_eq s[0] 39
  have HD : Hid (fstW s.data.toList = fstW s.data.toList) := rfl
  unfold fstW
  clear eg ed hw HD
  have F1 : Hid (∀ w, Calls Tryd.prog 15 #[.string s] w fun e w' => e = wdA (fstName s.data.toList) ∧ Below w.heap.size w w') := wFirstName s hs
  have F2 : Hid ((wDig (s.data.toList.headD 0) = true ∨ ((s.data.toList.headD 0 == 45) = true ∧ 0 < rn wDig (s.data.toList.drop 1))) → ∀ w, WdW w → Calls Tryd.prog 19 #[.string s] w fun e w' => e = wdA (fstNum s.data.toList) ∧ Below w.heap.size w w') := fun h => wFirstNumber s hp hs (by
    rcases h with h | ⟨h, h0⟩
    · exact .inl h
    · exact .inr ⟨beq_iff_eq.1 h, h0⟩)
  have F3 : Hid (∀ w, WdW w → Calls Tryd.prog 20 #[.string s] w fun e w' => e = wdA (fstStr s.data.toList) ∧ Below w.heap.size w w') := fun w h => wFirstString s hp hs w h.1
  have F4 : Hid (∀ w, Calls Tryd.prog 21 #[.string s] w fun e w' => e = wdA (fstMark s.data.toList) ∧ Below w.heap.size w w') := wFirstMark s hp hs
  generalize rn wDig (s.data.toList.drop 1) = r at *
  generalize wLow (s.data.toList.headD 0) = b1 at *
  generalize wDig (s.data.toList.headD 0) = b2 at *
  generalize (s.data.toList.headD 0 == 45) = b3 at *
  generalize hb4 : (s.data.toList.headD 0 == 39) = b4 at *
  cases b1
  rotate_left
  · rw [if_pos rfl]
    obtain ⟨k, n, z, t, hx⟩ := wdA_eq (fstName s.data.toList)
    rw [hx] at F1 ⊢
    clear hx F2 F3 F4
    go_enter Tryd.func14, Tryd.ntmps14
    go_wp2_with (first | (go_at_call 17; refine (q2.out _).mono ?_; rintro e w' ⟨rfl, rfl⟩) | (go_at_call 18; refine (q3.out _).mono ?_; rintro e w' ⟨rfl, rfl⟩) | (go_at_call 12; refine (q1.out _).mono ?_; rintro e w' ⟨rfl, rfl⟩) | (go_at_call 15; refine (F1.out _).mono ?_; rintro e w1 ⟨rfl, hb0⟩; have hb1 : Below (w.heap.size + 1) (w.alloc (.cells #[.int .i64 0, .int .i64 0, .string ⟨#[]⟩, .int .i64 0] 40)) w1 := by { simpa using hb0 }; clear hb0; obtain ⟨c0, c1, c2, c3, f0, f1, f2, f3⟩ := wbox hb1; have B : Hid (∀ x0 x1 x2 x3, Below w.heap.size w ((((w1.setCell ⟨w.heap.size, 0, none⟩ x0).setCell ⟨w.heap.size, 1, none⟩ x1).setCell ⟨w.heap.size, 2, none⟩ x2).setCell ⟨w.heap.size, 3, none⟩ x3)) := wbox_put hb1; clear hb1))
    exact bodyPost_ret (v := .tuple #[.agg #[.int .i64 k, .int .i64 0, .string t, .int .i64 n], .int .i64 z]) (by simp [results, Tryd.results14, go_sem, c0, c1, c2, c3]) rfl ⟨rfl, B.out _ _ _ _⟩
  rw [if_neg (by decide)]
  cases b2
  rotate_left
  · rw [Bool.true_or, if_pos rfl]
    have G2 : Hid (∀ w, WdW w → Calls Tryd.prog 19 #[.string s] w fun e w' => e = wdA (fstNum s.data.toList) ∧ Below w.heap.size w w') := F2.out (.inl rfl)
    obtain ⟨k, n, z, t, hx⟩ := wdA_eq (fstNum s.data.toList)
    rw [hx] at G2 ⊢
    clear hx F1 F3 F4 F2
    go_enter Tryd.func14, Tryd.ntmps14
    go_wp2_with (first | (go_at_call 17; refine (q2.out _).mono ?_; rintro e w' ⟨rfl, rfl⟩) | (go_at_call 18; refine (q3.out _).mono ?_; rintro e w' ⟨rfl, rfl⟩) | (go_at_call 12; refine (q1.out _).mono ?_; rintro e w' ⟨rfl, rfl⟩) | (go_at_call 19; refine (G2.out _ (HW.out _)).mono ?_; rintro e w1 ⟨rfl, hb0⟩; have hb1 : Below (w.heap.size + 1) (w.alloc (.cells #[.int .i64 0, .int .i64 0, .string ⟨#[]⟩, .int .i64 0] 40)) w1 := by { simpa using hb0 }; clear hb0; obtain ⟨c0, c1, c2, c3, f0, f1, f2, f3⟩ := wbox hb1; have B : Hid (∀ x0 x1 x2 x3, Below w.heap.size w ((((w1.setCell ⟨w.heap.size, 0, none⟩ x0).setCell ⟨w.heap.size, 1, none⟩ x1).setCell ⟨w.heap.size, 2, none⟩ x2).setCell ⟨w.heap.size, 3, none⟩ x3)) := wbox_put hb1; clear hb1))
    exact bodyPost_ret (v := .tuple #[.agg #[.int .i64 k, .int .i64 0, .string t, .int .i64 n], .int .i64 z]) (by simp [results, Tryd.results14, go_sem, c0, c1, c2, c3]) rfl ⟨rfl, B.out _ _ _ _⟩
  cases b3
  rotate_left
  · by_cases h0 : 0 < r
    · rw [if_pos (by simpa using h0)]
      have I4 : (0 : Int) < (r : Int) := by omega
      have G2 : Hid (∀ w, WdW w → Calls Tryd.prog 19 #[.string s] w fun e w' => e = wdA (fstNum s.data.toList) ∧ Below w.heap.size w w') := F2.out (.inr ⟨rfl, h0⟩)
      obtain ⟨k, n, z, t, hx⟩ := wdA_eq (fstNum s.data.toList)
      rw [hx] at G2 ⊢
      clear hx F1 F3 F4 F2
      go_enter Tryd.func14, Tryd.ntmps14
      go_wp2_with (first | (go_at_call 17; refine (q2.out _).mono ?_; rintro e w' ⟨rfl, rfl⟩) | (go_at_call 18; refine (q3.out _).mono ?_; rintro e w' ⟨rfl, rfl⟩) | (go_at_call 12; refine (q1.out _).mono ?_; rintro e w' ⟨rfl, rfl⟩) | (go_at_call 19; refine (G2.out _ (HW.out _)).mono ?_; rintro e w1 ⟨rfl, hb0⟩; have hb1 : Below (w.heap.size + 1) (w.alloc (.cells #[.int .i64 0, .int .i64 0, .string ⟨#[]⟩, .int .i64 0] 40)) w1 := by { simpa using hb0 }; clear hb0; obtain ⟨c0, c1, c2, c3, f0, f1, f2, f3⟩ := wbox hb1; have B : Hid (∀ x0 x1 x2 x3, Below w.heap.size w ((((w1.setCell ⟨w.heap.size, 0, none⟩ x0).setCell ⟨w.heap.size, 1, none⟩ x1).setCell ⟨w.heap.size, 2, none⟩ x2).setCell ⟨w.heap.size, 3, none⟩ x3)) := wbox_put hb1; clear hb1))
      exact bodyPost_ret (v := .tuple #[.agg #[.int .i64 k, .int .i64 0, .string t, .int .i64 n], .int .i64 z]) (by simp [results, Tryd.results14, go_sem, c0, c1, c2, c3]) rfl ⟨rfl, B.out _ _ _ _⟩
    · rw [if_neg (by simpa using h0)]
      have I4 : ¬ (0 : Int) < (r : Int) := by omega
      have h4 : b4 = false := by
        cases b4
        · rfl
        · have a1 := beq_iff_eq.1 e45; have a2 := beq_iff_eq.1 e39; omega
      subst h4
      rw [if_neg (by decide)]
      obtain ⟨k, n, z, t, hx⟩ := wdA_eq (fstMark s.data.toList)
      rw [hx] at F4 ⊢
      clear hx F1 F2 F3
      go_enter Tryd.func14, Tryd.ntmps14
      go_wp2_with (first | (go_at_call 17; refine (q2.out _).mono ?_; rintro e w' ⟨rfl, rfl⟩) | (go_at_call 18; refine (q3.out _).mono ?_; rintro e w' ⟨rfl, rfl⟩) | (go_at_call 12; refine (q1.out _).mono ?_; rintro e w' ⟨rfl, rfl⟩) | (go_at_call 21; refine (F4.out _).mono ?_; rintro e w1 ⟨rfl, hb0⟩; have hb1 : Below (w.heap.size + 1) (w.alloc (.cells #[.int .i64 0, .int .i64 0, .string ⟨#[]⟩, .int .i64 0] 40)) w1 := by { simpa using hb0 }; clear hb0; obtain ⟨c0, c1, c2, c3, f0, f1, f2, f3⟩ := wbox hb1; have B : Hid (∀ x0 x1 x2 x3, Below w.heap.size w ((((w1.setCell ⟨w.heap.size, 0, none⟩ x0).setCell ⟨w.heap.size, 1, none⟩ x1).setCell ⟨w.heap.size, 2, none⟩ x2).setCell ⟨w.heap.size, 3, none⟩ x3)) := wbox_put hb1; clear hb1))
      exact bodyPost_ret (v := .tuple #[.agg #[.int .i64 k, .int .i64 0, .string t, .int .i64 n], .int .i64 z]) (by simp [results, Tryd.results14, go_sem, c0, c1, c2, c3]) rfl ⟨rfl, B.out _ _ _ _⟩
  rw [Bool.false_or, Bool.false_and, if_neg (by decide)]
  cases b4
  rotate_left
  · rw [if_pos rfl]
    obtain ⟨k, n, z, t, hx⟩ := wdA_eq (fstStr s.data.toList)
    rw [hx] at F3 ⊢
    clear hx F1 F2 F4
    go_enter Tryd.func14, Tryd.ntmps14
    go_wp2_with (first | (go_at_call 17; refine (q2.out _).mono ?_; rintro e w' ⟨rfl, rfl⟩) | (go_at_call 18; refine (q3.out _).mono ?_; rintro e w' ⟨rfl, rfl⟩) | (go_at_call 12; refine (q1.out _).mono ?_; rintro e w' ⟨rfl, rfl⟩) | (go_at_call 20; refine (F3.out _ (HW.out _)).mono ?_; rintro e w1 ⟨rfl, hb0⟩; have hb1 : Below (w.heap.size + 1) (w.alloc (.cells #[.int .i64 0, .int .i64 0, .string ⟨#[]⟩, .int .i64 0] 40)) w1 := by { simpa using hb0 }; clear hb0; obtain ⟨c0, c1, c2, c3, f0, f1, f2, f3⟩ := wbox hb1; have B : Hid (∀ x0 x1 x2 x3, Below w.heap.size w ((((w1.setCell ⟨w.heap.size, 0, none⟩ x0).setCell ⟨w.heap.size, 1, none⟩ x1).setCell ⟨w.heap.size, 2, none⟩ x2).setCell ⟨w.heap.size, 3, none⟩ x3)) := wbox_put hb1; clear hb1))
    exact bodyPost_ret (v := .tuple #[.agg #[.int .i64 k, .int .i64 0, .string t, .int .i64 n], .int .i64 z]) (by simp [results, Tryd.results14, go_sem, c0, c1, c2, c3]) rfl ⟨rfl, B.out _ _ _ _⟩
  rw [if_neg (by decide)]
  obtain ⟨k, n, z, t, hx⟩ := wdA_eq (fstMark s.data.toList)
  rw [hx] at F4 ⊢
  clear hx F1 F2 F3
  go_enter Tryd.func14, Tryd.ntmps14
  go_wp2_with (first | (go_at_call 17; refine (q2.out _).mono ?_; rintro e w' ⟨rfl, rfl⟩) | (go_at_call 18; refine (q3.out _).mono ?_; rintro e w' ⟨rfl, rfl⟩) | (go_at_call 12; refine (q1.out _).mono ?_; rintro e w' ⟨rfl, rfl⟩) | (go_at_call 21; refine (F4.out _).mono ?_; rintro e w1 ⟨rfl, hb0⟩; have hb1 : Below (w.heap.size + 1) (w.alloc (.cells #[.int .i64 0, .int .i64 0, .string ⟨#[]⟩, .int .i64 0] 40)) w1 := by { simpa using hb0 }; clear hb0; obtain ⟨c0, c1, c2, c3, f0, f1, f2, f3⟩ := wbox hb1; have B : Hid (∀ x0 x1 x2 x3, Below w.heap.size w ((((w1.setCell ⟨w.heap.size, 0, none⟩ x0).setCell ⟨w.heap.size, 1, none⟩ x1).setCell ⟨w.heap.size, 2, none⟩ x2).setCell ⟨w.heap.size, 3, none⟩ x3)) := wbox_put hb1; clear hb1))
  exact bodyPost_ret (v := .tuple #[.agg #[.int .i64 k, .int .i64 0, .string t, .int .i64 n], .int .i64 z]) (by simp [results, Tryd.results14, go_sem, c0, c1, c2, c3]) rfl ⟨rfl, B.out _ _ _ _⟩
end Go.Proofs.YtlbgfkkalalkaaaDoor
