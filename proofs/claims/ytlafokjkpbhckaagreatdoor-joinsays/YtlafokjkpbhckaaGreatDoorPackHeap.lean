/- Texts of one claim, one behind the other. -/
import Derived.Test.YtlafokjkpbhckaaGreatDoorJhCalls
import Derived.Test.YtlafokjkpbhckaaGreatDoorPackStep
import Derived.Test.YtlafokjkpbhckaaGreatDoorZDrop
/- What container/heap's up answers of join's lines. -/
namespace Go.Proofs.YtlafokjkpbhckaaGreatDoor
open Go.RowKit Go.Sort
set_option maxRecDepth 100000
/-- How far up has come. -/
def JUpTo (R : World) (hb ab cap : Nat) (X : List QEnt) (w : World) (j : Nat) (Y : List QEnt) (wr : World) : Prop := Y.Perm X ∧ HeapUp (kf Y) X.length j ∧ LIs R hb ab cap Y wr ∧ But ab w wr
/-- Where it ends. -/
def JpIs (R : World) (hb ab cap : Nat) (X : List QEnt) (w : World) (wr : World) : Prop := ∃ Y, Y.Perm X ∧ Heap (kf Y) X.length ∧ LIs R hb ab cap Y wr ∧ But ab w wr
set_option maxHeartbeats 2000000 in
theorem jhUp (R : World) (hb ab cap : Nat) (X : List QEnt) (j : Nat) (w : World) (h : LIs R hb ab cap X w) (hj : j < X.length) (hu : HeapUp (kf X) X.length j) :
    Calls Tryz.prog 81 #[.iface 94 (.pointer (some ⟨hb, 0, none⟩)), .int .i64 j] w fun e w' => e = .returned (.tuple #[]) ∧ JpIs R hb ab cap X w w' := by
  have hL := h.2.2.2.2.2
  have F0 : Hid (JUpTo R hb ab cap X w j X w) := ⟨List.Perm.refl _, hu, h, But.refl _ _⟩
  clear h hu
  go_enter Tryz.func81, Tryz.ntmps81
  go_wp2_with fail
  go_loopw [1] (fun s wr => ∃ (i : Nat) (Y : List QEnt), s = .int .i64 i ∧ i < X.length ∧ JUpTo R hb ab cap X w i Y wr) (fun s _ => (intOf s).toNat)
  case atStart => exact ⟨j, X, rfl, hj, F0.out⟩
  case round =>
    clear F0 hj
    obtain ⟨i, Y, rfl, hi, u1, u2, u3, u4⟩ := hrel
    have hY : Y.length = X.length := u1.length_eq
    by_cases h0 : i = 0
    · subst h0
      have F : Hid (JpIs R hb ab cap X w wr) := ⟨Y, u1, hup_end u2 (.inl rfl), u3, u4⟩
      clear u1 u2 u3 u4
      go_wp2_with fail
      go_end0
      exact ⟨rfl, F.out⟩
    · have hp := par_lt (show 0 < i by omega)
      have E1 : Hid (((i : Int) - 1) / 2 = ((par i : Nat) : Int)) := by show _ = _; unfold par; omega
      have bq : (((i : Int) - 1) / 2 == (i : Int)) = false := by rw [E1.out]; simp; omega
      have hm := jm_less u3.1.cell
      rw [List.length_map, hY] at hm
      obtain ⟨c, hc⟩ : ∃ c, c = decide (cR (kf Y i) (kf Y (par i)) < 0) := ⟨_, rfl⟩
      have q : Hid (Calls Tryz.prog 120 #[.slice (some ⟨ab, 0, none⟩) X.length cap, .int .i64 i, .int .i64 (((i : Int) - 1) / 2)] wr fun e w' => e = .returned (.bool c) ∧ Below wr.heap.size wr w') := by
        rw [E1.out, ← hY]; exact jhLess R hb ab cap Y i (par i) wr u3 (by omega) (by omega) c hc
      have HB : Hid (∀ w1, Below wr.heap.size wr w1 → (c = false → JpIs R hb ab cap X w w1) ∧ (c = true → JUpTo R hb ab cap X w i Y w1 ∧ ∀ w2, LIs R hb ab cap (sw Y (par i) i) w2 → But ab w1 w2 → JUpTo R hb ab cap X w (par i) (sw Y (par i) i) w2)) := fun w1 hB =>
        ⟨fun e => ⟨Y, u1, hup_end u2 (.inr (by rw [e] at hc; simpa using hc.symm)), u3.on hB, u4.trans (But.of_below hB)⟩,
         fun e => ⟨⟨u1, u2, u3.on hB, u4.trans (But.of_below hB)⟩, fun w2 h2 h3 => ⟨(sw_perm (by omega) (by omega)).trans u1, by rw [kf_sw (by omega) (by omega)]; exact hup_step u2 (by omega) hi (by rw [e] at hc; simpa using hc.symm), h2, (u4.trans (But.of_below hB)).trans h3⟩⟩⟩
      clear u1 u2 u3 u4 hc
      go_wp2_with fail
      refine q.out.mono ?_
      rintro e w1 ⟨rfl, hb1⟩
      have H1 := HB.out w1 hb1
      clear q hm HB hb1
      cases c
      · have F : Hid (JpIs R hb ab cap X w w1) := H1.1 rfl
        clear H1
        go_wp2_with fail
        go_end0
        exact ⟨rfl, F.out⟩
      · obtain ⟨v1, v2⟩ := H1.2 rfl
        have hm := jm_swap v1.2.2.1.1.cell
        rw [List.length_map, hY] at hm
        have q : Hid (Calls Tryz.prog 121 #[.slice (some ⟨ab, 0, none⟩) X.length cap, .int .i64 (((i : Int) - 1) / 2), .int .i64 i] w1 fun e w' => e = .returned (.tuple #[]) ∧ LIs R hb ab cap (sw Y (par i) i) w' ∧ But ab w1 w') := by
          rw [E1.out, ← hY]; exact jhSwap R hb ab cap Y (par i) i w1 v1.2.2.1 (by omega) (by omega)
        have V2 : Hid (∀ w2, LIs R hb ab cap (sw Y (par i) i) w2 → But ab w1 w2 → JUpTo R hb ab cap X w (par i) (sw Y (par i) i) w2) := v2
        clear H1 v1 v2
        go_wp2_with fail
        refine q.out.mono ?_
        rintro e w2 ⟨rfl, h2, h3⟩
        have F := V2.out w2 h2 h3
        clear q hm V2 h2 h3
        go_wp2_with fail
        go_roundw
        case rel => exact ⟨par i, sw Y (par i) i, by rw [E1.out], by omega, F⟩
        case measure => rw [E1.out]; simp [intOf]; omega
end Go.Proofs.YtlafokjkpbhckaaGreatDoor
/- What container/heap's down answers of join's lines, a heap from a place on. -/
namespace Go.Proofs.YtlafokjkpbhckaaGreatDoor
open Go.RowKit Go.Sort
set_option maxRecDepth 100000
/-- How far down has come. -/
def JDownTo (R : World) (hb ab cap kk : Nat) (X : List QEnt) (n : Nat) (w : World) (i : Nat) (Y : List QEnt) (wr : World) : Prop := Y.Perm X ∧ HeapDownK (kf Y) n kk i ∧ (∀ k, n ≤ k → Y.getD k qD = X.getD k qD) ∧ LIs R hb ab cap Y wr ∧ But ab w wr
/-- Where it ends. -/
def JpUpto (R : World) (hb ab cap kk : Nat) (X : List QEnt) (n : Nat) (w : World) (wr : World) : Prop := ∃ Y, Y.Perm X ∧ HeapK (kf Y) n kk ∧ (∀ k, n ≤ k → Y.getD k qD = X.getD k qD) ∧ LIs R hb ab cap Y wr ∧ But ab w wr
theorem JDownTo.on {R : World} {hb ab cap kk : Nat} {X : List QEnt} {n : Nat} {w : World} {i : Nat} {Y : List QEnt} {wr w1 : World} (h : JDownTo R hb ab cap kk X n w i Y wr) (hB : Below wr.heap.size wr w1) : JDownTo R hb ab cap kk X n w i Y w1 :=
  ⟨h.1, h.2.1, h.2.2.1, h.2.2.2.1.on hB, h.2.2.2.2.trans (But.of_below hB)⟩
/-- The lesser one below. -/
def JLeast (Y : List QEnt) (n i j : Nat) : Prop := 0 < j ∧ j < n ∧ par j = i ∧ i < j ∧ ∀ k, 0 < k → k < n → par k = i → cR (kf Y j) (kf Y k) ≤ 0
theorem JDownTo.fin {R : World} {hb ab cap kk : Nat} {X : List QEnt} {n : Nat} {w : World} {i j : Nat} {Y : List QEnt} {wr : World} (h : JDownTo R hb ab cap kk X n w i Y wr) (hl : JLeast Y n i j) (hn : ¬ cR (kf Y j) (kf Y i) < 0) : JpUpto R hb ab cap kk X n w wr :=
  ⟨Y, h.1, hdownK_end h.2.1 (fun k h1 h2 h3 => cR_trans _ _ _ (cR_le_of_nlt hn) (hl.2.2.2.2 k h1 h2 h3)), h.2.2.1, h.2.2.2⟩
theorem JDownTo.last {R : World} {hb ab cap kk : Nat} {X : List QEnt} {n : Nat} {w : World} {i : Nat} {Y : List QEnt} {wr : World} (h : JDownTo R hb ab cap kk X n w i Y wr) (hn : n ≤ 2 * i + 1) : JpUpto R hb ab cap kk X n w wr :=
  ⟨Y, h.1, hdownK_end h.2.1 (fun k h1 h2 h3 => by have := par_is h1 h3; omega), h.2.2.1, h.2.2.2⟩
theorem JDownTo.step {R : World} {hb ab cap kk : Nat} {X : List QEnt} {n : Nat} {w : World} {i j : Nat} {Y : List QEnt} {wr w2 : World} (h : JDownTo R hb ab cap kk X n w i Y wr) (hn : n ≤ X.length) (hl : JLeast Y n i j) (hc : cR (kf Y j) (kf Y i) < 0) (h2 : LIs R hb ab cap (sw Y i j) w2) (h3 : But ab wr w2) : JDownTo R hb ab cap kk X n w j (sw Y i j) w2 := by
  have hY : Y.length = X.length := h.1.length_eq
  obtain ⟨l1, l2, l3, l4, l5⟩ := hl
  refine ⟨(sw_perm (by omega) (by omega)).trans h.1, by rw [kf_sw (by omega) (by omega)]; exact hdownK_step h.2.1 l1 l2 l3 l5 hc, fun k hk => ?_, h2, h.2.2.2.2.trans h3⟩
  rw [sw_at (by omega) (by omega), swF_o _ (by omega) (by omega)]; exact h.2.2.1 k hk
theorem jleast_one {Y : List QEnt} {n i : Nat} (h : 2 * i + 1 < n) (h2 : ¬ 2 * i + 2 < n) : JLeast Y n i (2 * i + 1) :=
  ⟨by omega, h, par_1 i, by omega, fun k h3 h4 h5 => by
    rcases par_is h3 h5 with rfl | rfl
    · rw [cR_self]; omega
    · omega⟩
theorem jleast_l {Y : List QEnt} {n i : Nat} (h : 2 * i + 1 < n) (hc : ¬ cR (kf Y (2 * i + 2)) (kf Y (2 * i + 1)) < 0) : JLeast Y n i (2 * i + 1) :=
  ⟨by omega, h, par_1 i, by omega, fun k h3 h4 h5 => by
    rcases par_is h3 h5 with rfl | rfl
    · rw [cR_self]; omega
    · exact cR_le_of_nlt hc⟩
theorem jleast_r {Y : List QEnt} {n i : Nat} (h : 2 * i + 2 < n) (hc : cR (kf Y (2 * i + 2)) (kf Y (2 * i + 1)) < 0) : JLeast Y n i (2 * i + 2) :=
  ⟨by omega, h, par_2 i, by omega, fun k h3 h4 h5 => by
    rcases par_is h3 h5 with rfl | rfl
    · omega
    · rw [cR_self]; omega⟩
set_option maxHeartbeats 4000000 in
theorem jhDown (R : World) (hb ab cap kk : Nat) (X : List QEnt) (j n : Nat) (w : World) (h : LIs R hb ab cap X w) (hn : n ≤ X.length) (hj : j ≤ X.length) (hu : HeapDownK (kf X) n kk j) :
    Calls Tryz.prog 65 #[.iface 94 (.pointer (some ⟨hb, 0, none⟩)), .int .i64 j, .int .i64 n] w fun e w' => (∃ b, e = .returned (.bool b)) ∧ JpUpto R hb ab cap kk X n w w' := by
  have hL := h.2.2.2.2.2
  have F0 : Hid (JDownTo R hb ab cap kk X n w j X w) := ⟨List.Perm.refl _, hu, fun _ _ => rfl, h, But.refl _ _⟩
  clear h hu
  go_enter Tryz.func65, Tryz.ntmps65
  go_wp2_with fail
  go_loopw [7] (fun s wr => ∃ (i : Nat) (Y : List QEnt), s = .int .i64 i ∧ i ≤ X.length ∧ JDownTo R hb ab cap kk X n w i Y wr) (fun s _ => n - (intOf s).toNat)
  case atStart => exact ⟨j, X, rfl, hj, F0.out⟩
  case round =>
    clear F0
    obtain ⟨i, Y, rfl, hi, u0⟩ := hrel
    have hY : Y.length = X.length := u0.1.length_eq
    by_cases h1 : 2 * i + 1 < n
    · have I1 : ¬ (n : Int) ≤ 2 * (i : Int) + 1 := by omega
      have I0 : ¬ 2 * (i : Int) + 1 < 0 := by omega
      have E1 : Hid (2 * (i : Int) + 1 = ((2 * i + 1 : Nat) : Int)) := by show _ = _; omega
      have E2 : Hid (2 * (i : Int) + 1 + 1 = ((2 * i + 2 : Nat) : Int)) := by show _ = _; omega
      by_cases h2 : 2 * i + 2 < n
      · have I2 : 2 * (i : Int) + 1 + 1 < (n : Int) := by omega
        have hm := jm_less u0.2.2.2.1.1.cell
        rw [List.length_map, hY] at hm
        obtain ⟨c, hc⟩ : ∃ c, c = decide (cR (kf Y (2 * i + 2)) (kf Y (2 * i + 1)) < 0) := ⟨_, rfl⟩
        have q : Hid (Calls Tryz.prog 120 #[.slice (some ⟨ab, 0, none⟩) X.length cap, .int .i64 (2 * (i : Int) + 1 + 1), .int .i64 (2 * (i : Int) + 1)] wr fun e w' => e = .returned (.bool c) ∧ Below wr.heap.size wr w') := by
          rw [E2.out, E1.out, ← hY]; exact jhLess R hb ab cap Y (2 * i + 2) (2 * i + 1) wr u0.2.2.2.1 (by omega) (by omega) c hc
        have U0 : Hid (JDownTo R hb ab cap kk X n w i Y wr) := u0
        have HC : Hid (c = decide (cR (kf Y (2 * i + 2)) (kf Y (2 * i + 1)) < 0)) := hc
        clear u0 hc
        go_wp2_with fail
        refine q.out.mono ?_
        rintro e w1 ⟨rfl, hb1⟩
        have u1 := U0.out.on hb1
        clear q hm hb1 U0
        cases c
        · have hl : JLeast Y n i (2 * i + 1) := jleast_l h1 (by have := HC.out; simpa using this.symm)
          clear HC
          have hm := jm_less u1.2.2.2.1.1.cell
          rw [List.length_map, hY] at hm
          obtain ⟨c, hc⟩ : ∃ c, c = decide (cR (kf Y (2 * i + 1)) (kf Y i) < 0) := ⟨_, rfl⟩
          have q : Hid (Calls Tryz.prog 120 #[.slice (some ⟨ab, 0, none⟩) X.length cap, .int .i64 (2 * (i : Int) + 1), .int .i64 i] w1 fun e w' => e = .returned (.bool c) ∧ Below w1.heap.size w1 w') := by
            rw [E1.out, ← hY]; exact jhLess R hb ab cap Y (2 * i + 1) i w1 u1.2.2.2.1 (by omega) (by omega) c hc
          have U1 : Hid (JDownTo R hb ab cap kk X n w i Y w1) := u1
          have HC : Hid (c = decide (cR (kf Y (2 * i + 1)) (kf Y i) < 0)) := hc
          have HL : Hid (JLeast Y n i (2 * i + 1)) := hl
          clear u1 hc hl
          go_wp2_with fail
          refine q.out.mono ?_
          rintro e w2 ⟨rfl, hb2⟩
          have u2 := U1.out.on hb2
          clear q hm hb2 U1
          cases c
          · have F : Hid (JpUpto R hb ab cap kk X n w w2) := u2.fin HL.out (by have := HC.out; simpa using this.symm)
            clear u2 HC HL
            go_wp2_with fail
            go_ret
            exact ⟨⟨_, rfl⟩, F.out⟩
          · have hm := jm_swap u2.2.2.2.1.1.cell
            rw [List.length_map, hY] at hm
            have q : Hid (Calls Tryz.prog 121 #[.slice (some ⟨ab, 0, none⟩) X.length cap, .int .i64 i, .int .i64 (2 * (i : Int) + 1)] w2 fun e w' => e = .returned (.tuple #[]) ∧ LIs R hb ab cap (sw Y i (2 * i + 1)) w' ∧ But ab w2 w') := by
              rw [E1.out, ← hY]; exact jhSwap R hb ab cap Y i (2 * i + 1) w2 u2.2.2.2.1 (by omega) (by omega)
            have U2 : Hid (∀ w3, LIs R hb ab cap (sw Y i (2 * i + 1)) w3 → But ab w2 w3 → JDownTo R hb ab cap kk X n w (2 * i + 1) (sw Y i (2 * i + 1)) w3) := fun w3 h2 h3 => u2.step hn HL.out (by have := HC.out; simpa using this.symm) h2 h3
            clear u2 HC HL
            go_wp2_with fail
            refine q.out.mono ?_
            rintro e w3 ⟨rfl, h2, h3⟩
            have F := U2.out w3 h2 h3
            clear q hm U2 h2 h3
            go_wp2_with fail
            go_roundw
            case rel => exact ⟨2 * i + 1, sw Y i (2 * i + 1), by rw [E1.out], by omega, F⟩
            case measure => rw [E1.out]; simp only [intOf]; omega
        · have hl : JLeast Y n i (2 * i + 2) := jleast_r h2 (by have := HC.out; simpa using this.symm)
          clear HC
          have hm := jm_less u1.2.2.2.1.1.cell
          rw [List.length_map, hY] at hm
          obtain ⟨c, hc⟩ : ∃ c, c = decide (cR (kf Y (2 * i + 2)) (kf Y i) < 0) := ⟨_, rfl⟩
          have q : Hid (Calls Tryz.prog 120 #[.slice (some ⟨ab, 0, none⟩) X.length cap, .int .i64 (2 * (i : Int) + 1 + 1), .int .i64 i] w1 fun e w' => e = .returned (.bool c) ∧ Below w1.heap.size w1 w') := by
            rw [E2.out, ← hY]; exact jhLess R hb ab cap Y (2 * i + 2) i w1 u1.2.2.2.1 (by omega) (by omega) c hc
          have U1 : Hid (JDownTo R hb ab cap kk X n w i Y w1) := u1
          have HC : Hid (c = decide (cR (kf Y (2 * i + 2)) (kf Y i) < 0)) := hc
          have HL : Hid (JLeast Y n i (2 * i + 2)) := hl
          clear u1 hc hl
          go_wp2_with fail
          refine q.out.mono ?_
          rintro e w2 ⟨rfl, hb2⟩
          have u2 := U1.out.on hb2
          clear q hm hb2 U1
          cases c
          · have F : Hid (JpUpto R hb ab cap kk X n w w2) := u2.fin HL.out (by have := HC.out; simpa using this.symm)
            clear u2 HC HL
            go_wp2_with fail
            go_ret
            exact ⟨⟨_, rfl⟩, F.out⟩
          · have hm := jm_swap u2.2.2.2.1.1.cell
            rw [List.length_map, hY] at hm
            have q : Hid (Calls Tryz.prog 121 #[.slice (some ⟨ab, 0, none⟩) X.length cap, .int .i64 i, .int .i64 (2 * (i : Int) + 1 + 1)] w2 fun e w' => e = .returned (.tuple #[]) ∧ LIs R hb ab cap (sw Y i (2 * i + 2)) w' ∧ But ab w2 w') := by
              rw [E2.out, ← hY]; exact jhSwap R hb ab cap Y i (2 * i + 2) w2 u2.2.2.2.1 (by omega) (by omega)
            have U2 : Hid (∀ w3, LIs R hb ab cap (sw Y i (2 * i + 2)) w3 → But ab w2 w3 → JDownTo R hb ab cap kk X n w (2 * i + 2) (sw Y i (2 * i + 2)) w3) := fun w3 h2 h3 => u2.step hn HL.out (by have := HC.out; simpa using this.symm) h2 h3
            clear u2 HC HL
            go_wp2_with fail
            refine q.out.mono ?_
            rintro e w3 ⟨rfl, h2, h3⟩
            have F := U2.out w3 h2 h3
            clear q hm U2 h2 h3
            go_wp2_with fail
            go_roundw
            case rel => exact ⟨2 * i + 2, sw Y i (2 * i + 2), by rw [E2.out], by omega, F⟩
            case measure => rw [E2.out]; simp only [intOf]; omega
      · have I2 : ¬ 2 * (i : Int) + 1 + 1 < (n : Int) := by omega
        have hl : JLeast Y n i (2 * i + 1) := jleast_one h1 h2
        obtain ⟨w1, u1, e1⟩ : ∃ w1, JDownTo R hb ab cap kk X n w i Y w1 ∧ w1 = wr := ⟨wr, u0, rfl⟩
        subst e1
        clear u0
        have hm := jm_less u1.2.2.2.1.1.cell
        rw [List.length_map, hY] at hm
        obtain ⟨c, hc⟩ : ∃ c, c = decide (cR (kf Y (2 * i + 1)) (kf Y i) < 0) := ⟨_, rfl⟩
        have q : Hid (Calls Tryz.prog 120 #[.slice (some ⟨ab, 0, none⟩) X.length cap, .int .i64 (2 * (i : Int) + 1), .int .i64 i] w1 fun e w' => e = .returned (.bool c) ∧ Below w1.heap.size w1 w') := by
          rw [E1.out, ← hY]; exact jhLess R hb ab cap Y (2 * i + 1) i w1 u1.2.2.2.1 (by omega) (by omega) c hc
        have U1 : Hid (JDownTo R hb ab cap kk X n w i Y w1) := u1
        have HC : Hid (c = decide (cR (kf Y (2 * i + 1)) (kf Y i) < 0)) := hc
        have HL : Hid (JLeast Y n i (2 * i + 1)) := hl
        clear u1 hc hl
        go_wp2_with fail
        refine q.out.mono ?_
        rintro e w2 ⟨rfl, hb2⟩
        have u2 := U1.out.on hb2
        clear q hm hb2 U1
        cases c
        · have F : Hid (JpUpto R hb ab cap kk X n w w2) := u2.fin HL.out (by have := HC.out; simpa using this.symm)
          clear u2 HC HL
          go_wp2_with fail
          go_ret
          exact ⟨⟨_, rfl⟩, F.out⟩
        · have hm := jm_swap u2.2.2.2.1.1.cell
          rw [List.length_map, hY] at hm
          have q : Hid (Calls Tryz.prog 121 #[.slice (some ⟨ab, 0, none⟩) X.length cap, .int .i64 i, .int .i64 (2 * (i : Int) + 1)] w2 fun e w' => e = .returned (.tuple #[]) ∧ LIs R hb ab cap (sw Y i (2 * i + 1)) w' ∧ But ab w2 w') := by
            rw [E1.out, ← hY]; exact jhSwap R hb ab cap Y i (2 * i + 1) w2 u2.2.2.2.1 (by omega) (by omega)
          have U2 : Hid (∀ w3, LIs R hb ab cap (sw Y i (2 * i + 1)) w3 → But ab w2 w3 → JDownTo R hb ab cap kk X n w (2 * i + 1) (sw Y i (2 * i + 1)) w3) := fun w3 h2 h3 => u2.step hn HL.out (by have := HC.out; simpa using this.symm) h2 h3
          clear u2 HC HL
          go_wp2_with fail
          refine q.out.mono ?_
          rintro e w3 ⟨rfl, h2, h3⟩
          have F := U2.out w3 h2 h3
          clear q hm U2 h2 h3
          go_wp2_with fail
          go_roundw
          case rel => exact ⟨2 * i + 1, sw Y i (2 * i + 1), by rw [E1.out], by omega, F⟩
          case measure => rw [E1.out]; simp only [intOf]; omega
    · have I1 : (n : Int) ≤ 2 * (i : Int) + 1 := by omega
      have F : Hid (JpUpto R hb ab cap kk X n w wr) := u0.last (by omega)
      clear u0
      go_wp2_with fail
      go_ret
      exact ⟨⟨_, rfl⟩, F.out⟩
end Go.Proofs.YtlafokjkpbhckaaGreatDoor
/- What container/heap's Init, Fix and Pop answer of join's lines; what skip answers. -/
namespace Go.Proofs.YtlafokjkpbhckaaGreatDoor
open Go.RowKit Go.Sort
set_option maxRecDepth 100000
set_option linter.unusedVariables false
theorem JpIs.len {R : World} {hb ab cap : Nat} {X : List QEnt} {w w' : World} (h : JpIs R hb ab cap X w w') : ∃ Y, Y.length = X.length ∧ Y.Perm X ∧ Heap (kf Y) Y.length ∧ LIs R hb ab cap Y w' ∧ But ab w w' := by
  obtain ⟨Y, h1, h2, h3, h4⟩ := h
  exact ⟨Y, h1.length_eq, h1, by rw [h1.length_eq]; exact h2, h3, h4⟩
set_option maxHeartbeats 2000000 in
theorem jhInit (R : World) (hb ab cap : Nat) (X : List QEnt) (w : World) (h : LIs R hb ab cap X w) :
    Calls Tryz.prog 40 #[.iface 94 (.pointer (some ⟨hb, 0, none⟩))] w fun e w' => e = .returned (.tuple #[]) ∧ JpIs R hb ab cap X w w' := by
  have hL := h.2.2.2.2.2
  have hm := jm_len h.1.cell
  rw [List.length_map] at hm
  have q1 := fun a n c => jhLen a n c w
  have F0 : Hid (X.Perm X ∧ HeapK (kf X) X.length (X.length / 2) ∧ LIs R hb ab cap X w ∧ But ab w w) := ⟨List.Perm.refl _, heapK_half _ _, h, But.refl _ _⟩
  clear h
  go_enter Tryz.func40, Tryz.ntmps40
  go_wp2_with fail
  refine (q1 _ _ _).mono ?_
  rintro e w1 ⟨rfl, rfl⟩
  clear q1 hm
  go_wp2_with fail
  go_loopw [3] (fun s wr => ∃ (k : Nat) (Y : List QEnt), s = .int .i64 ((k : Int) - 1) ∧ k ≤ 65536 ∧ k * 2 ≤ X.length ∧ Hid (Y.Perm X ∧ HeapK (kf Y) X.length k ∧ LIs R hb ab cap Y wr ∧ But ab w1 wr)) (fun s _ => (intOf s + 1).toNat)
  case atStart => exact ⟨X.length / 2, X, by congr 1, by omega, by omega, F0.out⟩
  case round =>
    clear F0
    obtain ⟨k, Y, rfl, hk, hk2, hS⟩ := hrel
    by_cases h0 : k = 0
    · subst h0
      have F : Hid (JpIs R hb ab cap X w1 wr) := ⟨Y, hS.out.1, heapK_zero.1 hS.out.2.1, hS.out.2.2⟩
      clear hS
      go_wp2_with fail
      go_end0
      exact ⟨rfl, F.out⟩
    · obtain ⟨i, rfl⟩ : ∃ i, k = i + 1 := ⟨k - 1, by omega⟩
      have e0 : (((i + 1 : Nat) : Int) - 1) = (i : Int) := by omega
      rw [e0]
      have hY : Y.length = X.length := hS.out.1.length_eq
      have q := jhDown R hb ab cap i Y i X.length wr hS.out.2.2.1 (by omega) (by omega) (heapK_next hS.out.2.1)
      have H : Hid (∀ w', JpUpto R hb ab cap i Y X.length wr w' → ∃ Z : List QEnt, Z.Perm X ∧ HeapK (kf Z) X.length i ∧ LIs R hb ab cap Z w' ∧ But ab w1 w') := fun w' ⟨Z, z1, z2, z3, z4, z5⟩ => ⟨Z, z1.trans hS.out.1, z2, z4, hS.out.2.2.2.trans z5⟩
      clear hS hY
      go_wp2_with fail
      refine q.mono ?_
      rintro e w2 ⟨⟨b, rfl⟩, h2⟩
      obtain ⟨Z, hZ⟩ := H.out w2 h2
      have HZ : Hid _ := hZ
      clear q h2 hZ H
      go_wp2_with fail
      go_roundw
      case rel => exact ⟨i, Z, by first | rfl | (congr 1; done), by omega, by omega, HZ⟩
      case measure => simp only [intOf]; omega
set_option maxHeartbeats 2000000 in
theorem jhFix (R : World) (hb ab cap : Nat) (X : List QEnt) (w : World) (h : LIs R hb ab cap X w) (hl : 0 < X.length) (hu : HeapDown (kf X) X.length 0) :
    Calls Tryz.prog 69 #[.iface 94 (.pointer (some ⟨hb, 0, none⟩)), .int .i64 0] w fun e w' => e = .returned (.tuple #[]) ∧ JpIs R hb ab cap X w w' := by
  have hm := jm_len h.1.cell
  rw [List.length_map] at hm
  have q1 := fun a n c => jhLen a n c w
  have q2 := jhDown R hb ab cap 0 X 0 X.length w h (Nat.le_refl _) (by omega) (heapDK_zero hu)
  clear h hu
  go_enter Tryz.func69, Tryz.ntmps69
  go_wp2_with fail
  refine (q1 _ _ _).mono ?_
  rintro e w1 ⟨rfl, rfl⟩
  clear q1 hm
  go_wp2_with fail
  refine q2.mono ?_
  rintro e w2 ⟨⟨b, rfl⟩, Y, y1, y2, y3, y4, y5⟩
  have y2 := heapK_zero.1 y2
  clear q2
  have hY : Y.length = X.length := y1.length_eq
  cases b
  · have q3 := jhUp R hb ab cap Y 0 w2 y4 (by omega) (by rw [hY]; exact heap_up0 y2)
    have H : Hid (∀ w3, JpIs R hb ab cap Y w2 w3 → JpIs R hb ab cap X w1 w3) := fun w3 ⟨Z, z1, z2, z3, z4⟩ => ⟨Z, z1.trans y1, by rw [← hY]; exact z2, z3, y5.trans z4⟩
    clear y1 y2 y3 y4 y5 hY
    go_wp2_with fail
    refine q3.mono ?_
    rintro e w3 ⟨rfl, h3⟩
    have F : Hid (JpIs R hb ab cap X w1 w3) := H.out _ h3
    clear q3 H h3
    go_wp2_with fail
    go_end0
    exact ⟨rfl, F.out⟩
  · have F : Hid (JpIs R hb ab cap X w1 w2) := ⟨Y, y1, y2, y4, y5⟩
    clear y1 y2 y3 y4 y5 hY
    go_wp2_with fail
    go_end0
    exact ⟨rfl, F.out⟩
set_option maxHeartbeats 2000000 in
/-- The lines' own Pop. -/
theorem jhPopOwn (R : World) (hb ab cap : Nat) (X : List QEnt) (n : Nat) (hn : X.length = n + 1) (w : World) (h : LIs R hb ab cap X w) :
    Calls Tryz.prog 122 #[.pointer (some ⟨hb, 0, none⟩)] w fun e w' => (∃ v, e = .returned v) ∧ LIs R hb ab cap (X.take n) w' ∧ But hb w w' := by
  obtain ⟨a1, c1, b, o, c, a2, c2, e, f, F, x0, x1, x2, x3, r1, r2, x4, x5, x6, x7, y1, y2, y3, z1, z2, ek⟩ := h.head (show n < X.length by omega)
  have d1 := h.1.cell
  have f1 := h.1.frozen
  have hL := h.2.2.2.2.2
  obtain ⟨_, _, hcap, hm, _⟩ := h.1.block
  rw [List.length_map, hn] at d1 hcap
  unfold maxLen at hm
  have I1 : (n : Int) < ((n + 1 : Nat) : Int) := by omega
  have FF : Hid (∀ u, LIs R hb ab cap (X.take n) ((w.setCell ⟨hb, 0, none⟩ (.slice (some ⟨ab, 0, none⟩) n cap)).alloc u) ∧ But hb w ((w.setCell ⟨hb, 0, none⟩ (.slice (some ⟨ab, 0, none⟩) n cap)).alloc u)) := fun u => ⟨(h.cut n (by omega)).on one_box, (But.set _ _).trans (But.of_below one_box)⟩
  have k1 : b < w.heap.size := World.block_lt_of_cell? _ _ z1
  have k2 : hb < w.heap.size := World.block_lt_of_cell? _ _ d1
  clear h x0 x1 x2 x3 r1 r2 x4 x5 x6 x7 z1 z2 ek
  generalize e.1.length = n1 at *
  generalize e.2 = k1 at *
  generalize (f :: F).length = m1 at *
  have d2 : (w.alloc (.cells #[.slice a1 n1 c1, .int .i64 k1, .slice (some ⟨b, o, none⟩) m1 c] 57)).cell? ⟨hb, 0, none⟩ = some (.slice (some ⟨ab, 0, none⟩) (n + 1) cap) := cell_on d1 one_box
  go_enter Tryz.func122, Tryz.ntmps122
  go_wp2_with fail
  go_ret
  exact ⟨⟨_, rfl⟩, (FF.out _).1, (FF.out _).2⟩
/-- Where Pop ends: without the first one. -/
def JPopIs (R : World) (hb ab cap : Nat) (T : List QEnt) (w w' : World) : Prop := ∃ Y, Y.Perm T ∧ Heap (kf Y) Y.length ∧ LIs R hb ab cap Y w' ∧ Off hb ab w w'
set_option maxHeartbeats 2000000 in
theorem jhPop (R : World) (hb ab cap : Nat) (x : QEnt) (T : List QEnt) (w : World) (h : LIs R hb ab cap (x :: T) w) (hu : Heap (kf (x :: T)) (x :: T).length) :
    Calls Tryz.prog 68 #[.iface 94 (.pointer (some ⟨hb, 0, none⟩))] w fun e w' => (∃ v, e = .returned v) ∧ JPopIs R hb ab cap T w w' := by
  have hL := h.2.2.2.2.2
  have hm := jm_len h.1.cell
  have hm2 := jm_swap h.1.cell
  rw [List.length_map] at hm hm2
  have q1 := fun a n c => jhLen a n c w
  have q2 : Hid (Calls Tryz.prog 121 #[.slice (some ⟨ab, 0, none⟩) (x :: T).length cap, .int .i64 0, .int .i64 T.length] w fun e w' => e = .returned (.tuple #[]) ∧ LIs R hb ab cap (sw (x :: T) 0 T.length) w' ∧ But ab w w') := jhSwap R hb ab cap (x :: T) 0 T.length w h (by simp) (by simp)
  have HS : Hid (HeapDown (kf (sw (x :: T) 0 T.length)) T.length 0) := heap_last (by simp) hu
  have SL : Hid ((sw (x :: T) 0 T.length).length = T.length + 1) := by show _ = _; rw [sw_len]; rfl
  have SP : Hid ((sw (x :: T) 0 T.length).Perm (x :: T) ∧ (sw (x :: T) 0 T.length).getD T.length qD = x) := ⟨sw_perm (by simp) (by simp), by rw [sw_at (by simp) (by simp), swF_r]; rfl⟩
  clear h hu
  rw [List.length_cons] at hL hm hm2 q2
  generalize hS : sw (x :: T) 0 T.length = S at *
  clear hS
  go_enter Tryz.func68, Tryz.ntmps68
  go_wp2_with fail
  refine (q1 _ _ _).mono ?_
  rintro e w1 ⟨rfl, rfl⟩
  clear q1 hm
  go_wp2_with fail
  refine q2.out.mono ?_
  rintro e w2 ⟨rfl, y1, y2⟩
  have q3 := jhDown R hb ab cap 0 S 0 T.length w2 y1 (by rw [SL.out]; omega) (by omega) (heapDK_zero HS.out)
  clear q2 hm2 y1 HS
  go_wp2_with fail
  refine q3.mono ?_
  rintro e w3 ⟨⟨b, rfl⟩, Y, z1, z2, z3, z4, z5⟩
  have z2 := heapK_zero.1 z2
  have q4 := jhPopOwn R hb ab cap Y T.length (by rw [z1.length_eq, SL.out]) w3 z4
  have H : Hid (∀ w4, LIs R hb ab cap (Y.take T.length) w4 → But hb w3 w4 → JPopIs R hb ab cap T w1 w4) := fun w4 g1 g2 => by
    have hp : (Y.take T.length).Perm T := pop_perm rfl (z1.trans SP.out.1) (by rw [z3 _ (Nat.le_refl _)]; exact SP.out.2)
    exact ⟨_, hp, by rw [hp.length_eq]; exact heap_take z2, g1, (Off.of_r (y2.trans z5)).trans (Off.of_l g2)⟩
  clear q3 z1 z2 z3 z4 z5 y2 SL SP
  go_wp2_with fail
  refine q4.mono ?_
  rintro e w4 ⟨⟨v, rfl⟩, g1, g2⟩
  have F : Hid (JPopIs R hb ab cap T w1 w4) := H.out _ g1 g2
  clear q4 g1 g2 H
  go_wp2_with fail
  go_ret
  exact ⟨⟨_, rfl⟩, F.out⟩
/-- A line's rest put in its place: its third cell alone. -/
theorem LAt.put3 {hb ab cap : Nat} {vs : List Value} {w : World} (h : LAt hb ab cap vs w) (i : Nat) (hi : i < vs.length) {a b c c' : Value} (e : lcs vs[i] = [a, b, c]) : LAt hb ab cap (vs.set i (.agg #[a, b, c'])) (w.setCell ⟨ab, i * 3 + 2, none⟩ c') := by
  obtain ⟨s3, _⟩ := h.2.stored (i * 3 + 2) c'
  have hx := ls_at vs i hi a b c e
  have hl := ls_len vs
  have g1 : (ls vs).set (i * 3) a = ls vs := by
    have := @List.set_getElem_self _ (ls vs) (i * 3) (by omega)
    rwa [show (ls vs)[i * 3]'(by omega) = a from Option.some.inj (by rw [← List.getElem?_eq_getElem]; exact hx.1)] at this
  have g2 : (ls vs).set (i * 3 + 1) b = ls vs := by
    have := @List.set_getElem_self _ (ls vs) (i * 3 + 1) (by omega)
    rwa [show (ls vs)[i * 3 + 1]'(by omega) = b from Option.some.inj (by rw [← List.getElem?_eq_getElem]; exact hx.2.1)] at this
  have g3 : ls (vs.set i (.agg #[a, b, c'])) = (ls vs).set (i * 3 + 2) c' := by rw [ls_set vs i _ a b c' hi rfl, g1, g2]
  refine ⟨?_, by rw [List.length_set, g3]; exact s3⟩
  rw [Below.heap_setCell _ _ _ _ h.ne, List.length_set]; exact h.1
/-- Where skip ends: without the first of all. -/
def SkipIs (R : World) (hb ab cap : Nat) (p : Ent) (l : List Ent) (T : List QEnt) (w w' : World) : Prop := ∃ Y Z : List QEnt, Y.Perm Z ∧ flat Z = l ++ flat T ∧ Heap (kf Y) Y.length ∧ LIs R hb ab cap Y w' ∧ Off hb ab w w'
set_option maxHeartbeats 4000000 in
theorem jhSkip (R : World) (hb ab cap : Nat) (x : QEnt) (T : List QEnt) (p : Ent) (l : List Ent) (hx : x.2 = p :: l) (w : World) (h : LIs R hb ab cap (x :: T) w) (hu : Heap (kf (x :: T)) (x :: T).length) :
    Calls Tryz.prog 44 #[.pointer (some ⟨hb, 0, none⟩)] w fun e w' => e = .returned (.tuple #[]) ∧ SkipIs R hb ab cap p l T w w' := by
  obtain ⟨a1, c1, b, o, c, a2, c2, e, f, F, x0, x1, x2, x3, r1, r2, x4, x5, x6, x7, y1, y2, y3, z1, z2, ek⟩ := h.head (i := 0) (by simp)
  have d1 := h.1.cell
  have hL := h.2.2.2.2.2
  obtain ⟨_, _, hcap, hm, _⟩ := h.1.block
  rw [List.length_map] at d1 hcap
  unfold maxLen at hm x2
  simp only [List.getD_cons_zero] at x0
  simp only [Nat.zero_mul, Nat.zero_add] at y1 y2 y3
  have I1 : (0 : Int) < (((x :: T).length : Nat) : Int) := by simp <;> omega
  have el : lnL e F = l := by rw [x0] at hx; exact (List.cons.inj hx).2
  cases F with
  | nil =>
    have q := jhPop R hb ab cap x T w h hu
    have H : Hid (∀ w', JPopIs R hb ab cap T w w' → SkipIs R hb ab cap p l T w w') := fun w' ⟨Y, y1, y2, y3, y4⟩ => ⟨Y, T, y1, by rw [← el]; rfl, y2, y3, y4⟩
    clear h hu x0 x1 r1 r2 x4 x5 x6 x7 z1 z2 ek el hx
    generalize (x :: T).length = N at *
    simp only [List.length_singleton] at y3 x3
    go_enter Tryz.func44, Tryz.ntmps44
    go_wp2_with fail
    refine q.mono ?_
    rintro e w1 ⟨⟨v, rfl⟩, h1⟩
    have HF : Hid _ := H.out w1 h1
    clear q h1 H
    go_wp2_with fail
    refine bodyPost_ret (results_none rfl _ _ _) rfl ?_
    exact ⟨rfl, HF.out⟩
  | cons f2 F =>
    have hc := x4.cap
    have LX : LOk R (.agg #[.slice a1 e.1.length c1, .int .i64 e.2, .slice (some ⟨b, o + 2, none⟩) (f2 :: F).length (c - 1)], lnL e (f2 :: F)) :=
      ⟨_, _, e, f2 :: F, rfl, rfl, r1, x4.tail, by simp, (List.pairwise_cons.1 x5).2, x6, fun y hy => x7 y (by simp [hy]), by simp at x3 ⊢; omega⟩
    have hv : ((x :: T).map (·.1))[0]'(by simp) = .agg #[.slice a1 e.1.length c1, .int .i64 e.2, .slice (some ⟨b, o, none⟩) (f :: f2 :: F).length c] := by simp [x0]
    have hp := h.1.put3 0 (by simp) (a := .slice a1 e.1.length c1) (b := .int .i64 e.2) (c := .slice (some ⟨b, o, none⟩) (f :: f2 :: F).length c) (c' := .slice (some ⟨b, o + 2, none⟩) (f2 :: F).length (c - 1)) (by rw [hv]; rfl)
    have HL : LIs R hb ab cap ((.agg #[.slice a1 e.1.length c1, .int .i64 e.2, .slice (some ⟨b, o + 2, none⟩) (f2 :: F).length (c - 1)], lnL e (f2 :: F)) :: T) (w.setCell ⟨ab, 2, none⟩ (.slice (some ⟨b, o + 2, none⟩) (f2 :: F).length (c - 1))) := by
      refine ⟨?_, fun y hy => ?_, h.2.2.1.set h.2.2.2.2.1 _, h.2.2.2.1, h.2.2.2.2.1, by simpa using hL⟩
      · simpa using hp
      · rcases List.mem_cons.1 hy with rfl | hy
        · exact LX
        · exact h.2.1 y (by simp [hy])
    have HU : HeapDown (kf ((.agg #[.slice a1 e.1.length c1, .int .i64 e.2, .slice (some ⟨b, o + 2, none⟩) (f2 :: F).length (c - 1)], lnL e (f2 :: F)) :: T)) (x :: T).length 0 := by
      have := heap_first (.agg #[.slice a1 e.1.length c1, .int .i64 e.2, .slice (some ⟨b, o + 2, none⟩) (f2 :: F).length (c - 1)], lnL e (f2 :: F)) hu
      rwa [List.set_cons_zero] at this
    have q := jhFix R hb ab cap _ _ HL (by simp) (by simpa using HU)
    have fz := h.1.fz 2
    have H : Hid (∀ w', JpIs R hb ab cap ((.agg #[.slice a1 e.1.length c1, .int .i64 e.2, .slice (some ⟨b, o + 2, none⟩) (f2 :: F).length (c - 1)], lnL e (f2 :: F)) :: T) (w.setCell ⟨ab, 2, none⟩ (.slice (some ⟨b, o + 2, none⟩) (f2 :: F).length (c - 1))) w' → SkipIs R hb ab cap p l T w w') := fun w' h' => by
      obtain ⟨Y, y1, y2, y3, y4, y5⟩ := h'.len
      exact ⟨Y, _, y2, by rw [flat_cons, ← el], y3, y4, Off.of_r ((But.set _ _).trans y5)⟩
    clear h hu x0 x1 r1 r2 x4 x5 x6 x7 z1 z2 ek el hx LX hv hp HL HU
    have K1 : (f2 :: F).length + 1 = (f :: f2 :: F).length := by simp
    have K2 : 1 ≤ (f2 :: F).length := by simp
    generalize (x :: T).length = N at *
    generalize (f2 :: F).length = m2 at *
    generalize (f :: f2 :: F).length = m1 at *
    generalize e.1.length = n1 at *
    generalize e.2 = k1 at *
    obtain rfl : m1 = m2 + 1 := K1.symm
    have I2 : (((m2 + 1 : Nat) : Int) == 1) = false := by simp; omega
    have I3 : ¬ c = 1 := by omega
    go_enter Tryz.func44, Tryz.ntmps44
    go_wp2_with fail
    refine q.mono ?_
    rintro e w1 ⟨rfl, h1⟩
    have HF : Hid _ := H.out w1 h1
    clear q h1 H
    go_wp2_with fail
    go_end0
    exact ⟨rfl, HF.out⟩
end Go.Proofs.YtlafokjkpbhckaaGreatDoor
