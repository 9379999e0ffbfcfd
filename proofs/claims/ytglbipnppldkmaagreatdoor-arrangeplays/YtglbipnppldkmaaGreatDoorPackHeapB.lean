/- Texts of one claim, one behind the other. -/
import Derived.Test.YtglbipnppldkmaaGreatDoorPackSetsB
import Derived.Test.YtglbipnppldkmaaGreatDoorRowCmpB
import Derived.Test.YtglbipnppldkmaaGreatDoorRowStoreB
import Derived.Handy
/- What a queue's methods answer: through the interface of container/heap. -/
namespace Go.Proofs.YtglbipnppldkmaaGreatDoor
open Go.RowKit Go.Sort
set_option maxRecDepth 100000
theorem m_len0 (k : Nat) (w : World) (hb o : Nat) : (method (k + 1) 171 (.pointer (some ⟨hb, o, none⟩)) "Len").run Tryz.prog w = (do let x ← loadVar 136 ⟨hb, o, none⟩; pure (162, x) : Sem (FuncId × Value)).run Tryz.prog w := by kernel_rfl
theorem m_less0 (k : Nat) (w : World) (hb o : Nat) : (method (k + 1) 171 (.pointer (some ⟨hb, o, none⟩)) "Less").run Tryz.prog w = (do let x ← loadVar 136 ⟨hb, o, none⟩; pure (163, x) : Sem (FuncId × Value)).run Tryz.prog w := by kernel_rfl
theorem m_swap0 (k : Nat) (w : World) (hb o : Nat) : (method (k + 1) 171 (.pointer (some ⟨hb, o, none⟩)) "Swap").run Tryz.prog w = (do let x ← loadVar 136 ⟨hb, o, none⟩; pure (164, x) : Sem (FuncId × Value)).run Tryz.prog w := by kernel_rfl
theorem m_len {w : World} {hb o : Nat} {a : Option Addr} {n c : Nat} (h : w.cell? ⟨hb, o, none⟩ = some (.slice a n c)) : ∀ f, 0 < f → (method f 171 (.pointer (some ⟨hb, o, none⟩)) "Len").run Tryz.prog w = .ok (162, .slice a n c) w := by
  intro f hf
  obtain ⟨k, rfl⟩ : ∃ k, f = k + 1 := ⟨f - 1, by omega⟩
  rw [m_len0]; simp [go_sem, h]
theorem m_less {w : World} {hb o : Nat} {a : Option Addr} {n c : Nat} (h : w.cell? ⟨hb, o, none⟩ = some (.slice a n c)) : ∀ f, 0 < f → (method f 171 (.pointer (some ⟨hb, o, none⟩)) "Less").run Tryz.prog w = .ok (163, .slice a n c) w := by
  intro f hf
  obtain ⟨k, rfl⟩ : ∃ k, f = k + 1 := ⟨f - 1, by omega⟩
  rw [m_less0]; simp [go_sem, h]
theorem m_swap {w : World} {hb o : Nat} {a : Option Addr} {n c : Nat} (h : w.cell? ⟨hb, o, none⟩ = some (.slice a n c)) : ∀ f, 0 < f → (method f 171 (.pointer (some ⟨hb, o, none⟩)) "Swap").run Tryz.prog w = .ok (164, .slice a n c) w := by
  intro f hf
  obtain ⟨k, rfl⟩ : ∃ k, f = k + 1 := ⟨f - 1, by omega⟩
  rw [m_swap0]; simp [go_sem, h]
theorem qLen (a : Option Addr) (n c : Nat) (w : World) : Calls Tryz.prog 162 #[.slice a n c] w fun e w' => e = .returned (.int .i64 n) ∧ w' = w := by
  go_enter Tryz.func162, Tryz.ntmps162
  go_wp2_with fail
  go_ret
  exact ⟨rfl, rfl⟩
set_option maxHeartbeats 2000000 in
theorem qLess (w0 : World) (hb : Nat) (tH : Hd) (ab cap : Nat) (X : List QEnt) (i j : Nat) (w : World) (h : QIs w0 hb tH ab cap X w) (hi : i < X.length) (hj : j < X.length) (r : Bool) (hr : r = decide (cR (kf X i) (kf X j) < 0)) :
    Calls Tryz.prog 163 #[.slice (some ⟨ab, 0, none⟩) X.length cap, .int .i64 i, .int .i64 j] w fun e w' => e = .returned (.bool r) ∧ Below w.heap.size w w' := by
  obtain ⟨b1, o1, n1, c1, a1, d1, k1, _, p1, m1, x1, y1, _, z1⟩ := h.head hi
  obtain ⟨b2, o2, n2, c2, a2, d2, k2, _, p2, m2, x2, y2, _, z2⟩ := h.head hj
  have hL := h.2.2.2.2.2
  have q : Hid (∀ d os, Calls Tryz.prog 44 #[.slice a1 (kf X i).length d1, .slice a2 (kf X j).length d2] (grow (redrawn w d) os) fun e w'' => e = .returned (.int .i64 (cR (kf X i) (kf X j))) ∧ ∃ p : Regrown, w'' = grow (redrawn w p.d) p.os) :=
    fun d os => Calls.regrown_of (rowCompare _ _ _ _ _ (z1.on (below_regrown w d os)) (z2.on (below_regrown w d os)))
  have g1 := fun d os => cell_regrown x1 d os
  have g2 := fun d os => cell_regrown x2 d os
  have g3 := fun d os => cell_regrown y1 d os
  have g4 := fun d os => cell_regrown y2 d os
  generalize cR (kf X i) (kf X j) = s at *
  generalize (kf X i).length = l1 at *
  generalize (kf X j).length = l2 at *
  generalize X.length = N at *
  have I1 : (i : Int) < (N : Int) := by omega
  have I2 : (j : Int) < (N : Int) := by omega
  clear h z1 z2 x1 x2 y1 y2
  subst hr
  go_enter Tryz.func163, Tryz.ntmps163
  go_wp2_with fail
  refine wp_region_quiet_below (by kernel_rfl) (by kernel_rfl) ?_
  iterate 17 (quiet_step (exact q.out _ _))
  refine wpQuiet_nil ?_
  intro w6 hw6
  obtain ⟨p6, hw6⟩ := hw6
  have hb6 : Hid (Below w.heap.size w w6) := by rw [hw6]; exact below_regrown w _ _
  clear hw6 g1 g2 g3 g4 q
  go_wp2_with fail
  go_ret
  exact ⟨rfl, hb6.out⟩
set_option maxHeartbeats 2000000 in
theorem qSwap (w0 : World) (hb : Nat) (tH : Hd) (ab cap : Nat) (X : List QEnt) (i j : Nat) (w : World) (h : QIs w0 hb tH ab cap X w) (hi : i < X.length) (hj : j < X.length) :
    Calls Tryz.prog 164 #[.slice (some ⟨ab, 0, none⟩) X.length cap, .int .i64 i, .int .i64 j] w fun e w' => e = .returned (.tuple #[]) ∧ QIs w0 hb tH ab cap (sw X i j) w' ∧ But ab w w' := by
  have x1 := (h.get hi).2
  have x2 := (h.get hj).2
  have hL := h.2.2.2.2.2
  have f1 := h.1.fz i
  have f2 := h.1.fz j
  have F : Hid (∀ w', Below w.heap.size ((w.setCell ⟨ab, i, none⟩ (X.getD j qD).1).setCell ⟨ab, j, none⟩ (X.getD i qD).1) w' → QIs w0 hb tH ab cap (sw X i j) w' ∧ But ab w w') := fun w' hw' =>
    ⟨(h.sw hi hj).on (hw'.mono (by simp [World.setCell])), ((But.set _ _).trans (But.set _ _)).trans (But.of_below (hw'.mono (by simp [World.setCell])))⟩
  obtain ⟨_, _, _, _, _, _, _, e1, _⟩ := h.head hi
  obtain ⟨_, _, _, _, _, _, _, e2, _⟩ := h.head hj
  have P1 := h.1.put i (X.getD j qD).1
  have P2 := h.1.put j (X.getD i qD).1
  obtain ⟨u1, y1⟩ : ∃ u, (w.setCell ⟨ab, i, none⟩ (X.getD j qD).1).cell? ⟨ab, j, none⟩ = some u := ⟨_, P1.at j (by simpa using hj)⟩
  obtain ⟨u2, y2⟩ : ∃ u, (w.setCell ⟨ab, j, none⟩ (X.getD i qD).1).cell? ⟨ab, i, none⟩ = some u := ⟨_, P2.at i (by simpa using hi)⟩
  have f3 := P1.fz j
  have f4 := P2.fz i
  rw [e1] at x1 F y2 f4
  rw [e2] at x2 F y1 f3
  clear P1 P2
  generalize X.length = N at *
  have I1 : (i : Int) < (N : Int) := by omega
  have I2 : (j : Int) < (N : Int) := by omega
  clear h e1 e2
  go_enter Tryz.func164, Tryz.ntmps164
  go_wp2_with fail
  go_region
  all_goals (go_end0; exact ⟨rfl, F.out _ ((Below.refl _ _).drew)⟩)
end Go.Proofs.YtglbipnppldkmaaGreatDoor
/- What container/heap's up and down answer of a queue. -/
namespace Go.Proofs.YtglbipnppldkmaaGreatDoor
open Go.RowKit Go.Sort
set_option maxRecDepth 100000
/-- How far up has come. -/
def HUpTo (w0 : World) (hb : Nat) (tH : Hd) (ab cap : Nat) (X : List QEnt) (w : World) (j : Nat) (Y : List QEnt) (wr : World) : Prop := Y.Perm X ∧ HeapUp (kf Y) X.length j ∧ QIs w0 hb tH ab cap Y wr ∧ But ab w wr
/-- Where it ends. -/
def HpIs (w0 : World) (hb : Nat) (tH : Hd) (ab cap : Nat) (X : List QEnt) (w : World) (wr : World) : Prop := ∃ Y, Y.Perm X ∧ Heap (kf Y) X.length ∧ QIs w0 hb tH ab cap Y wr ∧ But ab w wr
set_option maxHeartbeats 2000000 in
theorem heapUp (w0 : World) (hb : Nat) (tH : Hd) (ab cap : Nat) (X : List QEnt) (j : Nat) (w : World) (h : QIs w0 hb tH ab cap X w) (hj : j < X.length) (hu : HeapUp (kf X) X.length j) :
    Calls Tryz.prog 138 #[.iface 171 (.pointer (some ⟨hb, tH.o, none⟩)), .int .i64 j] w fun e w' => e = .returned (.tuple #[]) ∧ HpIs w0 hb tH ab cap X w w' := by
  have hL := h.2.2.2.2.2
  have F0 : Hid (HUpTo w0 hb tH ab cap X w j X w) := ⟨List.Perm.refl _, hu, h, But.refl _ _⟩
  clear h hu
  go_enter Tryz.func138, Tryz.ntmps138
  go_wp2_with fail
  go_loopw [1] (fun s wr => ∃ (i : Nat) (Y : List QEnt), s = .int .i64 i ∧ i < X.length ∧ HUpTo w0 hb tH ab cap X w i Y wr) (fun s _ => (intOf s).toNat)
  case atStart => exact ⟨j, X, rfl, hj, F0.out⟩
  case round =>
    clear F0 hj
    obtain ⟨i, Y, rfl, hi, u1, u2, u3, u4⟩ := hrel
    have hY : Y.length = X.length := u1.length_eq
    by_cases h0 : i = 0
    · subst h0
      have F : Hid (HpIs w0 hb tH ab cap X w wr) := ⟨Y, u1, hup_end u2 (.inl rfl), u3, u4⟩
      clear u1 u2 u3 u4
      go_wp2_with fail
      go_end0
      exact ⟨rfl, F.out⟩
    · have hp := par_lt (show 0 < i by omega)
      have E1 : Hid (((i : Int) - 1) / 2 = ((par i : Nat) : Int)) := by show _ = _; unfold par; omega
      have bq : (((i : Int) - 1) / 2 == (i : Int)) = false := by rw [E1.out]; simp; omega
      have hm := m_less u3.1.cell
      rw [List.length_map, hY] at hm
      obtain ⟨c, hc⟩ : ∃ c, c = decide (cR (kf Y i) (kf Y (par i)) < 0) := ⟨_, rfl⟩
      have q : Hid (Calls Tryz.prog 163 #[.slice (some ⟨ab, 0, none⟩) X.length cap, .int .i64 i, .int .i64 (((i : Int) - 1) / 2)] wr fun e w' => e = .returned (.bool c) ∧ Below wr.heap.size wr w') := by
        rw [E1.out, ← hY]; exact qLess w0 hb tH ab cap Y i (par i) wr u3 (by omega) (by omega) c hc
      have HB : Hid (∀ w1, Below wr.heap.size wr w1 → (c = false → HpIs w0 hb tH ab cap X w w1) ∧ (c = true → HUpTo w0 hb tH ab cap X w i Y w1 ∧ ∀ w2, QIs w0 hb tH ab cap (sw Y (par i) i) w2 → But ab w1 w2 → HUpTo w0 hb tH ab cap X w (par i) (sw Y (par i) i) w2)) := fun w1 hB =>
        ⟨fun e => ⟨Y, u1, hup_end u2 (.inr (by rw [e] at hc; simpa using hc.symm)), u3.on hB, u4.trans (But.of_below hB)⟩,
         fun e => ⟨⟨u1, u2, u3.on hB, u4.trans (But.of_below hB)⟩, fun w2 h2 h3 => ⟨(sw_perm (by omega) (by omega)).trans u1, by rw [kf_sw (by omega) (by omega)]; exact hup_step u2 (by omega) hi (by rw [e] at hc; simpa using hc.symm), h2, (u4.trans (But.of_below hB)).trans h3⟩⟩⟩
      clear u1 u2 u3 u4 hc
      go_wp2_with fail
      refine q.out.mono ?_
      rintro e w1 ⟨rfl, hb1⟩
      have H1 := HB.out w1 hb1
      clear q hm HB hb1
      cases c
      · have F : Hid (HpIs w0 hb tH ab cap X w w1) := H1.1 rfl
        clear H1
        go_wp2_with fail
        go_end0
        exact ⟨rfl, F.out⟩
      · obtain ⟨v1, v2⟩ := H1.2 rfl
        have hm := m_swap v1.2.2.1.1.cell
        rw [List.length_map, hY] at hm
        have q : Hid (Calls Tryz.prog 164 #[.slice (some ⟨ab, 0, none⟩) X.length cap, .int .i64 (((i : Int) - 1) / 2), .int .i64 i] w1 fun e w' => e = .returned (.tuple #[]) ∧ QIs w0 hb tH ab cap (sw Y (par i) i) w' ∧ But ab w1 w') := by
          rw [E1.out, ← hY]; exact qSwap w0 hb tH ab cap Y (par i) i w1 v1.2.2.1 (by omega) (by omega)
        have V2 : Hid (∀ w2, QIs w0 hb tH ab cap (sw Y (par i) i) w2 → But ab w1 w2 → HUpTo w0 hb tH ab cap X w (par i) (sw Y (par i) i) w2) := v2
        clear H1 v1 v2
        go_wp2_with fail
        refine q.out.mono ?_
        rintro e w2 ⟨rfl, h2, h3⟩
        have F := V2.out w2 h2 h3
        clear q hm V2 h2 h3
        go_wp2_with fail
        go_roundw
        case rel => exact ⟨par i, sw Y (par i) i, by rw [E1.out], by omega, F⟩
        case measure => rw [E1.out]; simp [intOf]; omega
end Go.Proofs.YtglbipnppldkmaaGreatDoor
/- What container/heap's down answers of a queue. -/
namespace Go.Proofs.YtglbipnppldkmaaGreatDoor
open Go.RowKit Go.Sort
set_option maxRecDepth 100000
/-- How far down has come. -/
def HDownTo (w0 : World) (hb : Nat) (tH : Hd) (ab cap : Nat) (X : List QEnt) (n : Nat) (w : World) (i : Nat) (Y : List QEnt) (wr : World) : Prop := Y.Perm X ∧ HeapDown (kf Y) n i ∧ (∀ k, n ≤ k → Y.getD k qD = X.getD k qD) ∧ QIs w0 hb tH ab cap Y wr ∧ But ab w wr
/-- Where it ends. -/
def HpUpto (w0 : World) (hb : Nat) (tH : Hd) (ab cap : Nat) (X : List QEnt) (n : Nat) (w : World) (wr : World) : Prop := ∃ Y, Y.Perm X ∧ Heap (kf Y) n ∧ (∀ k, n ≤ k → Y.getD k qD = X.getD k qD) ∧ QIs w0 hb tH ab cap Y wr ∧ But ab w wr
theorem HDownTo.on {w0 : World} {hb : Nat} {tH : Hd} {ab cap : Nat} {X : List QEnt} {n : Nat} {w : World} {i : Nat} {Y : List QEnt} {wr w1 : World} (h : HDownTo w0 hb tH ab cap X n w i Y wr) (hB : Below wr.heap.size wr w1) : HDownTo w0 hb tH ab cap X n w i Y w1 :=
  ⟨h.1, h.2.1, h.2.2.1, h.2.2.2.1.on hB, h.2.2.2.2.trans (But.of_below hB)⟩
/-- The lesser one below. -/
def Least (Y : List QEnt) (n i j : Nat) : Prop := 0 < j ∧ j < n ∧ par j = i ∧ i < j ∧ ∀ k, 0 < k → k < n → par k = i → cR (kf Y j) (kf Y k) ≤ 0
theorem HDownTo.fin {w0 : World} {hb : Nat} {tH : Hd} {ab cap : Nat} {X : List QEnt} {n : Nat} {w : World} {i j : Nat} {Y : List QEnt} {wr : World} (h : HDownTo w0 hb tH ab cap X n w i Y wr) (hl : Least Y n i j) (hn : ¬ cR (kf Y j) (kf Y i) < 0) : HpUpto w0 hb tH ab cap X n w wr :=
  ⟨Y, h.1, hdown_end h.2.1 (fun k h1 h2 h3 => cR_trans _ _ _ (cR_le_of_nlt hn) (hl.2.2.2.2 k h1 h2 h3)), h.2.2.1, h.2.2.2⟩
theorem HDownTo.last {w0 : World} {hb : Nat} {tH : Hd} {ab cap : Nat} {X : List QEnt} {n : Nat} {w : World} {i : Nat} {Y : List QEnt} {wr : World} (h : HDownTo w0 hb tH ab cap X n w i Y wr) (hn : n ≤ 2 * i + 1) : HpUpto w0 hb tH ab cap X n w wr :=
  ⟨Y, h.1, hdown_end h.2.1 (fun k h1 h2 h3 => by have := par_is h1 h3; omega), h.2.2.1, h.2.2.2⟩
theorem HDownTo.step {w0 : World} {hb : Nat} {tH : Hd} {ab cap : Nat} {X : List QEnt} {n : Nat} {w : World} {i j : Nat} {Y : List QEnt} {wr w2 : World} (h : HDownTo w0 hb tH ab cap X n w i Y wr) (hn : n ≤ X.length) (hl : Least Y n i j) (hc : cR (kf Y j) (kf Y i) < 0) (h2 : QIs w0 hb tH ab cap (sw Y i j) w2) (h3 : But ab wr w2) : HDownTo w0 hb tH ab cap X n w j (sw Y i j) w2 := by
  have hY : Y.length = X.length := h.1.length_eq
  obtain ⟨l1, l2, l3, l4, l5⟩ := hl
  refine ⟨(sw_perm (by omega) (by omega)).trans h.1, by rw [kf_sw (by omega) (by omega)]; exact hdown_step h.2.1 l1 l2 l3 l5 hc, fun k hk => ?_, h2, h.2.2.2.2.trans h3⟩
  rw [sw_at (by omega) (by omega), swF_o _ (by omega) (by omega)]; exact h.2.2.1 k hk
theorem least_one {Y : List QEnt} {n i : Nat} (h : 2 * i + 1 < n) (h2 : ¬ 2 * i + 2 < n) : Least Y n i (2 * i + 1) :=
  ⟨by omega, h, par_1 i, by omega, fun k h3 h4 h5 => by
    rcases par_is h3 h5 with rfl | rfl
    · rw [cR_self]; omega
    · omega⟩
theorem least_l {Y : List QEnt} {n i : Nat} (h : 2 * i + 1 < n) (hc : ¬ cR (kf Y (2 * i + 2)) (kf Y (2 * i + 1)) < 0) : Least Y n i (2 * i + 1) :=
  ⟨by omega, h, par_1 i, by omega, fun k h3 h4 h5 => by
    rcases par_is h3 h5 with rfl | rfl
    · rw [cR_self]; omega
    · exact cR_le_of_nlt hc⟩
theorem least_r {Y : List QEnt} {n i : Nat} (h : 2 * i + 2 < n) (hc : cR (kf Y (2 * i + 2)) (kf Y (2 * i + 1)) < 0) : Least Y n i (2 * i + 2) :=
  ⟨by omega, h, par_2 i, by omega, fun k h3 h4 h5 => by
    rcases par_is h3 h5 with rfl | rfl
    · omega
    · rw [cR_self]; omega⟩
set_option maxHeartbeats 4000000 in
theorem heapDown (w0 : World) (hb : Nat) (tH : Hd) (ab cap : Nat) (X : List QEnt) (j n : Nat) (w : World) (h : QIs w0 hb tH ab cap X w) (hn : n ≤ X.length) (hj : j ≤ X.length) (hu : HeapDown (kf X) n j) :
    Calls Tryz.prog 143 #[.iface 171 (.pointer (some ⟨hb, tH.o, none⟩)), .int .i64 j, .int .i64 n] w fun e w' => (∃ b, e = .returned (.bool b)) ∧ HpUpto w0 hb tH ab cap X n w w' := by
  have hL := h.2.2.2.2.2
  have F0 : Hid (HDownTo w0 hb tH ab cap X n w j X w) := ⟨List.Perm.refl _, hu, fun _ _ => rfl, h, But.refl _ _⟩
  clear h hu
  go_enter Tryz.func143, Tryz.ntmps143
  go_wp2_with fail
  go_loopw [7] (fun s wr => ∃ (i : Nat) (Y : List QEnt), s = .int .i64 i ∧ i ≤ X.length ∧ HDownTo w0 hb tH ab cap X n w i Y wr) (fun s _ => n - (intOf s).toNat)
  case atStart => exact ⟨j, X, rfl, hj, F0.out⟩
  case round =>
    clear F0
    obtain ⟨i, Y, rfl, hi, u0⟩ := hrel
    have hY : Y.length = X.length := u0.1.length_eq
    by_cases h1 : 2 * i + 1 < n
    · have I1 : ¬ (n : Int) ≤ 2 * (i : Int) + 1 := by omega
      have I0 : ¬ 2 * (i : Int) + 1 < 0 := by omega
      have E1 : Hid (2 * (i : Int) + 1 = ((2 * i + 1 : Nat) : Int)) := by show _ = _; omega
      have E2 : Hid (2 * (i : Int) + 1 + 1 = ((2 * i + 2 : Nat) : Int)) := by show _ = _; omega
      by_cases h2 : 2 * i + 2 < n
      · have I2 : 2 * (i : Int) + 1 + 1 < (n : Int) := by omega
        have hm := m_less u0.2.2.2.1.1.cell
        rw [List.length_map, hY] at hm
        obtain ⟨c, hc⟩ : ∃ c, c = decide (cR (kf Y (2 * i + 2)) (kf Y (2 * i + 1)) < 0) := ⟨_, rfl⟩
        have q : Hid (Calls Tryz.prog 163 #[.slice (some ⟨ab, 0, none⟩) X.length cap, .int .i64 (2 * (i : Int) + 1 + 1), .int .i64 (2 * (i : Int) + 1)] wr fun e w' => e = .returned (.bool c) ∧ Below wr.heap.size wr w') := by
          rw [E2.out, E1.out, ← hY]; exact qLess w0 hb tH ab cap Y (2 * i + 2) (2 * i + 1) wr u0.2.2.2.1 (by omega) (by omega) c hc
        have U0 : Hid (HDownTo w0 hb tH ab cap X n w i Y wr) := u0
        have HC : Hid (c = decide (cR (kf Y (2 * i + 2)) (kf Y (2 * i + 1)) < 0)) := hc
        clear u0 hc
        go_wp2_with fail
        refine q.out.mono ?_
        rintro e w1 ⟨rfl, hb1⟩
        have u1 := U0.out.on hb1
        clear q hm hb1 U0
        cases c
        · have hl : Least Y n i (2 * i + 1) := least_l h1 (by have := HC.out; simpa using this.symm)
          clear HC
          have hm := m_less u1.2.2.2.1.1.cell
          rw [List.length_map, hY] at hm
          obtain ⟨c, hc⟩ : ∃ c, c = decide (cR (kf Y (2 * i + 1)) (kf Y i) < 0) := ⟨_, rfl⟩
          have q : Hid (Calls Tryz.prog 163 #[.slice (some ⟨ab, 0, none⟩) X.length cap, .int .i64 (2 * (i : Int) + 1), .int .i64 i] w1 fun e w' => e = .returned (.bool c) ∧ Below w1.heap.size w1 w') := by
            rw [E1.out, ← hY]; exact qLess w0 hb tH ab cap Y (2 * i + 1) i w1 u1.2.2.2.1 (by omega) (by omega) c hc
          have U1 : Hid (HDownTo w0 hb tH ab cap X n w i Y w1) := u1
          have HC : Hid (c = decide (cR (kf Y (2 * i + 1)) (kf Y i) < 0)) := hc
          have HL : Hid (Least Y n i (2 * i + 1)) := hl
          clear u1 hc hl
          go_wp2_with fail
          refine q.out.mono ?_
          rintro e w2 ⟨rfl, hb2⟩
          have u2 := U1.out.on hb2
          clear q hm hb2 U1
          cases c
          · have F : Hid (HpUpto w0 hb tH ab cap X n w w2) := u2.fin HL.out (by have := HC.out; simpa using this.symm)
            clear u2 HC HL
            go_wp2_with fail
            go_ret
            exact ⟨⟨_, rfl⟩, F.out⟩
          · have hm := m_swap u2.2.2.2.1.1.cell
            rw [List.length_map, hY] at hm
            have q : Hid (Calls Tryz.prog 164 #[.slice (some ⟨ab, 0, none⟩) X.length cap, .int .i64 i, .int .i64 (2 * (i : Int) + 1)] w2 fun e w' => e = .returned (.tuple #[]) ∧ QIs w0 hb tH ab cap (sw Y i (2 * i + 1)) w' ∧ But ab w2 w') := by
              rw [E1.out, ← hY]; exact qSwap w0 hb tH ab cap Y i (2 * i + 1) w2 u2.2.2.2.1 (by omega) (by omega)
            have U2 : Hid (∀ w3, QIs w0 hb tH ab cap (sw Y i (2 * i + 1)) w3 → But ab w2 w3 → HDownTo w0 hb tH ab cap X n w (2 * i + 1) (sw Y i (2 * i + 1)) w3) := fun w3 h2 h3 => u2.step hn HL.out (by have := HC.out; simpa using this.symm) h2 h3
            clear u2 HC HL
            go_wp2_with fail
            refine q.out.mono ?_
            rintro e w3 ⟨rfl, h2, h3⟩
            have F := U2.out w3 h2 h3
            clear q hm U2 h2 h3
            go_wp2_with fail
            go_roundw
            case rel => exact ⟨2 * i + 1, sw Y i (2 * i + 1), by rw [E1.out], by omega, F⟩
            case measure => rw [E1.out]; simp only [intOf]; omega
        · have hl : Least Y n i (2 * i + 2) := least_r h2 (by have := HC.out; simpa using this.symm)
          clear HC
          have hm := m_less u1.2.2.2.1.1.cell
          rw [List.length_map, hY] at hm
          obtain ⟨c, hc⟩ : ∃ c, c = decide (cR (kf Y (2 * i + 2)) (kf Y i) < 0) := ⟨_, rfl⟩
          have q : Hid (Calls Tryz.prog 163 #[.slice (some ⟨ab, 0, none⟩) X.length cap, .int .i64 (2 * (i : Int) + 1 + 1), .int .i64 i] w1 fun e w' => e = .returned (.bool c) ∧ Below w1.heap.size w1 w') := by
            rw [E2.out, ← hY]; exact qLess w0 hb tH ab cap Y (2 * i + 2) i w1 u1.2.2.2.1 (by omega) (by omega) c hc
          have U1 : Hid (HDownTo w0 hb tH ab cap X n w i Y w1) := u1
          have HC : Hid (c = decide (cR (kf Y (2 * i + 2)) (kf Y i) < 0)) := hc
          have HL : Hid (Least Y n i (2 * i + 2)) := hl
          clear u1 hc hl
          go_wp2_with fail
          refine q.out.mono ?_
          rintro e w2 ⟨rfl, hb2⟩
          have u2 := U1.out.on hb2
          clear q hm hb2 U1
          cases c
          · have F : Hid (HpUpto w0 hb tH ab cap X n w w2) := u2.fin HL.out (by have := HC.out; simpa using this.symm)
            clear u2 HC HL
            go_wp2_with fail
            go_ret
            exact ⟨⟨_, rfl⟩, F.out⟩
          · have hm := m_swap u2.2.2.2.1.1.cell
            rw [List.length_map, hY] at hm
            have q : Hid (Calls Tryz.prog 164 #[.slice (some ⟨ab, 0, none⟩) X.length cap, .int .i64 i, .int .i64 (2 * (i : Int) + 1 + 1)] w2 fun e w' => e = .returned (.tuple #[]) ∧ QIs w0 hb tH ab cap (sw Y i (2 * i + 2)) w' ∧ But ab w2 w') := by
              rw [E2.out, ← hY]; exact qSwap w0 hb tH ab cap Y i (2 * i + 2) w2 u2.2.2.2.1 (by omega) (by omega)
            have U2 : Hid (∀ w3, QIs w0 hb tH ab cap (sw Y i (2 * i + 2)) w3 → But ab w2 w3 → HDownTo w0 hb tH ab cap X n w (2 * i + 2) (sw Y i (2 * i + 2)) w3) := fun w3 h2 h3 => u2.step hn HL.out (by have := HC.out; simpa using this.symm) h2 h3
            clear u2 HC HL
            go_wp2_with fail
            refine q.out.mono ?_
            rintro e w3 ⟨rfl, h2, h3⟩
            have F := U2.out w3 h2 h3
            clear q hm U2 h2 h3
            go_wp2_with fail
            go_roundw
            case rel => exact ⟨2 * i + 2, sw Y i (2 * i + 2), by rw [E2.out], by omega, F⟩
            case measure => rw [E2.out]; simp only [intOf]; omega
      · have I2 : ¬ 2 * (i : Int) + 1 + 1 < (n : Int) := by omega
        have hl : Least Y n i (2 * i + 1) := least_one h1 h2
        obtain ⟨w1, u1, e1⟩ : ∃ w1, HDownTo w0 hb tH ab cap X n w i Y w1 ∧ w1 = wr := ⟨wr, u0, rfl⟩
        subst e1
        clear u0
        have hm := m_less u1.2.2.2.1.1.cell
        rw [List.length_map, hY] at hm
        obtain ⟨c, hc⟩ : ∃ c, c = decide (cR (kf Y (2 * i + 1)) (kf Y i) < 0) := ⟨_, rfl⟩
        have q : Hid (Calls Tryz.prog 163 #[.slice (some ⟨ab, 0, none⟩) X.length cap, .int .i64 (2 * (i : Int) + 1), .int .i64 i] w1 fun e w' => e = .returned (.bool c) ∧ Below w1.heap.size w1 w') := by
          rw [E1.out, ← hY]; exact qLess w0 hb tH ab cap Y (2 * i + 1) i w1 u1.2.2.2.1 (by omega) (by omega) c hc
        have U1 : Hid (HDownTo w0 hb tH ab cap X n w i Y w1) := u1
        have HC : Hid (c = decide (cR (kf Y (2 * i + 1)) (kf Y i) < 0)) := hc
        have HL : Hid (Least Y n i (2 * i + 1)) := hl
        clear u1 hc hl
        go_wp2_with fail
        refine q.out.mono ?_
        rintro e w2 ⟨rfl, hb2⟩
        have u2 := U1.out.on hb2
        clear q hm hb2 U1
        cases c
        · have F : Hid (HpUpto w0 hb tH ab cap X n w w2) := u2.fin HL.out (by have := HC.out; simpa using this.symm)
          clear u2 HC HL
          go_wp2_with fail
          go_ret
          exact ⟨⟨_, rfl⟩, F.out⟩
        · have hm := m_swap u2.2.2.2.1.1.cell
          rw [List.length_map, hY] at hm
          have q : Hid (Calls Tryz.prog 164 #[.slice (some ⟨ab, 0, none⟩) X.length cap, .int .i64 i, .int .i64 (2 * (i : Int) + 1)] w2 fun e w' => e = .returned (.tuple #[]) ∧ QIs w0 hb tH ab cap (sw Y i (2 * i + 1)) w' ∧ But ab w2 w') := by
            rw [E1.out, ← hY]; exact qSwap w0 hb tH ab cap Y i (2 * i + 1) w2 u2.2.2.2.1 (by omega) (by omega)
          have U2 : Hid (∀ w3, QIs w0 hb tH ab cap (sw Y i (2 * i + 1)) w3 → But ab w2 w3 → HDownTo w0 hb tH ab cap X n w (2 * i + 1) (sw Y i (2 * i + 1)) w3) := fun w3 h2 h3 => u2.step hn HL.out (by have := HC.out; simpa using this.symm) h2 h3
          clear u2 HC HL
          go_wp2_with fail
          refine q.out.mono ?_
          rintro e w3 ⟨rfl, h2, h3⟩
          have F := U2.out w3 h2 h3
          clear q hm U2 h2 h3
          go_wp2_with fail
          go_roundw
          case rel => exact ⟨2 * i + 1, sw Y i (2 * i + 1), by rw [E1.out], by omega, F⟩
          case measure => rw [E1.out]; simp only [intOf]; omega
    · have I1 : (n : Int) ≤ 2 * (i : Int) + 1 := by omega
      have F : Hid (HpUpto w0 hb tH ab cap X n w wr) := u0.last (by omega)
      clear u0
      go_wp2_with fail
      go_ret
      exact ⟨⟨_, rfl⟩, F.out⟩
end Go.Proofs.YtglbipnppldkmaaGreatDoor
