/- What container/heap's Push, Pop and Fix answer of a queue. -/
import Derived.Test.YtglbipnppldkmaaGreatDoorPackHeapB
import Derived.Test.YtglbipnppldkmaaGreatDoorStepCallB
namespace Go.Proofs.YtglbipnppldkmaaGreatDoor
open Go.RowKit Go.Sort
set_option maxRecDepth 100000
theorem info_list : (Tryz.prog.info? 29).map (fun i => (i.zero, i.size, i.bytes)) = some (some (.slice none 0 0), 1, 24) := by kernel_rfl
theorem HpIs.len {w0 : World} {hb : Nat} {tH : Hd} {ab cap : Nat} {X : List QEnt} {w w' : World} (h : HpIs w0 hb tH ab cap X w w') : ∃ Y, Y.length = X.length ∧ Y.Perm X ∧ Heap (kf Y) Y.length ∧ QIs w0 hb tH ab cap Y w' ∧ But ab w w' := by
  obtain ⟨Y, h1, h2, h3, h4⟩ := h
  exact ⟨Y, h1.length_eq, h1, by rw [h1.length_eq]; exact h2, h3, h4⟩
set_option maxHeartbeats 2000000 in
theorem heapFix (w0 : World) (hb : Nat) (tH : Hd) (ab cap : Nat) (X : List QEnt) (w : World) (h : QIs w0 hb tH ab cap X w) (hl : 0 < X.length) (hu : HeapDown (kf X) X.length 0) :
    Calls Tryz.prog 137 #[.iface 171 (.pointer (some ⟨hb, tH.o, none⟩)), .int .i64 0] w fun e w' => e = .returned (.tuple #[]) ∧ HpIs w0 hb tH ab cap X w w' := by
  have hm := m_len h.1.cell
  rw [List.length_map] at hm
  have q1 := fun a n c => qLen a n c w
  have q2 := heapDown w0 hb tH ab cap X 0 X.length w h (Nat.le_refl _) (by omega) hu
  clear h hu
  go_enter Tryz.func137, Tryz.ntmps137
  go_wp2_with fail
  refine (q1 _ _ _).mono ?_
  rintro e w1 ⟨rfl, rfl⟩
  clear q1 hm
  go_wp2_with fail
  refine q2.mono ?_
  rintro e w2 ⟨⟨b, rfl⟩, Y, y1, y2, y3, y4, y5⟩
  clear q2
  have hY : Y.length = X.length := y1.length_eq
  cases b
  · have q3 := heapUp w0 hb tH ab cap Y 0 w2 y4 (by omega) (by rw [hY]; exact heap_up0 y2)
    have H : Hid (∀ w3, HpIs w0 hb tH ab cap Y w2 w3 → HpIs w0 hb tH ab cap X w1 w3) := fun w3 ⟨Z, z1, z2, z3, z4⟩ => ⟨Z, z1.trans y1, by rw [← hY]; exact z2, z3, y5.trans z4⟩
    clear y1 y2 y3 y4 y5 hY
    go_wp2_with fail
    refine q3.mono ?_
    rintro e w3 ⟨rfl, h3⟩
    have F : Hid (HpIs w0 hb tH ab cap X w1 w3) := H.out _ h3
    clear q3 H h3
    go_wp2_with fail
    go_end0
    exact ⟨rfl, F.out⟩
  · have F : Hid (HpIs w0 hb tH ab cap X w1 w2) := ⟨Y, y1, y2, y4, y5⟩
    clear y1 y2 y3 y4 y5 hY
    go_wp2_with fail
    go_end0
    exact ⟨rfl, F.out⟩
set_option maxHeartbeats 2000000 in
/-- The queue's own Pop. -/
theorem qPop (w0 : World) (hb : Nat) (tH : Hd) (ab cap : Nat) (X : List QEnt) (n : Nat) (hn : X.length = n + 1) (w : World) (h : QIs w0 hb tH ab cap X w) :
    Calls Tryz.prog 165 #[.pointer (some ⟨hb, tH.o, none⟩)] w fun e w' => (∃ v, e = .returned v) ∧ QIs w0 hb tH ab cap (X.take n) w' ∧ But hb w w' := by
  have c1 := h.1.cell
  have f1 := h.1.frozen
  have x1 := (h.get (show n < X.length by omega)).2
  have hL := h.2.2.2.2.2
  obtain ⟨_, _, _, _, _, _, _, e1, _⟩ := h.head (show n < X.length by omega)
  rw [e1] at x1
  have F : Hid (QIs w0 hb tH ab cap (X.take n) (w.setCell ⟨hb, tH.o, none⟩ (.slice (some ⟨ab, 0, none⟩) n cap))) := h.cut n (by omega)
  obtain ⟨_, _, hcap, hm, _⟩ := h.1.block
  rw [List.length_map, hn] at c1 hcap
  unfold maxLen at hm
  clear h e1
  go_enter Tryz.func165, Tryz.ntmps165
  go_wp2_with fail
  go_ret
  exact ⟨⟨_, rfl⟩, F.out, But.set _ _⟩
/-- Where Pop ends: without the first one. -/
def PopIs (w0 : World) (hb : Nat) (tH : Hd) (ab cap : Nat) (T : List QEnt) (w w' : World) : Prop := ∃ Y, Y.Perm T ∧ Heap (kf Y) Y.length ∧ QIs w0 hb tH ab cap Y w' ∧ Off hb ab w w'
set_option maxHeartbeats 2000000 in
theorem heapPop (w0 : World) (hb : Nat) (tH : Hd) (ab cap : Nat) (x : QEnt) (T : List QEnt) (w : World) (h : QIs w0 hb tH ab cap (x :: T) w) (hu : Heap (kf (x :: T)) (x :: T).length) :
    Calls Tryz.prog 136 #[.iface 171 (.pointer (some ⟨hb, tH.o, none⟩))] w fun e w' => (∃ v, e = .returned v) ∧ PopIs w0 hb tH ab cap T w w' := by
  have hL := h.2.2.2.2.2
  have hm := m_len h.1.cell
  have hm2 := m_swap h.1.cell
  rw [List.length_map] at hm hm2
  have q1 := fun a n c => qLen a n c w
  have q2 : Hid (Calls Tryz.prog 164 #[.slice (some ⟨ab, 0, none⟩) (x :: T).length cap, .int .i64 0, .int .i64 T.length] w fun e w' => e = .returned (.tuple #[]) ∧ QIs w0 hb tH ab cap (sw (x :: T) 0 T.length) w' ∧ But ab w w') := qSwap w0 hb tH ab cap (x :: T) 0 T.length w h (by simp) (by simp)
  have HS : Hid (HeapDown (kf (sw (x :: T) 0 T.length)) T.length 0) := heap_last (by simp) hu
  have SL : Hid ((sw (x :: T) 0 T.length).length = T.length + 1) := by show _ = _; rw [sw_len]; rfl
  have SP : Hid ((sw (x :: T) 0 T.length).Perm (x :: T) ∧ (sw (x :: T) 0 T.length).getD T.length qD = x) := ⟨sw_perm (by simp) (by simp), by rw [sw_at (by simp) (by simp), swF_r]; rfl⟩
  clear h hu
  rw [List.length_cons] at hL hm hm2 q2
  generalize hS : sw (x :: T) 0 T.length = S at *
  clear hS
  go_enter Tryz.func136, Tryz.ntmps136
  go_wp2_with fail
  refine (q1 _ _ _).mono ?_
  rintro e w1 ⟨rfl, rfl⟩
  clear q1 hm
  go_wp2_with fail
  refine q2.out.mono ?_
  rintro e w2 ⟨rfl, y1, y2⟩
  have q3 := heapDown w0 hb tH ab cap S 0 T.length w2 y1 (by rw [SL.out]; omega) (by omega) HS.out
  clear q2 hm2 y1 HS
  go_wp2_with fail
  refine q3.mono ?_
  rintro e w3 ⟨⟨b, rfl⟩, Y, z1, z2, z3, z4, z5⟩
  have q4 := qPop w0 hb tH ab cap Y T.length (by rw [z1.length_eq, SL.out]) w3 z4
  have H : Hid (∀ w4, QIs w0 hb tH ab cap (Y.take T.length) w4 → But hb w3 w4 → PopIs w0 hb tH ab cap T w1 w4) := fun w4 g1 g2 => by
    have hp : (Y.take T.length).Perm T := pop_perm rfl (z1.trans SP.out.1) (by rw [z3 _ (Nat.le_refl _)]; exact SP.out.2)
    exact ⟨_, hp, by rw [hp.length_eq]; exact heap_take z2, g1, (Off.of_r (y2.trans z5)).trans (Off.of_l g2)⟩
  clear q3 z1 z2 z3 z4 z5 y2 SL SP
  go_wp2_with fail
  refine q4.mono ?_
  rintro e w4 ⟨⟨v, rfl⟩, g1, g2⟩
  have F : Hid (PopIs w0 hb tH ab cap T w1 w4) := H.out _ g1 g2
  clear q4 g1 g2 H
  go_wp2_with fail
  go_ret
  exact ⟨⟨_, rfl⟩, F.out⟩
theorem assert_list (v : Value) (W : World) : (Instr.typeAssert (.iface 29 v) 20 29 false).run Tryz.prog W = .ok v W := by kernel_rfl
/-- Where Push ends: one more. -/
def PushIs (w0 : World) (hb : Nat) (tH : Hd) (X : List QEnt) (x : QEnt) (w w' : World) : Prop := ∃ Y ab cap, Y.Perm (X ++ [x]) ∧ Heap (kf Y) Y.length ∧ QIs w0 hb tH ab cap Y w' ∧ w0.heap.size ≤ ab ∧ Below w0.heap.size w w'
set_option maxHeartbeats 2000000 in
/-- The queue's own Push. -/
theorem qPush (w0 : World) (hb : Nat) (tH : Hd) (ab cap : Nat) (X : List QEnt) (x : QEnt) (w : World) (h : QIs w0 hb tH ab cap X w) (hx : QOk w0 x) (hl : X.length < 65536) (hab : w0.heap.size ≤ ab) (hhb : w0.heap.size ≤ hb) :
    Calls Tryz.prog 166 #[.pointer (some ⟨hb, tH.o, none⟩), .iface 29 x.1] w fun e w' => e = .returned (.tuple #[]) ∧ ∃ ab' cap', QIs w0 hb tH ab' cap' (X ++ [x]) w' ∧ w0.heap.size ≤ ab' ∧ Below w0.heap.size w w' := by
  obtain ⟨i0, hi0, hz0, hz1, hz2⟩ := info_parts info_list
  have c1 := h.1.cell
  have f1 := h.1.frozen
  rw [List.length_map] at c1
  obtain ⟨v, l⟩ := x
  obtain ⟨a0, c0, e0⟩ := hx.1.form
  simp only at e0
  generalize l.length = n0 at *
  subst e0
  obtain ⟨W, hW⟩ : ∃ W, W = (w.alloc (.cells #[.slice a0 n0 c0] 29)).drew := ⟨_, rfl⟩
  have BW : Below w.heap.size w W := by rw [hW]; exact ((Below.refl _ _).alloc (Nat.le_refl _) _).drew
  have O : Hid (W.ownsRow w0.heap.size 29 1 (.slice (some ⟨ab, 0, none⟩) X.length cap) X.length (X.map (·.1))) := by
    have := (h.1.base hab)
    rw [List.length_map] at this
    exact own_on this BW
  have HN : Hid (∀ (j : Nat) (u : Value), ([.slice a0 n0 c0] : List Value)[j]? = some u → W.cell? ((⟨w.heap.size, 0, none⟩ : Addr).add j) = some u) := by
    intro j u hu
    have hj : j = 0 := by have := (List.getElem?_eq_some_iff.1 hu).1; simp at this; exact this
    subst hj
    rw [hW]
    have e : ((w.alloc (.cells #[.slice a0 n0 c0] 29)).drew).cell? ((⟨w.heap.size, 0, none⟩ : Addr).add 0) = (w.alloc (.cells #[.slice a0 n0 c0] 29)).cell? ⟨w.heap.size, 0, none⟩ := rfl
    rw [e, World.cell?_alloc_at _ _ _ _ rfl]
    simpa using hu
  have F : Hid (∀ v' w', w'.ownsRow w0.heap.size 29 1 v' (X.length + 1) (X.map (·.1) ++ [.slice a0 n0 c0]) → W.grownBy w' (some ab) → w'.cell? ⟨hb, tH.o, none⟩ = some (.slice (some ⟨ab, 0, none⟩) X.length cap) ∧ w'.frozen? ⟨hb, tH.o, none⟩ = false ∧ ∃ g c, v' = .slice (some ⟨g, 0, none⟩) (X.length + 1) c ∧ QIs w0 hb tH g c (X ++ [(.slice a0 n0 c0, l)]) (w'.setCell ⟨hb, tH.o, none⟩ v') ∧ w0.heap.size ≤ g ∧ Below w0.heap.size w (w'.setCell ⟨hb, tH.o, none⟩ v')) := by
    intro v' w' g1 g2
    have hB : w'.heap[hb]? = some (.cells (tH.cs.setIfInBounds tH.o (.slice (some ⟨ab, 0, none⟩) X.length cap)) tH.t (0, 0)) := by
      rw [g2.block hb (Nat.lt_of_lt_of_le h.1.lt.1 BW.size) (fun e => h.1.ne (Option.some.inj e)), BW.block hb h.1.lt.1]
      have := h.1.1
      rwa [List.length_map] at this
    refine ⟨by simp [World.cell?, hB, h.1.2.2.2], by simp [World.frozen?, hB], ?_⟩
    rcases g1.2 with ⟨_, e⟩ | ⟨g, c, cur, rfl, k1, k2, k3⟩
    · omega
    · have hne : hb ≠ g := by
        intro e; subst e
        rw [k2] at hB
        simp only [Option.some.injEq, Obj.cells.injEq] at hB
        exact h.1.2.2.1 hB.2.1.symm
      have hw' : Sees w0 w' := (h.2.2.1.on BW).grown g2 (fun k e => by cases e; exact h.2.2.2.2.1)
      refine ⟨g, c, rfl, ⟨⟨?_, ?_, h.1.2.2⟩, fun x hx' => ?_, hw'.set h.2.2.2.1 _, h.2.2.2.1, free_le k1, by simp; omega⟩, k1, ((BW.mono h.2.2.1.1).grown g2 (Nat.le_trans h.2.2.1.1 BW.size) (fun k e => by cases e; exact hab)).setCell hhb _⟩
      · rw [heap_set_at hB, Array.set!_eq_setIfInBounds, Array.setIfInBounds_setIfInBounds]; simp
      · rw [List.map_append, List.length_append, List.length_map]
        refine ⟨g1.1, .inr ⟨g, c, cur, rfl, Nat.zero_le _, ?_, k3⟩⟩
        rw [Below.heap_setCell _ _ _ _ (fun e => hne e.symm)]; exact k2
      · rcases List.mem_append.1 hx' with hx' | hx'
        · exact h.2.1 x hx'
        · simp at hx'; rw [hx']; exact hx
  have ha := assert_list (.slice a0 n0 c0)
  have HW : Hid ((w.alloc (.cells #[.slice a0 n0 c0] 29)).drew = W) := hW.symm
  have hWs := Nat.le_trans h.2.2.1.1 BW.size
  have c2 : (w.alloc (.cells #[.slice a0 n0 c0] 29)).cell? ⟨hb, tH.o, none⟩ = some (.slice (some ⟨ab, 0, none⟩) X.length cap) := cell_on c1 ((Below.refl _ _).alloc (Nat.le_refl _) _)
  clear h hx BW hW
  go_enter Tryz.func166, Tryz.ntmps166
  go_wp2_with fail
  go_region_law (first
    | (rw [HW.out]; refine step_append_own' W (by rfl) (.tmp 7) (.tmp 10) 136 (by rfl) w0.heap.size 29 i0 (.slice none 0 0) 1 24 Tryz.underlying136 hi0 hz0 hz1 hz2 rfl (by decide) _ X.length _ (by rfl) O.out ⟨w.heap.size, 0, none⟩ 1 1 [.slice a0 n0 c0] (by rfl) rfl HN.out (by simp [Value.oneCell']) (by unfold maxLen; omega) (by omega) hWs ?_; intro v5 w5 hown5 hg5; obtain ⟨y1, y2, g5, c5, rfl, y3, y4⟩ := F.out v5 w5 hown5 hg5; have Y3 : Hid _ := y3; have Y4 : Hid (w0.heap.size ≤ g5 ∧ Below w0.heap.size w _) := y4; clear hown5 hg5 y3 y4 F O HN HW))
  all_goals (go_end0; exact ⟨rfl, _, _, Y3.out, Y4.out⟩)
set_option maxHeartbeats 2000000 in
theorem heapPush (w0 : World) (hb : Nat) (tH : Hd) (ab cap : Nat) (X : List QEnt) (x : QEnt) (w : World) (h : QIs w0 hb tH ab cap X w) (hx : QOk w0 x) (hl : X.length < 65536) (hab : w0.heap.size ≤ ab) (hhb : w0.heap.size ≤ hb) (hu : Heap (kf X) X.length) :
    Calls Tryz.prog 117 #[.iface 171 (.pointer (some ⟨hb, tH.o, none⟩)), .iface 29 x.1] w fun e w' => e = .returned (.tuple #[]) ∧ PushIs w0 hb tH X x w w' := by
  have q1 := qPush w0 hb tH ab cap X x w h hx hl hab hhb
  have HU : Hid (HeapUp (kf (X ++ [x])) (X ++ [x]).length X.length) := heap_push x hu
  clear h hx hu
  go_enter Tryz.func117, Tryz.ntmps117
  go_wp2_with fail
  refine q1.mono ?_
  rintro e w1 ⟨rfl, ab', cap', h1, hab', hbel⟩
  have HAB : Hid (w0.heap.size ≤ ab' ∧ Below w0.heap.size w w1) := ⟨hab', hbel⟩
  have HSZ : Hid (w0.heap.size ≤ w1.heap.size) := h1.2.2.1.1
  have hm := m_len h1.1.cell
  rw [List.length_map, List.length_append, List.length_singleton] at hm
  have q2 := fun a n c => qLen a n c w1
  have q3 : Hid (Calls Tryz.prog 138 #[.iface 171 (.pointer (some ⟨hb, tH.o, none⟩)), .int .i64 X.length] w1 fun e w' => e = .returned (.tuple #[]) ∧ HpIs w0 hb tH ab' cap' (X ++ [x]) w1 w') := heapUp w0 hb tH ab' cap' (X ++ [x]) X.length w1 h1 (by simp) HU.out
  clear q1 h1 HU hab' hbel
  go_wp2_with fail
  refine (q2 _ _ _).mono ?_
  rintro e w2 ⟨rfl, rfl⟩
  clear q2 hm
  go_wp2_with fail
  refine q3.out.mono ?_
  rintro e w3 ⟨rfl, h3⟩
  have F : Hid (PushIs w0 hb tH X x w w3) := by obtain ⟨Y, _, y1, y2, y3, y4⟩ := h3.len; exact ⟨Y, ab', cap', y1, y2, y3, HAB.out.1, HAB.out.2.trans ((Off.of_l (b := ab') y4).below HAB.out.1 HAB.out.1 HSZ.out)⟩
  clear q3 h3
  go_wp2_with fail
  go_end0
  exact ⟨rfl, F.out⟩
end Go.Proofs.YtglbipnppldkmaaGreatDoor
