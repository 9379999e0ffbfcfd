/- What a cursor's Next answers. -/
import Derived.Test.YtanfjnhpdchbbabDoorPackTake
namespace Go.Proofs.YtanfjnhpdchbbabDoor
open Go.RowKit Go.Sort
set_option maxRecDepth 100000
/-- Where a cursor's queue stands. -/
abbrev cH : Hd := ⟨64, 0, #[undef]⟩
/-- A cursor's queue, all that it reads in a world that came before. -/
def QC (w0 : World) (hb ab cap : Nat) (X : List QEnt) (w : World) : Prop :=
  QAt hb cH ab cap (X.map (·.1)) w ∧ (∀ x ∈ X, QOk w0 x) ∧ Below w0.heap.size w0 w ∧ w0.heap.size ≤ hb ∧ w0.heap.size ≤ ab ∧ X.length ≤ 65536
theorem QC.q {w0 : World} {hb ab cap : Nat} {X : List QEnt} {w : World} (h : QC w0 hb ab cap X w) : QIs w0 hb cH ab cap X w := ⟨h.1, h.2.1, Sees.of_below h.2.2.1, free_le h.2.2.2.1, free_le h.2.2.2.2.1, h.2.2.2.2.2⟩
theorem QC.off {w0 : World} {hb ab cap : Nat} {X Y : List QEnt} {w w' : World} (h : QC w0 hb ab cap X w) (hq : QIs w0 hb cH ab cap Y w') (hO : Off hb ab w w') : QC w0 hb ab cap Y w' :=
  ⟨hq.1, hq.2.1, h.2.2.1.trans (hO.below h.2.2.2.1 h.2.2.2.2.1 h.2.2.1.size), h.2.2.2.1, h.2.2.2.2.1, hq.2.2.2.2.2⟩
theorem QC.on {w0 : World} {hb ab cap : Nat} {X : List QEnt} {w w' : World} (h : QC w0 hb ab cap X w) (hB : Below w.heap.size w w') : QC w0 hb ab cap X w' := h.off (h.q.on hB) (Off.of_below hB)
theorem QC.left {w0 : World} {hb ab cap : Nat} {X : List QEnt} {w : World} (h : QC w0 hb ab cap X w) : qLeft w (.pointer (some ⟨hb, 0, none⟩)) = (flat X).length := h.q.left
/-- A cursor: a queue in a block of its own. -/
def CurIs (w0 : World) (hb ab cap : Nat) (X : List QEnt) (w : World) : Prop := QC w0 hb ab cap X w ∧ Heap (kf X) X.length ∧ (flat X).length ≤ 65536
theorem QC.set {w0 : World} {hb ab cap : Nat} {X : List QEnt} {w : World} (h : QC w0 hb ab cap X w) {b : Nat} (h1 : b ≠ hb) (h2 : b ≠ ab) (h3 : w0.heap.size ≤ b) (o : Nat) (u : Value) : QC w0 hb ab cap X (w.setCell ⟨b, o, none⟩ u) := by
  obtain ⟨cur, b1, b2, b3, b4, b5⟩ := h.1.block
  refine ⟨⟨by rw [Below.heap_setCell _ _ _ _ (fun e => h1 e.symm)]; exact h.1.1, ⟨h.1.2.1.1, .inr ⟨ab, cap, cur, rfl, Nat.zero_le _, ?_, b2, b3, by omega, by simpa using b5⟩⟩, h.1.2.2⟩, h.2.1, h.2.2.1.setCell h3 _, h.2.2.2⟩
  rw [Below.heap_setCell _ _ _ _ (fun e => h2 e.symm)]; exact b1
theorem set_two {w : World} {b : Nat} {x y : Value} (h1 : w.cell? ⟨b, 0, none⟩ = some x) (h2 : w.cell? ⟨b, 1, none⟩ = some y) (u v : Value) : (w.setCell ⟨b, 0, none⟩ u).cell? ⟨b, 0, none⟩ = some u ∧ ((w.setCell ⟨b, 0, none⟩ u).setCell ⟨b, 1, none⟩ v).cell? ⟨b, 1, none⟩ = some v := by
  refine ⟨World.cell?_setCell_same' _ _ _ (by rw [h1]; rfl), World.cell?_setCell_same' _ _ _ ?_⟩
  rw [World.cell?_setCell_other _ _ _ _ (by simp), h2]; rfl
/-- How far Next has come. -/
def NextTo (w0 : World) (hb ab cap : Nat) (X : List QEnt) (w1 : World) (Y : List QEnt) (wr : World) : Prop := QC w0 hb ab cap Y wr ∧ Heap (kf Y) Y.length ∧ Off hb ab w1 wr ∧ wkZ (flat Y) = wkZ (flat X) ∧ (flat Y).length ≤ (flat X).length
/-- Where Next ends. -/
def NextIs (w0 : World) (hb ab cap : Nat) (X : List QEnt) (w : World) (e : Ending) (w' : World) : Prop :=
  ∃ Y, CurIs w0 hb ab cap Y w' ∧ Off hb ab w w' ∧ (flat Y).length ≤ (flat X).length ∧
    ((wkZ (flat X) = [] ∧ wkZ (flat Y) = [] ∧ e = .returned (.tuple #[.agg #[.slice none 0 0, .int .i64 0], .bool false])) ∨
     ∃ r k a c, wkZ (flat X) = (r, k) :: wkZ (flat Y) ∧ e = .returned (.tuple #[.agg #[.slice a r.length c, .int .i64 k], .bool true]) ∧ w'.ownsRow w.heap.size 45 3 (.slice a r.length c) r.length (rc r))
theorem NextTo.pass {w0 : World} {hb ab cap : Nat} {X Y : List QEnt} {w1 wr w3 : World} {vz : Value} (h : NextTo w0 hb ab cap X w1 Y wr) (ht : TakeIs w0 hb cH ab cap Y vz wr w3) (hz : firstZ (kf Y 0) (wt (kf Y 0) (flat Y)) = []) : ∃ Y2, NextTo w0 hb ab cap X w1 Y2 w3 ∧ (flat Y2).length < (flat Y).length := by
  obtain ⟨h1, h2, h3, h4, h5⟩ := h
  obtain ⟨_, Y2, t2, t3, t4, t5, _⟩ := ht
  refine ⟨Y2, ⟨h1.off t3 t4, t2, h3.trans t4, ?_, by have := t5.2.2.2; omega⟩, t5.2.2.2⟩
  rw [← h4, wk_first t5, hz]; rfl
/-- One to be told. -/
theorem NextTo.tell {w0 : World} {hb ab cap : Nat} {X Y : List QEnt} {w w1 wr w3 : World} {vz : Value} (hw : w0.heap.size ≤ w.heap.size) (hq : hb < w.heap.size ∧ ab < w.heap.size) (h1w : w1 = w.alloc (.cells #[.slice none 0 0, .int .i64 0] 39)) (hN : (flat X).length ≤ 65536) (h : NextTo w0 hb ab cap X w1 Y wr) (ht : TakeIs w0 hb cH ab cap Y vz wr w3) (k : Int) (hz : firstZ (kf Y 0) (wt (kf Y 0) (flat Y)) = [(kf Y 0, k)]) :
    ∃ g c a' c', vz = .slice (some ⟨g, 0, none⟩) 1 c ∧ w3.cell? ⟨g, 0, none⟩ = some (.slice a' (kf Y 0).length c') ∧ w3.cell? ⟨g, 1, none⟩ = some (.int .i64 k) ∧ NextIs w0 hb ab cap X w (.returned (.tuple #[.agg #[.slice a' (kf Y 0).length c', .int .i64 k], .bool true])) ((w3.setCell ⟨w.heap.size, 0, none⟩ (.slice a' (kf Y 0).length c')).setCell ⟨w.heap.size, 1, none⟩ (.int .i64 k)) := by
  obtain ⟨h1, h2, h3, h4, h5⟩ := h
  obtain ⟨⟨uz, z1⟩, Y2, t2, t3, t4, t5, _⟩ := ht
  have hwr : w.heap.size < wr.heap.size := by have := h3.size; rw [h1w] at this; simp at this; omega
  rw [hz] at z1
  have hu : uz.length = 1 := z1.2.1
  obtain ⟨u, rfl⟩ : ∃ u, uz = [u] := List.length_eq_one_iff.1 hu
  have ho := z1.1
  rw [hu] at ho
  have hr := z1.2.2 0 (by simp) (by simp)
  simp only [List.getElem_cons_zero] at hr
  obtain ⟨a', c', e'⟩ := own_form hr.1
  rcases ho.2 with ⟨_, e⟩ | ⟨g, c, cur, rfl, k1, k2, k3⟩
  · omega
  · have c0 : w3.cell? ⟨g, 0, none⟩ = some u.1 := by rw [ho.cellAt 0 (by omega)]; rfl
    have c1 : w3.cell? ⟨g, 1, none⟩ = some (.int .i64 u.2) := by rw [ho.cellAt 1 (by omega)]; rfl
    rw [e'] at c0
    rw [hr.2] at c1
    refine ⟨g, c, a', c', rfl, c0, c1, Y2, ⟨?_, t2, by have := t5.2.2.2; omega⟩, ?_, by have := t5.2.2.2; omega, .inr ⟨kf Y 0, k, a', c', ?_, rfl, ?_⟩⟩
    · exact ((h1.off t3 t4).set (by omega) (by omega) hw 0 _).set (by omega) (by omega) hw 1 _
    · have hB : Off hb ab w w3 := (Off.of_below (by rw [h1w]; exact one_box)).trans (h3.trans t4)
      refine ⟨hB.1, hB.2.1, hB.2.2.1, by simp [World.setCell]; exact hB.size, fun j j1 j2 j3 => ?_⟩
      rw [Below.heap_setCell _ _ _ _ (by show j ≠ w.heap.size; omega), Below.heap_setCell _ _ _ _ (by show j ≠ w.heap.size; omega)]
      exact hB.2.2.2.2 j j1 j2 j3
    · rw [← h4, wk_first t5, hz]; rfl
    · rw [e'] at hr
      exact own_mono (ownsRow_setCell_below (ownsRow_setCell_below hr.1 hwr _) hwr _) (by omega)
theorem NextTo.done {w0 : World} {hb ab cap : Nat} {X : List QEnt} {w w1 wr : World} (hw : w0.heap.size ≤ w.heap.size) (hq : hb < w.heap.size ∧ ab < w.heap.size) (h1w : w1 = w.alloc (.cells #[.slice none 0 0, .int .i64 0] 39)) (h : NextTo w0 hb ab cap X w1 [] wr) :
    NextIs w0 hb ab cap X w (.returned (.tuple #[.agg #[.slice none 0 0, .int .i64 0], .bool false])) ((wr.setCell ⟨w.heap.size, 0, none⟩ (.slice none 0 0)).setCell ⟨w.heap.size, 1, none⟩ (.int .i64 0)) := by
  obtain ⟨h1, h2, h3, h4, h5⟩ := h
  refine ⟨[], ⟨(h1.set (by omega) (by omega) hw 0 _).set (by omega) (by omega) hw 1 _, h2, by simp [flat]⟩, ?_, by simp [flat], .inl ⟨h4.symm, rfl, rfl⟩⟩
  have hB : Off hb ab w wr := (Off.of_below (by rw [h1w]; exact one_box)).trans h3
  refine ⟨hB.1, hB.2.1, hB.2.2.1, by simp [World.setCell]; exact hB.size, fun j j1 j2 j3 => ?_⟩
  rw [Below.heap_setCell _ _ _ _ (by show j ≠ w.heap.size; omega), Below.heap_setCell _ _ _ _ (by show j ≠ w.heap.size; omega)]
  exact hB.2.2.2.2 j j1 j2 j3
theorem firstZ_cases (r : List Val) (k : Int) : firstZ r k = [] ∨ inI k = true ∧ firstZ r k = [(r, k)] := by
  unfold firstZ
  by_cases h : inI k = true
  · rw [if_pos h]
    by_cases h0 : k = 0
    · subst h0; exact .inl rfl
    · exact .inr ⟨h, by simp [nzZ, h0]⟩
  · rw [if_neg h]; exact .inl rfl
set_option maxHeartbeats 8000000 in
theorem mgNext (w0 : World) (hb ab cap : Nat) (X : List QEnt) (a : Addr) (w : World) (ho : OverAt a w0) (h : CurIs w0 hb ab cap X w) :
    Calls Tryd.prog 10 #[.pointer (some ⟨hb, 0, none⟩)] w fun e w' => NextIs w0 hb ab cap X w e w' := by
  have hw : w0.heap.size ≤ w.heap.size := h.1.2.2.1.size
  have hq := h.1.1.lt
  have hN := h.2.2
  have HO : Hid (OverAt a w0) := ho
  obtain ⟨w1, hw1⟩ : ∃ w1, w1 = w.alloc (.cells #[.slice none 0 0, .int .i64 0] 39) := ⟨_, rfl⟩
  have G0 : Hid (NextTo w0 hb ab cap X w1 X w1) := by rw [hw1]; exact ⟨h.1.on one_box, h.2.1, Off.refl _ _ _, rfl, Nat.le_refl _⟩
  have HW : Hid (w.alloc (.cells #[.slice none 0 0, .int .i64 0] 39) = w1) := hw1.symm
  have RC : Hid (∀ wr, Off hb ab w1 wr → wr.cell? ⟨w.heap.size, 0, none⟩ = some (.slice none 0 0) ∧ wr.cell? ⟨w.heap.size, 1, none⟩ = some (.int .i64 0) ∧ wr.frozen? ⟨w.heap.size, 0, none⟩ = false ∧ wr.frozen? ⟨w.heap.size, 1, none⟩ = false) := by
    intro wr hO
    have e : wr.heap[w.heap.size]? = some (.cells #[.slice none 0 0, .int .i64 0] 39 (0, 0)) := by
      rw [hO.2.2.2.2 w.heap.size (by omega) (by omega) (by rw [hw1]; simp), hw1]; exact heap_alloc_new w _
    exact ⟨by simp [World.cell?, e], by simp [World.cell?, e], by simp [World.frozen?, e], by simp [World.frozen?, e]⟩
  clear h ho hw1
  go_enter Tryd.func10, Tryd.ntmps10
  go_wp2_with fail
  rw [HW.out]
  go_loopw [4] (fun _ wr => ∃ Y, NextTo w0 hb ab cap X w1 Y wr) (fun _ wr => qLeft wr (.pointer (some ⟨hb, 0, none⟩)))
  case atStart => exact ⟨_, G0.out⟩
  case round =>
    clear G0
    obtain ⟨Y, hA⟩ := hrel
    have hY := hA.1.1.cell
    have hYL := hA.1.2.2.2.2.2
    rw [List.length_map] at hY
    have qL := qEmpty hb 0 _ _ _ wr hY
    obtain ⟨r1, r2, r3, r4⟩ := RC.out wr hA.2.2.1
    by_cases hy : Y.length = 0
    · obtain rfl := List.eq_nil_of_length_eq_zero hy
      have qL' : Hid (Calls Tryd.prog 22 #[.pointer (some ⟨hb, 0, none⟩)] wr fun e w' => e = .returned (.bool true) ∧ w' = wr) := qL
      have F : Hid (NextIs w0 hb ab cap X w (.returned (.tuple #[.agg #[.slice none 0 0, .int .i64 0], .bool false])) ((wr.setCell ⟨w.heap.size, 0, none⟩ (.slice none 0 0)).setCell ⟨w.heap.size, 1, none⟩ (.int .i64 0))) := hA.done hw hq HW.out.symm
      obtain ⟨s1, s2⟩ := set_two r1 r2 (.slice none 0 0) (.int .i64 0)
      clear hA hy qL
      go_wp2_with fail
      refine qL'.out.mono ?_
      rintro e w2 ⟨rfl, rfl⟩
      clear qL'
      go_wp2_with fail
      refine bodyPost_ret (by simp [results, Tryd.results10, go_sem, s1, s2]; try rfl) rfl ?_
      exact F.out
    · have hm : Hid (qLeft wr (.pointer (some ⟨hb, 0, none⟩)) = (flat Y).length) := hA.1.left
      have qL' : Hid (Calls Tryd.prog 22 #[.pointer (some ⟨hb, 0, none⟩)] wr fun e w' => e = .returned (.bool false) ∧ w' = wr) := by
        have e : (Y.length == 0) = false := by simpa using hy
        rw [e] at qL; exact qL
      have q2 : Calls Tryd.prog 23 #[.pointer (some ⟨hb, 0, none⟩)] wr _ := qTake w0 hb cH ab cap Y a wr hA.1.q (by decide) (by omega) hA.2.1 HO.out (by have := hA.2.2.2.2; omega)
      have HA : Hid (NextTo w0 hb ab cap X w1 Y wr) := hA
      have hy' : 0 < Y.length := by omega
      have I1 : (0 : Int) < (Y.length : Int) := by omega
      clear hA hy r1 r2 r3 r4 qL
      go_wp2_with fail
      refine qL'.out.mono ?_
      rintro e w2 ⟨rfl, rfl⟩
      clear qL'
      rcases firstZ_cases (kf Y 0) (wt (kf Y 0) (flat Y)) with hz | ⟨hin, hz⟩
      · have HP : Hid (∀ vz w3, TakeIs w0 hb cH ab cap Y vz w2 w3 → (∃ az cz, vz = .slice az 0 cz) ∧ ∃ Y2, NextTo w0 hb ab cap X w1 Y2 w3 ∧ (flat Y2).length < (flat Y).length) := by
          intro vz w3 ht
          refine ⟨?_, HA.out.pass ht hz⟩
          obtain ⟨uz, hu⟩ := ht.1
          have e := hu.2.1
          rw [hz] at e
          obtain ⟨az, cz, e'⟩ := own_form hu.1
          exact ⟨az, cz, by rw [e', e]; rfl⟩
        obtain ⟨b, hb0⟩ : ∃ b, b = inI (wt (kf Y 0) (flat Y)) := ⟨_, rfl⟩
        rw [← hb0] at q2
        clear hb0 hz HA
        go_wp2_with fail
        refine q2.mono ?_
        rintro e w3 ⟨vz, rfl, hT⟩
        obtain ⟨⟨az, cz, rfl⟩, F⟩ := HP.out _ _ hT
        have G : Hid (∃ Y2, NextTo w0 hb ab cap X w1 Y2 w3 ∧ (flat Y2).length < (flat Y).length) := F
        clear q2 hY HP hT F
        cases b
        · rw [ovE_f, errV_ne]
          go_wp2_with fail
          go_roundw
          case rel => obtain ⟨Y2, g1, _⟩ := G.out; exact ⟨Y2, g1⟩
          case measure => obtain ⟨Y2, g1, g2⟩ := G.out; rw [QC.left g1.1, hm.out]; exact g2
        · rw [ovE_t]
          go_wp2_with fail
          go_roundw
          case rel => obtain ⟨Y2, g1, _⟩ := G.out; exact ⟨Y2, g1⟩
          case measure => obtain ⟨Y2, g1, g2⟩ := G.out; rw [QC.left g1.1, hm.out]; exact g2
      · have HP : Hid (∀ vz w3, TakeIs w0 hb cH ab cap Y vz w2 w3 → (∃ g c a' c', vz = .slice (some ⟨g, 0, none⟩) 1 c ∧ w3.cell? ⟨g, 0, none⟩ = some (.slice a' (kf Y 0).length c') ∧ w3.cell? ⟨g, 1, none⟩ = some (.int .i64 (wt (kf Y 0) (flat Y))) ∧ NextIs w0 hb ab cap X w (.returned (.tuple #[.agg #[.slice a' (kf Y 0).length c', .int .i64 (wt (kf Y 0) (flat Y))], .bool true])) ((w3.setCell ⟨w.heap.size, 0, none⟩ (.slice a' (kf Y 0).length c')).setCell ⟨w.heap.size, 1, none⟩ (.int .i64 (wt (kf Y 0) (flat Y))))) ∧ Off hb ab w1 w3) := fun vz w3 ht =>
          ⟨HA.out.tell hw hq HW.out.symm hN ht _ hz, by obtain ⟨_, _, _, _, t4, _⟩ := ht; exact HA.out.2.2.1.trans t4⟩
        rw [hin, ovE_t] at q2
        clear HA hz hin
        generalize wt (kf Y 0) (flat Y) = k at *
        go_wp2_with fail
        refine q2.mono ?_
        rintro e w3 ⟨vz, rfl, hT⟩
        obtain ⟨⟨g, c, a', c', rfl, x1, x2, x3⟩, x4⟩ := HP.out _ _ hT
        have G : Hid (NextIs w0 hb ab cap X w (.returned (.tuple #[.agg #[.slice a' (kf Y 0).length c', .int .i64 k], .bool true])) ((w3.setCell ⟨w.heap.size, 0, none⟩ (.slice a' (kf Y 0).length c')).setCell ⟨w.heap.size, 1, none⟩ (.int .i64 k))) := x3
        obtain ⟨r1, r2, r3, r4⟩ := RC.out w3 x4
        obtain ⟨s1, s2⟩ := set_two r1 r2 (.slice a' (kf Y 0).length c') (.int .i64 k)
        clear q2 hY HP hT x3 x4
        generalize (kf Y 0).length = n1 at *
        go_wp2_with fail
        refine bodyPost_ret (by simp [results, Tryd.results10, go_sem, s1, s2]; try rfl) rfl ?_
        exact G.out
end Go.Proofs.YtanfjnhpdchbbabDoor
