/- Texts of one claim, one behind the other. -/
import Derived.Test.YtnjbpikhkccekaaDoorPackMerge
import Derived.Test.YtnjbpikhkccekaaDoorPackOwn
/- What a cursor's Next answers. -/
namespace Go.Proofs.YtnjbpikhkccekaaDoor
open Go.RowKit Go.Sort
set_option maxRecDepth 100000
/-- A cursor: a queue in a block of its own. -/
def CurIs (w0 : World) (hb ab cap : Nat) (X : List QEnt) (w : World) : Prop := QIs w0 hb 70 ab cap X w ∧ Heap (kf X) X.length ∧ (flat X).length ≤ 65536
theorem QIs.set {w0 : World} {hb tH ab cap : Nat} {X : List QEnt} {w : World} (h : QIs w0 hb tH ab cap X w) {b : Nat} (h1 : b ≠ hb) (h2 : b ≠ ab) (h3 : w0.heap.size ≤ b) (o : Nat) (u : Value) : QIs w0 hb tH ab cap X (w.setCell ⟨b, o, none⟩ u) := by
  obtain ⟨cur, b1, b2, b3, b4, b5⟩ := h.1.block
  refine ⟨⟨by rw [Below.heap_setCell _ _ _ _ (fun e => h1 e.symm)]; exact h.1.1, ⟨h.1.2.1.1, .inr ⟨ab, cap, cur, rfl, Nat.zero_le _, ?_, b2, b3, by omega, by simpa using b5⟩⟩, h.1.2.2⟩, h.2.1, h.2.2.1.setCell h3 _, h.2.2.2⟩
  rw [Below.heap_setCell _ _ _ _ (fun e => h2 e.symm)]; exact b1
theorem set_two {w : World} {b : Nat} {x y : Value} (h1 : w.cell? ⟨b, 0, none⟩ = some x) (h2 : w.cell? ⟨b, 1, none⟩ = some y) (u v : Value) : (w.setCell ⟨b, 0, none⟩ u).cell? ⟨b, 0, none⟩ = some u ∧ ((w.setCell ⟨b, 0, none⟩ u).setCell ⟨b, 1, none⟩ v).cell? ⟨b, 1, none⟩ = some v := by
  refine ⟨World.cell?_setCell_same' _ _ _ (by rw [h1]; rfl), World.cell?_setCell_same' _ _ _ ?_⟩
  rw [World.cell?_setCell_other _ _ _ _ (by simp), h2]; rfl
/-- How far Next has come. -/
def NextTo (w0 : World) (hb ab cap : Nat) (X : List QEnt) (w1 : World) (Y : List QEnt) (wr : World) : Prop := QIs w0 hb 70 ab cap Y wr ∧ Heap (kf Y) Y.length ∧ Off hb ab w1 wr ∧ wkZ (flat Y) = wkZ (flat X) ∧ (flat Y).length ≤ (flat X).length
/-- Where Next ends. -/
def NextIs (w0 : World) (hb ab cap : Nat) (X : List QEnt) (w : World) (e : Ending) (w' : World) : Prop :=
  ∃ Y, CurIs w0 hb ab cap Y w' ∧ Off hb ab w w' ∧ (flat Y).length ≤ (flat X).length ∧
    ((wkZ (flat X) = [] ∧ wkZ (flat Y) = [] ∧ e = .returned (.tuple #[.agg #[.slice none 0 0, .int .i64 0], .bool false])) ∨
     ∃ r k a c, wkZ (flat X) = (r, k) :: wkZ (flat Y) ∧ e = .returned (.tuple #[.agg #[.slice a r.length c, .int .i64 k], .bool true]) ∧ w'.ownsRow w.heap.size 44 3 (.slice a r.length c) r.length (rc r))
theorem NextTo.pass {w0 : World} {hb ab cap : Nat} {X Y : List QEnt} {w1 wr w3 : World} {vz : Value} (h : NextTo w0 hb ab cap X w1 Y wr) (ht : TakeIs w0 hb 70 ab cap Y vz wr w3) (hz : firstZ (kf Y 0) (wt (kf Y 0) (flat Y)) = []) : ∃ Y2, NextTo w0 hb ab cap X w1 Y2 w3 ∧ (flat Y2).length < (flat Y).length := by
  obtain ⟨h1, h2, h3, h4, h5⟩ := h
  obtain ⟨_, Y2, t2, t3, t4, t5, _⟩ := ht
  refine ⟨Y2, ⟨t3, t2, h3.trans t4, ?_, by have := t5.2.2.2; omega⟩, t5.2.2.2⟩
  rw [← h4, wk_first t5, hz]; rfl
/-- One to be told. -/
theorem NextTo.tell {w0 : World} {hb ab cap : Nat} {X Y : List QEnt} {w w1 wr w3 : World} {vz : Value} (hw : w0.heap.size ≤ w.heap.size) (hq : hb < w.heap.size ∧ ab < w.heap.size) (h1w : w1 = w.alloc (.cells #[.slice none 0 0, .int .i64 0] 50)) (hN : (flat X).length ≤ 65536) (h : NextTo w0 hb ab cap X w1 Y wr) (ht : TakeIs w0 hb 70 ab cap Y vz wr w3) (k : Int) (hz : firstZ (kf Y 0) (wt (kf Y 0) (flat Y)) = [(kf Y 0, k)]) :
    ∃ g c a' c', vz = .slice (some ⟨g, 0, none⟩) 1 c ∧ w3.cell? ⟨g, 0, none⟩ = some (.slice a' (kf Y 0).length c') ∧ w3.cell? ⟨g, 1, none⟩ = some (.int .i64 k) ∧ NextIs w0 hb ab cap X w (.returned (.tuple #[.agg #[.slice a' (kf Y 0).length c', .int .i64 k], .bool true])) ((w3.setCell ⟨w.heap.size, 0, none⟩ (.slice a' (kf Y 0).length c')).setCell ⟨w.heap.size, 1, none⟩ (.int .i64 k)) := by
  obtain ⟨h1, h2, h3, h4, h5⟩ := h
  obtain ⟨⟨uz, z1⟩, Y2, t2, t3, t4, t5, _⟩ := ht
  have hwr : w.heap.size < wr.heap.size := by have := h3.size; rw [h1w] at this; simp at this; omega
  rw [hz] at z1
  have hu : uz.length = 1 := z1.2.1
  obtain ⟨u, rfl⟩ : ∃ u, uz = [u] := List.length_eq_one_iff.1 hu
  have ho := z1.1
  rw [hu] at ho
  have hr := z1.2.2 0 (by simp) (by simp)
  simp only [List.getElem_cons_zero] at hr
  obtain ⟨a', c', e'⟩ := own_form hr.1
  rcases ho.2 with ⟨_, e⟩ | ⟨g, c, cur, rfl, k1, k2, k3⟩
  · omega
  · have c0 : w3.cell? ⟨g, 0, none⟩ = some u.1 := by rw [ho.cellAt 0 (by omega)]; rfl
    have c1 : w3.cell? ⟨g, 1, none⟩ = some (.int .i64 u.2) := by rw [ho.cellAt 1 (by omega)]; rfl
    rw [e'] at c0
    rw [hr.2] at c1
    refine ⟨g, c, a', c', rfl, c0, c1, Y2, ⟨?_, t2, by have := t5.2.2.2; omega⟩, ?_, by have := t5.2.2.2; omega, .inr ⟨kf Y 0, k, a', c', ?_, rfl, ?_⟩⟩
    · exact (t3.set (by omega) (by omega) hw 0 _).set (by omega) (by omega) hw 1 _
    · have hB : Off hb ab w w3 := (Off.of_below (by rw [h1w]; exact one_box)).trans (h3.trans t4)
      refine ⟨hB.1, hB.2.1, hB.2.2.1, by simp [World.setCell]; exact hB.size, fun j j1 j2 j3 => ?_⟩
      rw [Below.heap_setCell _ _ _ _ (by show j ≠ w.heap.size; omega), Below.heap_setCell _ _ _ _ (by show j ≠ w.heap.size; omega)]
      exact hB.2.2.2.2 j j1 j2 j3
    · rw [← h4, wk_first t5, hz]; rfl
    · rw [e'] at hr
      exact own_mono (ownsRow_setCell_below (ownsRow_setCell_below hr.1 hwr _) hwr _) (by omega)
theorem NextTo.done {w0 : World} {hb ab cap : Nat} {X : List QEnt} {w w1 wr : World} (hw : w0.heap.size ≤ w.heap.size) (hq : hb < w.heap.size ∧ ab < w.heap.size) (h1w : w1 = w.alloc (.cells #[.slice none 0 0, .int .i64 0] 50)) (h : NextTo w0 hb ab cap X w1 [] wr) :
    NextIs w0 hb ab cap X w (.returned (.tuple #[.agg #[.slice none 0 0, .int .i64 0], .bool false])) ((wr.setCell ⟨w.heap.size, 0, none⟩ (.slice none 0 0)).setCell ⟨w.heap.size, 1, none⟩ (.int .i64 0)) := by
  obtain ⟨h1, h2, h3, h4, h5⟩ := h
  refine ⟨[], ⟨(h1.set (by omega) (by omega) hw 0 _).set (by omega) (by omega) hw 1 _, h2, by simp [flat]⟩, ?_, by simp [flat], .inl ⟨h4.symm, rfl, rfl⟩⟩
  have hB : Off hb ab w wr := (Off.of_below (by rw [h1w]; exact one_box)).trans h3
  refine ⟨hB.1, hB.2.1, hB.2.2.1, by simp [World.setCell]; exact hB.size, fun j j1 j2 j3 => ?_⟩
  rw [Below.heap_setCell _ _ _ _ (by show j ≠ w.heap.size; omega), Below.heap_setCell _ _ _ _ (by show j ≠ w.heap.size; omega)]
  exact hB.2.2.2.2 j j1 j2 j3
theorem firstZ_cases (r : List Val) (k : Int) : firstZ r k = [] ∨ inI k = true ∧ firstZ r k = [(r, k)] := by
  unfold firstZ
  by_cases h : inI k = true
  · rw [if_pos h]
    by_cases h0 : k = 0
    · subst h0; exact .inl rfl
    · exact .inr ⟨h, by simp [nzZ, h0]⟩
  · rw [if_neg h]; exact .inl rfl
set_option maxHeartbeats 8000000 in
theorem mgNext (w0 : World) (hb ab cap : Nat) (X : List QEnt) (a : Addr) (w : World) (ho : OverAt a w0) (h : CurIs w0 hb ab cap X w) :
    Calls Tryd.prog 19 #[.pointer (some ⟨hb, 0, none⟩)] w fun e w' => NextIs w0 hb ab cap X w e w' := by
  have hw : w0.heap.size ≤ w.heap.size := h.1.2.2.1.size
  have hq := h.1.1.lt
  have hN := h.2.2
  have HO : Hid (OverAt a w0) := ho
  obtain ⟨w1, hw1⟩ : ∃ w1, w1 = w.alloc (.cells #[.slice none 0 0, .int .i64 0] 50) := ⟨_, rfl⟩
  have G0 : Hid (NextTo w0 hb ab cap X w1 X w1) := by rw [hw1]; exact ⟨h.1.on one_box, h.2.1, Off.refl _ _ _, rfl, Nat.le_refl _⟩
  have HW : Hid (w.alloc (.cells #[.slice none 0 0, .int .i64 0] 50) = w1) := hw1.symm
  have RC : Hid (∀ wr, Off hb ab w1 wr → wr.cell? ⟨w.heap.size, 0, none⟩ = some (.slice none 0 0) ∧ wr.cell? ⟨w.heap.size, 1, none⟩ = some (.int .i64 0) ∧ wr.frozen? ⟨w.heap.size, 0, none⟩ = false ∧ wr.frozen? ⟨w.heap.size, 1, none⟩ = false) := by
    intro wr hO
    have e : wr.heap[w.heap.size]? = some (.cells #[.slice none 0 0, .int .i64 0] 50 (0, 0)) := by
      rw [hO.2.2.2.2 w.heap.size (by omega) (by omega) (by rw [hw1]; simp), hw1]; exact heap_alloc_new w _
    exact ⟨by simp [World.cell?, e], by simp [World.cell?, e], by simp [World.frozen?, e], by simp [World.frozen?, e]⟩
  clear h ho hw1
  go_enter Tryd.func19, Tryd.ntmps19
  go_wp2_with fail
  rw [HW.out]
  go_loopw [4] (fun _ wr => ∃ Y, NextTo w0 hb ab cap X w1 Y wr) (fun _ wr => qLeft wr (.pointer (some ⟨hb, 0, none⟩)))
  case atStart => exact ⟨_, G0.out⟩
  case round =>
    clear G0
    obtain ⟨Y, hA⟩ := hrel
    have hY := hA.1.1.cell
    have hYL := hA.1.2.2.2.2.2
    rw [List.length_map] at hY
    have qL := fun a n c => qLen a n c wr
    obtain ⟨r1, r2, r3, r4⟩ := RC.out wr hA.2.2.1
    by_cases hy : Y.length = 0
    · obtain rfl := List.eq_nil_of_length_eq_zero hy
      have F : Hid (NextIs w0 hb ab cap X w (.returned (.tuple #[.agg #[.slice none 0 0, .int .i64 0], .bool false])) ((wr.setCell ⟨w.heap.size, 0, none⟩ (.slice none 0 0)).setCell ⟨w.heap.size, 1, none⟩ (.int .i64 0))) := hA.done hw hq HW.out.symm
      obtain ⟨s1, s2⟩ := set_two r1 r2 (.slice none 0 0) (.int .i64 0)
      clear hA hy
      go_wp2_with fail
      refine (qL _ _ _).mono ?_
      rintro e w2 ⟨rfl, rfl⟩
      clear qL
      go_wp2_with fail
      refine bodyPost_ret (by simp [results, Tryd.results19, go_sem, s1, s2]; try rfl) rfl ?_
      exact F.out
    · have hm : Hid (qLeft wr (.pointer (some ⟨hb, 0, none⟩)) = (flat Y).length) := hA.1.left
      have q2 := qTake w0 hb 70 ab cap Y a wr hA.1 (by decide) (by omega) hA.2.1 HO.out (by have := hA.2.2.2.2; omega)
      have HA : Hid (NextTo w0 hb ab cap X w1 Y wr) := hA
      have hy' : 0 < Y.length := by omega
      have I1 : (0 : Int) < (Y.length : Int) := by omega
      clear hA hy r1 r2 r3 r4
      go_wp2_with fail
      refine (qL _ _ _).mono ?_
      rintro e w2 ⟨rfl, rfl⟩
      clear qL
      rcases firstZ_cases (kf Y 0) (wt (kf Y 0) (flat Y)) with hz | ⟨hin, hz⟩
      · have HP : Hid (∀ vz w3, TakeIs w0 hb 70 ab cap Y vz w2 w3 → (∃ az cz, vz = .slice az 0 cz) ∧ ∃ Y2, NextTo w0 hb ab cap X w1 Y2 w3 ∧ (flat Y2).length < (flat Y).length) := by
          intro vz w3 ht
          refine ⟨?_, HA.out.pass ht hz⟩
          obtain ⟨uz, hu⟩ := ht.1
          have e := hu.2.1
          rw [hz] at e
          obtain ⟨az, cz, e'⟩ := own_form hu.1
          exact ⟨az, cz, by rw [e', e]; rfl⟩
        obtain ⟨b, hb0⟩ : ∃ b, b = inI (wt (kf Y 0) (flat Y)) := ⟨_, rfl⟩
        rw [← hb0] at q2
        clear hb0 hz HA
        go_wp2_with fail
        refine q2.mono ?_
        rintro e w3 ⟨vz, rfl, hT⟩
        obtain ⟨⟨az, cz, rfl⟩, F⟩ := HP.out _ _ hT
        have G : Hid (∃ Y2, NextTo w0 hb ab cap X w1 Y2 w3 ∧ (flat Y2).length < (flat Y).length) := F
        clear q2 hY HP hT F
        cases b
        · rw [ovE_f, errV_ne]
          go_wp2_with fail
          go_roundw
          case rel => obtain ⟨Y2, g1, _⟩ := G.out; exact ⟨Y2, g1⟩
          case measure => obtain ⟨Y2, g1, g2⟩ := G.out; rw [QIs.left g1.1, hm.out]; exact g2
        · rw [ovE_t]
          go_wp2_with fail
          go_roundw
          case rel => obtain ⟨Y2, g1, _⟩ := G.out; exact ⟨Y2, g1⟩
          case measure => obtain ⟨Y2, g1, g2⟩ := G.out; rw [QIs.left g1.1, hm.out]; exact g2
      · have HP : Hid (∀ vz w3, TakeIs w0 hb 70 ab cap Y vz w2 w3 → (∃ g c a' c', vz = .slice (some ⟨g, 0, none⟩) 1 c ∧ w3.cell? ⟨g, 0, none⟩ = some (.slice a' (kf Y 0).length c') ∧ w3.cell? ⟨g, 1, none⟩ = some (.int .i64 (wt (kf Y 0) (flat Y))) ∧ NextIs w0 hb ab cap X w (.returned (.tuple #[.agg #[.slice a' (kf Y 0).length c', .int .i64 (wt (kf Y 0) (flat Y))], .bool true])) ((w3.setCell ⟨w.heap.size, 0, none⟩ (.slice a' (kf Y 0).length c')).setCell ⟨w.heap.size, 1, none⟩ (.int .i64 (wt (kf Y 0) (flat Y))))) ∧ Off hb ab w1 w3) := fun vz w3 ht =>
          ⟨HA.out.tell hw hq HW.out.symm hN ht _ hz, by obtain ⟨_, _, _, _, t4, _⟩ := ht; exact HA.out.2.2.1.trans t4⟩
        rw [hin, ovE_t] at q2
        clear HA hz hin
        generalize wt (kf Y 0) (flat Y) = k at *
        go_wp2_with fail
        refine q2.mono ?_
        rintro e w3 ⟨vz, rfl, hT⟩
        obtain ⟨⟨g, c, a', c', rfl, x1, x2, x3⟩, x4⟩ := HP.out _ _ hT
        have G : Hid (NextIs w0 hb ab cap X w (.returned (.tuple #[.agg #[.slice a' (kf Y 0).length c', .int .i64 k], .bool true])) ((w3.setCell ⟨w.heap.size, 0, none⟩ (.slice a' (kf Y 0).length c')).setCell ⟨w.heap.size, 1, none⟩ (.int .i64 k))) := x3
        obtain ⟨r1, r2, r3, r4⟩ := RC.out w3 x4
        obtain ⟨s1, s2⟩ := set_two r1 r2 (.slice a' (kf Y 0).length c') (.int .i64 k)
        clear q2 hY HP hT x3 x4
        generalize (kf Y 0).length = n1 at *
        go_wp2_with fail
        refine bodyPost_ret (by simp [results, Tryd.results19, go_sem, s1, s2]; try rfl) rfl ?_
        exact G.out
end Go.Proofs.YtnjbpikhkccekaaDoor
/- What merge.New answers: a cursor over copies. -/
namespace Go.Proofs.YtnjbpikhkccekaaDoor
open Go.RowKit Go.Sort
set_option maxRecDepth 100000
def nilS : Value := .slice none 0 0
theorem made_lists (n : Nat) : (madeCells (Value.slice none 0 0).cells (n * 1)).toList = List.replicate n nilS := by
  apply List.ext_getElem?
  intro i
  by_cases h : i < n
  · simp [madeCells, h, Value.cells, nilS, Nat.mod_one]
  · rw [List.getElem?_eq_none (by simp [madeCells]; omega), List.getElem?_eq_none (by simp; omega)]
theorem ZHas.keepT {base base' : Nat} {l : List Ent} {v va : Value} {w w' : World} {n : Nat} {xs : List Value} (h : ZHas base l v w) (ho : w.ownsRow base' 29 1 va n xs) (hg : w.grownBy w' va.ownBlock) : ZHas base l v w' := by
  obtain ⟨us, h1, h2⟩ := h
  have k : ∀ {b : Nat} {e : TypeId} {s : Nat} {v : Value} {n : Nat} {xs : List Value}, e ≠ 29 → w.ownsRow b e s v n xs → w'.ownsRow b e s v n xs := fun hne h => by
    refine h.kept hg ?_
    cases hv : va.ownBlock with
    | none => 
      rename_i v _ _
      cases hv' : v.ownBlock with
      | none => exact .inl rfl
      | some g => exact .inr (by simp)
    | some g => exact .inr (own_ne_types h ho hne g hv)
  exact ⟨us, k (by decide) h1, h2.1, fun i a b => ⟨k (by decide) (h2.2 i a b).1, (h2.2 i a b).2⟩⟩
/-- How far New's copies have come. -/
def NewTo (X : List QEnt) (w : World) (j : Nat) (wr : World) : Prop :=
  ∃ vs : List Value, vs.length = j ∧ wr.ownsRow w.heap.size 29 1 (.slice (some ⟨w.heap.size, 0, none⟩) X.length X.length) X.length (vs ++ List.replicate (X.length - j) nilS) ∧ (∀ i (h : i < vs.length) (h' : i < X.length), ZHas w.heap.size X[i].2 vs[i] wr) ∧ Below w.heap.size w wr
theorem NewTo.step {X : List QEnt} {w : World} {j : Nat} {wr w2 : World} {v : Value} (h : NewTo X w j wr) (hj : j < X.length) (hv : ZHas wr.heap.size X[j].2 v w2) (hB : Below wr.heap.size wr w2) :
    w2.cell? ⟨w.heap.size, j, none⟩ = some nilS ∧ w2.frozen? ⟨w.heap.size, j, none⟩ = false ∧ NewTo X w (j + 1) (w2.setCell ⟨w.heap.size, j, none⟩ v) := by
  obtain ⟨vs, h1, h2, h3, h4⟩ := h
  have o2 := own_on h2 hB
  have s2 := o2.stored j v
  refine ⟨?_, o2.frozenAt j, vs ++ [v], by simp [h1], ?_, fun i k1 k2 => ?_, (h4.trans (hB.mono h4.size)).setCell (p := ⟨w.heap.size, j, none⟩) (Nat.le_refl _) _⟩
  · rw [o2.cellAt j (by omega), List.getElem?_append_right (by omega), h1, Nat.sub_self, List.getElem?_replicate, if_pos (by omega)]
  · have e : vs ++ [v] ++ List.replicate (X.length - (j + 1)) nilS = (vs ++ List.replicate (X.length - j) nilS).set j v := by
      rw [List.set_append, if_neg (by omega), h1, Nat.sub_self, show X.length - j = (X.length - (j + 1)) + 1 by omega, List.replicate_succ, List.set_cons_zero, List.append_assoc]; rfl
    rw [e]; exact s2.1
  · by_cases hi : i < vs.length
    · rw [List.getElem_append_left hi]
      exact ((h3 i hi k2).on hB).keepT o2 s2.2
    · have : i = vs.length := by simp at k1; omega
      subst this
      rw [List.getElem_append_right (Nat.le_refl _)]
      simp only [Nat.sub_self, List.getElem_cons_zero]
      obtain ⟨us, hv⟩ := hv
      have := (ZHas.keepT ⟨us, hv.mono (show w.heap.size ≤ wr.heap.size from h4.size)⟩ o2 s2.2)
      simpa [h1] using this
theorem NewTo.fin {X : List QEnt} {w : World} {wr : World} (hX : ∀ x ∈ X, LOk w x) (hl : X.length ≤ 65536) (h : NewTo X w X.length wr) : ∃ Z : List QEnt, LsIs wr (.slice (some ⟨w.heap.size, 0, none⟩) X.length X.length) Z ∧ Z.map (·.2) = X.map (·.2) ∧ Below w.heap.size w wr := by
  obtain ⟨vs, h1, h2, h3, h4⟩ := h
  rw [Nat.sub_self, List.replicate_zero, List.append_nil] at h2
  have e1 : (vs.zip (X.map (·.2))).map (·.1) = vs := List.map_fst_zip (by simp [h1])
  have e2 : (vs.zip (X.map (·.2))).map (·.2) = X.map (·.2) := List.map_snd_zip (by simp [h1])
  refine ⟨vs.zip (X.map (·.2)), ⟨?_, fun z hz => ?_, by simp; omega⟩, e2, h4⟩
  · have hlt := h2.lt w.heap.size rfl
    rw [e1]
    rcases h2.2 with ⟨e, _⟩ | ⟨g, c, cur, e, _, _, k3, k4, _⟩
    · cases e
    · refine .inr ⟨w.heap.size, 0, X.length, by rw [h1], by omega, by unfold maxLen; omega, hlt.2, fun i hi => ?_⟩
      rw [Nat.zero_add, h2.cellAt i (by omega)]; exact List.getElem?_eq_getElem hi
  · obtain ⟨i, hi, rfl⟩ := List.getElem_of_mem hz
    have hi1 : i < vs.length := by simp at hi; omega
    have hi2 : i < X.length := by simp at hi; omega
    simp only [List.getElem_zip, List.getElem_map]
    exact ⟨(h3 i hi1 hi2).ents, (hX _ (List.getElem_mem hi2)).2⟩
theorem flat_map {X Z : List QEnt} (h : Z.map (·.2) = X.map (·.2)) : flat Z = flat X := by
  unfold flat; rw [← List.flatMap_map (f := fun x : QEnt => x.2) (g := fun l => l), h, List.flatMap_map]
/-- Where New ends. -/
def NewIs (X : List QEnt) (w : World) (e : Ending) (w' : World) : Prop := ∃ w0 hb ab cap Y, e = .returned (.pointer (some ⟨hb, 0, none⟩)) ∧ CurIs w0 hb ab cap Y w' ∧ (∀ r, wt r (flat Y) = wt r (flat X)) ∧ (flat Y).length = (flat X).length ∧ Below w.heap.size w w0
set_option maxHeartbeats 8000000 in
theorem mgNew (X : List QEnt) (va : Value) (w : World) (h : LsIs w va X) (hN : (flat X).length ≤ 65536) :
    Calls Tryd.prog 15 #[va] w fun e w' => NewIs X w e w' := by
  obtain ⟨i0, hi, hz0, hz1, hz2⟩ := info_parts info_list
  obtain ⟨a0, cap, rfl⟩ := h.form
  have HX : Hid (LsIs w (.slice a0 X.length cap) X) := h
  have hL := h.2.2
  have F0 : Hid (∀ w1, w1.ownsRow w.heap.size 29 1 (.slice (some ⟨w.heap.size, 0, none⟩) X.length X.length) X.length (madeCells (Value.slice none 0 0).cells (X.length * 1)).toList → w.grownBy w1 none → NewTo X w 0 w1) := by
    intro w1 g1 g2
    refine ⟨[], rfl, by rw [made_lists] at g1; simpa using g1, fun i h => by simp at h, (Below.refl _ _).grown g2 (Nat.le_refl _) (fun k e => by cases e)⟩
  clear h
  go_enter Tryd.func15, Tryd.ntmps15
  go_wp2_with (first | (at_make; refine wpList_make_full _ rfl _ _ 27 rfl w.heap.size 29 i0 (.slice none 0 0) 1 Tryd.underlying27 hi hz0 hz1 .i64 .i64 _ _ X.length rfl rfl rfl rfl (by rw [hz2]; omega) (by unfold maxLen; omega) (Nat.le_refl _) ?_; intro w1 hown1 hg1; have c4 : Hid (NewTo X w 0 w1) := F0.out _ hown1 hg1; clear hown1 hg1) | fail)
  clear F0 hi hz0 hz1 hz2
  go_loopw [11] (fun i wr => ∃ j : Nat, j ≤ X.length ∧ i = .int .i64 j ∧ Hid (NewTo X w j wr)) (fun i _ => X.length - (intOf i).toNat)
  case atStart => exact ⟨0, by omega, rfl, c4.out⟩
  case round =>
    clear c4
    obtain ⟨j, hj, rfl, hS⟩ := hrel
    by_cases k1 : j < X.length
    · have I1 : (j : Int) < (X.length : Int) := by omega
      have hB : Below w.heap.size w wr := by obtain ⟨_, _, _, _, h4⟩ := hS.out; exact h4
      obtain ⟨b, o, a', c', rfl, x1, x2⟩ := (HX.out.on hB).at j k1
      have hx := HX.out.2.1 X[j] (List.getElem_mem k1)
      have q : Hid (Calls Tryd.prog 31 #[.slice a' X[j].2.length c'] wr fun e w' => ∃ v, e = .returned v ∧ ZHas wr.heap.size X[j].2 v w' ∧ Below wr.heap.size wr w') := by
        have := mgOwn X[j].2 X[j].1 wr hx.2.2.2 (fun e he => (hx.2.2.1 e he).2) (hx.1.on hB)
        rw [x2] at this; exact this
      have HP : Hid (∀ v w2, ZHas wr.heap.size X[j].2 v w2 → Below wr.heap.size wr w2 → (∃ av nv cv, v = .slice av nv cv) ∧ w2.cell? ⟨w.heap.size, j, none⟩ = some nilS ∧ w2.frozen? ⟨w.heap.size, j, none⟩ = false ∧ NewTo X w (j + 1) (w2.setCell ⟨w.heap.size, j, none⟩ v)) := fun v w2 g1 g2 => by
        refine ⟨?_, hS.out.step k1 g1 g2⟩
        obtain ⟨us, g1⟩ := g1
        obtain ⟨a, c, e⟩ := own_form g1.1
        exact ⟨_, _, _, e⟩
      clear hS hx x2 hB
      generalize X[j].2.length = n3 at *
      go_wp2_with fail
      refine q.out.mono ?_
      rintro e w2 ⟨v2, rfl, g1, g2⟩
      obtain ⟨⟨av, nv, cv, rfl⟩, y1, y2, y3⟩ := HP.out _ _ g1 g2
      unfold nilS at y1
      have F : Hid (NewTo X w (j + 1) (w2.setCell ⟨w.heap.size, j, none⟩ (.slice av nv cv))) := y3
      clear q HP g1 g2 y3 x1
      go_wp2_with fail
      go_roundw
      case rel => exact ⟨j + 1, by omega, by go_num, F.out⟩
      case measure => simp [intOf]; omega
    · have I1 : ¬ (j : Int) < (X.length : Int) := by omega
      obtain rfl : j = X.length := by omega
      obtain ⟨Z, z1, z2, z3⟩ := hS.out.fin HX.out.2.1 hL
      have hf := flat_map z2
      have q := mgQueueOf Z _ wr z1
      have HP : Hid (∀ v w2, QueIs Z wr v w2 → ∃ ab cap n, v = .slice (some ⟨ab, 0, none⟩) n cap ∧ NewIs X w (.returned (.pointer (some ⟨w2.heap.size, 0, none⟩))) (w2.alloc (.cells #[.slice (some ⟨ab, 0, none⟩) n cap] 70))) := fun v w2 hQ => by
        obtain ⟨Y, ab, cap, e, y1, y2, y3⟩ := hQ.head (tH := 70) (by decide)
        obtain ⟨f1, f2, _⟩ := que_flat y1
        exact ⟨ab, cap, Y.length, e, wr, w2.heap.size, ab, cap, Y, rfl, ⟨y3, y2, by rw [f2, hf]; exact hN⟩, fun r => by rw [f1, hf], by rw [f2, hf], z3⟩
      clear hS z1 z2 z3 hf
      go_wp2_with fail
      refine q.mono ?_
      rintro e w2 ⟨v, rfl, hQ⟩
      obtain ⟨ab, cap2, n2, rfl, g⟩ := HP.out _ _ hQ
      have F : Hid (NewIs X w (.returned (.pointer (some ⟨w2.heap.size, 0, none⟩))) (w2.alloc (.cells #[.slice (some ⟨ab, 0, none⟩) n2 cap2] 70))) := g
      clear q hQ HP g
      go_wp2_with fail
      go_ret
      exact F.out
end Go.Proofs.YtnjbpikhkccekaaDoor
