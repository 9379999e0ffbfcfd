/- What merge.New answers: a cursor over copies. -/
import Derived.Test.YtanfjnhpdchbbaaDoorMgNext
import Derived.Test.YtanfjnhpdchbbaaDoorMgOwn
namespace Go.Proofs.YtanfjnhpdchbbaaDoor
open Go.RowKit Go.Sort
set_option maxRecDepth 100000
def nilS : Value := .slice none 0 0
theorem made_lists (n : Nat) : (madeCells (Value.slice none 0 0).cells (n * 1)).toList = List.replicate n nilS := by
  apply List.ext_getElem?
  intro i
  by_cases h : i < n
  · simp [madeCells, h, Value.cells, nilS, Nat.mod_one]
  · rw [List.getElem?_eq_none (by simp [madeCells]; omega), List.getElem?_eq_none (by simp; omega)]
theorem ZHas.keepT {base base' : Nat} {l : List Ent} {v va : Value} {w w' : World} {n : Nat} {xs : List Value} (h : ZHas base l v w) (ho : w.ownsRow base' 32 1 va n xs) (hg : w.grownBy w' va.ownBlock) : ZHas base l v w' := by
  obtain ⟨us, h1, h2⟩ := h
  have k : ∀ {b : Nat} {e : TypeId} {s : Nat} {v : Value} {n : Nat} {xs : List Value}, e ≠ 32 → w.ownsRow b e s v n xs → w'.ownsRow b e s v n xs := fun hne h => by
    refine h.kept hg ?_
    cases hv : va.ownBlock with
    | none => 
      rename_i v _ _
      cases hv' : v.ownBlock with
      | none => exact .inl rfl
      | some g => exact .inr (by simp)
    | some g => exact .inr (own_ne_types h ho hne g hv)
  exact ⟨us, k (by decide) h1, h2.1, fun i a b => ⟨k (by decide) (h2.2 i a b).1, (h2.2 i a b).2⟩⟩
/-- How far New's copies have come. -/
def NewTo (X : List QEnt) (w : World) (j : Nat) (wr : World) : Prop :=
  ∃ vs : List Value, vs.length = j ∧ wr.ownsRow w.heap.size 32 1 (.slice (some ⟨w.heap.size, 0, none⟩) X.length X.length) X.length (vs ++ List.replicate (X.length - j) nilS) ∧ (∀ i (h : i < vs.length) (h' : i < X.length), ZHas w.heap.size X[i].2 vs[i] wr) ∧ Below w.heap.size w wr
theorem NewTo.step {X : List QEnt} {w : World} {j : Nat} {wr w2 : World} {v : Value} (h : NewTo X w j wr) (hj : j < X.length) (hv : ZHas wr.heap.size X[j].2 v w2) (hB : Below wr.heap.size wr w2) :
    w2.cell? ⟨w.heap.size, j, none⟩ = some nilS ∧ w2.frozen? ⟨w.heap.size, j, none⟩ = false ∧ NewTo X w (j + 1) (w2.setCell ⟨w.heap.size, j, none⟩ v) := by
  obtain ⟨vs, h1, h2, h3, h4⟩ := h
  have o2 := own_on h2 hB
  have s2 := o2.stored j v
  refine ⟨?_, o2.frozenAt j, vs ++ [v], by simp [h1], ?_, fun i k1 k2 => ?_, (h4.trans (hB.mono h4.size)).setCell (p := ⟨w.heap.size, j, none⟩) (Nat.le_refl _) _⟩
  · rw [o2.cellAt j (by omega), List.getElem?_append_right (by omega), h1, Nat.sub_self, List.getElem?_replicate, if_pos (by omega)]
  · have e : vs ++ [v] ++ List.replicate (X.length - (j + 1)) nilS = (vs ++ List.replicate (X.length - j) nilS).set j v := by
      rw [List.set_append, if_neg (by omega), h1, Nat.sub_self, show X.length - j = (X.length - (j + 1)) + 1 by omega, List.replicate_succ, List.set_cons_zero, List.append_assoc]; rfl
    rw [e]; exact s2.1
  · by_cases hi : i < vs.length
    · rw [List.getElem_append_left hi]
      exact ((h3 i hi k2).on hB).keepT o2 s2.2
    · have : i = vs.length := by simp at k1; omega
      subst this
      rw [List.getElem_append_right (Nat.le_refl _)]
      simp only [Nat.sub_self, List.getElem_cons_zero]
      obtain ⟨us, hv⟩ := hv
      have := (ZHas.keepT ⟨us, hv.mono (show w.heap.size ≤ wr.heap.size from h4.size)⟩ o2 s2.2)
      simpa [h1] using this
theorem NewTo.fin {X : List QEnt} {w : World} {wr : World} (hX : ∀ x ∈ X, LOk w x) (hl : X.length ≤ 65536) (h : NewTo X w X.length wr) : ∃ Z : List QEnt, LsIs wr (.slice (some ⟨w.heap.size, 0, none⟩) X.length X.length) Z ∧ Z.map (·.2) = X.map (·.2) ∧ Below w.heap.size w wr := by
  obtain ⟨vs, h1, h2, h3, h4⟩ := h
  rw [Nat.sub_self, List.replicate_zero, List.append_nil] at h2
  have e1 : (vs.zip (X.map (·.2))).map (·.1) = vs := List.map_fst_zip (by simp [h1])
  have e2 : (vs.zip (X.map (·.2))).map (·.2) = X.map (·.2) := List.map_snd_zip (by simp [h1])
  refine ⟨vs.zip (X.map (·.2)), ⟨?_, fun z hz => ?_, by simp; omega⟩, e2, h4⟩
  · have hlt := h2.lt w.heap.size rfl
    rw [e1]
    rcases h2.2 with ⟨e, _⟩ | ⟨g, c, cur, e, _, _, k3, k4, _⟩
    · cases e
    · refine .inr ⟨w.heap.size, 0, X.length, by rw [h1], by omega, by unfold maxLen; omega, hlt.2, fun i hi => ?_⟩
      rw [Nat.zero_add, h2.cellAt i (by omega)]; exact List.getElem?_eq_getElem hi
  · obtain ⟨i, hi, rfl⟩ := List.getElem_of_mem hz
    have hi1 : i < vs.length := by simp at hi; omega
    have hi2 : i < X.length := by simp at hi; omega
    simp only [List.getElem_zip, List.getElem_map]
    exact ⟨(h3 i hi1 hi2).ents, (hX _ (List.getElem_mem hi2)).2⟩
theorem flat_map {X Z : List QEnt} (h : Z.map (·.2) = X.map (·.2)) : flat Z = flat X := by
  unfold flat; rw [← List.flatMap_map (f := fun x : QEnt => x.2) (g := fun l => l), h, List.flatMap_map]
theorem QueIs.cur {X : List QEnt} {w : World} {v : Value} {w1 : World} (h : QueIs X w v w1) : ∃ Y ab cap, v = .slice (some ⟨ab, 0, none⟩) Y.length cap ∧ Y.Perm (nonE X) ∧ Heap (kf Y) Y.length ∧ QC w w1.heap.size ab cap Y (w1.alloc (.cells #[.slice (some ⟨ab, 0, none⟩) Y.length cap] 94)) := by
  obtain ⟨Y, ab, cap, e, h1, h2, h3, h4, h5, h6⟩ := h
  refine ⟨Y, ab, cap, e, h1, h2, ⟨⟨?_, ?_, by decide, by decide⟩, h3, h6.trans (one_box.mono h6.size), h6.size, (h5.lt ab rfl).1, h4⟩⟩
  · rw [List.length_map]; exact heap_alloc_new w1 _
  · rw [List.length_map]; exact own_on (own_mono h5 (Nat.zero_le _)) one_box
/-- Where New ends. -/
def NewIs (X : List QEnt) (w : World) (e : Ending) (w' : World) : Prop := ∃ w0 hb ab cap Y, e = .returned (.pointer (some ⟨hb, 0, none⟩)) ∧ CurIs w0 hb ab cap Y w' ∧ (∀ r, wt r (flat Y) = wt r (flat X)) ∧ (flat Y).length = (flat X).length ∧ Below w.heap.size w w0
set_option maxHeartbeats 8000000 in
theorem mgNew (X : List QEnt) (va : Value) (w : World) (h : LsIs w va X) (hN : (flat X).length ≤ 65536) :
    Calls Tryd.prog 25 #[va] w fun e w' => NewIs X w e w' := by
  obtain ⟨i0, hi, hz0, hz1, hz2⟩ := info_parts info_list
  obtain ⟨a0, cap, rfl⟩ := h.form
  have HX : Hid (LsIs w (.slice a0 X.length cap) X) := h
  have hL := h.2.2
  have F0 : Hid (∀ w1, w1.ownsRow w.heap.size 32 1 (.slice (some ⟨w.heap.size, 0, none⟩) X.length X.length) X.length (madeCells (Value.slice none 0 0).cells (X.length * 1)).toList → w.grownBy w1 none → NewTo X w 0 w1) := by
    intro w1 g1 g2
    refine ⟨[], rfl, by rw [made_lists] at g1; simpa using g1, fun i h => by simp at h, (Below.refl _ _).grown g2 (Nat.le_refl _) (fun k e => by cases e)⟩
  clear h
  go_enter Tryd.func25, Tryd.ntmps25
  go_wp2_with (first | (at_make; refine wpList_make_full _ rfl _ _ 28 rfl w.heap.size 32 i0 (.slice none 0 0) 1 Tryd.underlying28 hi hz0 hz1 .i64 .i64 _ _ X.length rfl rfl rfl rfl (by rw [hz2]; omega) (by unfold maxLen; omega) (Nat.le_refl _) ?_; intro w1 hown1 hg1; have c4 : Hid (NewTo X w 0 w1) := F0.out _ hown1 hg1; clear hown1 hg1) | fail)
  clear F0 hi hz0 hz1 hz2
  go_loopw [11] (fun i wr => ∃ j : Nat, j ≤ X.length ∧ i = .int .i64 j ∧ Hid (NewTo X w j wr)) (fun i _ => X.length - (intOf i).toNat)
  case atStart => exact ⟨0, by omega, rfl, c4.out⟩
  case round =>
    clear c4
    obtain ⟨j, hj, rfl, hS⟩ := hrel
    by_cases k1 : j < X.length
    · have I1 : (j : Int) < (X.length : Int) := by omega
      have hB : Below w.heap.size w wr := by obtain ⟨_, _, _, _, h4⟩ := hS.out; exact h4
      obtain ⟨b, o, a', c', rfl, x1, x2⟩ := (HX.out.on hB).at j k1
      have hx := HX.out.2.1 X[j] (List.getElem_mem k1)
      have q : Hid (Calls Tryd.prog 49 #[.slice a' X[j].2.length c'] wr fun e w' => ∃ v, e = .returned v ∧ ZHas wr.heap.size X[j].2 v w' ∧ Below wr.heap.size wr w') := by
        have := mgOwn X[j].2 X[j].1 wr hx.2.2.2 (fun e he => (hx.2.2.1 e he).2) (hx.1.on hB)
        rw [x2] at this; exact this
      have HP : Hid (∀ v w2, ZHas wr.heap.size X[j].2 v w2 → Below wr.heap.size wr w2 → (∃ av nv cv, v = .slice av nv cv) ∧ w2.cell? ⟨w.heap.size, j, none⟩ = some nilS ∧ w2.frozen? ⟨w.heap.size, j, none⟩ = false ∧ NewTo X w (j + 1) (w2.setCell ⟨w.heap.size, j, none⟩ v)) := fun v w2 g1 g2 => by
        refine ⟨?_, hS.out.step k1 g1 g2⟩
        obtain ⟨us, g1⟩ := g1
        obtain ⟨a, c, e⟩ := own_form g1.1
        exact ⟨_, _, _, e⟩
      clear hS hx x2 hB
      generalize X[j].2.length = n3 at *
      go_wp2_with fail
      refine q.out.mono ?_
      rintro e w2 ⟨v2, rfl, g1, g2⟩
      obtain ⟨⟨av, nv, cv, rfl⟩, y1, y2, y3⟩ := HP.out _ _ g1 g2
      unfold nilS at y1
      have F : Hid (NewTo X w (j + 1) (w2.setCell ⟨w.heap.size, j, none⟩ (.slice av nv cv))) := y3
      clear q HP g1 g2 y3 x1
      go_wp2_with fail
      go_roundw
      case rel => exact ⟨j + 1, by omega, by go_num, F.out⟩
      case measure => simp [intOf]; omega
    · have I1 : ¬ (j : Int) < (X.length : Int) := by omega
      obtain rfl : j = X.length := by omega
      obtain ⟨Z, z1, z2, z3⟩ := hS.out.fin HX.out.2.1 hL
      have hf := flat_map z2
      have q := mgQueueOf Z _ wr z1
      have HP : Hid (∀ v w2, QueIs Z wr v w2 → ∃ ab cap n, v = .slice (some ⟨ab, 0, none⟩) n cap ∧ NewIs X w (.returned (.pointer (some ⟨w2.heap.size, 0, none⟩))) (w2.alloc (.cells #[.slice (some ⟨ab, 0, none⟩) n cap] 94))) := fun v w2 hQ => by
        obtain ⟨Y, ab, cap, e, y1, y2, y3⟩ := hQ.cur
        obtain ⟨f1, f2, _⟩ := que_flat y1
        exact ⟨ab, cap, Y.length, e, wr, w2.heap.size, ab, cap, Y, rfl, ⟨y3, y2, by rw [f2, hf]; exact hN⟩, fun r => by rw [f1, hf], by rw [f2, hf], z3⟩
      clear hS z1 z2 z3 hf
      go_wp2_with fail
      refine q.mono ?_
      rintro e w2 ⟨v, rfl, hQ⟩
      obtain ⟨ab, cap2, n2, rfl, g⟩ := HP.out _ _ hQ
      have F : Hid (NewIs X w (.returned (.pointer (some ⟨w2.heap.size, 0, none⟩))) (w2.alloc (.cells #[.slice (some ⟨ab, 0, none⟩) n2 cap2] 94))) := g
      clear q hQ HP g
      go_wp2_with fail
      go_ret
      exact F.out
end Go.Proofs.YtanfjnhpdchbbaaDoor
