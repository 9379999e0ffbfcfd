/- What merge's own answers of entries in memory: a list and rows of its own. (Out of SlOwn, the names turned.) -/
import Derived.Test.YtanfjnhpdchbbabDoorOwnEnts
namespace Go.Proofs.YtanfjnhpdchbbabDoor
open Go.RowKit Go.Sort
set_option maxRecDepth 100000
set_option maxHeartbeats 4000000 in
theorem mgOwn (l : List Ent) (va : Value) (w : World) (hn : l.length ≤ 65536) (ho : ∀ e ∈ l, e.1.length ≤ 65536) (ha : EntsIs w va l) :
    Calls Tryd.prog 24 #[va] w fun e w' => ∃ v, e = .returned v ∧ ZHas w.heap.size l v w' ∧ Below w.heap.size w w' := by
  obtain ⟨i0, hi, hz0, hz1, hz2⟩ := info_parts info_entry
  obtain ⟨a0, cap, rfl⟩ := ha.form
  have Ha : Hid (EntsIs w (.slice a0 l.length cap) l) := ha
  have Ho : Hid (∀ e ∈ l, e.1.length ≤ 65536) := ho
  clear ha ho
  have F0 : Hid (∀ w1, w1.ownsRow w.heap.size 39 2 (.slice (some ⟨w.heap.size, 0, none⟩) l.length l.length) l.length (madeCells (Value.agg #[.slice none 0 0, .int .i64 0]).cells (l.length * 2)).toList → w.grownBy w1 none → OwnTo l w 0 w1) := by
    intro w1 g1 g2
    refine ⟨[], rfl, by rw [made_ents] at g1; simpa using g1, ⟨rfl, fun i h => by simp at h⟩, (Below.refl _ _).grown g2 (Nat.le_refl _) (fun k e => by cases e)⟩
  go_enter Tryd.func24, Tryd.ntmps24
  go_wp2_with (first | (at_make; refine wpList_make_full _ rfl _ _ 29 rfl w.heap.size 39 i0 (.agg #[.slice none 0 0, .int .i64 0]) 2 Tryd.underlying29 hi hz0 hz1 .i64 .i64 _ _ l.length rfl rfl rfl rfl (by rw [hz2]; omega) (by unfold maxLen; omega) (Nat.le_refl _) ?_; intro w1 hown1 hg1; have c4 : Hid (OwnTo l w 0 w1) := F0.out _ hown1 hg1; clear hown1 hg1) | fail)
  clear F0 hi hz0 hz1 hz2
  go_loopw [11] (fun i wr => ∃ j : Nat, j ≤ l.length ∧ i = .int .i64 j ∧ Hid (OwnTo l w j wr)) (fun i _ => l.length - (intOf i).toNat)
  case atStart => exact ⟨0, by omega, rfl, c4.out⟩
  case round =>
    obtain ⟨j, hj, rfl, hS⟩ := hrel
    by_cases k1 : j < l.length
    · have I1 : (j : Int) < (l.length : Int) := by omega
      obtain ⟨us, hu, s1, s2, s3⟩ := hS.out
      obtain ⟨b, o, a1, c1, rfl, x1, x2, x3⟩ := (Ha.out.on s3).at j k1
      have hr1 : l[j].1.length ≤ 65536 := Ho.out _ (List.getElem_mem k1)
      obtain ⟨W, hW⟩ : ∃ W, W = wr.alloc (.cells #[.slice a1 l[j].1.length c1, .int .i64 l[j].2] 39) := ⟨_, rfl⟩
      have hbW : Hid (Below wr.heap.size wr W) := by rw [hW]; exact one_box
      have q : Hid (∀ V, Below W.heap.size W V → Calls Tryd.prog 40 #[.slice a1 l[j].1.length c1] V fun e w' => ∃ v, e = .returned v ∧ w'.ownsRow W.heap.size 45 3 v l[j].1.length (rc l[j].1) ∧ Below W.heap.size W w') := fun V hV =>
        (rowCopy l[j].1 _ V hr1 ((x3.on hbW.out).on hV)).mono fun e w' ⟨v, h1, h2, h3⟩ => ⟨v, h1, own_mono h2 hV.size, hV.trans (h3.mono hV.size)⟩
      have FC : Hid (∀ w7, Below W.heap.size W w7 → w7.cell? ⟨wr.heap.size, 1, none⟩ = some (.int .i64 l[j].2) ∧ w7.cell? ⟨w.heap.size, j * 2, none⟩ = some (.slice none 0 0) ∧ w7.cell? ⟨w.heap.size, j * 2 + 1, none⟩ = some (.int .i64 0) ∧ ∀ o, w7.frozen? ⟨w.heap.size, o, none⟩ = false) := by
        intro w7 h7
        have o7 := own_on (own_on s1 hbW.out) h7
        have hlen : j < (us ++ List.replicate (l.length - j) noEnt).length := by simp; omega
        have hat := es_at (us ++ List.replicate (l.length - j) noEnt) j hlen
        have hel : (us ++ List.replicate (l.length - j) noEnt)[j] = noEnt := by rw [List.getElem_append_right (by omega)]; simp
        rw [hel] at hat
        refine ⟨?_, ?_, ?_, fun o => o7.frozenAt o⟩
        · refine cell_on ?_ h7
          rw [hW, World.cell?_alloc_at _ _ _ _ (by simp)]; rfl
        · rw [o7.cellAt (j * 2) (by omega)]; exact hat.1
        · rw [o7.cellAt (j * 2 + 1) (by omega)]; exact hat.2
      have FA : Hid (∀ w7 v7, Below W.heap.size W w7 → w7.ownsRow W.heap.size 45 3 v7 l[j].1.length (rc l[j].1) → OwnTo l w (j + 1) ((w7.setCell ⟨w.heap.size, j * 2, none⟩ v7).setCell ⟨w.heap.size, j * 2 + 1, none⟩ (.int .i64 l[j].2))) := by
        intro w7 v7 h7 g7
        have hsz := hbW.out.size
        have hs3 := s3.size
        have o7 := own_on (own_on s1 hbW.out) h7
        have r7 := (s2.on hbW.out).on h7
        have b7 : Below w.heap.size w w7 := (s3.trans (hbW.out.mono hs3)).trans (h7.mono (by omega))
        have t1 := o7.stored (j * 2) v7
        have t2 := t1.1.stored (j * 2 + 1) (.int .i64 l[j].2)
        have gg := grown_trans t1.2 t2.2
        have rr := (r7.snoc (own_mono g7 (show w.heap.size ≤ W.heap.size by omega)) l[j].2).grown o7 gg
        refine ⟨us ++ [(v7, l[j].2)], by simp [hu], ?_, ?_, (b7.setCell (p := ⟨w.heap.size, j * 2, none⟩) (Nat.le_refl _) _).setCell (p := ⟨w.heap.size, j * 2 + 1, none⟩) (Nat.le_refl _) _⟩
        · have e : us ++ [(v7, l[j].2)] ++ List.replicate (l.length - (j + 1)) noEnt = (us ++ List.replicate (l.length - j) noEnt).set j (v7, l[j].2) := by
            rw [List.set_append, if_neg (by omega), hu, Nat.sub_self, show l.length - j = (l.length - (j + 1)) + 1 by omega, List.replicate_succ, List.set_cons_zero, List.append_assoc]; rfl
          rw [e, es_set _ _ _ (by simp; omega)]
          exact t2.1
        · rw [List.take_succ_eq_append_getElem k1]
          exact rr
      have HW : Hid (wr.alloc (.cells #[.slice a1 l[j].1.length c1, .int .i64 l[j].2] 39) = W) := hW.symm
      clear hS s1 s2 s3 x3 hbW hW
      generalize hrl : rc l[j].1 = rcl at *
      generalize l[j].1.length = n1 at *
      generalize l[j].2 = i1 at *
      go_wp2_with fail
      rw [HW.out]
      have z1 : W.cell? ⟨wr.heap.size, 0, none⟩ = some (.slice a1 n1 c1) := by rw [← HW.out, World.cell?_alloc_at _ _ _ _ (by simp)]; rfl
      have z2 : W.cell? ⟨wr.heap.size, 1, none⟩ = some (.int .i64 i1) := by rw [← HW.out, World.cell?_alloc_at _ _ _ _ (by simp)]; rfl
      go_region_with (go_at_call 40; refine (q.out _ ((Below.refl _ _).drew)).mono ?_; rintro e w7 ⟨v7, rfl, g7, h7⟩; obtain ⟨av, cv, rfl⟩ := own_form g7; obtain ⟨y0, y1, y2, fz⟩ := FC.out _ h7; have hf : Hid _ := FA.out _ _ h7 g7; clear g7 h7)
      all_goals
        clear FA FC q
        go_wp2_with fail
        go_roundw
        case rel => exact ⟨j + 1, by omega, by go_num, hf.out⟩
        case measure => simp [intOf]; omega
    · have I1 : ¬ (j : Int) < (l.length : Int) := by omega
      obtain rfl : j = l.length := by omega
      obtain ⟨us, hu, s1, s2, s3⟩ := hS.out
      have E : Hid (ZHas w.heap.size l (.slice (some ⟨w.heap.size, 0, none⟩) l.length l.length) wr ∧ Below w.heap.size w wr) := by
        refine ⟨⟨us, ?_, ?_⟩, s3⟩
        · rw [Nat.sub_self, List.replicate_zero, List.append_nil] at s1
          rw [hu]; exact s1
        · rw [List.take_length] at s2; exact s2
      clear hS s1 s2 s3 hu
      go_wp2_with fail
      go_ret
      exact ⟨_, rfl, E.out.1, E.out.2⟩
end Go.Proofs.YtanfjnhpdchbbabDoor
