/- What the document's own Once answers of entries in memory. -/
import Derived.Test.YtmpochhcokmaiaaDoorOncePlain
import Derived.Test.YtmpochhcokmaiaaDoorOwns
namespace Go.Proofs.YtmpochhcokmaiaaDoor
open Go.RowKit Go.Sort
set_option maxRecDepth 100000
set_option linter.unusedVariables false

set_option maxHeartbeats 4000000 in
theorem refOnce (l : List Ent) (va : Value) (w : World) (hn : l.length ≤ 65536) (ha : EntsIs w va l) :
    Calls Tryd.prog 11 #[va] w fun e w' => ∃ v, e = .returned v ∧ EntsN w.heap.size w (onZ l) v w' ∧ Below w.heap.size w w' := by
  obtain ⟨i0, hi, hz0, hz1, hz2⟩ := info_parts info_entry
  obtain ⟨a0, cap, rfl⟩ := ha.form
  have Ha : Hid (EntsIs w (.slice a0 l.length cap) l) := ha
  have F0 : Hid (EntsN w.heap.size w (onZ (l.take 0)) (.slice none 0 0) w ∧ Below w.heap.size w w) := ⟨⟨[], World.ownsRow_nil _ _ _ _, by rw [List.take_zero]; exact Reads.nil w⟩, Below.refl _ _⟩
  clear ha
  go_enter Tryd.func11, Tryd.ntmps11
  go_wp2_with fail
  go_loopw [3, 4] (fun v i wr => ∃ j : Nat, j ≤ l.length ∧ i = .int .i64 j ∧ Hid (EntsN w.heap.size w (onZ (l.take j)) v wr ∧ Below w.heap.size w wr)) (fun _ i _ => l.length - (intOf i).toNat)
  case atStart => exact ⟨0, by omega, rfl, F0.out⟩
  case round =>
    clear F0
    obtain ⟨j, hj, rfl, hS⟩ := hrel
    by_cases k1 : j < l.length
    · have I1 : (j : Int) < (l.length : Int) := by omega
      obtain ⟨⟨us, s1, s2⟩, s3⟩ := hS.out
      obtain ⟨b, o, a1, c1, rfl, x1, x2, x3⟩ := Ha.out.at j k1
      have hul : us.length ≤ j := by have h1 := s2.1; have h2 := onZ_len (l.take j); rw [List.length_take] at h2; omega
      have HT : Hid (onZ (l.take (j + 1)) = onZ (l.take j) ++ if 0 < l[j].2 then [(l[j].1, 1)] else []) := onZ_take k1
      have HX : Hid (RowIs w (.slice a1 l[j].1.length c1) l[j].1) := x3
      have y1 := cell_on x1 s3
      have y2 := cell_on x2 s3
      have HO : Hid (wr.ownsRow w.heap.size 42 2 u3 us.length (es us)) := s1
      have HR : Hid (Reads w us (onZ (l.take j))) := s2
      have HB : Hid (Below w.heap.size w wr) := s3
      clear hS s1 s2 s3 x1 x2 x3
      generalize l[j].2 = k at *
      by_cases h0 : 0 < k
      · have F : Hid (∀ v2 w2, w2.ownsRow w.heap.size 42 2 v2 (us.length + 1) (es us ++ ec (.slice a1 l[j].1.length c1, 1)) → (wr.alloc (.cells #[.slice a1 l[j].1.length c1, .int .i64 1] 42)).grownBy w2 (Value.ownBlock u3) → EntsN w.heap.size w (onZ (l.take (j + 1))) v2 w2 ∧ Below w.heap.size w w2) := by
          intro v2 w2 g1 g2
          refine ⟨⟨us ++ [(.slice a1 l[j].1.length c1, 1)], ?_, ?_⟩, ?_⟩
          · rw [es_snoc, List.length_append]; exact g1
          · rw [HT.out, if_pos h0]; exact HR.out.snoc HX.out 1
          · exact (HB.out.alloc HB.out.size _).grown g2 (by have := HB.out.size; simp; omega) (fun k e => (HO.out.lt k e).1)
        have hsz := HB.out.size
        generalize l[j].1.length = n1 at *
        go_wp2_with (first | (at_builtin; refine wpList_append_own _ rfl _ _ 27 rfl w.heap.size 42 i0 (.agg #[.slice none 0 0, .int .i64 0]) 2 32 Tryd.underlying27 hi hz0 hz1 hz2 rfl (by decide) _ us.length (es us) rfl (HO.out.alloc _) ⟨wr.heap.size, 0, none⟩ 1 1 (ec (.slice a1 n1 c1, 1)) rfl rfl (cell_two_new _ _ _ _) (by simp [ec, Value.oneCell']) (by unfold maxLen; omega) (by omega) (by simp; omega) ?_; intro v2 w2 hown2 hg2 _; have hf : Hid _ := F.out _ _ hown2 hg2; clear hown2 hg2 F) | go_in)
        go_roundw
        case rel => exact ⟨j + 1, by omega, by go_num, hf.out⟩
        case measure => simp [intOf]; omega
      · have hf : Hid (EntsN w.heap.size w (onZ (l.take (j + 1))) u3 wr ∧ Below w.heap.size w wr) := ⟨⟨us, HO.out, by rw [HT.out, if_neg h0, List.append_nil]; exact HR.out⟩, HB.out⟩
        clear HT HO HR HX
        go_wp2_with fail
        go_roundw
        case rel => exact ⟨j + 1, by omega, by go_num, hf.out⟩
        case measure => simp [intOf]; omega
    · obtain rfl : j = l.length := by omega
      have I1 : ¬ (l.length : Int) < (l.length : Int) := by omega
      have h := hS.out
      rw [List.take_length] at h
      have E : Hid (EntsN w.heap.size w (onZ l) u3 wr ∧ Below w.heap.size w wr) := h
      clear h hS
      go_wp2_with fail
      go_ret
      exact ⟨_, rfl, E.out.1, E.out.2⟩
theorem refOnceI (l : List Ent) (va : Value) (w : World) (hn : l.length ≤ 65536) (ha : EntsIs w va l) :
    Calls Tryd.prog 11 #[va] w fun e w' => ∃ v, e = .returned v ∧ EntsIs w' v (onZ l) ∧ Below w.heap.size w w' :=
  (refOnce l va w hn ha).mono fun _ _ ⟨v, h1, ⟨us, h2, h3⟩, h4⟩ => ⟨v, h1, ⟨us, EntsAt.of_own h2, h3.on h4⟩, h4⟩
end Go.Proofs.YtmpochhcokmaiaaDoor
