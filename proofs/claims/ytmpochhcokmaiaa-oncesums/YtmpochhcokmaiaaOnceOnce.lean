/- What once.Once answers: copies of the rows above none, each once. -/
import Derived.Test.YtmpochhcokmaiaaOncePlain
import Derived.Test.YtmpochhcokmaiaaOwns
import Derived.Test.YtmpochhcokmaiaaRowCopy
import Derived.Test.YtmpochhcokmaiaaAppAt
namespace Go.Proofs.Ytmpochhcokmaiaa
open Go.RowKit Go.Sort
set_option maxRecDepth 100000
set_option linter.unusedVariables false

theorem on_eok {z : List Ent} (h : EOk z) : EOk (onZ z) := fun e he => by
  obtain ⟨h1, x, hx, _, h2⟩ := onZ_mem he
  exact ⟨by rw [h1]; rfl, by rw [← h2]; exact (h x hx).2⟩
/-- How far it has come. -/
def OnSo (l : List Ent) (w : World) (j : Nat) (v : Value) (wr : World) : Prop :=
  (∃ us, us.length ≤ j ∧ ZOwn w.heap.size us (onZ (l.take j)) v wr) ∧ Below w.heap.size w wr
set_option maxHeartbeats 4000000 in
theorem onOnce (l : List Ent) (va : Value) (w : World) (hn : l.length ≤ 65536) (hl : EOk l) (ha : EntsIs w va l) :
    Calls Try.prog 5 #[va] w fun e w' => ∃ v, e = .returned v ∧ ZHas w.heap.size (onZ l) v w' ∧ Below w.heap.size w w' := by
  obtain ⟨i0, hi, hz0, hz1, hz2⟩ := info_parts info_entry
  obtain ⟨a0, cap, rfl⟩ := ha.form
  have Ha : Hid (EntsIs w (.slice a0 l.length cap) l) := ha
  have Hl : Hid (EOk l) := hl
  have F0 : Hid (OnSo l w 0 (.slice none 0 0) w) := ⟨⟨[], Nat.le_refl _, by rw [List.take_zero]; exact ZOwn.nil _ _⟩, Below.refl _ _⟩
  clear ha hl
  go_enter Try.func5, Try.ntmps5
  go_wp2_with fail
  go_loopw [3, 8] (fun v i wr => ∃ j : Nat, j ≤ l.length ∧ i = .int .i64 j ∧ Hid (OnSo l w j v wr)) (fun _ i _ => l.length - (intOf i).toNat)
  case atStart => exact ⟨0, by omega, rfl, F0.out⟩
  case round =>
    clear F0
    obtain ⟨j, hj, rfl, hS⟩ := hrel
    by_cases k1 : j < l.length
    · have I1 : (j : Int) < (l.length : Int) := by omega
      obtain ⟨⟨us, hu, s1⟩, s3⟩ := hS.out
      obtain ⟨b, o, a1, c1, rfl, x1, x2, x3⟩ := (Ha.out.on s3).at j k1
      have hr1 : l[j].1.length ≤ 65536 := (Hl.out _ (List.getElem_mem k1)).2
      have HT : Hid (onZ (l.take (j + 1)) = onZ (l.take j) ++ if 0 < l[j].2 then [(l[j].1, 1)] else []) := onZ_take k1
      have q1 := rowCopy l[j].1 _ (wr.alloc (.cells #[.slice a1 l[j].1.length c1, .int .i64 l[j].2] 36)) hr1 (x3.on one_box)
      have hs3 := s3.size
      have FA : Hid (∀ v7 w7 base7, w7.ownsRow base7 39 3 v7 l[j].1.length (rc l[j].1) → w.heap.size ≤ base7 → Below wr.heap.size wr w7 → 0 < l[j].2 →
          w7.ownsRow w.heap.size 36 2 u3 us.length (es us) ∧ w.heap.size ≤ w7.heap.size ∧
          ∀ v8 w8, w8.ownsRow w.heap.size 36 2 v8 (us.length + 1) (es us ++ ec (v7, 1)) → (w7.alloc (.cells #[v7, .int .i64 1] 36)).grownBy w8 (Value.ownBlock u3) → OnSo l w (j + 1) v8 w8) := by
        intro v7 w7 base7 g7 hb7 h7 h0
        have o7 := s1.on h7
        have b7 := s3.trans (h7.mono hs3)
        refine ⟨o7.1, b7.size, fun v8 w8 g1 g2 => ⟨⟨us ++ [(v7, 1)], by simp; omega, ?_, ?_⟩, ?_⟩⟩
        · rw [List.length_append, es_snoc]; exact g1
        · rw [HT.out, if_pos h0]
          exact OwnRows.grown (w := w7.alloc (.cells #[v7, .int .i64 1] 36)) (OwnRows.snoc (o7.2.on one_box) (own_on (own_mono g7 hb7) one_box) 1) (own_on o7.1 one_box) g2
        · exact (b7.alloc b7.size _).grown g2 (by have := b7.size; simp; omega) (fun k e => (o7.1.lt k e).1)
      have FB : Hid (¬ 0 < l[j].2 → OnSo l w (j + 1) u3 (wr.alloc (.cells #[.slice a1 l[j].1.length c1, .int .i64 l[j].2] 36))) := fun h0 => by
        refine ⟨⟨us, by omega, ?_⟩, s3.trans (one_box.mono hs3)⟩
        rw [HT.out, if_neg h0, List.append_nil]
        exact s1.on one_box
      clear hS s1 s3 x3 HT
      generalize rc l[j].1 = R at *
      generalize l[j].1.length = n1 at *
      generalize l[j].2 = k at *
      by_cases h0 : 0 < k
      · clear FB
        go_wp2_with fail
        refine q1.mono ?_
        rintro e w7 ⟨v7, rfl, g7, h7⟩
        have H7 : Below wr.heap.size wr w7 := one_box.trans (h7.mono (by simp))
        obtain ⟨o7, hz7, hf7⟩ := FA.out v7 w7 _ g7 (by simp; omega) H7 h0
        obtain ⟨av7, cv7, rfl⟩ := own_form g7
        have G7 : Hid (∀ v8 w8, _ → _ → _) := hf7
        clear q1 g7 h7 H7 FA hf7
        go_wp2_with (first | (at_builtin; refine wpList_append_own _ rfl _ _ 27 rfl w.heap.size 36 i0 (.agg #[.slice none 0 0, .int .i64 0]) 2 32 Try.underlying27 hi hz0 hz1 hz2 rfl (by decide) _ us.length (es us) rfl (own_on o7 one_box) ⟨w7.heap.size, 0, none⟩ 1 1 (ec (.slice av7 n1 cv7, 1)) rfl rfl (cell_two_new _ _ _ _) (by simp [ec, Value.oneCell']) (by unfold maxLen; omega) (by omega) (by simp; omega) ?_; intro v8 w8 hown8 hg8 _; have hf : Hid _ := G7.out _ _ hown8 hg8; clear hown8 hg8 G7 o7) | go_in)
        go_roundw
        case rel => exact ⟨j + 1, by omega, by go_num, hf.out⟩
        case measure => simp [intOf]; omega
      · have hf : Hid _ := FB.out h0
        clear FA FB q1
        go_wp2_with fail
        go_roundw
        case rel => exact ⟨j + 1, by omega, by go_num, hf.out⟩
        case measure => simp [intOf]; omega
    · obtain rfl : j = l.length := by omega
      have I1 : ¬ (l.length : Int) < (l.length : Int) := by omega
      obtain ⟨⟨us, hu, s1⟩, s3⟩ := hS.out
      rw [List.take_length] at s1
      have E : Hid (ZHas w.heap.size (onZ l) u3 wr ∧ Below w.heap.size w wr) := ⟨⟨us, s1⟩, s3⟩
      clear hS s1 s3
      go_wp2_with fail
      go_ret
      exact ⟨_, rfl, E.out.1, E.out.2⟩
end Go.Proofs.Ytmpochhcokmaiaa
