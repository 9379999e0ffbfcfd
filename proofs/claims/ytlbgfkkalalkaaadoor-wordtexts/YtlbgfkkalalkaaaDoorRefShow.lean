/- What the document's own ShowValue answers of values that may be: the same as the program's Show. -/
import Derived.Test.YtlbgfkkalalkaaaDoorInj
import Derived.Laws.BytesArg
import Derived.Laws.OwnMore
import Derived.OwnWalk
namespace Go.Proofs.YtlbgfkkalalkaaaDoor
open Go.RowKit
set_option maxRecDepth 100000

theorem info_byte : (Tryd.prog.info? 5).map (fun i => (i.zero, i.size, i.bytes)) = some (some (.int .u8 0), 1, 1) := by kernel_rfl
/-- Bytes as cells. -/
def bv (l : List UInt8) : List Value := l.map fun b => .int .u8 (b.toNat : Int)
theorem bv_snoc (l : List UInt8) (c : UInt8) : bv l ++ [.int .u8 (c.toNat : Int)] = bv (l ++ [c]) := by simp [bv]
theorem bv_len (l : List UInt8) : (bv l).length = l.length := by simp [bv]
theorem dq_snoc : ∀ (l : List UInt8) (c : UInt8), dq (l ++ [c]) = dq l ++ (if c = 39 then [39, 39] else [c])
  | [], c => by simp [dq]
  | b :: l, c => by
    simp only [List.cons_append, dq]
    rw [dq_snoc l c]
    split <;> simp
theorem take_snoc (s : ByteArray) (k : Nat) (h : k < s.size) : s.data.toList.take (k + 1) = s.data.toList.take k ++ [s[k]] := by
  rw [List.take_succ_eq_append_getElem (by simpa using h)]; rfl
theorem nums_bytes (l : List UInt8) : strOfNums (l.map fun b => (b.toNat : Int)) = ⟨l.toArray⟩ := by
  unfold strOfNums
  simp [Function.comp_def]
theorem bytes_text {w : World} {B : Nat} {v : Value} {n : Nat} {l : List UInt8} (h : w.ownsRow B 5 1 v n (bv l)) (h0 : 0 < n) :
    ∃ g cap, v = .slice (some ⟨g, 0, none⟩) n cap ∧ (convert 45 9 (.slice (some ⟨g, 0, none⟩) n cap)).run Tryd.prog w = .ok (.string ⟨l.toArray⟩) w := by
  have hl := h.1
  rw [bv_len] at hl
  rcases h.2 with ⟨_, h⟩ | ⟨g, cap, cur, hv, _⟩
  · omega
  · subst hv
    refine ⟨g, cap, rfl, ?_⟩
    have := run_convert_bytes_arg (P := Tryd.prog) w 45 5 Tryd.underlying45 Tryd.underlying5 g 0 n cap (l.map fun b => (b.toNat : Int)) (by simp; omega) (fun i hi => by
      rw [Nat.zero_add, h.cellAt i (by omega)]
      have : i < l.length := by omega
      simp [bv, List.getD, this]) 9 Tryd.underlying9
    rw [this, nums_bytes]

theorem rel_sign {w : World} {B : Nat} {v : Value} {T D D' : List UInt8} {c : UInt8} (h : w.ownsRow B 5 1 v (T.length + 1 + 1) (bv T ++ [.int .u8 (c.toNat : Int)] ++ [.int .u8 39])) (hc : ((c.toNat : Int) == 39) = true) (hT : 39 :: D = T) (hD : D' = D ++ (if c = 39 then [39, 39] else [c])) :
    w.ownsRow B 5 1 v (39 :: D').length (bv (39 :: D')) := by
  have e : c = 39 := by
    have : (c.toNat : Int) = 39 := by simpa using hc
    apply UInt8.toNat_inj.1; show c.toNat = 39; omega
  subst hT hD e
  simpa [bv] using h
theorem rel_other {w : World} {B : Nat} {v : Value} {T D D' : List UInt8} {c : UInt8} (h : w.ownsRow B 5 1 v (T.length + 1) (bv T ++ [.int .u8 (c.toNat : Int)])) (hc : ((c.toNat : Int) == 39) = false) (hT : 39 :: D = T) (hD : D' = D ++ (if c = 39 then [39, 39] else [c])) :
    w.ownsRow B 5 1 v (39 :: D').length (bv (39 :: D')) := by
  have e : c ≠ 39 := by
    rintro rfl; simp at hc
  subst hT hD
  simpa [bv, e] using h

set_option maxHeartbeats 1000000 in
theorem refShow_text (n : Int) (s : ByteArray) (hs : s.size ≤ 4096) (w : World) :
    Calls Tryd.prog 7 #[.agg #[.int .i64 2, .int .i64 n, .string s]] w fun e w' => e = .returned (.string ⟨(39 :: (dq s.data.toList ++ [39])).toArray⟩) ∧ Below w.heap.size w w' := by
  obtain ⟨i0, hi, hz0, hz1, hz2⟩ := info_parts info_byte
  go_enter Tryd.func7, Tryd.ntmps7
  go_wp2_with fail
  have O0 : Hid (((w.alloc (.cells #[.int .i64 2, .int .i64 n, .string s] 31)).alloc (.cells #[.int .u8 39] 5)).ownsRow (w.heap.size + 1) 5 1 (.slice (some ⟨w.heap.size + 1, 0, none⟩) 1 1) 1 (bv [39])) := by
    have := World.ownsRow_lit (base := w.heap.size + 1) (e := 5) (size := 1) (w.alloc (.cells #[.int .i64 2, .int .i64 n, .string s] 31)) #[.int .u8 39] 1 (by simp) (by decide) (by simp)
    have e : ((w.alloc (.cells #[.int .i64 2, .int .i64 n, .string s] 31)).alloc (.cells #[.int .u8 39] 5)).ownsRow (w.heap.size + 1) 5 1 (.slice (some ⟨w.heap.size + 1, 0, none⟩) 1 1) 1 (bv [39]) := by simpa [bv] using this
    exact e
  have A0 : Hid (Below (w.heap.size + 1) (w.alloc (.cells #[.int .i64 2, .int .i64 n, .string s] 31)) ((w.alloc (.cells #[.int .i64 2, .int .i64 n, .string s] 31)).alloc (.cells #[.int .u8 39] 5))) := (Below.refl _ _).alloc (by simp) _
  have cb : Hid (∀ wr, Below (w.heap.size + 1) (w.alloc (.cells #[.int .i64 2, .int .i64 n, .string s] 31)) wr → wr.cell? ⟨w.heap.size, 2, none⟩ = some (.string s) ∧ w.heap.size + 1 ≤ wr.heap.size ∧ Below w.heap.size w wr) := fun wr hb => by
    refine ⟨?_, by simpa using hb.size, one_box.trans (hb.mono (by simp))⟩
    rw [hb.cell (p := ⟨w.heap.size, 2, none⟩) (by simp), World.cell?_alloc_at _ _ _ _ rfl]; rfl
  go_loopw [3, 4] (fun v i wr => ∃ j : Nat, j ≤ s.size ∧ i = .int .i64 j ∧ wr.ownsRow (w.heap.size + 1) 5 1 v (39 :: dq (s.data.toList.take j)).length (bv (39 :: dq (s.data.toList.take j))) ∧ Below (w.heap.size + 1) (w.alloc (.cells #[.int .i64 2, .int .i64 n, .string s] 31)) wr) (fun _ i _ => s.size - (intOf i).toNat)
  case atStart => exact ⟨0, by omega, rfl, O0.out, A0.out⟩
  case round =>
    obtain ⟨j, hj, rfl, hown, hB⟩ := hrel
    obtain ⟨hc2, hsz, hw⟩ := cb.out wr hB
    have hT : (39 :: dq (s.data.toList.take j)).length ≤ 8193 := by
      have h1 := dq_len (s.data.toList.take j); have h2 := List.length_take_le j s.data.toList; simp; omega
    by_cases hlt : j < s.size
    · have hts := take_snoc s j hlt
      have hI : (j : Int) < (s.size : Int) := by omega
      have HD : Hid (dq (s.data.toList.take (j + 1)) = dq (s.data.toList.take j) ++ (if s[j] = 39 then [39, 39] else [s[j]])) := by rw [hts]; exact dq_snoc _ _
      clear hts
      generalize hTe : (39 :: dq (s.data.toList.take j)) = T at *
      have HT : Hid ((39 :: dq (s.data.toList.take j)) = T) := hTe
      clear hTe
      have hrow := fun k hk => (hown.lt k hk).1
      have G1 : Hid (∀ o w1, (wr.alloc o).grownBy w1 (Value.ownBlock u3) → Below (w.heap.size + 1) (w.alloc (.cells #[.int .i64 2, .int .i64 n, .string s] 31)) w1) := fun o w1 hg => (hB.alloc hsz o).grown hg (by simp; omega) hrow
      clear hrow
      go_wp2_with (first | (at_builtin; refine wpList_append_own _ rfl (.tmp 27) (.tmp 32) 45 rfl (w.heap.size + 1) 5 i0 (.int .u8 0) 1 1 Tryd.underlying45 hi hz0 hz1 hz2 rfl (by decide) _ T.length (bv T) rfl (hown.alloc _) ⟨wr.heap.size, 0, none⟩ 1 1 [.int .u8 (s[j].toNat : Int)] rfl rfl (cell_one_new _ _ _) (by simp [Value.oneCell']) (by unfold maxLen; omega) (by omega) (by simp; omega) ?_; intro v1 w1 hown1 hg1 _; have hB1 := G1.out _ _ hg1; obtain ⟨hd2, hdz, hdw⟩ := cb.out w1 hB1; clear hg1) | (at_builtin; refine wpList_append_own _ rfl (.tmp 39) (.tmp 40) 45 rfl (w.heap.size + 1) 5 i0 (.int .u8 0) 1 1 Tryd.underlying45 hi hz0 hz1 hz2 rfl (by decide) _ (T.length + 1) (bv T ++ [.int .u8 (s[j].toNat : Int)]) rfl (hown1.alloc _) ⟨w1.heap.size, 0, none⟩ 1 1 [.int .u8 39] rfl rfl (cell_one_new _ _ _) (by simp [Value.oneCell']) (by unfold maxLen; omega) (by omega) (by simp; omega) ?_; intro v2 w2 hown2 hg2 _) | go_in)
      · have hB2 := (hB1.alloc hdz _).grown hg2 (by simp; omega) (fun k hk => (hown1.lt k hk).1)
        refine ⟨⟨j + 1, by omega, by go_num, rel_sign hown2 ‹_› HT.out HD.out, hB2⟩, ?_⟩
        simp [intOf]; omega
      · refine ⟨⟨j + 1, by omega, by go_num, rel_other hown1 ‹_› HT.out HD.out, hB1⟩, ?_⟩
        simp [intOf]; omega
    · obtain rfl : j = s.size := by omega
      have hta : s.data.toList.take s.size = s.data.toList := List.take_of_length_le (by rw [Lib.size_eq]; exact Nat.le_refl _)
      rw [hta] at hown hT
      clear hta
      generalize hTe : (39 :: dq s.data.toList) = T at *
      have HT : Hid ((39 :: dq s.data.toList) = T) := hTe
      clear hTe
      have hrow := fun k hk => (hown.lt k hk).1
      have G1 : Hid (∀ o w1, (wr.alloc o).grownBy w1 (Value.ownBlock u3) → Below w.heap.size w w1) := fun o w1 hg => (cb.out w1 ((hB.alloc hsz o).grown hg (by simp; omega) hrow)).2.2
      clear hrow
      go_wp2_with (first | (at_builtin; refine wpList_append_own _ rfl (.tmp 42) (.tmp 43) 45 rfl (w.heap.size + 1) 5 i0 (.int .u8 0) 1 1 Tryd.underlying45 hi hz0 hz1 hz2 rfl (by decide) _ T.length (bv T) rfl (hown.alloc _) ⟨wr.heap.size, 0, none⟩ 1 1 [.int .u8 39] rfl rfl (cell_one_new _ _ _) (by simp [Value.oneCell']) (by unfold maxLen; omega) (by omega) (by simp; omega) ?_; intro v1 w1 hown1 hg1 _; have hB1 := G1.out _ _ hg1; clear hg1; obtain ⟨g, cap, hv, htx⟩ := bytes_text (l := T ++ [39]) (by simpa [bv] using hown1) (by omega); subst hv; clear hown1) | go_in)
      go_ret
      refine ⟨?_, hB1⟩
      rw [← HT.out]; simp

set_option maxHeartbeats 1000000 in
theorem refShowValue (k n : Int) (s : ByteArray) (ck : ckV k n s = true) (h0 : -9223372036854775808 ≤ n) (h1 : n ≤ 9223372036854775807) (hs : s.size ≤ 4096) (w : World) (hr : Ready w) :
    Calls Tryd.prog 7 #[.agg #[.int .i64 k, .int .i64 n, .string s]] w fun e w' => e = .returned (.string ⟨(shV k n s).toArray⟩) ∧ Below w.heap.size w w' := by
  have hr1 : ∀ o, Ready (w.alloc o) := fun o => hr.on one_box
  rcases ck_cases ck with ⟨rfl, rfl, _⟩ | ⟨rfl, _⟩ | ⟨rfl, rfl⟩ | ⟨rfl, hn, _⟩
  · go_enter Tryd.func7, Tryd.ntmps7
    go_wp2
    go_ret
    exact ⟨rfl, one_box⟩
  · have hf := fun o => formatInt n ‹_› ‹_› (w.alloc o) (hr1 o)
    go_enter Tryd.func7, Tryd.ntmps7
    go_wp2_with (go_at_call 11; refine (hf _).mono ?_; rintro e w' ⟨rfl, hb⟩)
    go_ret
    exact ⟨rfl, one_box.trans (hb.mono (by simp))⟩
  · exact refShow_text 0 s hs w
  · rcases hn with rfl | rfl
    · have e : shV 3 0 s = [102, 97, 108, 115, 101] := tf.1
      rw [e]
      go_enter Tryd.func7, Tryd.ntmps7
      go_wp2
      go_ret
      exact ⟨rfl, one_box⟩
    · have e : shV 3 1 s = [116, 114, 117, 101] := tf.2
      rw [e]
      go_enter Tryd.func7, Tryd.ntmps7
      go_wp2
      go_ret
      exact ⟨rfl, one_box⟩
end Go.Proofs.YtlbgfkkalalkaaaDoor
