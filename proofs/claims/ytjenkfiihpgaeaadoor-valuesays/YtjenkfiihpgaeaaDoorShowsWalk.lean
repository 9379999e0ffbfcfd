/- The law ValueShows answers true at every argument, and writes nothing that was there: its walk. -/
import Derived.Test.YtjenkfiihpgaeaaDoorFirst
import Derived.Test.YtjenkfiihpgaeaaDoorMakeValue
import Derived.Test.YtjenkfiihpgaeaaDoorInj
import Derived.Lib.QuietBelow
namespace Go.Proofs.YtjenkfiihpgaeaaDoor
open Go.RowKit Go.Sort

/-- A value's cells in a block. -/
def ValAt (R : Nat) (k n : Int) (s : ByteArray) (w : World) : Prop :=
  w.cell? ⟨R, 0, none⟩ = some (.int .i64 k) ∧ w.cell? ⟨R, 1, none⟩ = some (.int .i64 n) ∧ w.cell? ⟨R, 2, none⟩ = some (.string s) ∧ R < w.heap.size
theorem ValAt.made (w : World) (k n : Int) (s : ByteArray) (t : TypeId) : ValAt w.heap.size k n s (w.alloc (.cells #[.int .i64 k, .int .i64 n, .string s] t)) :=
  ⟨by rw [World.cell?_alloc_at _ _ _ _ rfl]; rfl, by rw [World.cell?_alloc_at _ _ _ _ rfl]; rfl, by rw [World.cell?_alloc_at _ _ _ _ rfl]; rfl, by simp⟩
theorem ValAt.on {R : Nat} {k n : Int} {s : ByteArray} {w w' : World} (h : ValAt R k n s w) (hb : Below w.heap.size w w') : ValAt R k n s w' := by
  obtain ⟨h1, h2, h3, h4⟩ := h
  have e := fun o => hb.cell (p := ⟨R, o, none⟩) h4
  exact ⟨by rw [e]; exact h1, by rw [e]; exact h2, by rw [e]; exact h3, Nat.lt_of_lt_of_le h4 hb.size⟩
theorem ValAt.but {S R : Nat} {k n : Int} {s : ByteArray} {w w' : World} (h : ValAt R k n s w) (hb : But S w w') (hS : R ≠ S) : ValAt R k n s w' := by
  obtain ⟨h1, h2, h3, h4⟩ := h
  have e := fun o => hb.cell (p := ⟨R, o, none⟩) hS h4
  exact ⟨by rw [e]; exact h1, by rw [e]; exact h2, by rw [e]; exact h3, Nat.lt_of_lt_of_le h4 hb.size⟩

/-- How two values are written, against whether they are one. -/
theorem show_same {k n : Int} {s : ByteArray} {k' n' : Int} {s' : ByteArray} (h : ckV k n s = true) (h' : ckV k' n' s' = true) :
    ((⟨(shV k n s).toArray⟩ : ByteArray).toList == (⟨(shV k' n' s').toArray⟩ : ByteArray).toList) = sV k n s k' n' s' := by
  rw [Bool.eq_iff_iff, sV_iff, beq_iff_eq, Lib.toList_data, Lib.toList_data]
  constructor
  · intro e; exact show_inj h h' (by simpa using e)
  · rintro ⟨rfl, rfl, rfl⟩; rfl
theorem text_same (s s' : ByteArray) : ((⟨(shV 2 0 s).toArray⟩ : ByteArray).toList == (⟨(shV 2 0 s').toArray⟩ : ByteArray).toList) = (s.toList == s'.toList) := by
  rw [Bool.eq_iff_iff, beq_iff_eq, beq_iff_eq, Lib.toList_data, Lib.toList_data]
  constructor
  · intro e
    have e' : (39 :: (dq s.data.toList ++ [39]) : List UInt8) = 39 :: (dq s'.data.toList ++ [39]) := by simpa [shV] using e
    rw [Lib.toList_data, Lib.toList_data]; exact text_inj e'
  · intro e; rw [toList_inj e]

set_option maxHeartbeats 4000000 in
theorem shows_main (a : Option Addr) (len cap : Nat) (zs : List Int) (a' : Option Addr) (len' cap' : Nat) (zs' : List Int) (s t : ByteArray) (h1 : (len : Int) ≤ 20) (h2 : (len' : Int) ≤ 20) (h3 : (s.size : Int) ≤ 60) (h4 : (t.size : Int) ≤ 60)
    (w : World) (hr : Ready w) (ha : IsRow .i64 w a len cap zs) (ha' : IsRow .i64 w a' len' cap' zs') :
    Calls Tryd.prog 5 #[.slice a len cap, .slice a' len' cap', .string s, .string t] w fun e w' => e = .returned (.bool true) ∧ Below w.heap.size w w' := by
  have Ha : Hid (IsRow .i64 w a len cap zs) := ha
  have Ha' : Hid (IsRow .i64 w a' len' cap' zs') := ha'
  clear ha ha'
  go_enter Tryd.func5, Tryd.ntmps5
  go_wp2_with fail
  refine (lawFirst _ hr).mono ?_
  rintro e w1 ⟨rfl, hb1⟩
  have B1 : Hid (Below w.heap.size w w1) := hb1
  clear hb1
  go_wp2_with fail
  refine (makeValue w1.heap.size a len cap zs 0 0 (.inl rfl) _ (SeqAt.make (Ha.out.below B1.out) _) (by decide)).mono ?_
  rintro e w2 ⟨k, n, x, p, rfl, ok, _, _, hb2⟩
  have B2 : Hid (Below w.heap.size w w2) := (B1.out.trans (one_box.mono B1.out.size)).trans (hb2.below B1.out.size (by have := B1.out.size; simp; omega))
  clear hb2
  go_wp2_with fail
  have M2 : SeqAt (w2.heap.size + 1) a' len' cap' zs' 0 ((w2.alloc (.cells #[.int .i64 k, .int .i64 n, .string x] 23)).alloc (.cells #[.slice a' len' cap', .int .i64 0] 28)) := by
    have := SeqAt.make (w := w2.alloc (.cells #[.int .i64 k, .int .i64 n, .string x] 23)) ((Ha'.out.below B2.out).below one_box) 28
    simpa using this
  refine (makeValue (w2.heap.size + 1) a' len' cap' zs' 0 0 (.inl rfl) _ M2 (by decide)).mono ?_
  clear M2
  rintro e w3 ⟨k', n', x', p', rfl, ok', _, _, hb3⟩
  have V1 : ValAt w2.heap.size k n x w3 := ((ValAt.made w2 k n x _).on one_box).but hb3 (by omega)
  have B3 : Hid (Below w.heap.size w w3) := (B2.out.trans (two_boxes.mono B2.out.size)).trans (hb3.below (by have := B2.out.size; omega) (by have := B2.out.size; simp; omega))
  clear hb3
  go_wp2_with fail
  have V2 := ValAt.made w3 k' n' x' 23
  replace V1 := V1.on (one_box (o := .cells #[.int .i64 k', .int .i64 n', .string x'] 23))
  have B4 : Hid (Below w.heap.size w (w3.alloc (.cells #[.int .i64 k', .int .i64 n', .string x'] 23))) := B3.out.trans (one_box.mono B3.out.size)
  generalize w3.alloc (.cells #[.int .i64 k', .int .i64 n', .string x'] 23) = W at *
  have R : ∀ d os, Ready (grow (redrawn W d) os) := fun d os => (hr.on B4.out).on (below_regrown W d os)
  obtain ⟨A, hA⟩ : ∃ A : ByteArray, A = ⟨(shV k n x).toArray⟩ := ⟨_, rfl⟩
  obtain ⟨A', hA'⟩ : ∃ A : ByteArray, A = ⟨(shV k' n' x').toArray⟩ := ⟨_, rfl⟩
  obtain ⟨T, hT⟩ : ∃ A : ByteArray, A = ⟨(shV 2 0 s).toArray⟩ := ⟨_, rfl⟩
  obtain ⟨T', hT'⟩ : ∃ A : ByteArray, A = ⟨(shV 2 0 t).toArray⟩ := ⟨_, rfl⟩
  have q1 : Hid (∀ d os, Calls Tryd.prog 14 #[.agg #[.int .i64 k, .int .i64 n, .string x]] (grow (redrawn W d) os) fun e w'' => e = .returned (.string A) ∧ ∃ p : Regrown, w'' = grow (redrawn W p.d) p.os) :=
    fun d os => by rw [hA]; exact Calls.regrown_of (valueShow k n x ok.2.1 ok.2.2.1 (by have := ok.2.2.2.1; omega) _ (R d os))
  have q2 : Hid (∀ d os, Calls Tryd.prog 14 #[.agg #[.int .i64 k', .int .i64 n', .string x']] (grow (redrawn W d) os) fun e w'' => e = .returned (.string A') ∧ ∃ p : Regrown, w'' = grow (redrawn W p.d) p.os) :=
    fun d os => by rw [hA']; exact Calls.regrown_of (valueShow k' n' x' ok'.2.1 ok'.2.2.1 (by have := ok'.2.2.2.1; omega) _ (R d os))
  have q3 : Hid (∀ d os, Calls Tryd.prog 16 #[.agg #[.int .i64 k, .int .i64 n, .string x], .agg #[.int .i64 k', .int .i64 n', .string x']] (grow (redrawn W d) os) fun e w'' => e = .returned (.bool (A.toList == A'.toList)) ∧ ∃ p : Regrown, w'' = grow (redrawn W p.d) p.os) :=
    fun d os => by rw [hA, hA', show_same ok.1 ok'.1]; exact Calls.regrown_of (sameValue _ _ _ _ _ _ _)
  have q4 : Hid (∀ d os, Calls Tryd.prog 18 #[.string s] (grow (redrawn W d) os) fun e w'' => e = .returned (.agg #[.int .i64 2, .int .i64 0, .string s]) ∧ ∃ p : Regrown, w'' = grow (redrawn W p.d) p.os) :=
    fun d os => Calls.regrown_of (valueStr s _)
  have q5 : Hid (∀ d os, Calls Tryd.prog 14 #[.agg #[.int .i64 2, .int .i64 0, .string s]] (grow (redrawn W d) os) fun e w'' => e = .returned (.string T) ∧ ∃ p : Regrown, w'' = grow (redrawn W p.d) p.os) :=
    fun d os => by rw [hT]; exact Calls.regrown_of (valueShow 2 0 s (by decide) (by decide) (by omega) _ (R d os))
  have q6 : Hid (∀ d os, Calls Tryd.prog 18 #[.string t] (grow (redrawn W d) os) fun e w'' => e = .returned (.agg #[.int .i64 2, .int .i64 0, .string t]) ∧ ∃ p : Regrown, w'' = grow (redrawn W p.d) p.os) :=
    fun d os => Calls.regrown_of (valueStr t _)
  have q7 : Hid (∀ d os, Calls Tryd.prog 14 #[.agg #[.int .i64 2, .int .i64 0, .string t]] (grow (redrawn W d) os) fun e w'' => e = .returned (.string T') ∧ ∃ p : Regrown, w'' = grow (redrawn W p.d) p.os) :=
    fun d os => by rw [hT']; exact Calls.regrown_of (valueShow 2 0 t (by decide) (by decide) (by omega) _ (R d os))
  have hTT : (T.toList == T'.toList) = (s.toList == t.toList) := by rw [hT, hT']; exact text_same s t
  have g1 := fun d os => V1.on (below_regrown W d os)
  have g2 := fun d os => V2.on (below_regrown W d os)
  unfold ValAt at g1 g2
  clear hA hA' hT hT' R ok ok' V1 V2
  refine wp_region_quiet_below (by kernel_rfl) (by kernel_rfl) ?_
  iterate 4 (quiet_step (exact q1.out _ _))
  iterate 2 (quiet_step (exact q2.out _ _))
  iterate 4 (quiet_step (exact q3.out _ _))
  iterate 5 (quiet_step (exact q4.out _ _))
  iterate 1 (quiet_step (exact q5.out _ _))
  iterate 2 (quiet_step (exact q6.out _ _))
  iterate 1 (quiet_step (exact q7.out _ _))
  iterate 7 (quiet_step (fail))
  refine wpQuiet_nil ?_
  intro w6 hw6
  obtain ⟨p, hw6⟩ := hw6
  have hb6 : Below w.heap.size w w6 := by rw [hw6]; exact B4.out.trans ((below_regrown W _ _).mono B4.out.size)
  clear hw6 g1 g2
  go_wp2_with fail
  go_ret
  exact ⟨rfl, hb6⟩

set_option maxHeartbeats 1000000 in
theorem shows_long (a : Option Addr) (len cap : Nat) (a' : Option Addr) (len' cap' : Nat) (s t : ByteArray) (w : World) (hr : Ready w)
    (h : 20 < (len : Int) ∨ (len : Int) ≤ 20 ∧ 20 < (len' : Int) ∨ (len : Int) ≤ 20 ∧ (len' : Int) ≤ 20 ∧ 60 < (s.size : Int) ∨ (len : Int) ≤ 20 ∧ (len' : Int) ≤ 20 ∧ (s.size : Int) ≤ 60 ∧ 60 < (t.size : Int)) :
    Calls Tryd.prog 5 #[.slice a len cap, .slice a' len' cap', .string s, .string t] w fun e w' => e = .returned (.bool true) ∧ Below w.heap.size w w' := by
  rcases h with h1 | ⟨h1, h2⟩ | ⟨h1, h2, h3⟩ | ⟨h1, h2, h3, h4⟩
  all_goals
    go_enter Tryd.func5, Tryd.ntmps5
    go_wp2_with fail
    refine (lawFirst _ hr).mono ?_
    rintro e w1 ⟨rfl, hb1⟩
    go_wp2_with fail
    go_ret
    exact ⟨rfl, hb1⟩

theorem valueShows_walk (a : Option Addr) (len cap : Nat) (zs : List Int) (a' : Option Addr) (len' cap' : Nat) (zs' : List Int) (s : ByteArray) (_ : s.size ≤ maxLen) (t : ByteArray) (_ : t.size ≤ maxLen)
    (w : World) (hr : Ready w) (ha : IsRow .i64 w a len cap zs) (ha' : IsRow .i64 w a' len' cap' zs') :
    Calls Tryd.prog 5 #[.slice a len cap, .slice a' len' cap', .string s, .string t] w fun e w' => e = .returned (.bool true) ∧ Below w.heap.size w w' := by
  by_cases h : (len : Int) ≤ 20 ∧ (len' : Int) ≤ 20 ∧ (s.size : Int) ≤ 60 ∧ (t.size : Int) ≤ 60
  · exact shows_main a len cap zs a' len' cap' zs' s t h.1 h.2.1 h.2.2.1 h.2.2.2 w hr ha ha'
  · exact shows_long a len cap a' len' cap' s t w hr (by omega)
end Go.Proofs.YtjenkfiihpgaeaaDoor
