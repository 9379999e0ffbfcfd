/- The law ValueSays answers true at every argument, and writes nothing that was there: its walk. -/
import Derived.Test.YtjenkfiihpgaeaaDoorShowsWalk
import Derived.Test.YtjenkfiihpgaeaaDoorRef
import Derived.Test.YtjenkfiihpgaeaaDoorRefShow
namespace Go.Proofs.YtjenkfiihpgaeaaDoor
open Go.RowKit Go.Sort

theorem bc2 {w w1 : World} {o p : Obj} (hb : Below ((w.alloc o).alloc p).heap.size ((w.alloc o).alloc p) w1) : ∀ b i, b < w.heap.size + 2 → w1.cell? ⟨b, i, none⟩ = ((w.alloc o).alloc p).cell? ⟨b, i, none⟩ :=
  fun b i h => hb.cell (p := ⟨b, i, none⟩) (by simpa using h)
theorem sV_self (k n : Int) (s : ByteArray) : sV k n s k n s = true := (sV_iff _ _ _ _ _ _).2 ⟨rfl, rfl, rfl⟩

set_option maxHeartbeats 4000000 in
theorem says_true (ka na : Int) (sa : ByteArray) (kb nb : Int) (sb : ByteArray) (a : Option Addr) (len cap : Nat) (zs : List Int) (n : Int) (s : ByteArray)
    (h1 : (sa.size : Int) ≤ 200) (h2 : (sb.size : Int) ≤ 200) (h3 : (len : Int) ≤ 40) (h4 : (s.size : Int) ≤ 100) (w : World) (hr : Ready w) (ha : IsRow .i64 w a len cap zs) :
    Calls Tryd.prog 3 #[.agg #[.int .i64 ka, .int .i64 na, .string sa], .agg #[.int .i64 kb, .int .i64 nb, .string sb], .slice a len cap, .int .i64 n, .string s, .bool true] w fun e w' => e = .returned (.bool true) ∧ Below w.heap.size w w' := by
  have Ha : Hid (IsRow .i64 w a len cap zs) := ha
  clear ha
  go_enter Tryd.func3, Tryd.ntmps3
  go_wp2_with fail
  refine (lawFirst _ (hr.on two_boxes)).mono ?_
  rintro e w1 ⟨rfl, hb1⟩
  have B1 : Hid (Below w.heap.size w w1) := two_boxes.trans (hb1.mono (by simp; omega))
  have VA : Hid (ValAt w.heap.size ka na sa w1) := ((ValAt.made w ka na sa _).on one_box).on hb1
  have VB : Hid (ValAt (w.heap.size + 1) kb nb sb w1) := by
    have h := (ValAt.made (w.alloc (.cells #[.int .i64 ka, .int .i64 na, .string sa] 23)) kb nb sb 23).on hb1
    have e : ValAt (w.heap.size + 1) kb nb sb w1 := by simpa using h
    exact e
  clear hb1
  have z1 : w.heap.size + 2 ≤ w1.heap.size := by have := VB.out.2.2.2; omega
  obtain ⟨ca0, ca1, ca2, _⟩ := VA.out
  obtain ⟨cb0, cb1, cb2, _⟩ := VB.out
  go_wp2_with fail
  refine (makeValue w1.heap.size a len cap zs 0 0 (.inl rfl) _ (SeqAt.make (Ha.out.below B1.out) _) (by decide)).mono ?_
  rintro e w2 ⟨k, n', x, p, rfl, ok, hp, hq, hb2⟩
  clear ca0 ca1 ca2 cb0 cb1 cb2
  have B2 : Hid (Below w.heap.size w w2) := (B1.out.trans (one_box.mono B1.out.size)).trans (hb2.below B1.out.size (by have := B1.out.size; simp; omega))
  have VA2 : Hid (ValAt w.heap.size ka na sa w2) := (VA.out.on one_box).but hb2 (by omega)
  have VB2 : Hid (ValAt (w.heap.size + 1) kb nb sb w2) := (VB.out.on one_box).but hb2 (by omega)
  have Q2 : Hid (SeqAt w1.heap.size a len cap zs p (w2.alloc (.cells #[.int .i64 k, .int .i64 n', .string x] 23))) := hq.on one_box
  have z2 : w1.heap.size + 1 ≤ w2.heap.size := by have := hb2.size; simpa using this
  clear hb2 hq VA VB
  go_wp2_with fail
  refine (makeValue w1.heap.size a len cap zs p 0 (.inl rfl) _ Q2.out (by omega)).mono ?_
  rintro e w3 ⟨k', n'', x', p', rfl, ok', _, _, hb3⟩
  have VX : Hid (ValAt w2.heap.size k n' x w3) := (ValAt.made w2 k n' x _).but hb3 (by omega)
  have VA3 : Hid (ValAt w.heap.size ka na sa w3) := (VA2.out.on one_box).but hb3 (by omega)
  have VB3 : Hid (ValAt (w.heap.size + 1) kb nb sb w3) := (VB2.out.on one_box).but hb3 (by omega)
  have B3 : Hid (Below w.heap.size w w3) := (B2.out.trans (one_box.mono B2.out.size)).trans (hb3.below (by omega) (by have := B2.out.size; simp; omega))
  clear hb3 VA2 VB2 Q2
  go_wp2_with fail
  have E : Below w3.heap.size w3 ((w3.alloc (.cells #[.int .i64 k', .int .i64 n'', .string x'] 23)).alloc (.cells #[.int .i64 3, .int .i64 1, .string ⟨#[]⟩] 23)) := two_boxes
  have gY : ValAt w3.heap.size k' n'' x' ((w3.alloc (.cells #[.int .i64 k', .int .i64 n'', .string x'] 23)).alloc (.cells #[.int .i64 3, .int .i64 1, .string ⟨#[]⟩] 23)) := (ValAt.made w3 k' n'' x' _).on one_box
  have gT : ValAt (w3.heap.size + 1) 3 1 ⟨#[]⟩ ((w3.alloc (.cells #[.int .i64 k', .int .i64 n'', .string x'] 23)).alloc (.cells #[.int .i64 3, .int .i64 1, .string ⟨#[]⟩] 23)) := by
    have h := ValAt.made (w3.alloc (.cells #[.int .i64 k', .int .i64 n'', .string x'] 23)) 3 1 ⟨#[]⟩ 23
    simpa using h
  generalize (w3.alloc (.cells #[.int .i64 k', .int .i64 n'', .string x'] 23)).alloc (.cells #[.int .i64 3, .int .i64 1, .string ⟨#[]⟩] 23) = W at *
  have B4 : Hid (Below w.heap.size w W) := B3.out.trans (E.mono B3.out.size)
  have R : ∀ d os, Ready (grow (redrawn W d) os) := fun d os => (hr.on B4.out).on (below_regrown W d os)
  obtain ⟨A, hA⟩ : ∃ A : ByteArray, A = ⟨(shV k n' x).toArray⟩ := ⟨_, rfl⟩
  obtain ⟨c1, hc1⟩ : ∃ c, c = ckV ka na sa := ⟨_, rfl⟩
  obtain ⟨i1, hi1⟩ : ∃ c, c = cV ka na sa kb nb sb := ⟨_, rfl⟩
  obtain ⟨i2, hi2⟩ : ∃ c, c = cV k n' x k' n'' x' := ⟨_, rfl⟩
  have q1 : Hid (∀ d os, Calls Tryd.prog 10 #[.agg #[.int .i64 ka, .int .i64 na, .string sa]] (grow (redrawn W d) os) fun e w'' => e = .returned (.bool c1) ∧ ∃ p : Regrown, w'' = grow (redrawn W p.d) p.os) :=
    fun d os => by rw [hc1]; exact Calls.regrown_of (valueCheck _ _ _ _)
  have q2 : Hid (∀ d os, Calls Tryd.prog 11 #[.agg #[.int .i64 ka, .int .i64 na, .string sa]] (grow (redrawn W d) os) fun e w'' => e = .returned (.bool c1) ∧ ∃ p : Regrown, w'' = grow (redrawn W p.d) p.os) :=
    fun d os => by rw [hc1]; exact Calls.regrown_of (refCheckValue _ _ _ _)
  have q3 : Hid (∀ d os, Calls Tryd.prog 12 #[.agg #[.int .i64 ka, .int .i64 na, .string sa], .agg #[.int .i64 kb, .int .i64 nb, .string sb]] (grow (redrawn W d) os) fun e w'' => e = .returned (.int .i64 i1) ∧ ∃ p : Regrown, w'' = grow (redrawn W p.d) p.os) :=
    fun d os => by rw [hi1]; exact Calls.regrown_of (valueCompare _ _ _ _ _ _ _)
  have q4 : Hid (∀ d os, Calls Tryd.prog 13 #[.agg #[.int .i64 ka, .int .i64 na, .string sa], .agg #[.int .i64 kb, .int .i64 nb, .string sb]] (grow (redrawn W d) os) fun e w'' => e = .returned (.int .i64 i1) ∧ ∃ p : Regrown, w'' = grow (redrawn W p.d) p.os) :=
    fun d os => by rw [hi1]; exact Calls.regrown_of (refCompareValues _ _ _ _ _ _ _)
  have q5 : Hid (∀ d os, Calls Tryd.prog 12 #[.agg #[.int .i64 k, .int .i64 n', .string x], .agg #[.int .i64 k', .int .i64 n'', .string x']] (grow (redrawn W d) os) fun e w'' => e = .returned (.int .i64 i2) ∧ ∃ p : Regrown, w'' = grow (redrawn W p.d) p.os) :=
    fun d os => by rw [hi2]; exact Calls.regrown_of (valueCompare _ _ _ _ _ _ _)
  have q6 : Hid (∀ d os, Calls Tryd.prog 13 #[.agg #[.int .i64 k, .int .i64 n', .string x], .agg #[.int .i64 k', .int .i64 n'', .string x']] (grow (redrawn W d) os) fun e w'' => e = .returned (.int .i64 i2) ∧ ∃ p : Regrown, w'' = grow (redrawn W p.d) p.os) :=
    fun d os => by rw [hi2]; exact Calls.regrown_of (refCompareValues _ _ _ _ _ _ _)
  have q7 : Hid (∀ d os, Calls Tryd.prog 14 #[.agg #[.int .i64 k, .int .i64 n', .string x]] (grow (redrawn W d) os) fun e w'' => e = .returned (.string A) ∧ ∃ p : Regrown, w'' = grow (redrawn W p.d) p.os) :=
    fun d os => by rw [hA]; exact Calls.regrown_of (valueShow k n' x ok.2.1 ok.2.2.1 (by have := ok.2.2.2.1; omega) _ (R d os))
  have q8 : Hid (∀ d os, Calls Tryd.prog 15 #[.agg #[.int .i64 k, .int .i64 n', .string x]] (grow (redrawn W d) os) fun e w'' => e = .returned (.string A) ∧ ∃ p : Regrown, w'' = grow (redrawn W p.d) p.os) :=
    fun d os => by rw [hA]; exact Calls.regrown_of (refShowValue k n' x ok.1 ok.2.1 ok.2.2.1 (by have := ok.2.2.2.1; omega) _ (R d os))
  have q9 : Hid (∀ d os, Calls Tryd.prog 17 #[.int .i64 n] (grow (redrawn W d) os) fun e w'' => e = .returned (.agg #[.int .i64 1, .int .i64 n, .string ⟨#[]⟩]) ∧ ∃ p : Regrown, w'' = grow (redrawn W p.d) p.os) :=
    fun d os => Calls.regrown_of (valueOf n _)
  have q10 : Hid (∀ d os, Calls Tryd.prog 16 #[.agg #[.int .i64 1, .int .i64 n, .string ⟨#[]⟩], .agg #[.int .i64 1, .int .i64 n, .string ⟨#[]⟩]] (grow (redrawn W d) os) fun e w'' => e = .returned (.bool true) ∧ ∃ p : Regrown, w'' = grow (redrawn W p.d) p.os) :=
    fun d os => by rw [← sV_self 1 n ⟨#[]⟩]; exact Calls.regrown_of (sameValue _ _ _ _ _ _ _)
  have q11 : Hid (∀ d os, Calls Tryd.prog 18 #[.string s] (grow (redrawn W d) os) fun e w'' => e = .returned (.agg #[.int .i64 2, .int .i64 0, .string s]) ∧ ∃ p : Regrown, w'' = grow (redrawn W p.d) p.os) :=
    fun d os => Calls.regrown_of (valueStr s _)
  have q12 : Hid (∀ d os, Calls Tryd.prog 16 #[.agg #[.int .i64 2, .int .i64 0, .string s], .agg #[.int .i64 2, .int .i64 0, .string s]] (grow (redrawn W d) os) fun e w'' => e = .returned (.bool true) ∧ ∃ p : Regrown, w'' = grow (redrawn W p.d) p.os) :=
    fun d os => by rw [← sV_self 2 0 s]; exact Calls.regrown_of (sameValue _ _ _ _ _ _ _)
  have q13 : Hid (∀ d os, Calls Tryd.prog 19 #[.bool true] (grow (redrawn W d) os) fun e w'' => e = .returned (.agg #[.int .i64 3, .int .i64 1, .string ⟨#[]⟩]) ∧ ∃ p : Regrown, w'' = grow (redrawn W p.d) p.os) :=
    fun d os => Calls.regrown_of (valueIs true _)
  have q14 : Hid (∀ d os, Calls Tryd.prog 16 #[.agg #[.int .i64 3, .int .i64 1, .string ⟨#[]⟩], .agg #[.int .i64 3, .int .i64 1, .string ⟨#[]⟩]] (grow (redrawn W d) os) fun e w'' => e = .returned (.bool true) ∧ ∃ p : Regrown, w'' = grow (redrawn W p.d) p.os) :=
    fun d os => by rw [← sV_self 3 1 ⟨#[]⟩]; exact Calls.regrown_of (sameValue _ _ _ _ _ _ _)
  have q15 : Hid (∀ d os, Calls Tryd.prog 10 #[.agg #[.int .i64 k, .int .i64 n', .string x]] (grow (redrawn W d) os) fun e w'' => e = .returned (.bool true) ∧ ∃ p : Regrown, w'' = grow (redrawn W p.d) p.os) :=
    fun d os => by rw [← ok.1]; exact Calls.regrown_of (valueCheck _ _ _ _)
  have g1 := fun d os => (VA3.out.on E).on (below_regrown W d os)
  have g2 := fun d os => (VB3.out.on E).on (below_regrown W d os)
  have g3 := fun d os => (VX.out.on E).on (below_regrown W d os)
  have g4 := fun d os => gY.on (below_regrown W d os)
  have g5 := fun d os => gT.on (below_regrown W d os)
  unfold ValAt at g1 g2 g3 g4 g5
  clear hA hc1 hi1 hi2 R ok ok' gY gT E VA3 VB3 VX z1 z2 hp
  refine wp_region_quiet_below (by kernel_rfl) (by kernel_rfl) ?_
  iterate 4 (quiet_step (exact q1.out _ _))
  iterate 2 (quiet_step (exact q2.out _ _))
  iterate 6 (quiet_step (exact q3.out _ _))
  iterate 3 (quiet_step (exact q4.out _ _))
  iterate 6 (quiet_step (exact q5.out _ _))
  iterate 3 (quiet_step (exact q6.out _ _))
  iterate 5 (quiet_step (exact q7.out _ _))
  iterate 2 (quiet_step (exact q8.out _ _))
  iterate 5 (quiet_step (exact q9.out _ _))
  iterate 3 (quiet_step (exact q10.out _ _))
  iterate 4 (quiet_step (exact q11.out _ _))
  iterate 3 (quiet_step (exact q12.out _ _))
  iterate 4 (quiet_step (exact q13.out _ _))
  iterate 2 (quiet_step (exact q14.out _ _))
  iterate 4 (quiet_step (exact q15.out _ _))
  iterate 2 (quiet_step (fail))
  refine wpQuiet_nil ?_
  intro w6 hw6
  obtain ⟨p6, hw6⟩ := hw6
  have hb6 : Below w.heap.size w w6 := by rw [hw6]; exact B4.out.trans ((below_regrown W _ _).mono B4.out.size)
  clear hw6 g1 g2 g3 g4 g5
  go_wp2_with fail
  go_ret
  exact ⟨rfl, hb6⟩

set_option maxHeartbeats 4000000 in
theorem says_false (ka na : Int) (sa : ByteArray) (kb nb : Int) (sb : ByteArray) (a : Option Addr) (len cap : Nat) (zs : List Int) (n : Int) (s : ByteArray)
    (h1 : (sa.size : Int) ≤ 200) (h2 : (sb.size : Int) ≤ 200) (h3 : (len : Int) ≤ 40) (h4 : (s.size : Int) ≤ 100) (w : World) (hr : Ready w) (ha : IsRow .i64 w a len cap zs) :
    Calls Tryd.prog 3 #[.agg #[.int .i64 ka, .int .i64 na, .string sa], .agg #[.int .i64 kb, .int .i64 nb, .string sb], .slice a len cap, .int .i64 n, .string s, .bool false] w fun e w' => e = .returned (.bool true) ∧ Below w.heap.size w w' := by
  have Ha : Hid (IsRow .i64 w a len cap zs) := ha
  clear ha
  go_enter Tryd.func3, Tryd.ntmps3
  go_wp2_with fail
  refine (lawFirst _ (hr.on two_boxes)).mono ?_
  rintro e w1 ⟨rfl, hb1⟩
  have B1 : Hid (Below w.heap.size w w1) := two_boxes.trans (hb1.mono (by simp; omega))
  have VA : Hid (ValAt w.heap.size ka na sa w1) := ((ValAt.made w ka na sa _).on one_box).on hb1
  have VB : Hid (ValAt (w.heap.size + 1) kb nb sb w1) := by
    have h := (ValAt.made (w.alloc (.cells #[.int .i64 ka, .int .i64 na, .string sa] 23)) kb nb sb 23).on hb1
    have e : ValAt (w.heap.size + 1) kb nb sb w1 := by simpa using h
    exact e
  clear hb1
  have z1 : w.heap.size + 2 ≤ w1.heap.size := by have := VB.out.2.2.2; omega
  obtain ⟨ca0, ca1, ca2, _⟩ := VA.out
  obtain ⟨cb0, cb1, cb2, _⟩ := VB.out
  go_wp2_with fail
  refine (makeValue w1.heap.size a len cap zs 0 0 (.inl rfl) _ (SeqAt.make (Ha.out.below B1.out) _) (by decide)).mono ?_
  rintro e w2 ⟨k, n', x, p, rfl, ok, hp, hq, hb2⟩
  clear ca0 ca1 ca2 cb0 cb1 cb2
  have B2 : Hid (Below w.heap.size w w2) := (B1.out.trans (one_box.mono B1.out.size)).trans (hb2.below B1.out.size (by have := B1.out.size; simp; omega))
  have VA2 : Hid (ValAt w.heap.size ka na sa w2) := (VA.out.on one_box).but hb2 (by omega)
  have VB2 : Hid (ValAt (w.heap.size + 1) kb nb sb w2) := (VB.out.on one_box).but hb2 (by omega)
  have Q2 : Hid (SeqAt w1.heap.size a len cap zs p (w2.alloc (.cells #[.int .i64 k, .int .i64 n', .string x] 23))) := hq.on one_box
  have z2 : w1.heap.size + 1 ≤ w2.heap.size := by have := hb2.size; simpa using this
  clear hb2 hq VA VB
  go_wp2_with fail
  refine (makeValue w1.heap.size a len cap zs p 0 (.inl rfl) _ Q2.out (by omega)).mono ?_
  rintro e w3 ⟨k', n'', x', p', rfl, ok', _, _, hb3⟩
  have VX : Hid (ValAt w2.heap.size k n' x w3) := (ValAt.made w2 k n' x _).but hb3 (by omega)
  have VA3 : Hid (ValAt w.heap.size ka na sa w3) := (VA2.out.on one_box).but hb3 (by omega)
  have VB3 : Hid (ValAt (w.heap.size + 1) kb nb sb w3) := (VB2.out.on one_box).but hb3 (by omega)
  have B3 : Hid (Below w.heap.size w w3) := (B2.out.trans (one_box.mono B2.out.size)).trans (hb3.below (by omega) (by have := B2.out.size; simp; omega))
  clear hb3 VA2 VB2 Q2
  go_wp2_with fail
  have E : Below w3.heap.size w3 ((w3.alloc (.cells #[.int .i64 k', .int .i64 n'', .string x'] 23)).alloc (.cells #[.int .i64 3, .int .i64 0, .string ⟨#[]⟩] 23)) := two_boxes
  have gY : ValAt w3.heap.size k' n'' x' ((w3.alloc (.cells #[.int .i64 k', .int .i64 n'', .string x'] 23)).alloc (.cells #[.int .i64 3, .int .i64 0, .string ⟨#[]⟩] 23)) := (ValAt.made w3 k' n'' x' _).on one_box
  have gT : ValAt (w3.heap.size + 1) 3 0 ⟨#[]⟩ ((w3.alloc (.cells #[.int .i64 k', .int .i64 n'', .string x'] 23)).alloc (.cells #[.int .i64 3, .int .i64 0, .string ⟨#[]⟩] 23)) := by
    have h := ValAt.made (w3.alloc (.cells #[.int .i64 k', .int .i64 n'', .string x'] 23)) 3 0 ⟨#[]⟩ 23
    simpa using h
  generalize (w3.alloc (.cells #[.int .i64 k', .int .i64 n'', .string x'] 23)).alloc (.cells #[.int .i64 3, .int .i64 0, .string ⟨#[]⟩] 23) = W at *
  have B4 : Hid (Below w.heap.size w W) := B3.out.trans (E.mono B3.out.size)
  have R : ∀ d os, Ready (grow (redrawn W d) os) := fun d os => (hr.on B4.out).on (below_regrown W d os)
  obtain ⟨A, hA⟩ : ∃ A : ByteArray, A = ⟨(shV k n' x).toArray⟩ := ⟨_, rfl⟩
  obtain ⟨c1, hc1⟩ : ∃ c, c = ckV ka na sa := ⟨_, rfl⟩
  obtain ⟨i1, hi1⟩ : ∃ c, c = cV ka na sa kb nb sb := ⟨_, rfl⟩
  obtain ⟨i2, hi2⟩ : ∃ c, c = cV k n' x k' n'' x' := ⟨_, rfl⟩
  have q1 : Hid (∀ d os, Calls Tryd.prog 10 #[.agg #[.int .i64 ka, .int .i64 na, .string sa]] (grow (redrawn W d) os) fun e w'' => e = .returned (.bool c1) ∧ ∃ p : Regrown, w'' = grow (redrawn W p.d) p.os) :=
    fun d os => by rw [hc1]; exact Calls.regrown_of (valueCheck _ _ _ _)
  have q2 : Hid (∀ d os, Calls Tryd.prog 11 #[.agg #[.int .i64 ka, .int .i64 na, .string sa]] (grow (redrawn W d) os) fun e w'' => e = .returned (.bool c1) ∧ ∃ p : Regrown, w'' = grow (redrawn W p.d) p.os) :=
    fun d os => by rw [hc1]; exact Calls.regrown_of (refCheckValue _ _ _ _)
  have q3 : Hid (∀ d os, Calls Tryd.prog 12 #[.agg #[.int .i64 ka, .int .i64 na, .string sa], .agg #[.int .i64 kb, .int .i64 nb, .string sb]] (grow (redrawn W d) os) fun e w'' => e = .returned (.int .i64 i1) ∧ ∃ p : Regrown, w'' = grow (redrawn W p.d) p.os) :=
    fun d os => by rw [hi1]; exact Calls.regrown_of (valueCompare _ _ _ _ _ _ _)
  have q4 : Hid (∀ d os, Calls Tryd.prog 13 #[.agg #[.int .i64 ka, .int .i64 na, .string sa], .agg #[.int .i64 kb, .int .i64 nb, .string sb]] (grow (redrawn W d) os) fun e w'' => e = .returned (.int .i64 i1) ∧ ∃ p : Regrown, w'' = grow (redrawn W p.d) p.os) :=
    fun d os => by rw [hi1]; exact Calls.regrown_of (refCompareValues _ _ _ _ _ _ _)
  have q5 : Hid (∀ d os, Calls Tryd.prog 12 #[.agg #[.int .i64 k, .int .i64 n', .string x], .agg #[.int .i64 k', .int .i64 n'', .string x']] (grow (redrawn W d) os) fun e w'' => e = .returned (.int .i64 i2) ∧ ∃ p : Regrown, w'' = grow (redrawn W p.d) p.os) :=
    fun d os => by rw [hi2]; exact Calls.regrown_of (valueCompare _ _ _ _ _ _ _)
  have q6 : Hid (∀ d os, Calls Tryd.prog 13 #[.agg #[.int .i64 k, .int .i64 n', .string x], .agg #[.int .i64 k', .int .i64 n'', .string x']] (grow (redrawn W d) os) fun e w'' => e = .returned (.int .i64 i2) ∧ ∃ p : Regrown, w'' = grow (redrawn W p.d) p.os) :=
    fun d os => by rw [hi2]; exact Calls.regrown_of (refCompareValues _ _ _ _ _ _ _)
  have q7 : Hid (∀ d os, Calls Tryd.prog 14 #[.agg #[.int .i64 k, .int .i64 n', .string x]] (grow (redrawn W d) os) fun e w'' => e = .returned (.string A) ∧ ∃ p : Regrown, w'' = grow (redrawn W p.d) p.os) :=
    fun d os => by rw [hA]; exact Calls.regrown_of (valueShow k n' x ok.2.1 ok.2.2.1 (by have := ok.2.2.2.1; omega) _ (R d os))
  have q8 : Hid (∀ d os, Calls Tryd.prog 15 #[.agg #[.int .i64 k, .int .i64 n', .string x]] (grow (redrawn W d) os) fun e w'' => e = .returned (.string A) ∧ ∃ p : Regrown, w'' = grow (redrawn W p.d) p.os) :=
    fun d os => by rw [hA]; exact Calls.regrown_of (refShowValue k n' x ok.1 ok.2.1 ok.2.2.1 (by have := ok.2.2.2.1; omega) _ (R d os))
  have q9 : Hid (∀ d os, Calls Tryd.prog 17 #[.int .i64 n] (grow (redrawn W d) os) fun e w'' => e = .returned (.agg #[.int .i64 1, .int .i64 n, .string ⟨#[]⟩]) ∧ ∃ p : Regrown, w'' = grow (redrawn W p.d) p.os) :=
    fun d os => Calls.regrown_of (valueOf n _)
  have q10 : Hid (∀ d os, Calls Tryd.prog 16 #[.agg #[.int .i64 1, .int .i64 n, .string ⟨#[]⟩], .agg #[.int .i64 1, .int .i64 n, .string ⟨#[]⟩]] (grow (redrawn W d) os) fun e w'' => e = .returned (.bool true) ∧ ∃ p : Regrown, w'' = grow (redrawn W p.d) p.os) :=
    fun d os => by rw [← sV_self 1 n ⟨#[]⟩]; exact Calls.regrown_of (sameValue _ _ _ _ _ _ _)
  have q11 : Hid (∀ d os, Calls Tryd.prog 18 #[.string s] (grow (redrawn W d) os) fun e w'' => e = .returned (.agg #[.int .i64 2, .int .i64 0, .string s]) ∧ ∃ p : Regrown, w'' = grow (redrawn W p.d) p.os) :=
    fun d os => Calls.regrown_of (valueStr s _)
  have q12 : Hid (∀ d os, Calls Tryd.prog 16 #[.agg #[.int .i64 2, .int .i64 0, .string s], .agg #[.int .i64 2, .int .i64 0, .string s]] (grow (redrawn W d) os) fun e w'' => e = .returned (.bool true) ∧ ∃ p : Regrown, w'' = grow (redrawn W p.d) p.os) :=
    fun d os => by rw [← sV_self 2 0 s]; exact Calls.regrown_of (sameValue _ _ _ _ _ _ _)
  have q13 : Hid (∀ d os, Calls Tryd.prog 19 #[.bool false] (grow (redrawn W d) os) fun e w'' => e = .returned (.agg #[.int .i64 3, .int .i64 0, .string ⟨#[]⟩]) ∧ ∃ p : Regrown, w'' = grow (redrawn W p.d) p.os) :=
    fun d os => Calls.regrown_of (valueIs false _)
  have q14 : Hid (∀ d os, Calls Tryd.prog 16 #[.agg #[.int .i64 3, .int .i64 0, .string ⟨#[]⟩], .agg #[.int .i64 3, .int .i64 0, .string ⟨#[]⟩]] (grow (redrawn W d) os) fun e w'' => e = .returned (.bool true) ∧ ∃ p : Regrown, w'' = grow (redrawn W p.d) p.os) :=
    fun d os => by rw [← sV_self 3 0 ⟨#[]⟩]; exact Calls.regrown_of (sameValue _ _ _ _ _ _ _)
  have q15 : Hid (∀ d os, Calls Tryd.prog 10 #[.agg #[.int .i64 k, .int .i64 n', .string x]] (grow (redrawn W d) os) fun e w'' => e = .returned (.bool true) ∧ ∃ p : Regrown, w'' = grow (redrawn W p.d) p.os) :=
    fun d os => by rw [← ok.1]; exact Calls.regrown_of (valueCheck _ _ _ _)
  have g1 := fun d os => (VA3.out.on E).on (below_regrown W d os)
  have g2 := fun d os => (VB3.out.on E).on (below_regrown W d os)
  have g3 := fun d os => (VX.out.on E).on (below_regrown W d os)
  have g4 := fun d os => gY.on (below_regrown W d os)
  have g5 := fun d os => gT.on (below_regrown W d os)
  unfold ValAt at g1 g2 g3 g4 g5
  clear hA hc1 hi1 hi2 R ok ok' gY gT E VA3 VB3 VX z1 z2 hp
  refine wp_region_quiet_below (by kernel_rfl) (by kernel_rfl) ?_
  iterate 4 (quiet_step (exact q1.out _ _))
  iterate 2 (quiet_step (exact q2.out _ _))
  iterate 6 (quiet_step (exact q3.out _ _))
  iterate 3 (quiet_step (exact q4.out _ _))
  iterate 6 (quiet_step (exact q5.out _ _))
  iterate 3 (quiet_step (exact q6.out _ _))
  iterate 5 (quiet_step (exact q7.out _ _))
  iterate 2 (quiet_step (exact q8.out _ _))
  iterate 5 (quiet_step (exact q9.out _ _))
  iterate 3 (quiet_step (exact q10.out _ _))
  iterate 4 (quiet_step (exact q11.out _ _))
  iterate 3 (quiet_step (exact q12.out _ _))
  iterate 4 (quiet_step (exact q13.out _ _))
  iterate 2 (quiet_step (exact q14.out _ _))
  iterate 4 (quiet_step (exact q15.out _ _))
  iterate 2 (quiet_step (fail))
  refine wpQuiet_nil ?_
  intro w6 hw6
  obtain ⟨p6, hw6⟩ := hw6
  have hb6 : Below w.heap.size w w6 := by rw [hw6]; exact B4.out.trans ((below_regrown W _ _).mono B4.out.size)
  clear hw6 g1 g2 g3 g4 g5
  go_wp2_with fail
  go_ret
  exact ⟨rfl, hb6⟩

set_option maxHeartbeats 1000000 in
theorem says_long (ka na : Int) (sa : ByteArray) (kb nb : Int) (sb : ByteArray) (a : Option Addr) (len cap : Nat) (n : Int) (s : ByteArray) (b : Bool) (w : World) (hr : Ready w)
    (h : 200 < (sa.size : Int) ∨ (sa.size : Int) ≤ 200 ∧ 200 < (sb.size : Int) ∨ (sa.size : Int) ≤ 200 ∧ (sb.size : Int) ≤ 200 ∧ 40 < (len : Int) ∨ (sa.size : Int) ≤ 200 ∧ (sb.size : Int) ≤ 200 ∧ (len : Int) ≤ 40 ∧ 100 < (s.size : Int)) :
    Calls Tryd.prog 3 #[.agg #[.int .i64 ka, .int .i64 na, .string sa], .agg #[.int .i64 kb, .int .i64 nb, .string sb], .slice a len cap, .int .i64 n, .string s, .bool b] w fun e w' => e = .returned (.bool true) ∧ Below w.heap.size w w' := by
  rcases h with h1 | ⟨h1, h2⟩ | ⟨h1, h2, h3⟩ | ⟨h1, h2, h3, h4⟩
  all_goals
    go_enter Tryd.func3, Tryd.ntmps3
    go_wp2_with fail
    refine (lawFirst _ (hr.on two_boxes)).mono ?_
    rintro e w1 ⟨rfl, hb1⟩
    have hc1 := bc2 hb1
    go_wp2_with fail
    go_ret
    exact ⟨rfl, two_boxes.trans (hb1.mono (by simp; omega))⟩

theorem valueSays_walk (ka na : Int) (sa : ByteArray) (_ : (Lit.int .i64 ka).wf = true) (_ : (Lit.int .i64 na).wf = true) (_ : sa.size ≤ maxLen)
    (kb nb : Int) (sb : ByteArray) (_ : (Lit.int .i64 kb).wf = true) (_ : (Lit.int .i64 nb).wf = true) (_ : sb.size ≤ maxLen)
    (a : Option Addr) (len cap : Nat) (zs : List Int) (n : Int) (_ : (Lit.int .i64 n).wf = true) (s : ByteArray) (_ : s.size ≤ maxLen) (b : Bool) (w : World) (hr : Ready w) (ha : IsRow .i64 w a len cap zs) :
    Calls Tryd.prog 3 #[.agg #[.int .i64 ka, .int .i64 na, .string sa], .agg #[.int .i64 kb, .int .i64 nb, .string sb], .slice a len cap, .int .i64 n, .string s, .bool b] w fun e w' => e = .returned (.bool true) ∧ Below w.heap.size w w' := by
  by_cases h : (sa.size : Int) ≤ 200 ∧ (sb.size : Int) ≤ 200 ∧ (len : Int) ≤ 40 ∧ (s.size : Int) ≤ 100
  · obtain ⟨h1, h2, h3, h4⟩ := h
    cases b
    · exact says_false ka na sa kb nb sb a len cap zs n s h1 h2 h3 h4 w hr ha
    · exact says_true ka na sa kb nb sb a len cap zs n s h1 h2 h3 h4 w hr ha
  · exact says_long ka na sa kb nb sb a len cap n s b w hr (by omega)
end Go.Proofs.YtjenkfiihpgaeaaDoor
