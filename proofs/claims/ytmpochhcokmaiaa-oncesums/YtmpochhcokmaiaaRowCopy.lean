/- What row.Copy answers of rows in memory, where it makes room and copies. -/
import Derived.Test.YtmpochhcokmaiaaMakeRow
import Derived.Laws.CopyOwn
namespace Go.Proofs.Ytmpochhcokmaiaa
open Go.RowKit
set_option maxRecDepth 100000
/-- A row's cells, one behind the other. -/
theorem RowIs.cells {w : World} {b o n cap : Nat} {l : List Val} (h : RowIs w (.slice (some ⟨b, o, none⟩) n cap) l) : ∀ j u, (rc l)[j]? = some u → w.cell? ((⟨b, o, none⟩ : Addr).add j) = some u := by
  intro j u hu
  have hj : j < (rc l).length := (List.getElem?_eq_some_iff.1 hu).1
  rw [rc_len] at hj
  have hi : j / 3 < l.length := by omega
  obtain ⟨a0, a1, a2⟩ := h.at' (j / 3) hi
  obtain ⟨c0, c1, c2⟩ := rc_at l (j / 3) hi
  rw [add_plain]
  have hm : j % 3 = 0 ∨ j % 3 = 1 ∨ j % 3 = 2 := by omega
  rcases hm with e | e | e
  · have ej : j = j / 3 * 3 := by omega
    generalize j / 3 = i at *
    subst ej
    rw [c0] at hu; rw [← hu]; exact a0
  · have ej : j = j / 3 * 3 + 1 := by omega
    generalize j / 3 = i at *
    subst ej
    rw [c1] at hu; rw [← hu, ← Nat.add_assoc]; exact a1
  · have ej : j = j / 3 * 3 + 2 := by omega
    generalize j / 3 = i at *
    subst ej
    rw [c2] at hu; rw [← hu, ← Nat.add_assoc]; exact a2
theorem rc_one (l : List Val) : ∀ u ∈ rc l, u.oneCell' = true := by
  intro u hu
  obtain ⟨v, _, hv⟩ := List.mem_flatMap.1 hu
  simp only [vc, List.mem_cons, List.not_mem_nil, or_false] at hv
  rcases hv with rfl | rfl | rfl <;> rfl
section
variable {P : Program}
/-- 'copy' of n elements of three cells each into a row of that length. -/
theorem run_copy_three (w : World) (dT sT ty elem : TypeId) (g n dCap : Nat) (a : Addr) (sCap : Nat) (cur : Array Value) (t : TypeId) (cs : List Value)
    (hu : P.underlying dT = some (.slice elem)) (hs : (P.info? elem).map (·.size) = some 3)
    (hg : w.heap[g]? = some (.cells cur t (0, 0))) (hn : cs.length = n * 3)
    (hsrc : ∀ j v, cs[j]? = some v → w.cell? (a.add j) = some v) (hfit : cur.size = n * 3) (h1 : ∀ v ∈ cs, v.oneCell' = true) :
    (Builtin.copy_ #[dT, sT] ty #[.slice (some ⟨g, 0, none⟩) n dCap, .slice (some a) n sCap]).run P w = .ok (goInt n) (w.setRow g cs.toArray) := by
  have hl := run_loadCells_list (P := P) w a cs hsrc
  have hst := run_storeCells_at P g 0 t cs 0 cur w hg (by omega) h1
  have e1 : cur.toList.drop (0 + 0 + cs.length) = [] := by apply List.drop_eq_nil_of_le; simp; omega
  rw [e1] at hst
  cases hq : P.info? elem with
  | none => simp [hq] at hs
  | some i =>
    have hi : i.size = 3 := by simpa [hq] using hs
    rw [hn] at hl
    simp at hst
    simp [Builtin.copy_, run_underlying hu, Builtin.lenOf, Builtin.firstCells, sizeOf, typeInfo, hq, hi, hl, hst]
/-- 'copy' of nothing. -/
theorem run_copy_zero (w : World) (dT sT ty elem : TypeId) (d s : Option Addr) (dCap sCap : Nat) (hu : P.underlying dT = some (.slice elem)) (hs : (P.info? elem).map (·.size) = some 3) :
    (Builtin.copy_ #[dT, sT] ty #[.slice d 0 dCap, .slice s 0 sCap]).run P w = .ok (goInt 0) w := by
  cases hq : P.info? elem with
  | none => simp [hq] at hs
  | some i =>
    cases d <;> cases s <;> simp [Builtin.copy_, run_underlying hu, Builtin.lenOf, Builtin.firstCells, sizeOf, typeInfo, hq, loadCells, loadCellsFrom, storeCells]
end
theorem size_value : (Try.prog.info? 39).map (·.size) = some 3 := by kernel_rfl
/-- What the copy owns. -/
def Copied (l : List Val) (w : World) (v : Value) (w' : World) : Prop := w'.ownsRow w.heap.size 39 3 v l.length (rc l) ∧ Below w.heap.size w w'
set_option maxHeartbeats 1000000 in
theorem rowCopy_at (l : List Val) (ad : Addr) (cap : Nat) (w : World) (hn : l.length ≤ 65536) (HN : ∀ j u, (rc l)[j]? = some u → w.cell? (ad.add j) = some u) (hlt : l ≠ [] → ad.block < w.heap.size) :
    Calls Try.prog 9 #[.slice (some ad) l.length cap] w fun e w' => ∃ v, e = .returned v ∧ w'.ownsRow w.heap.size 39 3 v l.length (rc l) ∧ Below w.heap.size w w' := by
  obtain ⟨i0, hi, hz0, hz1, hz2⟩ := info_parts info_value
  have hl := rc_len l
  have h1 := rc_one l
  have F : Hid (∀ xs w1, w1.ownsRow w.heap.size 39 3 (.slice (some ⟨w.heap.size, 0, none⟩) l.length l.length) l.length xs → w.grownBy w1 none → ∃ cur, w1.heap[w.heap.size]? = some (.cells cur 39 (0, 0)) ∧ cur.size = l.length * 3 ∧ (∀ j u, (rc l)[j]? = some u → w1.cell? (ad.add j) = some u) ∧ Copied l w (.slice (some ⟨w.heap.size, 0, none⟩) l.length l.length) (w1.setRow w.heap.size (rc l).toArray)) := by
    intro xs w1 g1 g2
    have hB : Below w.heap.size w w1 := (Below.refl _ _).grown g2 (Nat.le_refl _) (fun k e => by cases e)
    obtain ⟨_, ⟨e, _⟩ | ⟨g, c, cur, e, q1, q2, q3, q4, q5, q6⟩⟩ := g1
    · cases e
    · simp only [Value.slice.injEq, Option.some.injEq, Addr.mk.injEq, and_true, true_and] at e
      obtain ⟨rfl, rfl⟩ := e
      refine ⟨cur, q2, q5, fun j u hu => ?_, ?_, below_setRow hB (Nat.le_refl _) _⟩
      · have hne : l ≠ [] := by rintro rfl; simp [rc] at hu
        rw [hB.cell (p := ad.add j) (by unfold Addr.add; split <;> exact hlt hne)]; exact HN j u hu
      · refine ⟨hl, .inr ⟨_, _, (rc l).toArray, rfl, Nat.le_refl _, setRow_heap _ _ _ _ _ _ q2, Nat.le_refl _, q4, by simpa using hl, ?_⟩⟩
        rw [← hl]; simp
  clear HN hlt
  go_enter Try.func9, Try.ntmps9
  go_wp2_with (first | (at_make; refine wpList_make_full _ rfl _ _ 34 rfl w.heap.size 39 i0 (.agg #[.int .i64 0, .int .i64 0, .string ⟨#[]⟩]) 3 Try.underlying34 hi hz0 hz1 .i64 .i64 _ _ l.length rfl rfl rfl rfl (by rw [hz2]; omega) (by unfold maxLen; omega) (Nat.le_refl _) ?_; intro w1 hown1 hg1; obtain ⟨cur, c1, c2, c3, hc4⟩ := F.out _ _ hown1 hg1; have c4 : Hid (Copied l w (.slice (some ⟨w.heap.size, 0, none⟩) l.length l.length) (w1.setRow w.heap.size (rc l).toArray)) := hc4; clear hown1 hg1 hc4) | fail)
  rw [run_copy_three w1 _ _ _ 39 w.heap.size l.length l.length ad cap cur 39 (rc l) Try.underlying34 size_value c1 hl c3 c2 h1]
  simp only [Result.andThen]
  rw [Oper.upon_value]
  go_wp2_with fail
  go_ret
  exact ⟨_, rfl, c4.out.1, c4.out.2⟩
set_option maxHeartbeats 1000000 in
theorem rowCopy_none (a0 : Option Addr) (cap : Nat) (w : World) :
    Calls Try.prog 9 #[.slice a0 0 cap] w fun e w' => ∃ v, e = .returned v ∧ w'.ownsRow w.heap.size 39 3 v 0 [] ∧ Below w.heap.size w w' := by
  obtain ⟨i0, hi, hz0, hz1, hz2⟩ := info_parts info_value
  have F : Hid (∀ xs w1, w1.ownsRow w.heap.size 39 3 (.slice (some ⟨w.heap.size, 0, none⟩) 0 0) 0 xs → w.grownBy w1 none → Copied [] w (.slice (some ⟨w.heap.size, 0, none⟩) 0 0) w1) := by
    intro xs w1 g1 g2
    obtain rfl : xs = [] := List.eq_nil_of_length_eq_zero (by have := g1.1; omega)
    exact ⟨g1, (Below.refl _ _).grown g2 (Nat.le_refl _) (fun k e => by cases e)⟩
  go_enter Try.func9, Try.ntmps9
  go_wp2_with (first | (at_make; refine wpList_make_full _ rfl _ _ 34 rfl w.heap.size 39 i0 (.agg #[.int .i64 0, .int .i64 0, .string ⟨#[]⟩]) 3 Try.underlying34 hi hz0 hz1 .i64 .i64 _ _ 0 rfl rfl rfl rfl (by rw [hz2]; omega) (by unfold maxLen; omega) (Nat.le_refl _) ?_; intro w1 hown1 hg1; have c4 : Hid (Copied [] w (.slice (some ⟨w.heap.size, 0, none⟩) 0 0) w1) := F.out _ _ hown1 hg1; clear hown1 hg1) | fail)
  rw [run_copy_zero w1 _ _ _ 39 _ _ _ _ Try.underlying34 size_value]
  simp only [Result.andThen]
  rw [Oper.upon_value]
  go_wp2_with fail
  go_ret
  exact ⟨_, rfl, c4.out.1, c4.out.2⟩
/-- row.Copy. -/
theorem rowCopy (l : List Val) (va : Value) (w : World) (hn : l.length ≤ 65536) (ha : RowIs w va l) :
    Calls Try.prog 9 #[va] w fun e w' => ∃ v, e = .returned v ∧ w'.ownsRow w.heap.size 39 3 v l.length (rc l) ∧ Below w.heap.size w w' := by
  by_cases hl : l = []
  · obtain ⟨a0, cap, rfl⟩ := ha.form
    subst hl
    exact rowCopy_none a0 cap w
  · obtain ⟨b, o, cap, rfl⟩ := ha.addr hl
    refine rowCopy_at l _ cap w hn ha.cells fun _ => ?_
    have h0 : 0 < l.length := List.length_pos_iff.2 hl
    obtain ⟨b', o', e, _, _, _, hb⟩ := ha.at 0 h0
    cases e; exact hb
end Go.Proofs.Ytmpochhcokmaiaa
