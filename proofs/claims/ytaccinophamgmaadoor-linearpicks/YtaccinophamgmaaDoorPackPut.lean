/- Texts of one claim, one behind the other. -/
import Derived.Test.YtaccinophamgmaaDoorPackRow
import Derived.Laws.CopyOwn
import Derived.Test.YtaccinophamgmaaDoorErrs
import Derived.LaidLaws
import Derived.Test.YtaccinophamgmaaDoorZTot
import Derived.Test.YtaccinophamgmaaDoorPackNeg
import Derived.Test.YtaccinophamgmaaDoorPackSets
import Derived.Test.YtaccinophamgmaaDoorPackGrown
/- What row.Copy answers of rows in memory, where it makes room and copies. -/
namespace Go.Proofs.YtaccinophamgmaaDoor
open Go.RowKit
set_option maxRecDepth 100000
/-- A row's cells, one behind the other. -/
theorem RowIs.cells {w : World} {b o n cap : Nat} {l : List Val} (h : RowIs w (.slice (some ⟨b, o, none⟩) n cap) l) : ∀ j u, (rc l)[j]? = some u → w.cell? ((⟨b, o, none⟩ : Addr).add j) = some u := by
  intro j u hu
  have hj : j < (rc l).length := (List.getElem?_eq_some_iff.1 hu).1
  rw [rc_len] at hj
  have hi : j / 3 < l.length := by omega
  obtain ⟨a0, a1, a2⟩ := h.at' (j / 3) hi
  obtain ⟨c0, c1, c2⟩ := rc_at l (j / 3) hi
  rw [add_plain]
  have hm : j % 3 = 0 ∨ j % 3 = 1 ∨ j % 3 = 2 := by omega
  rcases hm with e | e | e
  · have ej : j = j / 3 * 3 := by omega
    generalize j / 3 = i at *
    subst ej
    rw [c0] at hu; rw [← hu]; exact a0
  · have ej : j = j / 3 * 3 + 1 := by omega
    generalize j / 3 = i at *
    subst ej
    rw [c1] at hu; rw [← hu, ← Nat.add_assoc]; exact a1
  · have ej : j = j / 3 * 3 + 2 := by omega
    generalize j / 3 = i at *
    subst ej
    rw [c2] at hu; rw [← hu, ← Nat.add_assoc]; exact a2
theorem rc_one (l : List Val) : ∀ u ∈ rc l, u.oneCell' = true := by
  intro u hu
  obtain ⟨v, _, hv⟩ := List.mem_flatMap.1 hu
  simp only [vc, List.mem_cons, List.not_mem_nil, or_false] at hv
  rcases hv with rfl | rfl | rfl <;> rfl
section
variable {P : Program}
/-- 'copy' of n elements of three cells each into a row of that length. -/
theorem run_copy_three (w : World) (dT sT ty elem : TypeId) (g n dCap : Nat) (a : Addr) (sCap : Nat) (cur : Array Value) (t : TypeId) (cs : List Value)
    (hu : P.underlying dT = some (.slice elem)) (hs : (P.info? elem).map (·.size) = some 3)
    (hg : w.heap[g]? = some (.cells cur t (0, 0))) (hn : cs.length = n * 3)
    (hsrc : ∀ j v, cs[j]? = some v → w.cell? (a.add j) = some v) (hfit : cur.size = n * 3) (h1 : ∀ v ∈ cs, v.oneCell' = true) :
    (Builtin.copy_ #[dT, sT] ty #[.slice (some ⟨g, 0, none⟩) n dCap, .slice (some a) n sCap]).run P w = .ok (goInt n) (w.setRow g cs.toArray) := by
  have hl := run_loadCells_list (P := P) w a cs hsrc
  have hst := run_storeCells_at P g 0 t cs 0 cur w hg (by omega) h1
  have e1 : cur.toList.drop (0 + 0 + cs.length) = [] := by apply List.drop_eq_nil_of_le; simp; omega
  rw [e1] at hst
  cases hq : P.info? elem with
  | none => simp [hq] at hs
  | some i =>
    have hi : i.size = 3 := by simpa [hq] using hs
    rw [hn] at hl
    simp at hst
    simp [Builtin.copy_, run_underlying hu, Builtin.lenOf, Builtin.firstCells, sizeOf, typeInfo, hq, hi, hl, hst]
/-- 'copy' of nothing. -/
theorem run_copy_zero (w : World) (dT sT ty elem : TypeId) (d s : Option Addr) (dCap sCap : Nat) (hu : P.underlying dT = some (.slice elem)) (hs : (P.info? elem).map (·.size) = some 3) :
    (Builtin.copy_ #[dT, sT] ty #[.slice d 0 dCap, .slice s 0 sCap]).run P w = .ok (goInt 0) w := by
  cases hq : P.info? elem with
  | none => simp [hq] at hs
  | some i =>
    cases d <;> cases s <;> simp [Builtin.copy_, run_underlying hu, Builtin.lenOf, Builtin.firstCells, sizeOf, typeInfo, hq, loadCells, loadCellsFrom, storeCells]
end
theorem size_value : (Tryd.prog.info? 30).map (·.size) = some 3 := by kernel_rfl
/-- What the copy owns. -/
def Copied (l : List Val) (w : World) (v : Value) (w' : World) : Prop := w'.ownsRow w.heap.size 30 3 v l.length (rc l) ∧ Below w.heap.size w w'
set_option maxHeartbeats 1000000 in
theorem rowCopy_at (l : List Val) (ad : Addr) (cap : Nat) (w : World) (hn : l.length ≤ 65536) (HN : ∀ j u, (rc l)[j]? = some u → w.cell? (ad.add j) = some u) (hlt : l ≠ [] → ad.block < w.heap.size) :
    Calls Tryd.prog 35 #[.slice (some ad) l.length cap] w fun e w' => ∃ v, e = .returned v ∧ w'.ownsRow w.heap.size 30 3 v l.length (rc l) ∧ Below w.heap.size w w' := by
  obtain ⟨i0, hi, hz0, hz1, hz2⟩ := info_parts info_value
  have hl := rc_len l
  have h1 := rc_one l
  have F : Hid (∀ xs w1, w1.ownsRow w.heap.size 30 3 (.slice (some ⟨w.heap.size, 0, none⟩) l.length l.length) l.length xs → w.grownBy w1 none → ∃ cur, w1.heap[w.heap.size]? = some (.cells cur 30 (0, 0)) ∧ cur.size = l.length * 3 ∧ (∀ j u, (rc l)[j]? = some u → w1.cell? (ad.add j) = some u) ∧ Copied l w (.slice (some ⟨w.heap.size, 0, none⟩) l.length l.length) (w1.setRow w.heap.size (rc l).toArray)) := by
    intro xs w1 g1 g2
    have hB : Below w.heap.size w w1 := (Below.refl _ _).grown g2 (Nat.le_refl _) (fun k e => by cases e)
    obtain ⟨_, ⟨e, _⟩ | ⟨g, c, cur, e, q1, q2, q3, q4, q5, q6⟩⟩ := g1
    · cases e
    · simp only [Value.slice.injEq, Option.some.injEq, Addr.mk.injEq, and_true, true_and] at e
      obtain ⟨rfl, rfl⟩ := e
      refine ⟨cur, q2, q5, fun j u hu => ?_, ?_, below_setRow hB (Nat.le_refl _) _⟩
      · have hne : l ≠ [] := by rintro rfl; simp [rc] at hu
        rw [hB.cell (p := ad.add j) (by unfold Addr.add; split <;> exact hlt hne)]; exact HN j u hu
      · refine ⟨hl, .inr ⟨_, _, (rc l).toArray, rfl, Nat.le_refl _, setRow_heap _ _ _ _ _ _ q2, Nat.le_refl _, q4, by simpa using hl, ?_⟩⟩
        rw [← hl]; simp
  clear HN hlt
  go_enter Tryd.func35, Tryd.ntmps35
  go_wp2_with (first | (at_make; refine wpList_make_full _ rfl _ _ 50 rfl w.heap.size 30 i0 (.agg #[.int .i64 0, .int .i64 0, .string ⟨#[]⟩]) 3 Tryd.underlying50 hi hz0 hz1 .i64 .i64 _ _ l.length rfl rfl rfl rfl (by rw [hz2]; omega) (by unfold maxLen; omega) (Nat.le_refl _) ?_; intro w1 hown1 hg1; obtain ⟨cur, c1, c2, c3, hc4⟩ := F.out _ _ hown1 hg1; have c4 : Hid (Copied l w (.slice (some ⟨w.heap.size, 0, none⟩) l.length l.length) (w1.setRow w.heap.size (rc l).toArray)) := hc4; clear hown1 hg1 hc4) | fail)
  rw [run_copy_three w1 _ _ _ 30 w.heap.size l.length l.length ad cap cur 30 (rc l) Tryd.underlying50 size_value c1 hl c3 c2 h1]
  simp only [Result.andThen]
  rw [Oper.upon_value]
  go_wp2_with fail
  go_ret
  exact ⟨_, rfl, c4.out.1, c4.out.2⟩
set_option maxHeartbeats 1000000 in
theorem rowCopy_none (a0 : Option Addr) (cap : Nat) (w : World) :
    Calls Tryd.prog 35 #[.slice a0 0 cap] w fun e w' => ∃ v, e = .returned v ∧ w'.ownsRow w.heap.size 30 3 v 0 [] ∧ Below w.heap.size w w' := by
  obtain ⟨i0, hi, hz0, hz1, hz2⟩ := info_parts info_value
  have F : Hid (∀ xs w1, w1.ownsRow w.heap.size 30 3 (.slice (some ⟨w.heap.size, 0, none⟩) 0 0) 0 xs → w.grownBy w1 none → Copied [] w (.slice (some ⟨w.heap.size, 0, none⟩) 0 0) w1) := by
    intro xs w1 g1 g2
    obtain rfl : xs = [] := List.eq_nil_of_length_eq_zero (by have := g1.1; omega)
    exact ⟨g1, (Below.refl _ _).grown g2 (Nat.le_refl _) (fun k e => by cases e)⟩
  go_enter Tryd.func35, Tryd.ntmps35
  go_wp2_with (first | (at_make; refine wpList_make_full _ rfl _ _ 50 rfl w.heap.size 30 i0 (.agg #[.int .i64 0, .int .i64 0, .string ⟨#[]⟩]) 3 Tryd.underlying50 hi hz0 hz1 .i64 .i64 _ _ 0 rfl rfl rfl rfl (by rw [hz2]; omega) (by unfold maxLen; omega) (Nat.le_refl _) ?_; intro w1 hown1 hg1; have c4 : Hid (Copied [] w (.slice (some ⟨w.heap.size, 0, none⟩) 0 0) w1) := F.out _ _ hown1 hg1; clear hown1 hg1) | fail)
  rw [run_copy_zero w1 _ _ _ 30 _ _ _ _ Tryd.underlying50 size_value]
  simp only [Result.andThen]
  rw [Oper.upon_value]
  go_wp2_with fail
  go_ret
  exact ⟨_, rfl, c4.out.1, c4.out.2⟩
/-- row.Copy. -/
theorem rowCopy (l : List Val) (va : Value) (w : World) (hn : l.length ≤ 65536) (ha : RowIs w va l) :
    Calls Tryd.prog 35 #[va] w fun e w' => ∃ v, e = .returned v ∧ w'.ownsRow w.heap.size 30 3 v l.length (rc l) ∧ Below w.heap.size w w' := by
  by_cases hl : l = []
  · obtain ⟨a0, cap, rfl⟩ := ha.form
    subst hl
    exact rowCopy_none a0 cap w
  · obtain ⟨b, o, cap, rfl⟩ := ha.addr hl
    refine rowCopy_at l _ cap w hn ha.cells fun _ => ?_
    have h0 : 0 < l.length := List.length_pos_iff.2 hl
    obtain ⟨b', o', e, _, _, _, hb⟩ := ha.at 0 h0
    cases e; exact hb
end Go.Proofs.YtaccinophamgmaaDoor
/- The program's own errors, listed with their texts: what their variables hold, and that no two are one. -/
namespace Go.Proofs.YtaccinophamgmaaDoor
open Go.RowKit
set_option maxRecDepth 100000

/-- Errors as a row lists them: a name and a text each. -/
def sentL (l : List (String × List UInt8)) : List (String × DataW Unit) := l.map fun x => (x.1, .iface "*errors.errorString" (.ptr (.agg [.lit (.string x.2)])))
theorem err_star : "*" ++ "errors.errorString" = "*errors.errorString" := by decide
theorem err_name (u : TypeId) (h : Tryd.prog.typeName? 3 u = some "*errors.errorString") : u = 159 :=
  typeName_ptr_named (nm := "errors.errorString") (by rw [err_star]; kernel_rfl) (by kernel_rfl) (by decide) u (by rw [err_star]; exact h)
theorem sents {W : World} : ∀ (l : List (String × List UInt8)) (r : List (String × DataW Unit)) (ps : List MemPlace), DataW.LaidVars Tryd.prog W (sentL l ++ r) ps → ps.Nodup →
    (∀ b off, MemPlace.cell b off ∈ ps → (∃ c t, W.heap[b]? = some (.cells c t (0, 0))) ∧ ∀ u v, W.cell? ⟨b, off, none⟩ = some (.iface u v) → Value.okWide Tryd.prog W .any 0 u v) →
    (∀ x ∈ l, ∃ g, Tryd.prog.globalNamed x.1 = some g ∧ (Tryd.prog.globals[g]?).map (·.type) = some 36) →
    ∃ as' : List Addr, as'.length = l.length ∧ as'.Nodup ∧ (∀ a ∈ as', a.spot = none ∧ MemPlace.cell a.block a.off ∈ ps) ∧ ∀ i (h : i < l.length) (h' : i < as'.length), W.var? Tryd.prog l[i].1 = some #[errV as'[i]]
  | [], r, ps, _, _, _, _ => ⟨[], rfl, List.nodup_nil, (fun a h => by cases h), (fun i h => absurd h (Nat.not_lt_zero i))⟩
  | (n, text) :: l, r, ps, hv, hnd, hrows, hg => by
    obtain ⟨g0, t0, cs0, f0, p0, q0, hg0, ht0, hv0, hd0, hq, rfl⟩ := hv
    obtain ⟨g, e1, e2⟩ := hg (n, text) (by simp)
    obtain rfl := Option.some.inj (e1.symm.trans hg0)
    obtain rfl := Option.some.inj (e2.symm.trans ht0)
    obtain ⟨l0⟩ := cs0
    have ok0 : ∀ u v, l0 = [.iface u v] → Value.okWide Tryd.prog W .any 0 u v := fun u v e => by
      subst e
      exact (hrows g 0 (by simp [MemPlace.row])).2 u v (by simpa using World.var?_cell hg0 hv0 0)
    obtain ⟨a0, s0, rfl, hc0, hs0, hz0, rfl⟩ := errorString_of_trod Tryd.underlying36 err_name Tryd.underlying159 Tryd.underlying176 rfl rfl Tryd.underlying9 (by kernel_rfl) (by kernel_rfl) hd0 ok0
    obtain ⟨as', h1, h2, h3, h4⟩ := sents l r q0 hq (List.Nodup.sublist (List.sublist_append_right _ _) hnd) (fun b off hm => hrows b off (List.mem_append_right _ hm)) (fun x hx => hg x (by simp [hx]))
    have hspot := World.cell?_spot hc0
    refine ⟨a0 :: as', by simp [h1], ?_, ?_, ?_⟩
    · refine List.nodup_cons.2 ⟨fun hm => ?_, h2⟩
      have hin := (h3 a0 hm).2
      have hnd' := (List.nodup_append.1 hnd).2.2
      exact hnd' (.cell a0.block a0.off) (by simp [MemPlace.row]) (.cell a0.block a0.off) hin rfl
    · intro a ha
      rcases List.mem_cons.1 ha with rfl | ha
      · exact ⟨hspot, by simp [MemPlace.row]⟩
      · exact ⟨(h3 a ha).1, List.mem_append_right _ (h3 a ha).2⟩
    · intro i hi hi'
      cases i with
      | zero => exact hv0
      | succ i => exact h4 i (by simpa using hi) (by simpa using hi')

/-- The eleven names, in the order of their numbers. -/
def errL (t0 t1 t2 t3 t4 t5 t6 t7 t8 t9 t10 : List UInt8) : List (String × List UInt8) := [("belvedere/api.ErrText", t0), ("belvedere/api.ErrType", t1), ("belvedere/api.ErrName", t2), ("belvedere/api.ErrTwice", t3), ("belvedere/api.ErrUse", t4), ("belvedere/api.ErrArity", t5), ("belvedere/api.ErrOver", t6), ("belvedere/api.ErrFull", t7), ("belvedere/api.ErrPending", t8), ("belvedere/api.ErrNone", t9), ("belvedere/api.ErrLimit", t10)]
theorem errs_of {W : World} (t0 t1 t2 t3 t4 t5 t6 t7 t8 t9 t10 : List UInt8) (r : List (String × DataW Unit)) (h : laidMet Tryd.prog (sentL (errL t0 t1 t2 t3 t4 t5 t6 t7 t8 t9 t10) ++ r) W) : ∃ ad, ErrsAt ad W := by
  obtain ⟨ps, hv, hnd, hrows⟩ := h
  obtain ⟨l, h1, h2, h3, h4⟩ := sents (errL t0 t1 t2 t3 t4 t5 t6 t7 t8 t9 t10) r ps hv hnd hrows (by
    intro x hx
    simp only [errL, List.mem_cons, List.not_mem_nil, or_false] at hx
    rcases hx with rfl | rfl | rfl | rfl | rfl | rfl | rfl | rfl | rfl | rfl | rfl
    · exact ⟨2, by kernel_rfl, by kernel_rfl⟩
    · exact ⟨3, by kernel_rfl, by kernel_rfl⟩
    · exact ⟨4, by kernel_rfl, by kernel_rfl⟩
    · exact ⟨5, by kernel_rfl, by kernel_rfl⟩
    · exact ⟨6, by kernel_rfl, by kernel_rfl⟩
    · exact ⟨0, by kernel_rfl, by kernel_rfl⟩
    · exact ⟨1, by kernel_rfl, by kernel_rfl⟩
    · exact ⟨7, by kernel_rfl, by kernel_rfl⟩
    · exact ⟨8, by kernel_rfl, by kernel_rfl⟩
    · exact ⟨9, by kernel_rfl, by kernel_rfl⟩
    · exact ⟨10, by kernel_rfl, by kernel_rfl⟩)
  have hl : l.length = 11 := h1
  have gE : ∀ (i : Fin 11), i.val < l.length := fun i => by omega
  refine ⟨fun i => l[i.val]'(gE i), ?_, ?_, ?_, ?_, ?_, ?_, ?_, ?_, ?_, ?_, ?_, ?_, ?_⟩
  · intro i j e
    have hp := List.pairwise_iff_getElem.1 h2
    rcases Nat.lt_trichotomy i.val j.val with h | h | h
    · exact absurd e (hp i.val j.val (gE i) (gE j) h)
    · exact Fin.ext h
    · exact absurd e.symm (hp j.val i.val (gE j) (gE i) h)
  · intro i
    have hm := (h3 (l[i.val]'(gE i)) (List.getElem_mem _)).2
    exact (hrows _ _ hm).1
  · have := World.var?_cell (show Tryd.prog.globalNamed "belvedere/api.ErrText" = some 2 by kernel_rfl) (h4 0 (by simp [errL]) (by omega)) 0
    have t : W.cell? ⟨2, 0, none⟩ = some (errV l[0]) := by simpa using this
    exact t
  · have := World.var?_cell (show Tryd.prog.globalNamed "belvedere/api.ErrType" = some 3 by kernel_rfl) (h4 1 (by simp [errL]) (by omega)) 0
    have t : W.cell? ⟨3, 0, none⟩ = some (errV l[1]) := by simpa using this
    exact t
  · have := World.var?_cell (show Tryd.prog.globalNamed "belvedere/api.ErrName" = some 4 by kernel_rfl) (h4 2 (by simp [errL]) (by omega)) 0
    have t : W.cell? ⟨4, 0, none⟩ = some (errV l[2]) := by simpa using this
    exact t
  · have := World.var?_cell (show Tryd.prog.globalNamed "belvedere/api.ErrTwice" = some 5 by kernel_rfl) (h4 3 (by simp [errL]) (by omega)) 0
    have t : W.cell? ⟨5, 0, none⟩ = some (errV l[3]) := by simpa using this
    exact t
  · have := World.var?_cell (show Tryd.prog.globalNamed "belvedere/api.ErrUse" = some 6 by kernel_rfl) (h4 4 (by simp [errL]) (by omega)) 0
    have t : W.cell? ⟨6, 0, none⟩ = some (errV l[4]) := by simpa using this
    exact t
  · have := World.var?_cell (show Tryd.prog.globalNamed "belvedere/api.ErrArity" = some 0 by kernel_rfl) (h4 5 (by simp [errL]) (by omega)) 0
    have t : W.cell? ⟨0, 0, none⟩ = some (errV l[5]) := by simpa using this
    exact t
  · have := World.var?_cell (show Tryd.prog.globalNamed "belvedere/api.ErrOver" = some 1 by kernel_rfl) (h4 6 (by simp [errL]) (by omega)) 0
    have t : W.cell? ⟨1, 0, none⟩ = some (errV l[6]) := by simpa using this
    exact t
  · have := World.var?_cell (show Tryd.prog.globalNamed "belvedere/api.ErrFull" = some 7 by kernel_rfl) (h4 7 (by simp [errL]) (by omega)) 0
    have t : W.cell? ⟨7, 0, none⟩ = some (errV l[7]) := by simpa using this
    exact t
  · have := World.var?_cell (show Tryd.prog.globalNamed "belvedere/api.ErrPending" = some 8 by kernel_rfl) (h4 8 (by simp [errL]) (by omega)) 0
    have t : W.cell? ⟨8, 0, none⟩ = some (errV l[8]) := by simpa using this
    exact t
  · have := World.var?_cell (show Tryd.prog.globalNamed "belvedere/api.ErrNone" = some 9 by kernel_rfl) (h4 9 (by simp [errL]) (by omega)) 0
    have t : W.cell? ⟨9, 0, none⟩ = some (errV l[9]) := by simpa using this
    exact t
  · have := World.var?_cell (show Tryd.prog.globalNamed "belvedere/api.ErrLimit" = some 10 by kernel_rfl) (h4 10 (by simp [errL]) (by omega)) 0
    have t : W.cell? ⟨10, 0, none⟩ = some (errV l[10]) := by simpa using this
    exact t
end Go.Proofs.YtaccinophamgmaaDoor
/- What zset.put, firstRow and compareFirst answer. -/
namespace Go.Proofs.YtaccinophamgmaaDoor
open Go.RowKit Go.Sort
set_option maxRecDepth 100000

/-- The error of weights that are beyond. -/
def OverAt (a : Addr) (w : World) : Prop := w.cell? ⟨1, 0, none⟩ = some (errV a)
theorem OverAt.on {a : Addr} {w w' : World} (h : OverAt a w) (hb : Below w.heap.size w w') : OverAt a w' := cell_on h hb
theorem OverAt.lt {a : Addr} {w : World} (h : OverAt a w) : 1 < w.heap.size := World.block_lt_of_cell? _ _ h
/-- Where put ends. -/
def PutAt (base : Nat) (l : List Ent) (r : List Val) (n : Int) (k : Nat) (w : World) (v : Value) (w' : World) : Prop := (∃ us', us'.length ≤ k + 1 ∧ ZOwn base us' (l ++ nzZ [(r, n)]) v w') ∧ Below base w w'
theorem tot_new (n : Int) (w : World) : TotAt w.heap.size n (w.alloc (.cells #[.int .i64 (tHi n), .int .u64 (wLo n)] 94)) :=
  ⟨by rw [World.cell?_alloc_at _ _ _ _ rfl]; rfl, by rw [World.cell?_alloc_at _ _ _ _ rfl]; rfl, by simp [go_sem], by simp [go_sem], by simp⟩
set_option maxHeartbeats 2000000 in
theorem zPut_ok (base : Nat) (us : List VEnt) (l : List Ent) (r : List Val) (n : Int) (vz vr : Value) (w : World) (hbase : base ≤ w.heap.size) (hn : inI n = true)
    (hz : ZOwn base us l vz w) (hr : RowIs w vr r) (hl : r.length ≤ 65536) (hus : us.length ≤ 65536) :
    Calls Tryd.prog 51 #[vz, vr, .agg #[.int .i64 (tHi n), .int .u64 (wLo n)]] w fun e w' => ∃ v, e = .returned (.tuple #[v, .nilIface]) ∧ PutAt base l r n us.length w v w' := by
  obtain ⟨i0, hi, hz0, hz1, hz2⟩ := info_parts info_entry
  obtain ⟨az, cz, rfl⟩ := own_form hz.1
  obtain ⟨ar, cr, rfl⟩ := hr.form
  have HZ : Hid (ZOwn base us l (.slice az us.length cz) w) := hz
  have HR : Hid (RowIs w (.slice ar r.length cr) r) := hr
  have T0 := tot_new n w
  have hin' : -9223372036854775808 ≤ n ∧ n ≤ 9223372036854775807 := by unfold inI at hn; simpa using hn
  have q1 := totWeight w.heap.size n (by omega) n true (fun _ => ⟨rfl, rfl⟩) (fun h => absurd hin' h) _ T0
  clear T0 hn hz hr
  generalize tHi n = hi' at *
  generalize wLo n = lo' at *
  by_cases h0 : n = 0
  · subst h0
    go_enter Tryd.func51, Tryd.ntmps51
    go_wp2_with fail
    refine q1.mono ?_
    rintro e w1 ⟨rfl, hb1⟩
    have B1 : Hid (Below w.heap.size w w1) := one_box.trans (hb1.mono (by simp))
    clear hb1 q1
    go_wp2_with fail
    go_ret2
    refine ⟨.slice az us.length cz, rfl, ⟨us, by omega, ?_⟩, B1.out.mono hbase⟩
    have : nzZ [(r, 0)] = [] := rfl
    rw [this, List.append_nil]
    exact HZ.out.on B1.out
  · have b0 : (n == 0) = false := by simp [h0]
    go_enter Tryd.func51, Tryd.ntmps51
    go_wp2_with fail
    refine q1.mono ?_
    rintro e w1 ⟨rfl, hb1⟩
    have B1 : Hid (Below w.heap.size w w1) := one_box.trans (hb1.mono (by simp))
    clear hb1 q1
    have q2 : Hid (Calls Tryd.prog 35 #[.slice ar r.length cr] w1 fun e w' => ∃ v, e = .returned v ∧ w'.ownsRow w1.heap.size 30 3 v r.length (rc r) ∧ Below w1.heap.size w1 w') := rowCopy r _ w1 hl (HR.out.on B1.out)
    go_wp2_with fail
    refine q2.out.mono ?_
    rintro e w2 ⟨v2, rfl, hown2, hb2⟩
    have B2 : Hid (Below w.heap.size w w2) := B1.out.trans (hb2.mono B1.out.size)
    have Z2 : Hid (ZOwn base us l (.slice az us.length cz) w2) := HZ.out.on B2.out
    have R2 : Hid (w2.ownsRow base 30 3 v2 r.length (rc r)) := own_mono hown2 (by have := B1.out.size; omega)
    have hsz := B2.out.size
    obtain ⟨a2, c2, rfl⟩ := own_form hown2
    have F : Hid (∀ v4 w4, w4.ownsRow base 52 2 v4 (us.length + 1) (es us ++ ec (.slice a2 r.length c2, n)) → (w2.alloc (.cells #[.slice a2 r.length c2, .int .i64 n] 52)).grownBy w4 (Value.ownBlock (.slice az us.length cz)) → PutAt base l r n us.length w v4 w4) := by
      intro v4 w4 g1 g2
      refine ⟨⟨us ++ [(.slice a2 r.length c2, n)], by simp, ?_, ?_⟩, ?_⟩
      · rw [List.length_append, es_snoc]; exact g1
      · have : nzZ [(r, n)] = [(r, n)] := by simp [nzZ, h0]
        rw [this]
        refine OwnRows.grown (w := w2.alloc (.cells #[.slice a2 r.length c2, .int .i64 n] 52)) (OwnRows.snoc (Z2.out.2.on one_box) (own_on R2.out one_box) n) (own_on Z2.out.1 one_box) g2
      · exact ((B2.out.mono hbase).alloc (by omega) _).grown g2 (by simp; omega) (fun k e => (Z2.out.1.lt k e).1)
    clear hb2 hown2 q2 hin'
    go_wp2_with (first | (at_builtin; refine wpList_append_own _ rfl _ _ 27 rfl base 52 i0 (.agg #[.slice none 0 0, .int .i64 0]) 2 32 Tryd.underlying27 hi hz0 hz1 hz2 rfl (by decide) _ us.length (es us) rfl (own_on Z2.out.1 one_box) ⟨w2.heap.size, 0, none⟩ 1 1 (ec (.slice a2 r.length c2, n)) rfl rfl (cell_two_new _ _ _ _) (by simp [ec, Value.oneCell']) (by unfold maxLen; omega) (by omega) (by simp; omega) ?_; intro v4 w4 hown4 hg4 _; have hs4 := F.out _ _ hown4 hg4; clear hown4 hg4 F) | fail)
    go_ret2
    exact ⟨v4, rfl, hs4⟩
set_option maxHeartbeats 2000000 in
theorem zPut_over (n : Int) (az ar : Option Addr) (nz cz nr cr : Nat) (a : Addr) (w : World) (ho : OverAt a w) (hn : -604462909807314587353088 ≤ n ∧ n ≤ 604462909807314587353088) (hin : inI n = false) :
    Calls Tryd.prog 51 #[.slice az nz cz, .slice ar nr cr, .agg #[.int .i64 (tHi n), .int .u64 (wLo n)]] w fun e w' => e = .returned (.tuple #[.slice none 0 0, errV a]) ∧ Below w.heap.size w w' := by
  have HO : Hid (OverAt a w) := ho
  have T0 := tot_new n w
  have hin' : ¬ (-9223372036854775808 ≤ n ∧ n ≤ 9223372036854775807) := by unfold inI at hin; intro h; simp at hin; omega
  have q1 := totWeight w.heap.size n hn 0 false (fun h => absurd h hin') (fun _ => ⟨rfl, rfl⟩) _ T0
  clear T0 hin hin' ho
  generalize tHi n = hi' at *
  generalize wLo n = lo' at *
  go_enter Tryd.func51, Tryd.ntmps51
  go_wp2_with fail
  refine q1.mono ?_
  rintro e w1 ⟨rfl, hb1⟩
  have B1 : Hid (Below w.heap.size w w1) := one_box.trans (hb1.mono (by simp))
  have c1 := HO.out.on B1.out
  unfold OverAt at c1
  clear hb1 q1
  go_wp2_with fail
  go_quiet (fail)
  go_wp2_with fail
  go_ret2
  exact ⟨rfl, B1.out.os, B1.out.tape, B1.out.output, B1.out.size, B1.out.block⟩
/-- Which of two lists begins with the lesser row. -/
def cF : List Ent → List Ent → Int
  | [], _ => 1
  | _ :: _, [] => -1
  | x :: _, y :: _ => cR x.1 y.1
set_option maxHeartbeats 1000000 in
theorem zCompareFirst (l m : List Ent) (va vb : Value) (w : World) (ha : EntsIs w va l) (hb : EntsIs w vb m) :
    Calls Tryd.prog 70 #[va, vb] w fun e w' => e = .returned (.int .i64 (cF l m)) ∧ Below w.heap.size w w' := by
  obtain ⟨a0, cap, rfl⟩ := ha.form
  obtain ⟨b0, cap', rfl⟩ := hb.form
  cases l with
  | nil =>
    clear ha hb
    have e : cF [] m = 1 := rfl
    rw [e]
    go_enter Tryd.func70, Tryd.ntmps70
    go_wp2_with fail
    go_ret
    exact ⟨rfl, Below.refl _ _⟩
  | cons x l =>
    cases m with
    | nil =>
      clear ha hb
      have e : cF (x :: l) [] = -1 := rfl
      rw [e]
      generalize hL : (x :: l).length = n
      have b1 : ((n : Int) == 0) = false := by rw [← hL]; simp; omega
      clear hL
      go_enter Tryd.func70, Tryd.ntmps70
      go_wp2_with fail
      go_ret
      exact ⟨rfl, Below.refl _ _⟩
    | cons y m =>
      obtain ⟨b, o, a1, c1, rfl, x1, x2, x3⟩ := ha.at 0 (by simp)
      obtain ⟨b', o', a2, c2, rfl, y1, y2, y3⟩ := hb.at 0 (by simp)
      have q : Hid (∀ d os, Calls Tryd.prog 49 #[.slice a1 x.1.length c1, .slice a2 y.1.length c2] (grow (redrawn w d) os) fun e w'' => e = .returned (.int .i64 (cR x.1 y.1)) ∧ ∃ p : Regrown, w'' = grow (redrawn w p.d) p.os) :=
        fun d os => Calls.regrown_of (rowCompare x.1 y.1 _ _ _ (x3.on (below_regrown w d os)) (y3.on (below_regrown w d os)))
      simp only [List.getElem_cons_zero, Nat.zero_mul, Nat.add_zero] at x1 y1
      have g1 := fun d os => cell_regrown x1 d os
      have g3 := fun d os => cell_regrown y1 d os
      have e : cF (x :: l) (y :: m) = cR x.1 y.1 := rfl
      rw [e]
      generalize hL : (x :: l).length = n
      generalize hM : (y :: m).length = k
      have i1 : 0 < n := by rw [← hL]; simp
      have i2 : 0 < k := by rw [← hM]; simp
      have b1 : ((n : Int) == 0) = false := by simp; omega
      have b2 : ((k : Int) == 0) = false := by simp; omega
      clear hL hM ha hb x1 x2 x3 y1 y2 y3
      generalize cR x.1 y.1 = c at *
      generalize x.1.length = n1 at *
      generalize y.1.length = n2 at *
      go_enter Tryd.func70, Tryd.ntmps70
      go_wp2_with fail
      refine wp_region_quiet_below (by kernel_rfl) (by kernel_rfl) ?_
      iterate 10 (quiet_step (exact q.out _ _))
      refine wpQuiet_nil ?_
      intro w6 hw6
      obtain ⟨p6, hw6⟩ := hw6
      have hb6 : Hid (Below w.heap.size w w6) := by rw [hw6]; exact below_regrown w _ _
      clear hw6 g1 g3 q
      go_wp2_with fail
      go_ret
      exact ⟨rfl, hb6.out⟩
end Go.Proofs.YtaccinophamgmaaDoor
