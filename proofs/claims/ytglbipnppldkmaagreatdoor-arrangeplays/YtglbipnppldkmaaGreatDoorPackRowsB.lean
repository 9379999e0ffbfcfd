/- Texts of one claim, one behind the other. -/
import Derived.Shelf.SlSortCmp.Whole1
import Derived.Shelf.SlicesE.Clone
import Derived.Test.YtglbipnppldkmaaGreatDoorProg
import Derived.Test.YtglbipnppldkmaaGreatDoorPackQueueB
import Derived.Test.YtglbipnppldkmaaGreatDoorPackPickB
import Derived.Test.YtglbipnppldkmaaGreatDoorZRefB
import Derived.Test.YtglbipnppldkmaaGreatDoorZGrownB
import Derived.Shelf.SlSortCmp.NoneTotal
import Derived.Lib.SliceRun
import Derived.Laws.IdiomCopy
import Derived.Lib.QuietBelow
/- The sort of rows and the copy of numbers out of Go's library, laid at this program's numbers. -/
namespace Go.Proofs
open Go.Shelf
def Tryz.sortRow_ren : Go.Shelf.Ren := ⟨fun | 6 => 43 | 15 => 65 | 14 => 64 | 28 => 101 | 29 => 102 | 20 => 93 | 21 => 94 | 22 => 95 | 23 => 96 | 24 => 97 | 25 => 98 | 26 => 99 | 27 => 100 | 46 => 118 | 47 => 119 | 48 => 120 | 49 => 121 | 50 => 122 | 57 => 139 | n => n, fun | 22 => 51 | 24 => 33 | 25 => 75 | 3 => 3 | 39 => 111 | 0 => 0 | 53 => 155 | 55 => 87 | 4 => 4 | 46 => 148 | 45 => 147 | 50 => 152 | 5 => 5 | 9 => 9 | 66 => 172 | 70 => 176 | 76 => 192 | 77 => 193 | n => n, fun | n => n⟩
theorem Tryz.sortRow : Go.Proofs.SlLaysF.n6 Tryz.prog Tryz.sortRow_ren := {
  mixed := by kernel_rfl
  f6 := ⟨Tryz.f43.name, by decide, Tryz.func43.trans (congrArg some (by kernel_rfl))⟩
  f14 := ⟨Tryz.f64.name, by decide, Tryz.func64.trans (congrArg some (by kernel_rfl))⟩
  f15 := Tryz.func65.trans (congrArg some (by kernel_rfl))
  f20 := ⟨Tryz.f93.name, by decide, Tryz.func93.trans (congrArg some (by kernel_rfl))⟩
  f21 := ⟨Tryz.f94.name, by decide, Tryz.func94.trans (congrArg some (by kernel_rfl))⟩
  f22 := ⟨Tryz.f95.name, by decide, Tryz.func95.trans (congrArg some (by kernel_rfl))⟩
  f23 := ⟨Tryz.f96.name, by decide, Tryz.func96.trans (congrArg some (by kernel_rfl))⟩
  f24 := ⟨Tryz.f97.name, by decide, Tryz.func97.trans (congrArg some (by kernel_rfl))⟩
  f25 := ⟨Tryz.f98.name, by decide, Tryz.func98.trans (congrArg some (by kernel_rfl))⟩
  f26 := ⟨Tryz.f99.name, by decide, Tryz.func99.trans (congrArg some (by kernel_rfl))⟩
  f27 := ⟨Tryz.f100.name, by decide, Tryz.func100.trans (congrArg some (by kernel_rfl))⟩
  f28 := Tryz.func101.trans (congrArg some (by kernel_rfl))
  f29 := Tryz.func102.trans (congrArg some (by kernel_rfl))
  f46 := ⟨Tryz.f118.name, by decide, Tryz.func118.trans (congrArg some (by kernel_rfl))⟩
  f47 := Tryz.func119.trans (congrArg some (by kernel_rfl))
  f48 := Tryz.func120.trans (congrArg some (by kernel_rfl))
  f49 := ⟨Tryz.f121.name, by decide, Tryz.func121.trans (congrArg some (by kernel_rfl))⟩
  f50 := ⟨Tryz.f122.name, by decide, Tryz.func122.trans (congrArg some (by kernel_rfl))⟩
  f57 := ⟨Tryz.f139.name, by decide, Tryz.func139.trans (congrArg some (by kernel_rfl))⟩
  t0 := Tryz.underlying0
  a0 := Tryz.isAgg0
  z0 := Tryz.sizeOf0
  v0 := Tryz.zeroValue0
  t3 := Tryz.underlying3
  a3 := Tryz.isAgg3
  z3 := Tryz.sizeOf3
  v3 := Tryz.zeroValue3
  t4 := Tryz.underlying4
  a4 := Tryz.isAgg4
  z4 := Tryz.sizeOf4
  v4 := Tryz.zeroValue4
  t5 := Tryz.underlying5
  a5 := Tryz.isAgg5
  z5 := Tryz.sizeOf5
  v5 := Tryz.zeroValue5
  t9 := Tryz.underlying9
  a9 := Tryz.isAgg9
  z9 := Tryz.sizeOf9
  v9 := Tryz.zeroValue9
  t22 := Tryz.underlying51
  a22 := Tryz.isAgg51
  z22 := Tryz.sizeOf51
  v22 := Tryz.zeroValue51
  a24 := Tryz.isAgg33
  z24 := Tryz.sizeOf33
  t25 := Tryz.underlying75
  a25 := Tryz.isAgg75
  z25 := Tryz.sizeOf75
  v25 := Tryz.zeroValue75
  t39 := Tryz.underlying111
  a39 := Tryz.isAgg111
  z39 := Tryz.sizeOf111
  v39 := Tryz.zeroValue111
  t45 := Tryz.underlying147
  a45 := Tryz.isAgg147
  z45 := Tryz.sizeOf147
  v45 := Tryz.zeroValue147
  t46 := Tryz.underlying148
  a46 := Tryz.isAgg148
  z46 := Tryz.sizeOf148
  v46 := Tryz.zeroValue148
  t50 := Tryz.underlying152
  a50 := Tryz.isAgg152
  z50 := Tryz.sizeOf152
  v50 := Tryz.zeroValue152
  t53 := Tryz.underlying155
  a53 := Tryz.isAgg155
  z53 := Tryz.sizeOf155
  v53 := Tryz.zeroValue155
  t55 := Tryz.underlying87
  a55 := Tryz.isAgg87
  z55 := Tryz.sizeOf87
  v55 := Tryz.zeroValue87
  t66 := Tryz.underlying172
  a66 := Tryz.isAgg172
  z66 := Tryz.sizeOf172
  v66 := Tryz.zeroValue172
  t70 := Tryz.underlying176
  a70 := Tryz.isAgg176
  z70 := Tryz.sizeOf176
  v70 := Tryz.zeroValue176
  t76 := Tryz.underlying192
  a76 := Tryz.isAgg192
  z76 := Tryz.sizeOf192
  v76 := Tryz.zeroValue192
  t77 := Tryz.underlying193
  a77 := Tryz.isAgg193
  z77 := Tryz.sizeOf193
  v77 := Tryz.zeroValue193 }
def Tryz.cloneInt_ren : Go.Shelf.Ren := ⟨fun | 41 => 27 | n => n, fun | 22 => 22 | 23 => 3 | 4 => 4 | n => n, fun | n => n⟩
theorem Tryz.cloneInt : Go.Proofs.SlLaysE0.n41 Tryz.prog Tryz.cloneInt_ren := {
  mixed := by kernel_rfl
  f41 := ⟨Tryz.f27.name, by decide, Tryz.func27.trans (congrArg some (by kernel_rfl))⟩
  t4 := Tryz.underlying4
  a4 := Tryz.isAgg4
  z4 := Tryz.sizeOf4
  v4 := Tryz.zeroValue4
  t22 := Tryz.underlying22
  a22 := Tryz.isAgg22
  z22 := Tryz.sizeOf22
  v22 := Tryz.zeroValue22 }
end Go.Proofs
/- Lists of rows in memory, and what the document's SameRows answers of two alike. -/
namespace Go.Proofs.YtglbipnppldkmaaGreatDoor
open Go.RowKit Go.Sort
set_option maxRecDepth 100000
/-- A row by its header. -/
abbrev PRow := Value × List Val
/-- A list of rows. -/
def RowsIs (w : World) (v : Value) (K : List (List Val)) : Prop := ∃ ps : List PRow, LsAt w v (ps.map (·.1)) ∧ (∀ x ∈ ps, RowIs w x.1 x.2) ∧ ps.map (·.2) = K
theorem RowsIs.on {w w' : World} {v : Value} {K : List (List Val)} (h : RowsIs w v K) (hb : Below w.heap.size w w') : RowsIs w' v K := by
  obtain ⟨ps, h1, h2, h3⟩ := h; exact ⟨ps, h1.on hb, fun x hx => (h2 x hx).on hb, h3⟩
theorem RowsIs.form {w : World} {v : Value} {K : List (List Val)} (h : RowsIs w v K) : ∃ a cap, v = .slice a K.length cap := by
  obtain ⟨ps, h1, h2, rfl⟩ := h
  obtain ⟨a, cap, e⟩ := h1.form
  exact ⟨a, cap, by rw [e]; simp⟩
theorem RowsIs.nil (w : World) (a : Option Addr) (cap : Nat) : RowsIs w (.slice a 0 cap) [] := ⟨[], .inl ⟨a, cap, rfl, rfl⟩, fun x hx => (by cases hx), rfl⟩
theorem RowsIs.at {w : World} {a : Option Addr} {n cap : Nat} {K : List (List Val)} (h : RowsIs w (.slice a n cap) K) (i : Nat) (hi : i < K.length) :
    ∃ b o a' c', a = some ⟨b, o, none⟩ ∧ w.cell? ⟨b, o + i, none⟩ = some (.slice a' K[i].length c') ∧ RowIs w (.slice a' K[i].length c') K[i] := by
  obtain ⟨ps, h1, h2, rfl⟩ := h
  rw [List.length_map] at hi
  rcases h1 with ⟨_, _, _, e⟩ | ⟨b, o, cap', e, _, _, h3, h4⟩
  · have := congrArg List.length e; simp at this; rw [this] at hi; simp at hi
  · simp only [Value.slice.injEq] at e
    have hr := h2 ps[i] (List.getElem_mem hi)
    obtain ⟨a', c', e'⟩ := hr.form
    have := h4 i (by simpa using hi)
    rw [List.getElem_map, e'] at this
    rw [e'] at hr
    simp only [List.getElem_map]
    exact ⟨b, o, a', c', e.1, this, hr⟩
theorem RowsIs.le {w : World} {v : Value} {K : List (List Val)} (h : RowsIs w v K) : K.length ≤ maxLen := by
  obtain ⟨ps, h1, _, rfl⟩ := h
  rcases h1 with ⟨_, _, _, e⟩ | ⟨b, o, cap', e, g1, g2, _⟩
  · have := congrArg List.length e; simp at this ⊢; rw [this]; simp
  · rw [List.length_map] at g1 ⊢; omega
theorem own_in {base : Nat} {w : World} {e : TypeId} {s : Nat} {v : Value} {n : Nat} {xs : List Value} (ho : w.ownsRow base e s v n xs) {k : Nat} (hk : v.ownBlock = some k) : ∃ cur, w.heap[k]? = some (.cells cur e (0, 0)) := by
  rcases ho.2 with ⟨rfl, _⟩ | ⟨g, cap, cur, rfl, _, hg, _⟩
  · cases hk
  · simp only [Value.ownBlock, Option.some.injEq] at hk
    subst hk; exact ⟨_, hg⟩
theorem own_apart {b1 b2 : Nat} {w : World} {e1 e2 : TypeId} {s1 s2 : Nat} {v1 v2 : Value} {n1 n2 : Nat} {x1 x2 : List Value} (h1 : w.ownsRow b1 e1 s1 v1 n1 x1) (h2 : w.ownsRow b2 e2 s2 v2 n2 x2) (hne : e1 ≠ e2) {k : Nat} (h : v2.ownBlock = some k) : v1.ownBlock ≠ some k := fun e => by
  obtain ⟨c1, g1⟩ := own_in h1 e
  obtain ⟨c2, g2⟩ := own_in h2 h
  rw [g1] at g2
  simp only [Option.some.injEq, Obj.cells.injEq] at g2
  exact hne g2.2.1
/-- A list of rows, all of it the call's own. -/
def RowsOwn (base : Nat) (ps : List PRow) (v : Value) (w : World) : Prop :=
  w.ownsRow base 33 1 v ps.length (ps.map (·.1)) ∧ ∀ x ∈ ps, w.ownsRow base 56 3 x.1 x.2.length (rc x.2)
theorem RowsOwn.nil (base : Nat) (w : World) : RowsOwn base [] (.slice none 0 0) w := ⟨World.ownsRow_nil _ _ _ _, fun x hx => (by cases hx)⟩
theorem RowsOwn.on {base : Nat} {ps : List PRow} {v : Value} {w w' : World} (h : RowsOwn base ps v w) (hb : Below w.heap.size w w') : RowsOwn base ps v w' := ⟨own_on h.1 hb, fun x hx => own_on (h.2 x hx) hb⟩
theorem LsAt.of_row {base : Nat} {w : World} {e : TypeId} {v : Value} {vs : List Value} (h : w.ownsRow base e 1 v vs.length vs) : LsAt w v vs := by
  have hlt := h.lt
  obtain ⟨h1, h2 | ⟨g, cap, cur, rfl, hg, hh, hc, hm, hs, ht⟩⟩ := h
  · exact .inl ⟨none, 0, h2.1, List.eq_nil_of_length_eq_zero h2.2⟩
  · have own : w.ownsRow base e 1 (.slice (some ⟨g, 0, none⟩) vs.length cap) vs.length vs := ⟨h1, .inr ⟨g, cap, cur, rfl, hg, hh, hc, hm, hs, ht⟩⟩
    refine .inr ⟨g, 0, cap, rfl, hc, hm, (hlt g rfl).2, fun i hi => ?_⟩
    rw [Nat.zero_add, own.cellAt i (by omega)]; exact List.getElem?_eq_getElem hi
theorem RowsOwn.rows {base : Nat} {ps : List PRow} {v : Value} {w : World} (h : RowsOwn base ps v w) : RowsIs w v (ps.map (·.2)) :=
  ⟨ps, LsAt.of_row (base := base) (by rw [List.length_map]; exact h.1), fun x hx => RowIs.of_own (h.2 x hx), rfl⟩
/-- Rows that the call owns stay where a list grows. -/
theorem RowsOwn.keep {base : Nat} {ps : List PRow} {v : Value} {w w' : World} (h : RowsOwn base ps v w) (hg : w.grownBy w' v.ownBlock) : ∀ x ∈ ps, w'.ownsRow base 56 3 x.1 x.2.length (rc x.2) := fun x hx => by
  cases hv : v.ownBlock with
  | none =>
    rw [hv] at hg
    exact own_on (h.2 x hx) ((Below.refl _ _).grown hg (Nat.le_refl _) (fun k e => by cases e))
  | some k =>
    rw [hv] at hg
    exact own_grown (h.2 x hx) hg (own_apart (h.2 x hx) h.1 (by decide) hv)
theorem RowsOwn.push {base : Nat} {ps : List PRow} {v v' y : Value} {r : List Val} {w w' : World} (h : RowsOwn base ps v w) (hy : w.ownsRow base 56 3 y r.length (rc r)) (hg : w.grownBy w' v.ownBlock) (ho : w'.ownsRow base 33 1 v' (ps.length + 1) (ps.map (·.1) ++ [y])) : RowsOwn base (ps ++ [(y, r)]) v' w' := by
  refine ⟨by simpa using ho, fun x hx => ?_⟩
  rcases List.mem_append.1 hx with hx | hx
  · exact h.keep hg x hx
  · rw [List.mem_singleton.1 hx]
    cases hv : v.ownBlock with
    | none =>
      rw [hv] at hg
      exact own_on hy ((Below.refl _ _).grown hg (Nat.le_refl _) (fun k e => by cases e))
    | some k =>
      rw [hv] at hg
      exact own_grown hy hg (own_apart hy h.1 (by decide) hv)
theorem RowsOwn.mono {base base' : Nat} {ps : List PRow} {v : Value} {w : World} (h : RowsOwn base' ps v w) (hb : base ≤ base') : RowsOwn base ps v w := ⟨own_mono h.1 hb, fun x hx => own_mono (h.2 x hx) hb⟩
theorem info_rows : (Tryz.prog.info? 33).map (fun i => (i.zero, i.size, i.bytes)) = some (some (.slice none 0 0), 1, 24) := by kernel_rfl
set_option maxHeartbeats 2000000 in
/-- The document's SameRows, of two alike. -/
theorem sameRows (K : List (List Val)) (va vb : Value) (w : World) (ha : RowsIs w va K) (hb : RowsIs w vb K) :
    Calls Tryz.prog 37 #[va, vb] w fun e w' => e = .returned (.bool true) ∧ Below w.heap.size w w' := by
  obtain ⟨a0, cap, rfl⟩ := ha.form
  obtain ⟨b0, cap', rfl⟩ := hb.form
  have la := ha.le
  unfold maxLen at la
  have Ha : Hid (RowsIs w (.slice a0 K.length cap) K) := ha
  have Hb : Hid (RowsIs w (.slice b0 K.length cap') K) := hb
  clear ha hb
  go_enter Tryz.func37, Tryz.ntmps37
  go_wp2_with fail
  go_loopw [5] (fun i wr => ∃ j : Nat, j ≤ K.length ∧ i = .int .i64 j ∧ Below w.heap.size w wr) (fun i _ => K.length - (intOf i).toNat)
  case atStart => exact ⟨0, by omega, rfl, Below.refl _ _⟩
  case round =>
    obtain ⟨j, hj1, rfl, hB⟩ := hrel
    by_cases k1 : j < K.length
    · obtain ⟨b, o, a1, c1, rfl, x1, x3⟩ := (Ha.out.on hB).at j k1
      obtain ⟨b', o', a2, c2, rfl, y1, y3⟩ := (Hb.out.on hB).at j k1
      have I1 : (j : Int) < (K.length : Int) := by omega
      have q : Hid (∀ d os, Calls Tryz.prog 60 #[.slice a1 K[j].length c1, .slice a2 K[j].length c2] (grow (redrawn wr d) os) fun e w'' => e = .returned (.bool true) ∧ ∃ p : Regrown, w'' = grow (redrawn wr p.d) p.os) :=
        fun d os => Calls.regrown_of (by
          have := sameRow K[j] K[j] _ _ (grow (redrawn wr d) os) (x3.on (below_regrown wr d os)) (y3.on (below_regrown wr d os))
          rw [(sR_iff _ _).2 rfl] at this; exact this)
      have g1 := fun d os => cell_regrown x1 d os
      have g3 := fun d os => cell_regrown y1 d os
      clear x1 x3 y1 y3
      generalize K[j].length = n1 at *
      go_wp2_with fail
      refine wp_region_quiet_below (by kernel_rfl) (by kernel_rfl) ?_
      iterate 10 (quiet_step (exact q.out _ _))
      refine wpQuiet_nil ?_
      intro w6 hw6
      obtain ⟨p6, hw6⟩ := hw6
      have hb6 : Below w.heap.size w w6 := by rw [hw6]; exact hB.trans ((below_regrown wr _ _).mono hB.size)
      clear hw6 g1 g3 q
      go_wp2_with fail
      go_roundw
      case rel => exact ⟨j + 1, by omega, by go_num, hb6⟩
      case measure => simp [intOf]; omega
    · have I1 : ¬ (j : Int) < (K.length : Int) := by omega
      go_wp2_with fail
      go_ret
      exact ⟨rfl, hB⟩
end Go.Proofs.YtglbipnppldkmaaGreatDoor
/- What the library's sort of rows answers here: the same rows, in order, in the list's own cells. -/
namespace Go.Proofs.YtglbipnppldkmaaGreatDoor
open Go.RowKit Go.Sort
set_option maxRecDepth 100000
/-- A list's own cells: they may be written. -/
def CellsW (w : World) (g : Nat) (vs : List Value) : Prop := g < w.heap.size ∧ ∀ i (h : i < vs.length), w.cell? ⟨g, i, none⟩ = some vs[i] ∧ w.frozen? ⟨g, i, none⟩ = false
theorem but_grown {w w' : World} {g : Nat} (h : w.grownBy w' (some g)) : But g w w' := ⟨h.os, h.tape, h.output, h.size, fun i h1 h2 => h.block i h2 (fun e => h1 (by cases e; rfl))⟩
/-- Rows that lie elsewhere. -/
def RowsOff (w : World) (g : Nat) (ps : List PRow) : Prop := ∀ x ∈ ps, RowIs w x.1 x.2 ∧ x.1.ownBlock ≠ some g
theorem RowsOff.but {w w' : World} {g : Nat} {ps : List PRow} (h : RowsOff w g ps) (hb : But g w w') : RowsOff w' g ps := fun x hx => ⟨(h x hx).1.but hb (h x hx).2, (h x hx).2⟩
def pD : PRow := (.slice none 0 0, [])
def encP (ps : List PRow) (i : Nat) : Value := (ps.getD i pD).1
def cfP (ps : List PRow) (i j : Nat) : Int := cR (ps.getD i pD).2 (ps.getD j pD).2
theorem get_lt {α : Type} (l : List α) (d : α) {i : Nat} (h : i < l.length) : l.getD i d = l[i] := by simp [List.getD, h]
theorem get_ge {α : Type} (l : List α) (d : α) {i : Nat} (h : l.length ≤ i) : l.getD i d = d := by simp [List.getD, h]
theorem RowsOff.get {w : World} {g : Nat} {ps : List PRow} (h : RowsOff w g ps) (i : Nat) : RowIs w (ps.getD i pD).1 (ps.getD i pD).2 := by
  by_cases hi : i < ps.length
  · rw [get_lt _ _ hi]; exact (h _ (List.getElem_mem hi)).1
  · rw [get_ge _ _ (by omega)]; exact .inl ⟨none, 0, rfl, rfl⟩
theorem cR_nl {a b c : List Val} (h : ¬ cR a b < 0) (g : ¬ cR b c < 0) : ¬ cR a c < 0 := by
  intro h1
  have e1 : cR b a ≤ 0 := by have := cR_anti a b; omega
  have e2 := cR_trans b a c e1 (by omega)
  have e3 : cR b c = 0 := by omega
  have e4 := (cR_zero _ _).1 e3
  subst e4
  exact h h1
theorem swoP (ps : List PRow) : SWO (ltOf (cfP ps)) where
  irrefl x := by unfold ltOf cfP; rw [cR_self]; rfl
  trans x y z h1 h2 := by
    unfold ltOf cfP at *
    simp only [decide_eq_true_eq] at *
    exact cR_lt_trans h1 h2
  ntrans x y z h1 h2 := by
    unfold ltOf cfP at *
    simp only [decide_eq_false_iff_not] at *
    exact cR_nl h1 h2
theorem grown_sort1 {α : Type} [Inhabited α] (enc : α → Value) (w : World) (g n : Nat) (os : Array Obj) (d : Array α) : w.grownBy (sortWorld enc w g 0 n d os) (some g) := by
  refine ⟨rfl, rfl, rfl, by simp [sortWorld, grow, Sort.ahead, putRow, mapBlock], fun k' hk hne => ?_⟩
  unfold sortWorld
  rw [heap_grow_old _ _ (by simpa [putRow, mapBlock, Sort.ahead] using hk)]
  have : g ≠ k' := fun e => hne (by rw [e])
  simp [putRow, mapBlock, Sort.ahead, Array.getElem?_modify, this]
theorem cmpLaysP {W : World} {g : Nat} {ps : List PRow} (hr : RowsOff W g ps) (n : Nat) : CmpLays1 Tryz.prog 44 #[] (encP ps) (cfP ps) g 0 n W := by
  intro m os dk _ x y
  have hB := but_grown (grown_sort1 (encP ps) W g m os dk)
  generalize sortWorld (encP ps) W g 0 m dk os = W1 at *
  have q := rowCompareG (ps.getD x pD).2 (ps.getD y pD).2 (ps.getD x pD).1 (ps.getD y pD).1 W1 ((hr.but hB).get x) ((hr.but hB).get y)
  exact q
theorem map_range_get {α : Type} (l : List α) (d : α) : (List.range l.length).map (fun i => l.getD i d) = l := by
  apply List.ext_getElem (by simp)
  intro i h1 h2
  rw [List.getElem_map, List.getElem_range, get_lt _ _ h2]
/-- The sort of rows, in a list's own cells. -/
theorem sortRows (ps : List PRow) (W : World) (g cap : Nat) (hr : RowsOff W g ps) (hc : CellsW W g (ps.map (·.1))) (hn : ps.length ≤ 65536) :
    Calls Tryz.prog 43 #[.slice (some ⟨g, 0, none⟩) ps.length cap, .func (.func 44) #[] #[]] W fun e w' => e = .returned (.tuple #[]) ∧ ∃ qs : List PRow, qs.Perm ps ∧ (qs.map (·.2)).Pairwise (fun a b => cR a b ≤ 0) ∧ CellsW w' g (qs.map (·.1)) ∧ But g W w' := by
  have hH : Holds (encP ps) W g 0 (Array.range ps.length) := fun j hj => by
    rw [Array.size_range] at hj
    have := hc.2 j (by rw [List.length_map]; exact hj)
    rw [Nat.zero_add, getElem!_pos _ _ (by simpa using hj)]
    simp only [Array.getElem_range, encP, get_lt _ _ hj]
    rw [List.getElem_map] at this
    exact this
  have q := Any.slices_SortFunc Tryz.sortRow (encP ps) (fun x => by
    unfold encP
    obtain ⟨ax, cx, ex⟩ := (hr.get x).form
    rw [ex]; rfl) (cfP ps) (swoP ps) 44 #[] g 0 cap (Array.range ps.length) W (enters_of Tryz.func44 (by kernel_rfl) rfl) (cmpLaysP hr _) hH hc.1 (by rw [Array.size_range]; omega)
  rw [Array.size_range] at q
  change Calls Tryz.prog 43 _ _ _ at q
  refine q.mono ?_
  rintro e w' ⟨rfl, d', n, os, hp, hs, rfl⟩
  have hd : d'.size = ps.length := by rw [hp.1, Array.size_range]
  have hK : Holds (encP ps) (sortWorld (encP ps) W g 0 n d' os) g 0 d' := SW.holds (W := sortWorld (encP ps) W g 0 n d' os) ⟨n, os, rfl⟩ hc.1 hH (by rw [hd, Array.size_range])
  have hG := grown_sort1 (encP ps) W g n os d'
  refine ⟨rfl, d'.toList.map (fun i => ps.getD i pD), ?_, ?_, ⟨Nat.lt_of_lt_of_le hc.1 hG.size, fun i hi => ?_⟩, but_grown hG⟩
  · have h1 := hp.2.2
    have e1 : (d'.extract 0 ps.length).toList = d'.toList := by rw [← hd]; simp
    have e2 : ((Array.range ps.length).extract 0 ps.length).toList = List.range ps.length := by simp
    rw [e1, e2] at h1
    have := h1.map (fun i => ps.getD i pD)
    rwa [map_range_get] at this
  · rw [List.map_map, List.pairwise_map]
    refine List.pairwise_iff_getElem.2 fun i j hi hj hij => ?_
    have := hs i j (Nat.zero_le _) hij (by simpa [hd] using hj)
    unfold ltOf cfP at this
    simp only [decide_eq_false_iff_not] at this
    simp only [Array.length_toList] at hi hj
    rw [getElem!_pos d' i hi, getElem!_pos d' j hj] at this
    have h2 := cR_anti (ps.getD d'[j] pD).2 (ps.getD d'[i] pD).2
    simp only [Array.getElem_toList, Function.comp]
    omega
  · simp only [List.length_map, Array.length_toList] at hi
    have := hK i hi
    rw [Nat.zero_add, getElem!_pos d' i hi] at this
    simp only [List.getElem_map, Array.getElem_toList]
    exact this
/-- The sort of no rows. -/
theorem sortNone (a : Option Addr) (cap : Nat) (W : World) :
    Calls Tryz.prog 43 #[.slice a 0 cap, .func (.func 44) #[] #[]] W fun e w' => e = .returned (.tuple #[]) ∧ w' = W := by
  have q := AnyF.slices_SortFunc_none (P := Tryz.prog) (ρ := Tryz.sortRow_ren) { Tryz.sortRow with } a cap (.func (.func 44) #[] #[]) W
  change Calls Tryz.prog 43 _ _ _ at q
  exact q
end Go.Proofs.YtglbipnppldkmaaGreatDoor
/- What the library's CompactFunc answers of rows: of those alike side by side one, in the list's own cells. -/
namespace Go.Proofs.YtglbipnppldkmaaGreatDoor
open Go.RowKit Go.Sort
set_option maxRecDepth 100000
theorem CellsW.but {w w' : World} {g : Nat} {vs : List Value} (h : CellsW w g vs) (hb : Below w.heap.size w w') : CellsW w' g vs :=
  ⟨Nat.lt_of_lt_of_le h.1 hb.size, fun i hi => ⟨cell_on (h.2 i hi).1 hb, by rw [World.frozen?_of_block (w := w) (hb.block g h.1)]; exact (h.2 i hi).2⟩⟩
theorem CellsW.set {w : World} {g : Nat} {vs : List Value} (h : CellsW w g vs) (k : Nat) (hk : k < vs.length) (u : Value) : CellsW (w.setCell ⟨g, k, none⟩ u) g (vs.set k u) := by
  refine ⟨by simpa [World.setCell] using h.1, fun i hi => ?_⟩
  rw [List.length_set] at hi
  refine ⟨?_, by rw [World.frozen?_setCell]; exact (h.2 i hi).2⟩
  by_cases e : k = i
  · subst e
    rw [World.cell?_setCell_same _ _ _ (h.2 k hk).1, List.getElem_set_self]
  · rw [World.cell?_setCell_other w ⟨g, k, none⟩ ⟨g, i, none⟩ u (by intro x; simp only [Addr.mk.injEq] at x; omega), List.getElem_set_ne (by omega)]; exact (h.2 i hi).1
theorem CellsW.cut {w : World} {g k : Nat} {vs : List Value} (h : CellsW w g vs) (hk : k ≤ vs.length) (xs : List Value) : CellsW (w.setCells g k xs) g (vs.take k) := by
  have hs : ∀ (xs : List Value) (o : Nat) (w : World), (w.setCells g o xs).heap.size = w.heap.size := by
    intro xs
    induction xs with
    | nil => intro o w; rfl
    | cons x xs ih => intro o w; unfold World.setCells; rw [ih]; simp [World.setCell]
  refine ⟨by rw [hs]; exact h.1, fun i hi => ?_⟩
  rw [List.length_take] at hi
  rw [World.cell?_setCells_out _ _ _ _ _ (fun _ _ => .inl (show i < k by omega)), World.frozen?_setCells, List.getElem_take]
  exact h.2 i (by omega)
theorem but_below {g : Nat} {w w' : World} (h : Below w.heap.size w w') : But g w w' := ⟨h.os, h.tape, h.output, h.size, fun i _ h2 => h.block i h2⟩
theorem but_set {g o : Nat} {w : World} {u : Value} : But g w (w.setCell ⟨g, o, none⟩ u) := ⟨rfl, rfl, rfl, by simp [World.setCell], fun i h1 _ => Below.heap_setCell _ _ _ _ h1⟩
theorem but_sets {g : Nat} : ∀ (xs : List Value) (o : Nat) (w : World), But g w (w.setCells g o xs)
  | [], _, w => But.refl g w
  | x :: xs, o, w => by unfold World.setCells; exact but_set.trans (but_sets xs _ _)
theorem wrap_nat (n : Nat) (h : n ≤ 9223372036854775807) : IntKind.i64.wrap (n : Int) = (n : Int) := by
  rw [IntKind.wrap_i64]; omega
/-- The cells, as far as j. -/
def cptL (ps : List PRow) (j : Nat) : List PRow := cpt ps j ++ ps.drop (cpt ps j).length
theorem cptL_len {ps : List PRow} {j : Nat} (hj : j ≤ ps.length) : (cptL ps j).length = ps.length := by
  have := cpt_len ps j
  unfold cptL; simp; omega
theorem cptL_hi {ps : List PRow} {j i : Nat} (hi : (cpt ps j).length ≤ i) (h : i < ps.length) : (cptL ps j)[i]? = some ps[i] := by
  unfold cptL
  rw [List.getElem?_append_right hi, List.getElem?_drop, show (cpt ps j).length + (i - (cpt ps j).length) = i by omega, List.getElem?_eq_getElem h]
theorem cptL_step {ps : List PRow} {j : Nat} (h : j < ps.length) (he : ps[j].2 ≠ ps[j - 1].2) : (cptL ps j).set (cpt ps j).length ps[j] = cptL ps (j + 1) := by
  have hl := cpt_len ps j
  have e := cpt_ne h (.inr he)
  unfold cptL
  rw [e, List.set_append_right _ _ (Nat.le_refl _), Nat.sub_self, List.length_append, List.length_singleton, List.append_assoc]
  congr 1
  rw [List.drop_eq_getElem_cons (show (cpt ps j).length < ps.length by omega)]
  rfl
theorem cptL_skip {ps : List PRow} {j : Nat} (h : j < ps.length) (h0 : 0 < j) (he : ps[j].2 = ps[j - 1].2) : cptL ps (j + 1) = cptL ps j := by unfold cptL; rw [cpt_eq h h0 he]
theorem cptL_take {ps : List PRow} {j : Nat} : (cptL ps j).take (cpt ps j).length = cpt ps j := by unfold cptL; simp
theorem cptL_all {ps : List PRow} {j : Nat} (hj : j ≤ ps.length) (h : ∀ i (h : i < ps.length), 0 < i → i < j → ps[i].2 ≠ ps[i - 1].2) : cptL ps j = ps := by
  unfold cptL
  rw [cpt_all hj h, List.length_take, Nat.min_eq_left hj, List.take_append_drop]
/-- Are two rows alike? -/
theorem sameKey (r s : List Val) (a0 b0 : Option Addr) (c0 c1 : Nat) (w : World) (ha : RowIs w (.slice a0 r.length c0) r) (hb : RowIs w (.slice b0 s.length c1) s) :
    Calls Tryz.prog 46 #[.slice a0 r.length c0, .slice b0 s.length c1] w fun e w' => e = .returned (.bool (cR r s == 0)) ∧ Below w.heap.size w w' := by
  have q := rowCompare r s _ _ w ha hb
  clear ha hb
  generalize cR r s = c at *
  generalize r.length = n at *
  generalize s.length = m at *
  go_enter Tryz.func46, Tryz.ntmps46
  go_wp2_with fail
  refine q.mono ?_
  rintro e w1 ⟨rfl, hb1⟩
  have B : Hid (Below w.heap.size w w1) := hb1
  clear q hb1
  go_wp2_with fail
  go_ret
  exact ⟨rfl, B.out⟩
/-- How far CompactFunc has come, before two alike; behind them. -/
def CpA (ps : List PRow) (W : World) (g j : Nat) (wr : World) : Prop := CellsW wr g (ps.map (·.1)) ∧ But g W wr ∧ ∀ i (h : i < ps.length), 0 < i → i < j → ps[i].2 ≠ ps[i - 1].2
def CpB (ps : List PRow) (W : World) (g j : Nat) (wr : World) : Prop := CellsW wr g ((cptL ps j).map (·.1)) ∧ But g W wr ∧ (cpt ps j).length + 1 ≤ j
/-- Where it ends. -/
def CpEnd (ps : List PRow) (W : World) (g : Nat) (k : Nat) (w' : World) : Prop := k = (cpt ps ps.length).length ∧ CellsW w' g ((cpt ps ps.length).map (·.1)) ∧ But g W w'
theorem cell_at0 {w : World} {g i j : Nat} {vs : List Value} (h : CellsW w g vs) (u : Value) (hu : vs[i]? = some u) (hij : j = i) : w.cell? ⟨g, j, none⟩ = some u := by
  obtain ⟨hi, rfl⟩ := List.getElem?_eq_some_iff.1 hu
  subst hij; exact (h.2 _ hi).1
set_option maxHeartbeats 8000000 in
theorem compactRows (ps : List PRow) (W : World) (g cap : Nat) (hr : RowsOff W g ps) (hc : CellsW W g (ps.map (·.1))) (hn : ps.length ≤ 65536) (hcap : ps.length ≤ cap ∧ cap ≤ maxLen) :
    Calls Tryz.prog 45 #[.slice (some ⟨g, 0, none⟩) ps.length cap, .func (.func 46) #[] #[]] W fun e w' => ∃ k : Nat, e = .returned (.slice (some ⟨g, 0, none⟩) k cap) ∧ CpEnd ps W g k w' := by
  obtain ⟨hcl, hcm⟩ := hcap
  unfold maxLen at hcm
  have HR : Hid (RowsOff W g ps) := hr
  have H0 : Hid (CpA ps W g 1 W) := ⟨hc, But.refl _ _, fun i _ h1 h2 => by omega⟩
  have HE : Hid (∀ wr, CpA ps W g ps.length wr → CpEnd ps W g ps.length wr) := fun wr ⟨h1, h2, h3⟩ => by
    have e := cpt_all (ps := ps) (Nat.le_refl _) h3
    rw [List.take_length] at e
    exact ⟨by rw [e], by rw [e]; exact h1, h2⟩
  clear hr hc
  by_cases h2 : ps.length < 2
  · have I0 : (ps.length : Int) < 2 := by omega
    have G : Hid (CpEnd ps W g ps.length W) := HE.out W ⟨H0.out.1, But.refl _ _, fun i _ h1 h3 => by omega⟩
    generalize ps.length = n at *
    go_enter Tryz.func45, Tryz.ntmps45
    go_wp2_with fail
    go_ret
    exact ⟨_, rfl, G.out⟩
  · have I0 : ¬ (ps.length : Int) < 2 := by omega
    go_enter Tryz.func45, Tryz.ntmps45
    go_wp2_with fail
    go_loopw [5] (fun i wr => ∃ j : Nat, 1 ≤ j ∧ j ≤ ps.length ∧ i = .int .i64 j ∧ Hid (CpA ps W g j wr)) (fun i _ => ps.length - (intOf i).toNat)
    case atStart => exact ⟨1, by omega, by omega, rfl, H0⟩
    case round =>
      obtain ⟨j, hj1, hj2, rfl, hA⟩ := hrel
      clear H0
      by_cases k1 : j < ps.length
      · have I1 : (j : Int) < (ps.length : Int) := by omega
        obtain ⟨t, rfl⟩ : ∃ t, j = t + 1 := ⟨j - 1, by omega⟩
        have hj0 : (((t + 1 : Nat) : Int) - 1) = (t : Int) := by omega
        have ht : t ≤ 65535 := by omega
        have hj3 : (0 : Int) ≤ (t : Int) + 1 := by omega
        have hj4 : IntKind.i64.wrap (t : Int) = (t : Int) := wrap_nat t (by omega)
        have hj5 : (0 : Int) ≤ (t : Int) := by omega
        have hj6 : (t : Int) < (ps.length : Int) := by omega
        obtain ⟨p1, o1⟩ := (HR.out.but hA.out.2.1) ps[t + 1] (List.getElem_mem k1)
        obtain ⟨p0, o0⟩ := (HR.out.but hA.out.2.1) ps[t] (List.getElem_mem (by omega))
        obtain ⟨a1, c1, e1⟩ := p1.form
        obtain ⟨a0, c0, e0⟩ := p0.form
        have x1 := (hA.out.1.2 (t + 1) (by simpa using k1)).1
        have x0 := (hA.out.1.2 t (by rw [List.length_map]; omega)).1
        rw [List.getElem_map, e1] at x1
        rw [List.getElem_map, e0] at x0
        rw [e1] at p1
        rw [e0] at p0
        have q : Hid (∀ d os, Calls Tryz.prog 46 #[.slice a1 ps[t + 1].2.length c1, .slice a0 ps[t].2.length c0] (grow (redrawn wr d) os) fun e w'' => e = .returned (.bool (cR ps[t + 1].2 ps[t].2 == 0)) ∧ ∃ p : Regrown, w'' = grow (redrawn wr p.d) p.os) :=
          fun d os => Calls.regrown_of (sameKey ps[t + 1].2 ps[t].2 a1 a0 c1 c0 _ (p1.on (below_regrown wr d os)) (p0.on (below_regrown wr d os)))
        have g1 := fun d os => cell_regrown x1 d os
        have g0 := fun d os => cell_regrown x0 d os
        have HD : Hid ((cR ps[t + 1].2 ps[t].2 == 0) = false → ∀ w', Below wr.heap.size wr w' → CpA ps W g (t + 2) w') := fun h w' hb => by
          refine ⟨hA.out.1.but hb, hA.out.2.1.trans (but_below hb), fun i hi h1 h2 => ?_⟩
          by_cases e : i = t + 1
          · subst e
            intro e'
            have e2 : ps[t + 1].2 = ps[t].2 := e'
            rw [e2, cR_self] at h; cases h
          · exact hA.out.2.2 i hi h1 (by omega)
        have HU : Hid ((cR ps[t + 1].2 ps[t].2 == 0) = true → ∀ w', Below wr.heap.size wr w' → CpB ps W g (t + 2) w' ∧ (cpt ps (t + 2)).length = t + 1) := fun h w' hb => by
          have e : ps[t + 1].2 = ps[t].2 := (cR_zero _ _).1 (by simpa using h)
          have e2 := cpt_all (ps := ps) (by omega) hA.out.2.2
          have e3 : (cpt ps (t + 2)).length = t + 1 := by rw [cpt_eq k1 (by omega) e, e2, List.length_take]; omega
          refine ⟨⟨?_, hA.out.2.1.trans (but_below hb), by omega⟩, e3⟩
          rw [cptL_skip k1 (by omega) e, cptL_all (by omega) hA.out.2.2]
          exact hA.out.1.but hb
        clear p1 o1 p0 o0 e1 e0 x1 x0 hA
        generalize (cR ps[t + 1].2 ps[t].2 == 0) = c at *
        generalize ps[t + 1].2.length = n1 at *
        generalize ps[t].2.length = n0 at *
        go_wp2_with fail
        refine wp_region_quiet_below (by kernel_rfl) (by kernel_rfl) ?_
        iterate 11 (quiet_step (exact q.out _ _))
        refine wpQuiet_nil ?_
        intro w6 hw6
        obtain ⟨p6, hw6⟩ := hw6
        have hb6 : Hid (Below wr.heap.size wr w6) := by show Below _ _ _; rw [hw6]; exact below_regrown wr _ _
        clear hw6 g1 g0 q
        cases c
        · have E : Hid (CpA ps W g (t + 2) w6) := HD.out rfl w6 hb6.out
          clear HD HU hb6
          go_wp2_with fail
          go_roundw
          case rel => exact ⟨t + 2, by omega, by omega, by go_num, E⟩
          case measure => simp [intOf]; omega
        · obtain ⟨E, EJ⟩ := HU.out rfl w6 hb6.out
          have E0 : Hid (CpB ps W g (t + 2) w6 ∧ (cpt ps (t + 2)).length = t + 1) := ⟨E, EJ⟩
          clear HD HU hb6 E EJ
          have hcj : ¬ cap = t + 1 := by omega
          go_wp2_with fail
          obtain ⟨M, hM⟩ : ∃ M, ps.length - (t + 1) = M := ⟨_, rfl⟩
          obtain ⟨C2, hC2⟩ : ∃ C2, cap - (t + 1) = C2 := ⟨_, rfl⟩
          have hMn : t + 1 + M = ps.length := by omega
          rw [hM, hC2]
          clear hC2 I1 hj0 hj3 hj4 hj5 hj6 hcj hM
          go_loopw [5, 7] (fun s5 s7 wr => ∃ v kk : Nat, v + 1 ≤ M ∧ s7 = .int .i64 ((v + 1 : Nat) : Int) ∧ s5 = .int .i64 kk ∧ kk = (cpt ps (t + 2 + v)).length ∧ Hid (CpB ps W g (t + 2 + v) wr)) (fun _ s7 _ => M - (intOf s7).toNat)
          case atStart => exact ⟨0, t + 1, by omega, rfl, by go_num, E0.out.2.symm, E0.out.1⟩
          case round =>
            rename_i wr0
            obtain ⟨v, kk, hv1, rfl, rfl, hkk, hB⟩ := hrel
            clear E0
            have hkj : kk + 1 ≤ t + 2 + v := by rw [hkk]; exact hB.out.2.2
            have hkj' : kk ≤ 65536 := by omega
            by_cases k2 : v + 1 < M
            · have I1 : ((v + 1 : Nat) : Int) < (M : Int) := by omega
              have hjn : t + 2 + v < ps.length := by omega
              obtain ⟨p1, o1⟩ := (HR.out.but hB.out.2.1) ps[t + 2 + v] (List.getElem_mem hjn)
              obtain ⟨p0, o0⟩ := (HR.out.but hB.out.2.1) ps[t + 1 + v] (List.getElem_mem (by omega))
              obtain ⟨a1, c1, e1⟩ := p1.form
              obtain ⟨a0, c0, e0⟩ := p0.form
              have x1 := cell_at0 (j := t + 1 + (v + 1)) hB.out.1 ps[t + 2 + v].1 (by rw [List.getElem?_map, cptL_hi (by omega) hjn]; rfl) (by omega)
              have x0 := cell_at0 (j := t + 1 + v) hB.out.1 ps[t + 1 + v].1 (by rw [List.getElem?_map, cptL_hi (by omega) (by omega)]; rfl) rfl
              have E1 : Hid (ps[t + 2 + v].1 = .slice a1 ps[t + 2 + v].2.length c1) := e1
              rw [e1] at x1 p1
              rw [e0] at x0 p0
              have q : Hid (∀ d os, Calls Tryz.prog 46 #[.slice a1 ps[t + 2 + v].2.length c1, .slice a0 ps[t + 1 + v].2.length c0] (grow (redrawn wr d) os) fun e w'' => e = .returned (.bool (cR ps[t + 2 + v].2 ps[t + 1 + v].2 == 0)) ∧ ∃ p : Regrown, w'' = grow (redrawn wr p.d) p.os) :=
                fun d os => Calls.regrown_of (sameKey ps[t + 2 + v].2 ps[t + 1 + v].2 a1 a0 c1 c0 _ (p1.on (below_regrown wr d os)) (p0.on (below_regrown wr d os)))
              have g1 := fun d os => cell_regrown x1 d os
              have g0 := fun d os => cell_regrown x0 d os
              have HD : Hid ((cR ps[t + 2 + v].2 ps[t + 1 + v].2 == 0) = false → ∀ w', Below wr.heap.size wr w' → (w'.cell? ⟨g, t + 1 + (v + 1), none⟩ = some (.slice a1 ps[t + 2 + v].2.length c1) ∧ (∃ old, w'.cell? ⟨g, kk, none⟩ = some old) ∧ w'.frozen? ⟨g, kk, none⟩ = false) ∧ CpB ps W g (t + 2 + (v + 1)) (w'.setCell ⟨g, kk, none⟩ (.slice a1 ps[t + 2 + v].2.length c1)) ∧ kk + 1 = (cpt ps (t + 2 + (v + 1))).length) := fun h w' hb => by
                have hne : ps[t + 2 + v].2 ≠ ps[t + 2 + v - 1].2 := fun e => by
                  have e' : ps[t + 2 + v].2 = ps[t + 1 + v].2 := by rw [e]; congr 2; omega
                  rw [e', cR_self] at h; cases h
                have hcw := hB.out.1.but hb
                have hl : kk < ((cptL ps (t + 2 + v)).map (·.1)).length := by rw [List.length_map, cptL_len (by omega)]; omega
                have hst := cptL_step hjn hne
                rw [← hkk] at hst
                have hlen : (cpt ps (t + 2 + v + 1)).length = kk + 1 := by rw [cpt_ne hjn (.inr hne), List.length_append, ← hkk]; rfl
                refine ⟨⟨cell_on x1 hb, ⟨_, (hcw.2 kk hl).1⟩, (hcw.2 kk hl).2⟩, ⟨?_, (hB.out.2.1.trans (but_below hb)).trans but_set, ?_⟩, ?_⟩
                · have := hcw.set kk hl ps[t + 2 + v].1
                  rw [← List.map_set, hst, E1.out] at this
                  exact this
                · rw [show t + 2 + (v + 1) = t + 2 + v + 1 by omega, hlen]; omega
                · rw [show t + 2 + (v + 1) = t + 2 + v + 1 by omega, hlen]
              have HU : Hid ((cR ps[t + 2 + v].2 ps[t + 1 + v].2 == 0) = true → ∀ w', Below wr.heap.size wr w' → CpB ps W g (t + 2 + (v + 1)) w' ∧ kk = (cpt ps (t + 2 + (v + 1))).length) := fun h w' hb => by
                have e' : ps[t + 2 + v].2 = ps[t + 1 + v].2 := (cR_zero _ _).1 (by simpa using h)
                have e : ps[t + 2 + v].2 = ps[t + 2 + v - 1].2 := by rw [e']; congr 2; omega
                have hce := cpt_eq hjn (by omega) e
                rw [show t + 2 + (v + 1) = t + 2 + v + 1 by omega]
                refine ⟨⟨?_, hB.out.2.1.trans (but_below hb), by rw [hce]; have := hB.out.2.2; omega⟩, by rw [hce]; exact hkk⟩
                rw [cptL_skip hjn (by omega) e]; exact hB.out.1.but hb
              have J0 : (((v + 1 : Nat) : Int) - 1) = (v : Int) := by omega
              have J3 : (0 : Int) ≤ (v : Int) + 1 := by omega
              have J4 : IntKind.i64.wrap (v : Int) = (v : Int) := wrap_nat v (by omega)
              have J5 : (0 : Int) ≤ (v : Int) := by omega
              have J6 : (v : Int) < (M : Int) := by omega
              clear p1 o1 p0 o0 e1 e0 x1 x0 hB hkk E1
              generalize (cR ps[t + 2 + v].2 ps[t + 1 + v].2 == 0) = c at *
              generalize ps[t + 2 + v].2.length = n1 at *
              generalize ps[t + 1 + v].2.length = n0 at *
              go_wp2_with fail
              refine wp_region_quiet_below (by kernel_rfl) (by kernel_rfl) ?_
              iterate 12 (quiet_step (exact q.out _ _))
              refine wpQuiet_nil ?_
              intro w8 hw8
              obtain ⟨p8, hw8⟩ := hw8
              have hb8 : Hid (Below wr.heap.size wr w8) := by show Below _ _ _; rw [hw8]; exact below_regrown wr _ _
              clear hw8 g1 g0 q J0 J3 J4 J5 J6
              cases c
              · obtain ⟨⟨y1, ⟨old, y2⟩, y3⟩, y4, y5⟩ := HD.out rfl w8 hb8.out
                have Y4 : Hid (CpB ps W g (t + 2 + (v + 1)) (w8.setCell ⟨g, kk, none⟩ (.slice a1 n1 c1)) ∧ kk + 1 = (cpt ps (t + 2 + (v + 1))).length) := ⟨y4, y5⟩
                clear HD HU hb8 y4 y5
                have K1 : (kk : Int) < (ps.length : Int) := by omega
                have I2 : (v : Int) + 1 < (M : Int) := by omega
                have I3 : (0 : Int) ≤ (v : Int) + 1 := by omega
                go_wp2_with fail
                go_roundw
                case rel => exact ⟨v + 1, kk + 1, by omega, by go_num, by go_num, Y4.out.2, Y4.out.1⟩
                case measure => simp [intOf]; omega
              · obtain ⟨y4, y5⟩ := HU.out rfl w8 hb8.out
                have Y4 : Hid (CpB ps W g (t + 2 + (v + 1)) w8 ∧ kk = (cpt ps (t + 2 + (v + 1))).length) := ⟨y4, y5⟩
                clear HD HU hb8 y4 y5
                go_wp2_with fail
                go_roundw
                case rel => exact ⟨v + 1, kk, by omega, by go_num, rfl, Y4.out.2, Y4.out.1⟩
                case measure => simp [intOf]; omega
            · have I1 : ¬ ((v + 1 : Nat) : Int) < (M : Int) := by omega
              have hend : t + 2 + v = ps.length := by omega
              rw [hend] at hB hkk
              have hlc : ((cptL ps ps.length).map (·.1)).length = ps.length := by rw [List.length_map, cptL_len (Nat.le_refl _)]
              have hclr : ∀ ty, (Builtin.clear_ #[51] ty #[.slice (some ⟨g, kk, none⟩) (ps.length - kk) (cap - kk)]).run Tryz.prog wr = .ok (.tuple #[]) (wr.setCells g kk (List.replicate (ps.length - kk) (.slice none 0 0))) :=
                fun ty => Lib.run_clear_slice wr _ _ ty _ Tryz.underlying51 Tryz.zeroValue33 rfl rfl g kk _ _ (by omega) (fun j hj => by rw [(hB.out.1.2 (kk + j) (by omega)).1]; rfl) (fun j hj => (hB.out.1.2 (kk + j) (by omega)).2)
              have G : Hid (CpEnd ps W g kk (wr.setCells g kk (List.replicate (ps.length - kk) (.slice none 0 0)))) := by
                refine ⟨hkk, ?_, hB.out.2.1.trans (but_sets _ _ _)⟩
                have := hB.out.1.cut (k := kk) (by omega) (List.replicate (ps.length - kk) (.slice none 0 0))
                rw [← List.map_take, hkk, cptL_take] at this
                rw [hkk]; exact this
              have K1 : kk < ps.length := by omega
              have K2 : ¬ cap = kk := by omega
              clear hB hkk hlc
              generalize ps.length = n at *
              go_wp2_with fail
              go_ret
              exact ⟨_, rfl, G.out⟩
      · have I1 : ¬ (j : Int) < (ps.length : Int) := by omega
        have G : Hid (CpEnd ps W g ps.length wr) := HE.out wr (by have : j = ps.length := by omega
                                                                  rw [← this]; exact hA.out)
        clear hA
        generalize ps.length = n at *
        go_wp2_with fail
        go_ret
        exact ⟨_, rfl, G.out⟩
end Go.Proofs.YtglbipnppldkmaaGreatDoor
