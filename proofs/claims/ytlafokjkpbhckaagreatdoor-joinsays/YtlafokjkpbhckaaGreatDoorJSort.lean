/- What the library's sort of entries answers with a closure that captures: the same entries, by a key, in order. (Out of ZSort.) -/
import Derived.Test.YtlafokjkpbhckaaGreatDoorJLay
import Derived.Test.YtlafokjkpbhckaaGreatDoorPackGrown
import Derived.Test.YtlafokjkpbhckaaGreatDoorZAdd
import Derived.Shelf.SlSortCmp.NoneTotal
namespace Go.Proofs.YtlafokjkpbhckaaGreatDoor
open Go.RowKit Go.Sort
set_option maxRecDepth 100000
set_option linter.unusedVariables false

theorem getD_lt {α : Type} (l : List α) (d : α) {i : Nat} (h : i < l.length) : l.getD i d = l[i] := by simp [List.getD, h]
theorem getD_ge {α : Type} (l : List α) (d : α) {i : Nat} (h : l.length ≤ i) : l.getD i d = d := by simp [List.getD, h]
/-- Entries by their places. -/
def encJ (vs : List VEnt) (dv : VEnt) (i : Nat) : List Value := ec (vs.getD i dv)
def cfJ (key : List Val → List Val) (dl : Ent) (l : List Ent) (i j : Nat) : Int := cR (key (l.getD i dl).1) (key (l.getD j dl).1)
theorem cR_nlt {a b c : List Val} (h : ¬ cR a b < 0) (g : ¬ cR b c < 0) : ¬ cR a c < 0 := by
  intro h1
  have e1 : cR b a ≤ 0 := by have := cR_anti a b; omega
  have e2 := cR_trans b a c e1 (by omega)
  have e3 : cR b c = 0 := by omega
  have e4 := (cR_zero _ _).1 e3
  subst e4
  exact h h1
theorem swoJ (key : List Val → List Val) (dl : Ent) (l : List Ent) : SWO (ltOf (cfJ key dl l)) where
  irrefl x := by unfold ltOf cfJ; rw [cR_self]; rfl
  trans x y z h1 h2 := by
    unfold ltOf cfJ at *
    simp only [decide_eq_true_eq] at *
    exact cR_lt_trans h1 h2
  ntrans x y z h1 h2 := by
    unfold ltOf cfJ at *
    simp only [decide_eq_false_iff_not] at *
    exact cR_nlt h1 h2
theorem readJ {w : World} {vs : List VEnt} {l : List Ent} {dv : VEnt} {dl : Ent} (h : Reads w vs l) (hd : RowIs w dv.1 dl.1 ∧ dv.2 = dl.2) (i : Nat) : RowIs w (vs.getD i dv).1 (l.getD i dl).1 ∧ (vs.getD i dv).2 = (l.getD i dl).2 := by
  by_cases hi : i < vs.length
  · have hi' : i < l.length := by rw [← h.1]; exact hi
    rw [getD_lt _ _ hi, getD_lt _ _ hi']; exact h.2 i hi hi'
  · have hi' : ¬ i < l.length := by rw [← h.1]; exact hi
    rw [getD_ge _ _ (by omega), getD_ge _ _ (by omega)]; exact hd
theorem propJ {l : List Ent} {dl : Ent} {P : List Val → Prop} (hP : P dl.1 ∧ ∀ e ∈ l, P e.1) (i : Nat) : P (l.getD i dl).1 := by
  by_cases hi : i < l.length
  · rw [getD_lt _ _ hi]; exact hP.2 _ (List.getElem_mem hi)
  · rw [getD_ge _ _ (by omega)]; exact hP.1
/-- A closure that compares by a key. -/
def CmpJ (fn : Nat) (cb : Array Value) (key : List Val → List Val) (P : List Val → Prop) (K : World → Prop) (w : World) : Prop :=
  ∀ W, Below w.heap.size w W → K W → ∀ (x y : List Val) (a0 b0 : Option Addr) (cap cap' : Nat) (i k : Int), P x → P y → RowIs W (.slice a0 x.length cap) x → RowIs W (.slice b0 y.length cap') y →
    Calls Tryz.prog fn (#[.agg #[.slice a0 x.length cap, .int .i64 i], .agg #[.slice b0 y.length cap', .int .i64 k]] ++ cb) W fun e w' => e = .returned (.int .i64 (cR (key x) (key y))) ∧ Grown W w'
theorem grown_sorted {α : Type} [Inhabited α] (enc : α → List Value) (k : Nat) (w : World) (g n : Nat) (os : Array Obj) (d : Array α) : w.grownBy (sortWorldK enc k w g 0 n d os) (some g) := by
  refine ⟨rfl, rfl, rfl, by simp [sortWorldK, putRowK, grow, Sort.ahead, putRow, mapBlock], fun k' hk hne => ?_⟩
  unfold sortWorldK putRowK
  rw [heap_grow_old _ _ (by simpa using hk)]
  have : g ≠ k' := fun e => hne (by rw [e])
  simp [putRow, mapBlock, Sort.ahead, Array.getElem?_modify, this]
theorem below_sorted {α : Type} [Inhabited α] {enc : α → List Value} {k : Nat} {w W : World} {g n : Nat} {os : Array Obj} {d : Array α} (hw : Below w.heap.size w W) (hg : w.heap.size ≤ g) : Below w.heap.size w (sortWorldK enc k W g 0 n d os) :=
  hw.grown (grown_sorted enc k W g n os d) hw.size (fun k e => by cases e; exact hg)
theorem cmpLaysJ {w W : World} {g : Nat} {vs : List VEnt} {l : List Ent} {dv : VEnt} {dl : Ent} {fn : Nat} {cb : Array Value} {key : List Val → List Val} {P : List Val → Prop} (hr : Reads w vs l) (hd : RowIs w dv.1 dl.1 ∧ dv.2 = dl.2) (hP : P dl.1 ∧ ∀ e ∈ l, P e.1) {K : World → Prop} (hK : ∀ V, W.grownBy V (some g) → K V) (hc : CmpJ fn cb key P K w) (hw : Below w.heap.size w W) (hg : w.heap.size ≤ g) (n : Nat) : CmpLays Tryz.prog fn cb (encJ vs dv) 2 (cfJ key dl l) g 0 n W := by
  intro m os dk _ x y
  have hB : Below w.heap.size w (sortWorldK (encJ vs dv) 2 W g 0 m dk os) := below_sorted hw hg
  have hKW := hK _ (grown_sorted (encJ vs dv) 2 W g m os dk)
  generalize sortWorldK (encJ vs dv) 2 W g 0 m dk os = W1 at *
  obtain ⟨x1, _⟩ := readJ hr hd x
  obtain ⟨y1, _⟩ := readJ hr hd y
  obtain ⟨ax, cx, ex⟩ := x1.form
  obtain ⟨ay, cy, ey⟩ := y1.form
  rw [ex] at x1
  rw [ey] at y1
  have q := hc W1 hB hKW (l.getD x dl).1 (l.getD y dl).1 ax ay cx cy (vs.getD x dv).2 (vs.getD y dv).2 (propJ hP x) (propJ hP y) (x1.on hB) (y1.on hB)
  rw [← ex, ← ey] at q
  exact q
theorem holdsJ {W : World} {base g cap : Nat} {vs : List VEnt} (dv : VEnt) (h : W.ownsRow base 41 2 (.slice (some ⟨g, 0, none⟩) vs.length cap) vs.length (es vs)) : HoldsK (encJ vs dv) 2 W g 0 (Array.range vs.length) := by
  intro j hj
  rw [size_flatK, Array.size_range] at hj
  have hi : j / 2 < vs.length := by omega
  rw [get_flatK _ _ _ _ (by rw [Array.size_range]; exact hj), Nat.zero_add, h.cellAt j hj]
  refine ⟨?_, h.frozenAt j⟩
  obtain ⟨c0, c1⟩ := es_at vs (j / 2) hi
  have e0 : (Array.range vs.length)[j / 2]! = j / 2 := by rw [getElem!_pos _ _ (by simpa using hi)]; simp
  rw [e0]
  unfold encJ
  rw [getD_lt _ _ hi]
  have hm : j % 2 = 0 ∨ j % 2 = 1 := by omega
  rcases hm with e | e
  · rw [e, show (es vs)[j]? = (es vs)[j / 2 * 2]? by congr 1; omega, c0]
    simp [ec]
  · rw [e, show (es vs)[j]? = (es vs)[j / 2 * 2 + 1]? by congr 1; omega, c1]
    simp [ec]
theorem map_range_getD {α : Type} (l : List α) (d : α) : (List.range l.length).map (fun i => l.getD i d) = l := by
  apply List.ext_getElem (by simp)
  intro i h1 h2
  rw [List.getElem_map, List.getElem_range, getD_lt _ _ h2]
/-- The sort of entries of the call's own. -/
theorem jSortAt (vs : List VEnt) (l : List Ent) (dv : VEnt) (dl : Ent) (fn : Nat) (cb : Array Value) (key : List Val → List Val) (P : List Val → Prop) (w W : World) (g cap : Nat) (hw : Below w.heap.size w W) (hr : Reads w vs l) (hdv : RowIs w dv.1 dl.1 ∧ dv.2 = dl.2) (hP : P dl.1 ∧ ∀ e ∈ l, P e.1) (eg : ∀ args w, (callFunc fn args).run Tryz.prog w = .ok (.enter fn args) w) (K : World → Prop) (hK : ∀ V, W.grownBy V (some g) → K V) (hc : CmpJ fn cb key P K w) (hn : l.length ≤ 65536)
    (hown : W.ownsRow w.heap.size 41 2 (.slice (some ⟨g, 0, none⟩) vs.length cap) vs.length (es vs)) :
    Calls Tryz.prog 57 #[.slice (some ⟨g, 0, none⟩) vs.length cap, .func (.func fn) #[] cb] W fun e w' => e = .returned (.tuple #[]) ∧ ∃ l' : List Ent, l'.Perm l ∧ l'.Pairwise (fun a b => cR (key a.1) (key b.1) ≤ 0) ∧ EntsIs w' (.slice (some ⟨g, 0, none⟩) vs.length cap) l' ∧ Below w.heap.size w w' := by
  have hlt := hown.lt g rfl
  have hcap : vs.length ≤ cap ∧ cap ≤ maxLen := by
    rcases hown.2 with ⟨e, _⟩ | ⟨g', c', cur, e, _, _, h1, h2, _⟩
    · cases e
    · simp only [Value.slice.injEq] at e
      obtain ⟨_, _, rfl⟩ := e
      exact ⟨h1, h2⟩
  have hlen : vs.length = l.length := hr.1
  have hH := holdsJ dv hown
  have q := AnyQ.slices_SortFunc Tryz.sortEnt 2 Tryz.isAgg41 Tryz.sizeOf41 (encJ vs dv) (fun _ => rfl) (fun x v hv => by
    unfold encJ at hv
    obtain ⟨x1, _⟩ := readJ hr hdv x
    obtain ⟨ax, cx, ex⟩ := x1.form
    simp only [ec, List.mem_cons, List.not_mem_nil, or_false] at hv
    rcases hv with rfl | rfl
    · rw [ex]; rfl
    · rfl) (cfJ key dl l) (swoJ key dl l) fn cb g 0 cap (Array.range vs.length) W eg (cmpLaysJ hr hdv hP hK hc hw hlt.1 _) hH hlt.2 (by rw [Array.size_range]; omega)
  rw [Array.size_range] at q
  change Calls Tryz.prog 57 _ _ _ at q
  refine q.mono ?_
  rintro e w' ⟨rfl, d', n, os, hp, hs, rfl⟩
  have hB : Below w.heap.size w (sortWorldK (encJ vs dv) 2 W g 0 n d' os) := below_sorted hw hlt.1
  have hd : d'.size = vs.length := by rw [hp.1, Array.size_range]
  have hK : HoldsK (encJ vs dv) 2 (sortWorldK (encJ vs dv) 2 W g 0 n d' os) g 0 d' :=
    SWK.holds (W := sortWorldK (encJ vs dv) 2 W g 0 n d' os) ⟨n, os, rfl⟩ hlt.2 hH (by rw [hd, Array.size_range])
  refine ⟨rfl, d'.toList.map (fun i => l.getD i dl), ?_, ?_, ⟨d'.toList.map (fun i => vs.getD i dv), ?_, ?_⟩, hB⟩
  · have h1 := hp.2.2
    have e1 : (d'.extract 0 vs.length).toList = d'.toList := by rw [← hd]; simp
    have e2 : ((Array.range vs.length).extract 0 vs.length).toList = List.range vs.length := by simp
    rw [e1, e2, hlen] at h1
    have := h1.map (fun i => l.getD i dl)
    rwa [map_range_getD] at this
  · rw [List.pairwise_map]
    refine List.pairwise_iff_getElem.2 fun i j hi hj hij => ?_
    have := hs i j (Nat.zero_le _) hij (by simpa [hd] using hj)
    unfold ltOf cfJ at this
    simp only [decide_eq_false_iff_not] at this
    simp only [Array.length_toList] at hi hj
    rw [getElem!_pos d' i hi, getElem!_pos d' j hj] at this
    have h2 := cR_anti (key (l.getD d'[j] dl).1) (key (l.getD d'[i] dl).1)
    simp only [Array.getElem_toList]
    omega
  · have hl' : (d'.toList.map (fun i => vs.getD i dv)).length = vs.length := by simp [hd]
    refine .inr ⟨g, 0, cap, by rw [hl'], by rw [hl']; exact hcap.1, hcap.2, ?_, fun i hi => ?_⟩
    · exact Nat.lt_of_lt_of_le hlt.2 (grown_sorted (encJ vs dv) 2 W g n os d').size
    · rw [hl'] at hi
      have c0 := (hK.cell (i := i) (c := 0) (by omega) (by omega)).1
      have c1 := (hK.cell (i := i) (c := 1) (by omega) (by omega)).1
      rw [getElem!_pos d' i (by omega)] at c0 c1
      simp only [List.getElem_map, Array.getElem_toList]
      exact ⟨by simpa [encJ, ec] using c0, by simpa [encJ, ec] using c1⟩
  · refine ⟨by simp, fun i h1 h2 => ?_⟩
    simp only [List.getElem_map]
    obtain ⟨x1, x2⟩ := readJ hr hdv (d'.toList[i]'(by simpa using h1))
    exact ⟨x1.on hB, x2⟩
end Go.Proofs.YtlafokjkpbhckaaGreatDoor
