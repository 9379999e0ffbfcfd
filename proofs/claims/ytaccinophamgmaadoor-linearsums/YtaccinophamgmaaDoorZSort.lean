/- What the library's sort and copy of entries answer here: the same entries, in order. -/
import Derived.Test.YtaccinophamgmaaDoorZLay
import Derived.Test.YtaccinophamgmaaDoorPackGrown
import Derived.Test.YtaccinophamgmaaDoorPackNeg
import Derived.Shelf.SlSortCmp.NoneTotal
namespace Go.Proofs.YtaccinophamgmaaDoor
open Go.RowKit Go.Sort
set_option maxRecDepth 100000

theorem getD_lt {α : Type} (l : List α) (d : α) {i : Nat} (h : i < l.length) : l.getD i d = l[i] := by simp [List.getD, h]
theorem getD_ge {α : Type} (l : List α) (d : α) {i : Nat} (h : l.length ≤ i) : l.getD i d = d := by simp [List.getD, h]
/-- Entries by their places. -/
def eD : VEnt := (.slice none 0 0, 0)
def encE (vs : List VEnt) (i : Nat) : List Value := ec (vs.getD i eD)
def cfE (l : List Ent) (i j : Nat) : Int := cR (l.getD i ([], 0)).1 (l.getD j ([], 0)).1
theorem cR_nlt {a b c : List Val} (h : ¬ cR a b < 0) (g : ¬ cR b c < 0) : ¬ cR a c < 0 := by
  intro h1
  have e1 : cR b a ≤ 0 := by have := cR_anti a b; omega
  have e2 := cR_trans b a c e1 (by omega)
  have e3 : cR b c = 0 := by omega
  have e4 := (cR_zero _ _).1 e3
  subst e4
  exact h h1
theorem swoE (l : List Ent) : SWO (ltOf (cfE l)) where
  irrefl x := by unfold ltOf cfE; rw [cR_self]; rfl
  trans x y z h1 h2 := by
    unfold ltOf cfE at *
    simp only [decide_eq_true_eq] at *
    exact cR_lt_trans h1 h2
  ntrans x y z h1 h2 := by
    unfold ltOf cfE at *
    simp only [decide_eq_false_iff_not] at *
    exact cR_nlt h1 h2
theorem readD {w : World} {vs : List VEnt} {l : List Ent} (h : Reads w vs l) (i : Nat) : RowIs w (vs.getD i eD).1 (l.getD i ([], 0)).1 ∧ (vs.getD i eD).2 = (l.getD i ([], 0)).2 := by
  by_cases hi : i < vs.length
  · have hi' : i < l.length := by rw [← h.1]; exact hi
    rw [getD_lt _ _ hi, getD_lt _ _ hi']; exact h.2 i hi hi'
  · have hi' : ¬ i < l.length := by rw [← h.1]; exact hi
    rw [getD_ge _ _ (by omega), getD_ge _ _ (by omega)]
    exact ⟨.inl ⟨none, 0, rfl, rfl⟩, rfl⟩
set_option maxHeartbeats 1000000 in
theorem makeCmp (x y : Ent) (a0 b0 : Option Addr) (cap cap' : Nat) (i k : Int) (w : World) (ha : RowIs w (.slice a0 x.1.length cap) x.1) (hb : RowIs w (.slice b0 y.1.length cap') y.1) :
    Calls Tryd.prog 48 #[.agg #[.slice a0 x.1.length cap, .int .i64 i], .agg #[.slice b0 y.1.length cap', .int .i64 k]] w fun e w' => e = .returned (.int .i64 (cR x.1 y.1)) ∧ Grown w w' := by
  have q : Hid (∀ W, Below w.heap.size w W → Calls Tryd.prog 49 #[.slice a0 x.1.length cap, .slice b0 y.1.length cap'] W fun e w' => e = .returned (.int .i64 (cR x.1 y.1)) ∧ Grown W w') :=
    fun W hW => rowCompareG x.1 y.1 _ _ W (ha.on hW) (hb.on hW)
  clear ha hb
  generalize cR x.1 y.1 = s at *
  generalize x.1.length = n at *
  generalize y.1.length = m at *
  go_enter Tryd.func48, Tryd.ntmps48
  go_wp2_with fail
  refine (q.out _ below_two).mono ?_
  rintro e w1 ⟨rfl, hb1⟩
  have hB : Hid (Grown w w1) := grown_two.trans hb1
  clear hb1 q
  go_wp2_with fail
  go_ret
  exact ⟨rfl, hB.out⟩
theorem grown_sorted {α : Type} [Inhabited α] (enc : α → List Value) (k : Nat) (w : World) (g n : Nat) (os : Array Obj) (d : Array α) : w.grownBy (sortWorldK enc k w g 0 n d os) (some g) := by
  refine ⟨rfl, rfl, rfl, by simp [sortWorldK, putRowK, grow, Sort.ahead, putRow, mapBlock], fun k' hk hne => ?_⟩
  unfold sortWorldK putRowK
  rw [heap_grow_old _ _ (by simpa using hk)]
  have : g ≠ k' := fun e => hne (by rw [e])
  simp [putRow, mapBlock, Sort.ahead, Array.getElem?_modify, this]
theorem below_sorted {α : Type} [Inhabited α] {enc : α → List Value} {k : Nat} {w W : World} {g n : Nat} {os : Array Obj} {d : Array α} (hw : Below w.heap.size w W) (hg : w.heap.size ≤ g) : Below w.heap.size w (sortWorldK enc k W g 0 n d os) :=
  hw.grown (grown_sorted enc k W g n os d) hw.size (fun k e => by cases e; exact hg)
theorem cmpLaysE {w W : World} {g : Nat} {vs : List VEnt} {l : List Ent} (hr : Reads w vs l) (hw : Below w.heap.size w W) (hg : w.heap.size ≤ g) (n : Nat) : CmpLays Tryd.prog 48 #[] (encE vs) 2 (cfE l) g 0 n W := by
  intro m os dk _ x y
  have hB : Below w.heap.size w (sortWorldK (encE vs) 2 W g 0 m dk os) := below_sorted hw hg
  generalize sortWorldK (encE vs) 2 W g 0 m dk os = W1 at *
  obtain ⟨x1, _⟩ := readD hr x
  obtain ⟨y1, _⟩ := readD hr y
  obtain ⟨ax, cx, ex⟩ := x1.form
  obtain ⟨ay, cy, ey⟩ := y1.form
  rw [ex] at x1
  rw [ey] at y1
  have q := makeCmp (l.getD x ([], 0)) (l.getD y ([], 0)) ax ay cx cy (vs.getD x eD).2 (vs.getD y eD).2 W1 (x1.on hB) (y1.on hB)
  rw [← ex, ← ey] at q
  exact q
theorem holdsE {W : World} {base g cap : Nat} {vs : List VEnt} (h : W.ownsRow base 52 2 (.slice (some ⟨g, 0, none⟩) vs.length cap) vs.length (es vs)) : HoldsK (encE vs) 2 W g 0 (Array.range vs.length) := by
  intro j hj
  rw [size_flatK, Array.size_range] at hj
  have hi : j / 2 < vs.length := by omega
  rw [get_flatK _ _ _ _ (by rw [Array.size_range]; exact hj), Nat.zero_add, h.cellAt j hj]
  refine ⟨?_, h.frozenAt j⟩
  obtain ⟨c0, c1⟩ := es_at vs (j / 2) hi
  have e0 : (Array.range vs.length)[j / 2]! = j / 2 := by rw [getElem!_pos _ _ (by simpa using hi)]; simp
  rw [e0]
  unfold encE
  rw [getD_lt _ _ hi]
  have hm : j % 2 = 0 ∨ j % 2 = 1 := by omega
  rcases hm with e | e
  · rw [e, show (es vs)[j]? = (es vs)[j / 2 * 2]? by congr 1; omega, c0]
    simp [ec]
  · rw [e, show (es vs)[j]? = (es vs)[j / 2 * 2 + 1]? by congr 1; omega, c1]
    simp [ec]
theorem map_range_getD {α : Type} (l : List α) (d : α) : (List.range l.length).map (fun i => l.getD i d) = l := by
  apply List.ext_getElem (by simp)
  intro i h1 h2
  rw [List.getElem_map, List.getElem_range, getD_lt _ _ h2]
/-- The sort of entries of the call's own. -/
theorem sortAt (vs : List VEnt) (l : List Ent) (w W : World) (g cap : Nat) (hw : Below w.heap.size w W) (hr : Reads w vs l) (hn : l.length ≤ 65536)
    (hown : W.ownsRow w.heap.size 52 2 (.slice (some ⟨g, 0, none⟩) vs.length cap) vs.length (es vs)) :
    Calls Tryd.prog 47 #[.slice (some ⟨g, 0, none⟩) vs.length cap, .func (.func 48) #[] #[]] W fun e w' => e = .returned (.tuple #[]) ∧ ∃ l' : List Ent, l'.Perm l ∧ l'.Pairwise (fun a b => cR a.1 b.1 ≤ 0) ∧ EntsIs w' (.slice (some ⟨g, 0, none⟩) vs.length cap) l' ∧ Below w.heap.size w w' := by
  have hlt := hown.lt g rfl
  have hcap : vs.length ≤ cap ∧ cap ≤ maxLen := by
    rcases hown.2 with ⟨e, _⟩ | ⟨g', c', cur, e, _, _, h1, h2, _⟩
    · cases e
    · simp only [Value.slice.injEq] at e
      obtain ⟨_, _, rfl⟩ := e
      exact ⟨h1, h2⟩
  have hlen : vs.length = l.length := hr.1
  have hH := holdsE hown
  have q := AnyQ.slices_SortFunc Tryd.sortEnt 2 Tryd.isAgg52 Tryd.sizeOf52 (encE vs) (fun _ => rfl) (fun x v hv => by
    unfold encE at hv
    obtain ⟨x1, _⟩ := readD hr x
    obtain ⟨ax, cx, ex⟩ := x1.form
    simp only [ec, List.mem_cons, List.not_mem_nil, or_false] at hv
    rcases hv with rfl | rfl
    · rw [ex]; rfl
    · rfl) (cfE l) (swoE l) 48 #[] g 0 cap (Array.range vs.length) W (enters_of Tryd.func48 (by kernel_rfl) rfl) (cmpLaysE hr hw hlt.1 _) hH hlt.2 (by rw [Array.size_range]; omega)
  rw [Array.size_range] at q
  change Calls Tryd.prog 47 _ _ _ at q
  refine q.mono ?_
  rintro e w' ⟨rfl, d', n, os, hp, hs, rfl⟩
  have hB : Below w.heap.size w (sortWorldK (encE vs) 2 W g 0 n d' os) := below_sorted hw hlt.1
  have hd : d'.size = vs.length := by rw [hp.1, Array.size_range]
  have hK : HoldsK (encE vs) 2 (sortWorldK (encE vs) 2 W g 0 n d' os) g 0 d' :=
    SWK.holds (W := sortWorldK (encE vs) 2 W g 0 n d' os) ⟨n, os, rfl⟩ hlt.2 hH (by rw [hd, Array.size_range])
  refine ⟨rfl, d'.toList.map (fun i => l.getD i ([], 0)), ?_, ?_, ⟨d'.toList.map (fun i => vs.getD i eD), ?_, ?_⟩, hB⟩
  · have h1 := hp.2.2
    have e1 : (d'.extract 0 vs.length).toList = d'.toList := by rw [← hd]; simp
    have e2 : ((Array.range vs.length).extract 0 vs.length).toList = List.range vs.length := by simp
    rw [e1, e2, hlen] at h1
    have := h1.map (fun i => l.getD i ([], 0))
    rwa [map_range_getD] at this
  · rw [List.pairwise_map]
    refine List.pairwise_iff_getElem.2 fun i j hi hj hij => ?_
    have := hs i j (Nat.zero_le _) hij (by simpa [hd] using hj)
    unfold ltOf cfE at this
    simp only [decide_eq_false_iff_not] at this
    simp only [Array.length_toList] at hi hj
    rw [getElem!_pos d' i hi, getElem!_pos d' j hj] at this
    have h2 := cR_anti (l.getD d'[j] ([], 0)).1 (l.getD d'[i] ([], 0)).1
    simp only [Array.getElem_toList]
    omega
  · have hl' : (d'.toList.map (fun i => vs.getD i eD)).length = vs.length := by simp [hd]
    refine .inr ⟨g, 0, cap, by rw [hl'], by rw [hl']; exact hcap.1, hcap.2, ?_, fun i hi => ?_⟩
    · exact Nat.lt_of_lt_of_le hlt.2 (grown_sorted (encE vs) 2 W g n os d').size
    · rw [hl'] at hi
      have c0 := (hK.cell (i := i) (c := 0) (by omega) (by omega)).1
      have c1 := (hK.cell (i := i) (c := 1) (by omega) (by omega)).1
      rw [getElem!_pos d' i (by omega)] at c0 c1
      simp only [List.getElem_map, Array.getElem_toList]
      exact ⟨by simpa [encE, ec] using c0, by simpa [encE, ec] using c1⟩
  · refine ⟨by simp, fun i h1 h2 => ?_⟩
    simp only [List.getElem_map]
    obtain ⟨x1, x2⟩ := readD hr (d'.toList[i]'(by simpa using h1))
    exact ⟨x1.on hB, x2⟩
theorem sortOwn (vs : List VEnt) (l : List Ent) (w W : World) (v : Value) (hw : Below w.heap.size w W) (hr : Reads w vs l) (hn : l.length ≤ 65536)
    (hown : W.ownsRow w.heap.size 52 2 v vs.length (es vs)) :
    Calls Tryd.prog 47 #[v, .func (.func 48) #[] #[]] W fun e w' => e = .returned (.tuple #[]) ∧ ∃ l' : List Ent, l'.Perm l ∧ l'.Pairwise (fun a b => cR a.1 b.1 ≤ 0) ∧ EntsIs w' v l' ∧ Below w.heap.size w w' := by
  rcases hown.2 with ⟨e1, e2⟩ | ⟨g, cap, cur, rfl, _⟩
  · have hl : l = [] := List.eq_nil_of_length_eq_zero (by rw [← hr.1]; exact e2)
    subst hl e1
    have q := AnyF.slices_SortFunc_none Tryd.sortEnt none 0 (.func (.func 48) #[] #[]) W
    change Calls Tryd.prog 47 _ _ _ at q
    refine q.mono ?_
    rintro e w' ⟨rfl, rfl⟩
    exact ⟨rfl, [], List.Perm.nil, List.Pairwise.nil, EntsIs.nil _ _ _, hw⟩
  · exact sortAt vs l w W g cap hw hr hn hown
set_option maxHeartbeats 1000000 in
/-- The copy of a list of entries. -/
theorem cloneEnts (vs : List VEnt) (l : List Ent) (va : Value) (w : World) (hn : l.length ≤ 65536) (ha : EntsAt w va vs) (hr : Reads w vs l) :
    Calls Tryd.prog 46 #[va] w fun e w' => ∃ v, e = .returned v ∧ w'.ownsRow w.heap.size 52 2 v vs.length (es vs) ∧ Below w.heap.size w w' := by
  obtain ⟨i0, hi, hz0, hz1, hz2⟩ := info_parts info_entry
  have hlen : vs.length = l.length := hr.1
  have h1 := hr.one'
  by_cases hv : vs = []
  · subst hv
    obtain ⟨a0, cap, rfl⟩ := ha.form
    cases a0 with
    | none =>
      have q := AnyE.slices_Clone_nil Tryd.cloneEnt 0 cap w
      change Calls Tryd.prog 46 _ _ _ at q
      refine q.mono ?_
      rintro e w' ⟨rfl, rfl⟩
      exact ⟨_, rfl, World.ownsRow_nil _ _ _ _, Below.refl _ _⟩
    | some ad =>
      clear ha hr h1
      have q22 := fun (w : World) (a : Option Addr) (n c n' c' : Nat) => Lib.run_eql_slice_nil (P := Tryd.prog) w 27 52 a n c n' c' Tryd.underlying27
      have O0 := World.ownsRow_made (e := 52) w #[] 0 (base := w.heap.size) (size := 2) (Nat.le_refl _) (Nat.zero_le _) (by simp)
      go_enter Tryd.func46, Tryd.ntmps46
      go_wp2_with (first | (at_builtin; refine wpList_append_zero rfl _ _ 27 rfl w.heap.size 52 i0 2 Tryd.underlying27 hi _ 0 [] rfl O0 _ _ rfl ?_) | fail)
      go_ret
      exact ⟨_, rfl, O0, one_box⟩
  · obtain ⟨b, o, cap, rfl⟩ : ∃ b o cap, va = .slice (some ⟨b, o, none⟩) vs.length cap := by
      rcases ha with ⟨_, _, _, e⟩ | ⟨b, o, cap, e, _⟩
      · exact absurd e hv
      · exact ⟨b, o, cap, e⟩
    have q := AnyE.slices_Clone Tryd.cloneEnt i0 (.agg #[.slice none 0 0, .int .i64 0]) 2 32 hi hz0 hz1 hz2 rfl (by decide) Tryd.sizeOf52 b o vs.length cap (es vs) w (es_len vs) (by unfold maxLen; omega) (by omega) (fun j u hu => by have := ha.cells j u hu; rwa [add_plain] at this) h1
    change Calls Tryd.prog 46 _ _ _ at q
    refine q.mono ?_
    rintro e w' ⟨v', rfl, g1, _, g2⟩
    exact ⟨v', rfl, g1, g2⟩
end Go.Proofs.YtaccinophamgmaaDoor
