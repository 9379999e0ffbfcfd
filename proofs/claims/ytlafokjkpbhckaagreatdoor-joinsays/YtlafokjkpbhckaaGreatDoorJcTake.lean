/- What lines' take answers: the row that is next, the sum of its products, and what is left. -/
import Derived.Test.YtlafokjkpbhckaaGreatDoorPackHeap
import Derived.Test.YtlafokjkpbhckaaGreatDoorJcTot
import Derived.Laws.Rows
namespace Go.Proofs.YtlafokjkpbhckaaGreatDoor
open Go.RowKit Go.Sort
set_option maxRecDepth 100000
set_option linter.unusedVariables false
theorem jtk_ord2 : ordOk (regOf Tryz.f20.body 2) ((0, true) :: (1, true) :: (2, true) :: (3, true) :: (4, true) :: (5, true) :: (6, true) :: (7, true) :: (8, true) :: (9, true) :: (10, true) :: (12, true) :: (11, false) :: (13, false) :: (14, true) :: (15, true) :: []) = true := by kernel_rfl
theorem jtk_ord4 : ordOk (regOf Tryz.f20.body 4) ((0, true) :: (1, true) :: (2, true) :: (3, true) :: (4, true) :: (5, true) :: (6, true) :: (7, true) :: (8, true) :: (9, true) :: (10, true) :: (11, true) :: (12, false) :: []) = true := by kernel_rfl

theorem LIs.but {R : World} {hb ab cap : Nat} {X : List QEnt} {w w' : World} {B : Nat} (h : LIs R hb ab cap X w) (hB : But B w w') (h1 : B ≠ hb) (h2 : B ≠ ab) (h3 : Free R B) : LIs R hb ab cap X w' :=
  h.grown (g := some B) ⟨hB.1, hB.2.1, hB.2.2.1, hB.2.2.2.1, fun k hk hne => hB.2.2.2.2 k (fun e => hne (by rw [e])) hk⟩ (fun e => h1 (Option.some.inj e)) (fun e => h2 (Option.some.inj e)) (fun k e => by cases e; exact h3)
theorem TotW.off {B a b : Nat} {n : Int} {w w' : World} (h : TotW B n w) (hO : Off a b w w') (h1 : B ≠ a) (h2 : B ≠ b) : TotW B n w' := by
  obtain ⟨x1, x2, x3, f1, f2, f3, h5⟩ := h
  have hk := hO.2.2.2.2 B h1 h2 h5
  exact ⟨hO.cell x1 h1 h2, hO.cell x2 h1 h2, hO.cell x3 h1 h2, by rw [World.frozen?_of_block (w := w) hk]; exact f1, by rw [World.frozen?_of_block (w := w) hk]; exact f2, by rw [World.frozen?_of_block (w := w) hk]; exact f3, Nat.lt_of_lt_of_le h5 hO.size⟩
/-- While take gathers: what is left, the sum so far. -/
structure TkAt (R : World) (hb ab cap : Nat) (X : List QEnt) (w : World) (B2 B3 B4 B5 : Nat) (v1 v2 : Value) (Y : List QEnt) (acc : Int) (wr : World) : Prop where
  l : LIs R hb ab cap Y wr
  u : Heap (kf Y) Y.length
  off : Off hb ab w wr
  t : TotW B5 acc wr
  c4 : wr.heap[B4]? = some (.cells #[v1, v2] 60 (0, 0))
  c2 : wr.heap[B2]? = some (.cells #[.slice none 0 0, .slice none 0 0] 60 (0, 0))
  c3 : wr.heap[B3]? = some (.cells #[.int .u64 0, .int .u64 0, .int .u64 0] 63 (0, 0))
  s : acc + wt (kf X 0) (flat Y) = wt (kf X 0) (flat X)
  o : ∀ r, r ≠ kf X 0 → wt r (flat Y) = wt r (flat X)
  m : ∀ e ∈ flat Y, e ∈ flat X
  n : (flat Y).length ≤ (flat X).length
  nn : Y = X ∨ (flat Y).length < (flat X).length
  b : -(85070591730234615865843651857942052864 * (((flat X).length - (flat Y).length : Nat) : Int)) ≤ acc ∧ acc ≤ 85070591730234615865843651857942052864 * (((flat X).length - (flat Y).length : Nat) : Int)
theorem Below.keepBlock {w w' : World} {k : Nat} {o : Obj} (h : Below w.heap.size w w') (hk : w.heap[k]? = some o) : w'.heap[k]? = some o := by
  rw [h.block k (Array.getElem?_eq_some_iff.1 hk).1]; exact hk
theorem TkAt.on {R : World} {hb ab cap : Nat} {X : List QEnt} {w : World} {B2 B3 B4 B5 : Nat} {v1 v2 : Value} {Y : List QEnt} {acc : Int} {wr w' : World} (h : TkAt R hb ab cap X w B2 B3 B4 B5 v1 v2 Y acc wr) (hB : Below wr.heap.size wr w') : TkAt R hb ab cap X w B2 B3 B4 B5 v1 v2 Y acc w' :=
  ⟨h.l.on hB, h.u, h.off.trans (Off.of_below hB), h.t.on hB, Below.keepBlock hB h.c4, Below.keepBlock hB h.c2, Below.keepBlock hB h.c3, h.s, h.o, h.m, h.n, h.nn, h.b⟩
/-- What take hands out, and leaves. -/
def TakeIs (R : World) (hb ab cap : Nat) (X : List QEnt) (w : World) (e : Ending) (w' : World) : Prop :=
  ∃ (v1 v2 : Value) (f b : List Val) (Y : List QEnt), e = .returned (.tuple #[.agg #[v1, v2], wV (wt (kf X 0) (flat X))]) ∧ f ++ b = kf X 0 ∧ RowIs R v1 f ∧ RowIs R v2 b ∧ f.length ≤ 65536 ∧ b.length ≤ 65536 ∧ Heap (kf Y) Y.length ∧ LIs R hb ab cap Y w' ∧ Off hb ab w w' ∧
    (∀ r, r ≠ kf X 0 → wt r (flat Y) = wt r (flat X)) ∧ (∀ e ∈ flat Y, e ∈ flat X ∧ cR (kf X 0) e.1 < 0) ∧ (flat Y).length < (flat X).length ∧ inW2 (wt (kf X 0) (flat X))
theorem Off.late {a b B : Nat} {w x y : World} (h : Off a b w x) (hB : But B x y) (hm : w.heap.size ≤ B) : Off a b w y :=
  ⟨hB.1.trans h.1, hB.2.1.trans h.2.1, hB.2.2.1.trans h.2.2.1, Nat.le_trans h.size hB.size, fun k h1 h2 h3 => (hB.2.2.2.2 k (by omega) (Nat.lt_of_lt_of_le h3 h.size)).trans (h.2.2.2.2 k h1 h2 h3)⟩
/-- A step of it. -/
theorem TkAt.step {R : World} {hb ab cap : Nat} {X : List QEnt} {w : World} {B2 B3 B4 B5 : Nat} {v1 v2 : Value} {x : QEnt} {T : List QEnt} {p : Ent} {l : List Ent} {acc : Int} {wr w1 w2 : World} (h : TkAt R hb ab cap X w B2 B3 B4 B5 v1 v2 (x :: T) acc wr) (hx : x.2 = p :: l) (hp : p.1 = kf X 0) (hw : -85070591730234615865843651857942052864 ≤ p.2 ∧ p.2 ≤ 85070591730234615865843651857942052864)
    (n2 : w.heap.size ≤ B2 ∧ w.heap.size ≤ B3 ∧ w.heap.size ≤ B4 ∧ w.heap.size ≤ B5 ∧ B5 ≠ B2 ∧ B5 ≠ B3 ∧ B5 ≠ B4 ∧ hb < w.heap.size ∧ ab < w.heap.size) (ht : TotW B5 (acc + p.2) w1) (hB : But B5 wr w1) (hs : SkipIs R hb ab cap p l T w1 w2) :
    ∃ Y, TkAt R hb ab cap X w B2 B3 B4 B5 v1 v2 Y (acc + p.2) w2 ∧ (flat Y).length < (flat (x :: T)).length := by
  obtain ⟨Y, Z, y1, y2, y3, y4, y5⟩ := hs
  obtain ⟨m2, m3, m4, m5, e2, e3, e4, lh, la⟩ := n2
  have hf : flat (x :: T) = p :: flat Z := by rw [flat_cons, hx, y2]; rfl
  have hl := flat_len y1
  have hkeep : ∀ k o, w.heap.size ≤ k → k ≠ B5 → wr.heap[k]? = some o → w2.heap[k]? = some o := fun k o hk hne ho => by
    have hlt := (Array.getElem?_eq_some_iff.1 ho).1
    have g1 : w1.heap[k]? = some o := by rw [hB.2.2.2.2 k hne hlt]; exact ho
    rw [y5.2.2.2.2 k (by omega) (by omega) (Array.getElem?_eq_some_iff.1 g1).1]; exact g1
  have hs := h.s
  have ho := h.o
  have hm := h.m
  have hn := h.n
  have hb' := h.b
  rw [hf] at hs ho hm hn hb'
  simp only [wt, List.length_cons] at hs ho hn hb'
  refine ⟨Y, ⟨y4, y3, (Off.late h.off hB m5).trans y5, ht.off y5 (by omega) (by omega), hkeep _ _ m4 (fun e => e4 e.symm) h.c4, hkeep _ _ m2 (fun e => e2 e.symm) h.c2, hkeep _ _ m3 (fun e => e3 e.symm) h.c3, ?_, ?_, ?_, ?_, ?_, ?_⟩, ?_⟩
  · rw [wt_flat y1]; rw [if_pos hp] at hs; omega
  · intro r hr
    have := ho r hr
    rw [if_neg (fun e => hr (by rw [← e, hp]))] at this
    rw [wt_flat y1]; omega
  · intro e he; exact hm e (by rw [flat_perm y1] at he; simp [he])
  · omega
  · exact .inr (by omega)
  · rw [hl]; omega
  · rw [hl, hf]; simp
theorem But.cellW {B : Nat} {w : World} {a : Addr} {v : Value} (h : w.cell? a = some v) (hn : a.block ≠ B) (p : Wd (But B w)) : p.v.cell? a = some v := by
  rw [p.ok.cell hn (World.block_lt_of_cell? _ _ h)]; exact h
/-- What HR says. -/
def TkR (R : World) (hb ab : Nat) (X : List QEnt) (w : World) (B4 : Nat) (v1 v2 : Value) (f b : List Val) : Prop :=
  RowIs R v1 f ∧ RowIs R v2 b ∧ kf X 0 = f ++ b ∧ f.length ≤ 65536 ∧ b.length ≤ 65536 ∧ hb < w.heap.size ∧ ab < w.heap.size ∧ w.heap.size + 2 ≤ B4 ∧ (flat X).length ≤ 65536 ∧ (∀ e ∈ flat X, cR (kf X 0) e.1 ≤ 0) ∧ (∃ e ∈ flat X, e.1 = kf X 0) ∧ R.heap.size ≤ w.heap.size
theorem TkAt.fin {R : World} {hb ab cap : Nat} {X : List QEnt} {w : World} {B4 : Nat} {v1 v2 : Value} {f b : List Val} {Y : List QEnt} {acc : Int} {v y z : World} (h : TkAt R hb ab cap X w w.heap.size (w.heap.size + 1) B4 (B4 + 1) v1 v2 Y acc v) (hr : TkR R hb ab X w B4 v1 v2 f b)
    (g1 : But w.heap.size v y) (g2 : But (w.heap.size + 1) y z) (hlt : ∀ e ∈ flat Y, cR (kf X 0) e.1 < 0) : TakeIs R hb ab cap X w (.returned (.tuple #[.agg #[v1, v2], wV acc])) z := by
  obtain ⟨r1, r2, ek, l1, l2, lh, la, l4, lx, hm, ⟨e0, he0, hx⟩, hS⟩ := hr
  have hR := h.l.2.2.1.1
  have hw0 : wt (kf X 0) (flat Y) = 0 := wt_gone (fun e he h0 => by have := hlt e he; rw [h0, cR_self] at this; omega)
  have hacc : acc = wt (kf X 0) (flat X) := by have := h.s; omega
  refine ⟨v1, v2, f, b, Y, by rw [hacc], ek.symm, r1, r2, l1, l2, h.u, (h.l.but g1 (by omega) (by omega) (free_le hS)).but g2 (by omega) (by omega) (free_le (by omega)), (h.off.late g1 (Nat.le_refl _)).late g2 (by omega), h.o, fun e he => ⟨h.m e he, hlt e he⟩, ?_, ?_⟩
  · rcases h.nn with rfl | h0
    · have := hlt e0 he0; rw [hx, cR_self] at this; omega
    · exact h0
  · rw [← hacc]
    have := h.b
    unfold inW2
    omega
theorem heap_two_new (w : World) (A B : Obj) : ((w.alloc A).alloc B).heap[w.heap.size + 1]? = some B := by
  have := heap_alloc_new (w.alloc A) B
  rwa [show (w.alloc A).heap.size = w.heap.size + 1 by simp] at this
/-- How many entries lines in memory still have. -/
def jLeft (w : World) (hb : Nat) : Nat :=
  match w.cell? ⟨hb, 0, none⟩ with
  | some (.slice (some b) n _) => ((List.range n).map fun i => slLen ((w.cell? ⟨b.block, i * 3 + 2, none⟩).getD undef)).sum
  | _ => 0
theorem flat_lens : ∀ X : List QEnt, (X.map fun x => x.2.length).sum = (flat X).length
  | [] => rfl
  | x :: X => by rw [List.map_cons, List.sum_cons, flat_lens X, flat_cons, List.length_append]
theorem LIs.left {R : World} {hb ab cap : Nat} {X : List QEnt} {w : World} (h : LIs R hb ab cap X w) : jLeft w hb = (flat X).length := by
  have hc := h.1.cell
  rw [List.length_map] at hc
  unfold jLeft
  simp only [hc]
  rw [← flat_lens]
  congr 1
  apply List.ext_getElem
  · simp
  · intro i h1 h2
    simp at h1 h2
    obtain ⟨a1, c1, b, o, c, a2, c2, e, f, F, x0, _, _, _, _, _, _, _, _, _, _, _, y3, _⟩ := h.head (i := i) (by simpa using h2)
    have e0 : X.getD i qD = X[i] := by rw [List.getD_eq_getElem?_getD, List.getElem?_eq_getElem (by simpa using h2)]; rfl
    rw [e0] at x0
    simp only [List.getElem_map, List.getElem_range]
    rw [y3, x0]
    simp [slLen, lnL]
set_option maxHeartbeats 8000000 in
theorem jcTake (R : World) (hb ab cap : Nat) (x : QEnt) (T : List QEnt) (w : World) (h : LIs R hb ab cap (x :: T) w) (hu : Heap (kf (x :: T)) (x :: T).length) (hF : (flat (x :: T)).length ≤ 65536) :
    Calls Tryz.prog 20 #[.pointer (some ⟨hb, 0, none⟩)] w fun e w' => TakeIs R hb ab cap (x :: T) w e w' := by
  obtain ⟨X, hX⟩ : ∃ X, X = x :: T := ⟨_, rfl⟩
  have hXl : 0 < X.length := by rw [hX]; simp
  rw [← hX] at h hu hF ⊢
  obtain ⟨a1, c1, b, o, c, a2, c2, e, f, F, x0, x1, x2, x3, r1, r2, x4, x5, x6, x7, y1, y2, y3, z1, z2, ek⟩ := h.head (i := 0) hXl
  have d1 := h.1.cell
  have hL := h.2.2.2.2.2
  obtain ⟨lh, la⟩ := h.1.lt
  obtain ⟨_, _, hcap, hm, _⟩ := h.1.block
  rw [List.length_map] at d1 hcap
  unfold maxLen at hm x2
  simp only [Nat.zero_mul, Nat.zero_add] at y1 y2 y3
  have I1 : (0 : Int) < ((X.length : Nat) : Int) := by omega
  obtain ⟨W0, hW0⟩ : ∃ W0, W0 = (w.alloc (.cells #[.slice none 0 0, .slice none 0 0] 60)).alloc (.cells #[.int .u64 0, .int .u64 0, .int .u64 0] 63) := ⟨_, rfl⟩
  have b0 : Below w.heap.size w W0 := by rw [hW0]; exact below_two
  have hs0 : W0.heap.size = w.heap.size + 2 := by rw [hW0]; simp
  have k2 : W0.heap[w.heap.size]? = some (.cells #[.slice none 0 0, .slice none 0 0] 60 (0, 0)) := by rw [hW0]; exact heap_alloc2_old _ _ _
  have k3 : W0.heap[w.heap.size + 1]? = some (.cells #[.int .u64 0, .int .u64 0, .int .u64 0] 63 (0, 0)) := by rw [hW0]; exact heap_two_new _ _ _
  have q0 := jcNext a1 a2 e.1.length c1 f.1.length c2 b o (f :: F).length c e.2 W0 (by simp) (cell_on z1 b0)
  have HW0 : Hid ((w.alloc (.cells #[.slice none 0 0, .slice none 0 0] 60)).alloc (.cells #[.int .u64 0, .int .u64 0, .int .u64 0] 63) = W0) := hW0.symm
  have d0 := cell_on d1 b0
  have y10 := cell_on y1 b0
  have y20 := cell_on y2 b0
  have y30 := cell_on y3 b0
  go_enter Tryz.func20, Tryz.ntmps20
  go_wp2_with fail
  rw [HW0.out]
  go_wp2_with fail
  refine q0.mono ?_
  rintro e' w1 ⟨rfl, b1⟩
  have hL1 : w1.heap.size + 2 ≤ w1.heap.size + 2 := Nat.le_refl _
  have b1' := b1.size
  obtain ⟨W2, hW2⟩ : ∃ W2, W2 = (w1.alloc (.cells #[.slice a1 e.1.length c1, .slice a2 f.1.length c2] 60)).alloc (.cells #[.int .u64 0, .int .u64 0, .int .u64 0] 63) := ⟨_, rfl⟩
  have b2 : Below w1.heap.size w1 W2 := by rw [hW2]; exact below_two
  have b02 : Below w.heap.size w W2 := b0.trans ((b1.mono b0.size).trans (b2.mono (Nat.le_trans b0.size b1.size)))
  have T0 : TotW (w1.heap.size + 1) 0 W2 := by
    have hk : W2.heap[w1.heap.size + 1]? = some (.cells #[.int .u64 0, .int .u64 0, .int .u64 0] 63 (0, 0)) := by rw [hW2]; exact heap_two_new _ _ _
    refine ⟨?_, ?_, ?_, ?_, ?_, ?_, (Array.getElem?_eq_some_iff.1 hk).1⟩
    · simp [World.cell?, hk]; rfl
    · simp [World.cell?, hk]; rfl
    · simp [World.cell?, hk]; rfl
    · simp [World.frozen?, hk]
    · simp [World.frozen?, hk]
    · simp [World.frozen?, hk]
  have K0 : Hid (TkAt R hb ab cap X w w.heap.size (w.heap.size + 1) w1.heap.size (w1.heap.size + 1) (.slice a1 e.1.length c1) (.slice a2 f.1.length c2) X 0 W2) :=
    ⟨h.on b02, hu, Off.of_below b02, T0, by rw [hW2]; exact heap_alloc2_old _ _ _, Below.keepBlock b2 (Below.keepBlock b1 k2), Below.keepBlock b2 (Below.keepBlock b1 k3), by omega, fun _ _ => rfl, fun _ he => he, Nat.le_refl _, .inl rfl, by rw [Nat.sub_self]; omega⟩
  have HW2 : Hid ((w1.alloc (.cells #[.slice a1 e.1.length c1, .slice a2 f.1.length c2] 60)).alloc (.cells #[.int .u64 0, .int .u64 0, .int .u64 0] 63) = W2) := hW2.symm
  have HR : Hid (TkR R hb ab X w w1.heap.size (.slice a1 e.1.length c1) (.slice a2 f.1.length c2) e.1 f.1) :=
    ⟨r1, r2, ek, (x6 e (by simp)).2, (x7 f (by simp)).2, lh, la, by omega, hF, fun e he => root_le hu (fun x hx => (h.2.1 x hx).sorted) he, ⟨(e.1 ++ f.1, e.2 * f.2), mem_flat.2 ⟨X.getD 0 qD, by rw [List.getD_eq_getElem?_getD, List.getElem?_eq_getElem hXl]; exact List.getElem_mem hXl, by rw [x0]; simp [lnL]⟩, ek.symm⟩, h.2.2.1.1⟩
  clear h hu x0 x1 x2 x3 r1 r2 x4 x5 x6 x7 z1 z2 ek y1 y2 y3 y10 y20 y30 d0 d1 b0 b1 b2 b02 T0 q0 k2 k3 HW0 hW0 hW2 hX hL hF hXl hcap hm I1 hL1 hs0 b1' lh la
  generalize e.1.length = n1 at *
  generalize f.1.length = n2 at *
  go_wp2_with fail
  rw [HW2.out]
  clear HW2
  generalize w1.heap.size = B4 at *
  go_loopw [6] (fun s6 wr => ∃ (Y : List QEnt) (acc : Int), Hid (TkAt R hb ab cap X w w.heap.size (w.heap.size + 1) B4 (B4 + 1) (.slice a1 n1 c1) (.slice a2 n2 c2) Y acc wr)) (fun _ wr => jLeft wr hb)
  case atStart => exact ⟨X, 0, K0.out⟩
  case round =>
    clear K0
    obtain ⟨Y, acc, hS⟩ := hrel
    have hY := hS.out.l.1.cell
    rw [List.length_map] at hY
    have hYL := hS.out.l.2.2.2.2.2
    have ne := Ex.ne wr
    have B0 : Hid (Below wr.heap.size wr wr.drew) := (Below.refl _ _).drew
    cases Y with
    | nil =>
      have e0 : ([] : List QEnt).length = 0 := rfl
      rw [e0] at hY
      have g1 := Ex.cell hY
      clear hYL
      go_wp2_with fail
      refine wp_region_ord_at (Ex wr) (regOf Tryz.f20.body 2) ((0, true) :: (1, true) :: (2, true) :: (3, true) :: (4, true) :: (5, true) :: (6, true) :: (7, true) :: (8, true) :: (9, true) :: (10, true) :: (12, true) :: (11, false) :: (13, false) :: (14, true) :: (15, true) :: []) (by kernel_rfl) (by kernel_rfl) jtk_ord2 B0.out ?_
      generalize wr.drew = v0 at *
      repeat (refine ord_quiet rfl ?_; go_big_quiet_step (fail); refine wpQuiet_nil ?_)
      refine ord_skip rfl (by rfl) (Ex.of B0.out) ?_
      simp only [Act.put, List.setIfInBounds_toArray, List.set_cons_zero, List.set_cons_succ]
      repeat (refine ord_quiet rfl ?_; go_big_quiet_step (fail); refine wpQuiet_nil ?_)
      refine ord_skip rfl (by rfl) (Ex.of B0.out) ?_
      simp only [Act.put, List.setIfInBounds_toArray, List.set_cons_zero, List.set_cons_succ]
      repeat (refine ord_quiet rfl ?_; go_big_quiet_step (fail); refine wpQuiet_nil ?_)
      refine ord_end ?_
      have hE : Hid (TkAt R hb ab cap X w w.heap.size (w.heap.size + 1) B4 (B4 + 1) (.slice a1 n1 c1) (.slice a2 n2 c2) [] acc v0) := hS.out.on B0.out
      clear g1 ne hY
      have hlt : ∀ e ∈ flat ([]), cR (kf X 0) e.1 < 0 := by intro e he; cases he
      have x1 : v0.cell? ⟨B4, 0, none⟩ = some (.slice a1 n1 c1) := by simp [World.cell?, hE.out.c4]
      have x2 : v0.cell? ⟨B4, 1, none⟩ = some (.slice a2 n2 c2) := by simp [World.cell?, hE.out.c4]
      obtain ⟨t1, t2, t3, _, _, _, _⟩ := hE.out.t
      have s1 : v0.cell? ⟨w.heap.size, 0, none⟩ = some (.slice none 0 0) := by simp [World.cell?, hE.out.c2]
      have s2 : v0.cell? ⟨w.heap.size, 1, none⟩ = some (.slice none 0 0) := by simp [World.cell?, hE.out.c2]
      have s3 : v0.cell? ⟨w.heap.size + 1, 0, none⟩ = some (.int .u64 0) := by simp [World.cell?, hE.out.c3]
      have s4 : v0.cell? ⟨w.heap.size + 1, 1, none⟩ = some (.int .u64 0) := by simp [World.cell?, hE.out.c3]
      have s5 : v0.cell? ⟨w.heap.size + 1, 2, none⟩ = some (.int .u64 0) := by simp [World.cell?, hE.out.c3]
      have f1 : ∀ o, v0.frozen? ⟨w.heap.size, o, none⟩ = false := fun o => by simp [World.frozen?, hE.out.c2]
      have f2 : ∀ o, v0.frozen? ⟨w.heap.size + 1, o, none⟩ = false := fun o => by simp [World.frozen?, hE.out.c3]
      have hB4 : w.heap.size + 2 ≤ B4 := HR.out.2.2.2.2.2.2.2.1
      have i1 : ¬ w.heap.size = B4 + 1 := by omega
      have i2 : ¬ w.heap.size = B4 := by omega
      have i3 : ¬ B4 + 1 = w.heap.size := by omega
      have i4 : ¬ B4 = w.heap.size := by omega
      have hF : Hid (∀ y z, But w.heap.size v0 y → But (w.heap.size + 1) y z → TakeIs R hb ab cap X w (.returned (.tuple #[.agg #[.slice a1 n1 c1, .slice a2 n2 c2], wV acc])) z) := fun y z g1 g2 => hE.out.fin HR.out g1 g2 hlt
      clear hE hlt HR hS
      unfold wV at hF
      generalize wHi acc = ahi at *
      generalize wMid acc = ami at *
      generalize wLo acc = alo at *
      go_wp2_with fail
      go_region
      all_goals (go_wp2_with fail; exact bodyPost_ret (v := .tuple #[.agg #[.slice a1 n1 c1, .slice a2 n2 c2], .agg #[.int .u64 ahi, .int .u64 ami, .int .u64 alo]]) (by simp [results, Tryz.results20, go_sem, *]) rfl (hF.out _ _ ((But.set 0 _).trans (But.set 1 _)) ((((But.set 0 _).trans (But.set 1 _)).trans (But.set 2 _)).trans (But.drewN 1))))
    | cons y U =>
      obtain ⟨b1, d1, b, o, d, b2, d2, e, f, F, x0, x1, x2, x3, r1, r2, x4, x5, x6, x7, y1, y2, y3, z1, z2, ek⟩ := hS.out.l.head (i := 0) (by simp)
      simp only [Nat.zero_mul, Nat.zero_add] at y1 y2 y3
      have hRs := hS.out.l.2.2.1
      have hbR : b < R.heap.size := by
        obtain ⟨_, _, _, _, e1, e2, _, _⟩ := x4.at 0 (by simp)
        simp only [Option.some.injEq, Addr.mk.injEq] at e1
        rw [e1.1]; exact World.block_lt_of_cell? _ _ e2
      have x4' : w.heap.size + 2 ≤ B4 := HR.out.2.2.2.2.2.2.2.1
      have hRw := HR.out.2.2.2.2.2.2.2.2.2.2.2
      have hN : Hid (∀ V, Below wr.heap.size wr V → Calls Tryz.prog 41 #[.agg #[.slice b1 e.1.length d1, .int .i64 e.2, .slice (some ⟨b, o, none⟩) (f :: F).length d]] V fun en w' => en = .returned (.agg #[.slice b1 e.1.length d1, .slice b2 f.1.length d2]) ∧ Below V.heap.size V w') := fun V hV => jcNext b1 b2 _ d1 _ d2 b o _ d e.2 V (by simp) (cell_on z1 hV)
      have hC : Hid (∀ V, Below wr.heap.size wr V → Calls Tryz.prog 42 #[.agg #[.slice b1 e.1.length d1, .slice b2 f.1.length d2], .agg #[.slice a1 n1 c1, .slice a2 n2 c2]] V fun en w' => en = .returned (.int .i64 (cR (kf (y :: U) 0) (kf X 0))) ∧ Below V.heap.size V w') := fun V hV => by
        have := jcCompare e.1 f.1 _ _ _ _ _ _ V ((r1.sees hRs).on hV) ((r2.sees hRs).on hV) ((HR.out.1.sees hRs).on hV) ((HR.out.2.1.sees hRs).on hV)
        rw [ek, HR.out.2.2.1]; exact this
      have hx : y = (.agg #[.slice b1 e.1.length d1, .int .i64 e.2, .slice (some ⟨b, o, none⟩) (f :: F).length d], lnL e (f :: F)) := by simpa using x0
      have hx2 : y.2 = (e.1 ++ f.1, e.2 * f.2) :: lnL e F := by rw [hx]; rfl
      have hv : inI e.2 = true ∧ inI f.2 = true := ⟨(x6 e (by simp)).1, (x7 f (by simp)).1⟩
      have hv1 := inI_iff.1 hv.1
      have hv2 := inI_iff.1 hv.2
      have hlen : (f :: F).length ≤ 65536 := x3
      have hmm := mul_two e.2 f.2 hv1 hv2
      have c4a : wr.cell? ⟨B4, 0, none⟩ = some (.slice a1 n1 c1) := by simp [World.cell?, hS.out.c4]
      have c4b : wr.cell? ⟨B4, 1, none⟩ = some (.slice a2 n2 c2) := by simp [World.cell?, hS.out.c4]
      have g1 := Ex.cell hY
      have g2 := Ex.cell y1
      have g3 := Ex.cell y2
      have g4 := Ex.cell y3
      have g5 := Ex.cell c4a
      have g6 := Ex.cell c4b
      have HA : Hid (∀ v3 w5, Below wr.heap.size wr v3 → TotW (B4 + 1) (acc + e.2 * f.2) w5 → But (B4 + 1) v3 w5 → cR (kf (y :: U) 0) (kf X 0) = 0 → Calls Tryz.prog 44 #[.pointer (some ⟨hb, 0, none⟩)] w5 fun en w6 => en = .returned (.tuple #[]) ∧ ∃ Y', TkAt R hb ab cap X w w.heap.size (w.heap.size + 1) B4 (B4 + 1) (.slice a1 n1 c1) (.slice a2 n2 c2) Y' (acc + e.2 * f.2) w6 ∧ jLeft w6 hb < jLeft wr hb) := by
        intro v3 w5 h3 h5 h6 h7
        obtain ⟨lh, la⟩ : hb < w.heap.size ∧ ab < w.heap.size := ⟨HR.out.2.2.2.2.2.1, HR.out.2.2.2.2.2.2.1⟩
        have hE := hS.out.on h3
        have hl5 := hE.l.but h6 (by omega) (by omega) (free_le (by omega))
        refine (jhSkip R hb ab cap y U _ _ hx2 w5 hl5 hE.u).mono ?_
        rintro en w6 ⟨rfl, hs⟩
        obtain ⟨Y', k1, k2⟩ := hE.step hx2 (by show e.1 ++ f.1 = kf X 0; rw [← ek]; exact (cR_zero _ _).1 h7) hmm ⟨by omega, by omega, by omega, by omega, by omega, by omega, by omega, lh, la⟩ h5 h6 hs
        exact ⟨rfl, Y', k1, by rw [k1.l.left, hS.out.l.left]; exact k2⟩
      have HQ : Hid (∀ v3, Below wr.heap.size wr v3 → Calls Tryz.prog 43 #[.pointer (some ⟨B4 + 1, 0, none⟩), .int .i64 e.2, .int .i64 f.2] v3 fun en w5 => en = .returned (.tuple #[]) ∧ TotW (B4 + 1) (acc + e.2 * f.2) w5 ∧ But (B4 + 1) v3 w5) := fun v3 h3 =>
        jtAdd (B4 + 1) acc e.2 f.2 (by have h1 := hS.out.b; have h2 := hS.out.n; have h3 := HR.out.2.2.2.2.2.2.2.2.1; unfold inW2; omega) hv1 hv2 v3 (hS.out.on h3).t
      have KB : Hid (b ≠ B4 + 1 ∧ ab ≠ B4 + 1 ∧ hb ≠ B4 + 1) := by
        obtain ⟨lh, la⟩ : hb < w.heap.size ∧ ab < w.heap.size := ⟨HR.out.2.2.2.2.2.1, HR.out.2.2.2.2.2.2.1⟩
        exact ⟨by omega, by omega, by omega⟩
      have Z2 : Hid (wr.cell? ⟨b, o + 1, none⟩ = some (.int .i64 f.2)) := z2
      have ZY : Hid (wr.cell? ⟨ab, 1, none⟩ = some (.int .i64 e.2) ∧ wr.cell? ⟨ab, 2, none⟩ = some (.slice (some ⟨b, o, none⟩) (f :: F).length d) ∧ wr.cell? ⟨hb, 0, none⟩ = some (.slice (some ⟨ab, 0, none⟩) (y :: U).length cap)) := ⟨y2, y3, hY⟩
      have HLT : Hid (¬ cR (kf (y :: U) 0) (kf X 0) = 0 → ∀ q ∈ flat (y :: U), cR (kf X 0) q.1 < 0) := fun h0 q hq => by
        have k1 := root_le hS.out.u (fun x hx => (hS.out.l.2.1 x hx).sorted) hq
        have k2 := HR.out.2.2.2.2.2.2.2.2.2.1 q (hS.out.m q hq)
        rcases Int.lt_or_eq_of_le k2 with k3 | k3
        · exact k3
        · have k4 := (cR_zero _ _).1 k3
          rw [← k4] at k1
          have k5 : cR (kf X 0) (kf (y :: U) 0) ≤ 0 := by
            rw [ek]
            exact HR.out.2.2.2.2.2.2.2.2.2.1 (e.1 ++ f.1, e.2 * f.2) (hS.out.m _ (by rw [flat_cons, hx2]; simp))
          have := cR_anti (kf X 0) (kf (y :: U) 0)
          omega
      have I1 : (0 : Int) < ((y :: U).length : Int) := by simp <;> omega
      have I2 : (0 : Int) < ((f :: F).length : Int) := by simp <;> omega
      have I3 : 0 < (y :: U).length := by simp
      have I4 : 0 < (f :: F).length := by simp
      clear x0 x1 x2 x3 r1 r2 x4 x5 x6 x7 y1 y2 y3 z1 z2 ek hY hRs hbR x4' hRw hx hx2 hv hv1 hv2 hlen hmm c4a c4b
      generalize cR (kf (y :: U) 0) (kf X 0) = s at *
      generalize (y :: U).length = NY at *
      generalize (f :: F).length = NF at *
      generalize e.1.length = m1 at *
      generalize f.1.length = m2 at *
      generalize e.2 = k1 at *
      generalize f.2 = k2 at *
      go_wp2_with fail
      refine wp_region_ord_at (Ex wr) (regOf Tryz.f20.body 2) ((0, true) :: (1, true) :: (2, true) :: (3, true) :: (4, true) :: (5, true) :: (6, true) :: (7, true) :: (8, true) :: (9, true) :: (10, true) :: (12, true) :: (11, false) :: (13, false) :: (14, true) :: (15, true) :: []) (by kernel_rfl) (by kernel_rfl) jtk_ord2 B0.out ?_
      generalize wr.drew = v0 at *
      repeat (refine ord_quiet rfl ?_; go_big_quiet_step (fail); refine wpQuiet_nil ?_)
      refine ord_call rfl (by rfl) 41 rfl (enters_of Tryz.func41 (by kernel_rfl) rfl) [.agg #[.slice b1 m1 d1, .int .i64 k1, .slice (some ⟨b, o, none⟩) NF d]] (by rfl) _ (hN.out v0 B0.out) ?_
      rintro e v1 ⟨rfl, hb1⟩
      have B1 : Hid (Below wr.heap.size wr v1) := B0.out.trans (hb1.mono B0.out.size)
      clear hb1
      refine ⟨_, rfl, Ex.of B1.out, ?_⟩
      simp only [Act.put, List.setIfInBounds_toArray, List.set_cons_zero, List.set_cons_succ]
      repeat (refine ord_quiet rfl ?_; go_big_quiet_step (fail); refine wpQuiet_nil ?_)
      refine ord_call rfl (by rfl) 42 rfl (enters_of Tryz.func42 (by kernel_rfl) rfl) [.agg #[.slice b1 m1 d1, .slice b2 m2 d2], .agg #[.slice a1 n1 c1, .slice a2 n2 c2]] (by rfl) _ (hC.out v1 B1.out) ?_
      rintro en v3 ⟨rfl, hb3⟩
      have B3 : Hid (Below wr.heap.size wr v3) := B1.out.trans (hb3.mono B1.out.size)
      clear hb3
      refine ⟨_, rfl, Ex.of B3.out, ?_⟩
      simp only [Act.put, List.setIfInBounds_toArray, List.set_cons_zero, List.set_cons_succ]
      repeat (refine ord_quiet rfl ?_; go_big_quiet_step (fail); refine wpQuiet_nil ?_)
      refine ord_end ?_
      clear g1 g2 g3 g4 g5 g6 ne hN hC
      by_cases h0 : s = 0
      · subst h0
        have hd := cell_on ZY.out.2.2 B3.out
        go_wp2_with fail
        have q3 := HQ.out v3 B3.out
        have HA3 := fun w5 => HA.out v3 w5 B3.out
        have HA4 : Hid _ := HA3
        have gd := But.cellW (B := B4 + 1) (cell_on ZY.out.1 B3.out) KB.out.2.1
        have ge := But.cellW (B := B4 + 1) (cell_on ZY.out.2.1 B3.out) KB.out.2.1
        have gf := But.cellW (B := B4 + 1) (cell_on Z2.out B3.out) KB.out.1
        have ne : Nonempty (Wd (But (B4 + 1) v3)) := ⟨⟨v3, But.refl _ _⟩⟩
        have B5 : Hid (But (B4 + 1) v3 v3.drew) := But.drewN 1
        have HQ2 : Hid (∀ V, Below wr.heap.size wr V → Calls Tryz.prog 43 #[.pointer (some ⟨B4 + 1, 0, none⟩), .int .i64 k1, .int .i64 k2] V fun en w5 => en = .returned (.tuple #[]) ∧ TotW (B4 + 1) (acc + k1 * k2) w5 ∧ But (B4 + 1) V w5) := HQ.out
        have B3d : Hid (Below wr.heap.size wr v3.drew) := B3.out.trans (((Below.refl _ _).drew).mono B3.out.size)
        have HA5 : Hid (∀ w5, TotW (B4 + 1) (acc + k1 * k2) w5 → But (B4 + 1) v3.drew w5 → Calls Tryz.prog 44 #[.pointer (some ⟨hb, 0, none⟩)] w5 fun en w6 => en = .returned (.tuple #[]) ∧ ∃ Y', TkAt R hb ab cap X w w.heap.size (w.heap.size + 1) B4 (B4 + 1) (.slice a1 n1 c1) (.slice a2 n2 c2) Y' (acc + k1 * k2) w6 ∧ jLeft w6 hb < jLeft wr hb) := fun w5 h5 h6 => HA.out v3.drew w5 B3d.out h5 h6 (by trivial)
        have hq4 : Hid _ := HQ2.out v3.drew B3d.out
        clear q3 HA3 HA4 HQ HQ2 HA KB Z2 ZY HLT hd
        refine wp_region_ord_at (But (B4 + 1) v3) (regOf Tryz.f20.body 4) ((0, true) :: (1, true) :: (2, true) :: (3, true) :: (4, true) :: (5, true) :: (6, true) :: (7, true) :: (8, true) :: (9, true) :: (10, true) :: (11, true) :: (12, false) :: []) (by kernel_rfl) (by kernel_rfl) jtk_ord4 B5.out ?_
        generalize v3.drew = v0 at *
        repeat (refine ord_quiet rfl ?_; go_big_quiet_step (fail); refine wpQuiet_nil ?_)
        refine ord_call rfl (by rfl) 43 rfl (enters_of Tryz.func43 (by kernel_rfl) rfl) [.pointer (some ⟨B4 + 1, 0, none⟩), .int .i64 k1, .int .i64 k2] (by rfl) _ (hq4.out) ?_
        rintro en w5 ⟨rfl, h5, h6⟩
        have B6 : Hid (But (B4 + 1) v3 w5) := B5.out.trans h6
        have q7 := HA5.out w5 h5 h6
        clear h5 h6 hq4 HA5
        refine ⟨_, rfl, ⟨⟨w5, B6.out⟩, rfl⟩, ?_⟩
        simp only [Act.put, List.setIfInBounds_toArray, List.set_cons_zero, List.set_cons_succ]
        repeat (refine ord_quiet rfl ?_; go_big_quiet_step (fail); refine wpQuiet_nil ?_)
        refine ord_end ?_
        clear gd ge gf ne
        go_wp2_with fail
        refine q7.mono ?_
        rintro en w6 ⟨rfl, Y', hY', hlt⟩
        have HY' : Hid _ := hY'
        have HLt : Hid (jLeft w6 hb < jLeft wr hb) := hlt
        clear q7 hY' hlt
        go_wp2_with fail
        go_roundw
        case rel => exact ⟨Y', _, HY'⟩
        case measure => exact HLt.out
      · have bz : (s == 0) = false := by simp [h0]
        have hE : Hid (TkAt R hb ab cap X w w.heap.size (w.heap.size + 1) B4 (B4 + 1) (.slice a1 n1 c1) (.slice a2 n2 c2) (y :: U) acc v3) := hS.out.on B3.out
        have hL2 := HLT.out h0
        clear HA HQ KB Z2 ZY HLT
        have hlt : ∀ e ∈ flat (y :: U), cR (kf X 0) e.1 < 0 := hL2
        have x1 : v3.cell? ⟨B4, 0, none⟩ = some (.slice a1 n1 c1) := by simp [World.cell?, hE.out.c4]
        have x2 : v3.cell? ⟨B4, 1, none⟩ = some (.slice a2 n2 c2) := by simp [World.cell?, hE.out.c4]
        obtain ⟨t1, t2, t3, _, _, _, _⟩ := hE.out.t
        have s1 : v3.cell? ⟨w.heap.size, 0, none⟩ = some (.slice none 0 0) := by simp [World.cell?, hE.out.c2]
        have s2 : v3.cell? ⟨w.heap.size, 1, none⟩ = some (.slice none 0 0) := by simp [World.cell?, hE.out.c2]
        have s3 : v3.cell? ⟨w.heap.size + 1, 0, none⟩ = some (.int .u64 0) := by simp [World.cell?, hE.out.c3]
        have s4 : v3.cell? ⟨w.heap.size + 1, 1, none⟩ = some (.int .u64 0) := by simp [World.cell?, hE.out.c3]
        have s5 : v3.cell? ⟨w.heap.size + 1, 2, none⟩ = some (.int .u64 0) := by simp [World.cell?, hE.out.c3]
        have f1 : ∀ o, v3.frozen? ⟨w.heap.size, o, none⟩ = false := fun o => by simp [World.frozen?, hE.out.c2]
        have f2 : ∀ o, v3.frozen? ⟨w.heap.size + 1, o, none⟩ = false := fun o => by simp [World.frozen?, hE.out.c3]
        have hB4 : w.heap.size + 2 ≤ B4 := HR.out.2.2.2.2.2.2.2.1
        have i1 : ¬ w.heap.size = B4 + 1 := by omega
        have i2 : ¬ w.heap.size = B4 := by omega
        have i3 : ¬ B4 + 1 = w.heap.size := by omega
        have i4 : ¬ B4 = w.heap.size := by omega
        have hF : Hid (∀ y z, But w.heap.size v3 y → But (w.heap.size + 1) y z → TakeIs R hb ab cap X w (.returned (.tuple #[.agg #[.slice a1 n1 c1, .slice a2 n2 c2], wV acc])) z) := fun y z g1 g2 => hE.out.fin HR.out g1 g2 hlt
        clear hE hlt HR hS
        unfold wV at hF
        generalize wHi acc = ahi at *
        generalize wMid acc = ami at *
        generalize wLo acc = alo at *
        go_wp2_with fail
        go_region
        all_goals (go_wp2_with fail; exact bodyPost_ret (v := .tuple #[.agg #[.slice a1 n1 c1, .slice a2 n2 c2], .agg #[.int .u64 ahi, .int .u64 ami, .int .u64 alo]]) (by simp [results, Tryz.results20, go_sem, *]) rfl (hF.out _ _ ((But.set 0 _).trans (But.set 1 _)) ((((But.set 0 _).trans (But.set 1 _)).trans (But.set 2 _)).trans (But.drewN 1))))
end Go.Proofs.YtlafokjkpbhckaaGreatDoor
