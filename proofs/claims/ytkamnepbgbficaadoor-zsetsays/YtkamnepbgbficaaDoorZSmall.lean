/- Z-sets of small weights: sums of them, plainly, and what the makers and the program answer of them. -/
import Derived.Test.YtkamnepbgbficaaDoorZFirst
import Derived.Test.YtkamnepbgbficaaDoorMakeSets
namespace Go.Proofs.YtkamnepbgbficaaDoor
open Go.RowKit Go.Sort
set_option maxRecDepth 100000

/-- A z-set of weights within B, of at most B entries. -/
def SmZ (B : Nat) (z : List Ent) : Prop := IsZ z ∧ (∀ r, -(B : Int) ≤ wt r z ∧ wt r z ≤ B) ∧ z.length ≤ B ∧ ∀ e ∈ z, e.1.length ≤ 65536
theorem SmZ.fits {B : Nat} {z : List Ent} (h : SmZ B z) (hB : B ≤ 20000) : EOk z := fun e he => by
  refine ⟨?_, h.2.2.2 e he⟩
  have := h.2.1 e.1
  rw [wt_mem h.1.1 he] at this
  unfold inI; simp; omega
theorem smz_eq {A B : Nat} {x y : List Ent} (hx : SmZ A x) (hy : SmZ B y) (h : ∀ r, wt r x = wt r y) : x = y := z_uniq hx.1.1 hy.1.1 hx.1.2 hy.1.2 h
theorem wt_ng (r : List Val) : ∀ l : List Ent, wt r (l.map ngE) = - wt r l
  | [] => rfl
  | e :: l => by
    have ih := wt_ng r l
    simp only [List.map_cons, wt, ngE]
    rw [ih]; split <;> omega
theorem SmZ.mk {B : Nat} {l : List Ent} (h : ∀ r, -(B : Int) ≤ wt r l ∧ wt r l ≤ B) (hl : l.length ≤ B) (hr : ∀ e ∈ l, e.1.length ≤ 65536) (hB : B ≤ 20000) : okZ l = true ∧ SmZ B (mkZ l) ∧ ∀ r, wt r (mkZ l) = wt r l := by
  have ok : okZ l = true := (okZ_iff l).2 (fun r => by have := h r; unfold inI; simp; omega)
  exact ⟨ok, ⟨mkZ_isZ l, fun r => by rw [wt_mkZ ok]; exact h r, by have := mkZ_len l; omega, fun e he => (mkZ_ok hr e he).2⟩, wt_mkZ ok⟩
theorem SmZ.add {A B : Nat} {x y : List Ent} (hx : SmZ A x) (hy : SmZ B y) (hB : A + B ≤ 20000) : okZ (x ++ y) = true ∧ SmZ (A + B) (mkZ (x ++ y)) ∧ ∀ r, wt r (mkZ (x ++ y)) = wt r x + wt r y := by
  have := SmZ.mk (B := A + B) (l := x ++ y) (fun r => by rw [wt_append]; have := hx.2.1 r; have := hy.2.1 r; omega) (by rw [List.length_append]; have := hx.2.2.1; have := hy.2.2.1; omega) (fun e he => by rcases List.mem_append.1 he with h | h; exact hx.2.2.2 e h; exact hy.2.2.2 e h) hB
  exact ⟨this.1, this.2.1, fun r => by rw [this.2.2, wt_append]⟩
theorem SmZ.sub {A B : Nat} {x y : List Ent} (hx : SmZ A x) (hy : SmZ B y) (hB : A + B ≤ 20000) : okZ (x ++ y.map ngE) = true ∧ SmZ (A + B) (mkZ (x ++ y.map ngE)) ∧ ∀ r, wt r (mkZ (x ++ y.map ngE)) = wt r x - wt r y := by
  have := SmZ.mk (B := A + B) (l := x ++ y.map ngE) (fun r => by rw [wt_append, wt_ng]; have := hx.2.1 r; have := hy.2.1 r; omega) (by rw [List.length_append, List.length_map]; have := hx.2.2.1; have := hy.2.2.1; omega) (fun e he => by
    rcases List.mem_append.1 he with h | h
    · exact hx.2.2.2 e h
    · obtain ⟨x', h', rfl⟩ := List.mem_map.1 h; exact hy.2.2.2 x' h') hB
  exact ⟨this.1, this.2.1, fun r => by rw [this.2.2, wt_append, wt_ng]; omega⟩
theorem SmZ.neg {A : Nat} {x : List Ent} (hx : SmZ A x) (hA : A ≤ 20000) : ngOk x = true ∧ ngZ x = x.map ngE ∧ SmZ A (x.map ngE) := by
  have ok : ngOk x = true := by
    unfold ngOk; rw [List.all_eq_true]
    intro e he
    have := hx.2.1 e.1
    rw [wt_mem hx.1.1 he] at this
    unfold inI; simp; omega
  refine ⟨ok, by unfold ngZ; rw [ok]; rfl, ⟨⟨?_, ?_⟩, fun r => by rw [wt_ng]; have := hx.2.1 r; omega, by rw [List.length_map]; exact hx.2.2.1, fun e he => by obtain ⟨x', h', rfl⟩ := List.mem_map.1 he; exact hx.2.2.2 x' h'⟩⟩
  · exact List.pairwise_map.2 hx.1.1
  · intro e he
    obtain ⟨x', hx', rfl⟩ := List.mem_map.1 he
    have := hx.1.2 x' hx'
    show -x'.2 ≠ 0
    omega
theorem SmZ.nil (B : Nat) : SmZ B [] := ⟨⟨List.Pairwise.nil, fun e h => by cases h⟩, fun r => by simp [wt], by simp, fun e h => by cases h⟩
/-- The program's sums of small z-sets. -/
theorem pAdd {A B : Nat} {x y : List Ent} (hx : SmZ A x) (hy : SmZ B y) (hB : A + B ≤ 20000) (vx vy : Value) (a : Addr) (W : World) (ho : OverAt a W) (h1 : EntsIs W vx x) (h2 : EntsIs W vy y) :
    Calls Tryd.prog 15 #[vx, vy] W fun e w' => ∃ v, e = .returned (.tuple #[v, .nilIface]) ∧ EntsIs w' v (mkZ (x ++ y)) ∧ Below W.heap.size W w' := by
  refine (zAdd x y vx vy a W ho (by have := hx.2.2.1; have := hy.2.2.1; omega) (hx.fits (by omega)) (hy.fits (by omega)) hx.1.1 hy.1.1 h1 h2).mono ?_
  rintro e w' ⟨v, rfl, q1, q2⟩
  exact ⟨v, by rw [(hx.add hy hB).1]; rfl, q1, q2⟩
theorem pSub {A B : Nat} {x y : List Ent} (hx : SmZ A x) (hy : SmZ B y) (hB : A + B ≤ 20000) (vx vy : Value) (a : Addr) (W : World) (ho : OverAt a W) (h1 : EntsIs W vx x) (h2 : EntsIs W vy y) :
    Calls Tryd.prog 17 #[vx, vy] W fun e w' => ∃ v, e = .returned (.tuple #[v, .nilIface]) ∧ EntsIs w' v (mkZ (x ++ y.map ngE)) ∧ Below W.heap.size W w' := by
  refine (zSub x y vx vy a W ho (by have := hx.2.2.1; have := hy.2.2.1; omega) (hx.fits (by omega)) (hy.fits (by omega)) hx.1.1 hy.1.1 h1 h2).mono ?_
  rintro e w' ⟨v, rfl, q1, q2⟩
  exact ⟨v, by rw [(hx.sub hy hB).1]; rfl, q1, q2⟩
theorem pNeg {A : Nat} {x : List Ent} (hx : SmZ A x) (hA : A ≤ 20000) (vx : Value) (a : Addr) (W : World) (ho : OverAt a W) (h1 : EntsIs W vx x) :
    Calls Tryd.prog 19 #[vx] W fun e w' => ∃ v, e = .returned (.tuple #[v, .nilIface]) ∧ EntsIs w' v (x.map ngE) ∧ Below W.heap.size W w' := by
  refine (zNeg x vx a W ho (by have := hx.2.2.1; omega) (hx.fits hA) hx.1 h1).mono ?_
  rintro e w' ⟨v, rfl, q1, q2⟩
  rw [(hx.neg hA).2.1] at q1
  exact ⟨v, by rw [(hx.neg hA).1]; rfl, q1, q2⟩
theorem pSame {A B : Nat} {x y : List Ent} (_ : SmZ A x) (_ : SmZ B y) (_ : A + B ≤ 20000) (e : x = y) (vx vy : Value) (W : World) (h1 : EntsIs W vx x) (h2 : EntsIs W vy y) :
    Calls Tryd.prog 26 #[vx, vy] W fun e w' => e = .returned (.bool true) ∧ Below W.heap.size W w' := by
  refine (zSame x y vx vy W h1 h2).mono ?_
  rintro e' w' ⟨rfl, q⟩
  exact ⟨by unfold sEs; rw [decide_eq_true e], q⟩
theorem pCheck {A : Nat} {x : List Ent} (hx : SmZ A x) (_ : A ≤ 20000) (vx : Value) (W : World) (h1 : EntsIs W vx x) :
    Calls Tryd.prog 24 #[vx] W fun e w' => e = .returned (.bool true) ∧ Below W.heap.size W w' := by
  refine (zCheck x vx W h1).mono ?_
  rintro e' w' ⟨rfl, q⟩
  exact ⟨by rw [isZ_yes hx.1], q⟩
/-- The same, the sum under a name of its own. -/
theorem nAdd {A B : Nat} {x y : List Ent} (hx : SmZ A x) (hy : SmZ B y) (hB : A + B ≤ 20000) (vx vy : Value) (a : Addr) (W : World) (ho : OverAt a W) (h1 : EntsIs W vx x) (h2 : EntsIs W vy y) :
    Calls Tryd.prog 15 #[vx, vy] W fun e w' => ∃ v z, e = .returned (.tuple #[v, .nilIface]) ∧ EntsIs w' v z ∧ SmZ (A + B) z ∧ (∀ r, wt r z = wt r x + wt r y) ∧ Below W.heap.size W w' :=
  (pAdd hx hy hB vx vy a W ho h1 h2).mono fun _ _ ⟨v, q1, q2, q3⟩ => ⟨v, _, q1, q2, (hx.add hy hB).2.1, (hx.add hy hB).2.2, q3⟩
theorem nSub {A B : Nat} {x y : List Ent} (hx : SmZ A x) (hy : SmZ B y) (hB : A + B ≤ 20000) (vx vy : Value) (a : Addr) (W : World) (ho : OverAt a W) (h1 : EntsIs W vx x) (h2 : EntsIs W vy y) :
    Calls Tryd.prog 17 #[vx, vy] W fun e w' => ∃ v z, e = .returned (.tuple #[v, .nilIface]) ∧ EntsIs w' v z ∧ SmZ (A + B) z ∧ (∀ r, wt r z = wt r x - wt r y) ∧ Below W.heap.size W w' :=
  (pSub hx hy hB vx vy a W ho h1 h2).mono fun _ _ ⟨v, q1, q2, q3⟩ => ⟨v, _, q1, q2, (hx.sub hy hB).2.1, (hx.sub hy hB).2.2, q3⟩
theorem nNeg {A : Nat} {x : List Ent} (hx : SmZ A x) (hA : A ≤ 20000) (vx : Value) (a : Addr) (W : World) (ho : OverAt a W) (h1 : EntsIs W vx x) :
    Calls Tryd.prog 19 #[vx] W fun e w' => ∃ v z, e = .returned (.tuple #[v, .nilIface]) ∧ EntsIs w' v z ∧ SmZ A z ∧ (∀ r, wt r z = - wt r x) ∧ Below W.heap.size W w' :=
  (pNeg hx hA vx a W ho h1).mono fun _ _ ⟨v, q1, q2, q3⟩ => ⟨v, _, q1, q2, (hx.neg hA).2.2, fun r => wt_ng r x, q3⟩
/-- Two boxes over a world: the maker and its columns. -/
theorem seqCols {w : World} {a : Option Addr} {len cap : Nat} {zs : List Int} (h : IsRow .i64 w a len cap zs) (ks : List Int) (t t' : TypeId) :
    SeqAt w.heap.size a len cap zs 0 ((w.alloc (.cells #[.slice a len cap, .int .i64 0] t)).alloc (.cells (ks.map (Value.int .i64)).toArray t')) ∧ ColsAt (w.heap.size + 1) ks ((w.alloc (.cells #[.slice a len cap, .int .i64 0] t)).alloc (.cells (ks.map (Value.int .i64)).toArray t')) := by
  refine ⟨(SeqAt.make h t).on one_box, by simp, fun i hi => ?_⟩
  rw [World.cell?_alloc_at _ _ _ _ (by simp)]
  simp [hi]
/-- A small z-set that is made of a law's numbers. -/
theorem setNew {w : World} {a : Option Addr} {len cap : Nat} {zs : List Int} (h : IsRow .i64 w a len cap zs) (k1 k2 : Int) (h1 : k1 = 0 ∨ k1 = 1 ∨ k1 = 2 ∨ k1 = 3) (h2 : k2 = 0 ∨ k2 = 1 ∨ k2 = 2 ∨ k2 = 3) :
    Calls Tryd.prog 27 #[.pointer (some ⟨w.heap.size, 0, none⟩), .slice (some ⟨w.heap.size + 1, 0, none⟩) 2 2, .int .i64 10] ((w.alloc (.cells #[.slice a len cap, .int .i64 0] 26)).alloc (.cells #[.int .i64 k1, .int .i64 k2] 3)) fun e w' => ∃ v z, e = .returned v ∧ SmZ 1000 z ∧ EntsIs w' v z ∧ Below w.heap.size w w' := by
  have M := seqCols h [k1, k2] 26 3
  refine (makeSet w.heap.size a len cap zs 0 (w.heap.size + 1) 2 2 [k1, k2] 10 _ M.1 (by decide) (by decide) M.2 (by omega) (by decide) (by simp) (by intro i h; match i, h with | 0, _ => exact h1 | 1, _ => exact h2)).mono ?_
  rintro e w' ⟨v, z, rfl, ⟨p', q1, q2, q3, q4, _, _, q5⟩, hb⟩
  exact ⟨v, z, rfl, ⟨q1, fun r => by have := hb r; omega, by omega, fun e he => (q2 e he).2⟩, q4.ents, below_two.trans (q5.below (by simp <;> omega) (by simp <;> omega))⟩
end Go.Proofs.YtkamnepbgbficaaDoor
