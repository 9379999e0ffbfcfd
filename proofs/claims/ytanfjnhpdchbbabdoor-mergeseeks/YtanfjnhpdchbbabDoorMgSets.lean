/- Some z-sets, made for the statements of layer 5. -/
import Derived.Test.YtanfjnhpdchbbabDoorPackQueue
import Derived.Test.YtanfjnhpdchbbabDoorPackSets
namespace Go.Proofs.YtanfjnhpdchbbabDoor
open Go.RowKit Go.Sort
set_option maxRecDepth 100000
/-- A z-set that was made. -/
def MadeOk (wide : Bool) (base : Nat) (w : World) (x : QEnt) : Prop := EntsNew base x.2 x.1 w ∧ IsZ x.2 ∧ EOk x.2 ∧ x.2.length ≤ 8 ∧ (wide = false → ∀ r, -800 ≤ wt r x.2 ∧ wt r x.2 ≤ 800)
theorem MadeOk.but {wide : Bool} {S base : Nat} {w w' : World} {x : QEnt} (h : MadeOk wide base w x) (hb : But S w w') (hS : S < base) : MadeOk wide base w' x := ⟨h.1.but hb hS, h.2⟩
theorem MadeOk.on {wide : Bool} {base : Nat} {w w' : World} {x : QEnt} (h : MadeOk wide base w x) (hb : Below w.heap.size w w') : MadeOk wide base w' x := ⟨h.1.on hb, h.2⟩
theorem SeqAt.beside {S : Nat} {a : Option Addr} {len cap : Nat} {zs : List Int} {p : Nat} {w w' : World} {g : Option Nat} (h : SeqAt S a len cap zs p w) (hg : w.grownBy w' g) (h1 : g ≠ some S) (h2 : ∀ b, b < S → g ≠ some b) : SeqAt S a len cap zs p w' := by
  obtain ⟨c1, c2, c3, c4, c5, c6⟩ := h
  have hb := hg.block S c4 (fun e => h1 e.symm)
  refine ⟨hg.cell c1 (fun e => h1 e.symm), hg.cell c2 (fun e => h1 e.symm), by rw [World.frozen?_of_block (w := w) hb]; exact c3, Nat.lt_of_lt_of_le c4 hg.size, c5, ?_⟩
  rcases c6 with c6 | ⟨x, hx, d1, d2, d3, d4, d5⟩
  · exact .inl c6
  · refine .inr ⟨x, hx, d1, d2, d3, fun i hi => ?_, d5⟩
    refine hg.cell (d4 i hi) ?_
    have hlt := c5 x hx (by omega)
    rw [show (x.add i).block = x.block from by unfold Addr.add; split <;> rfl]
    exact fun e => h2 _ hlt e.symm
/-- Z-sets that were made. -/
def SetsAre (wide : Bool) (base : Nat) (X : List QEnt) (v : Value) (w : World) : Prop := w.ownsRow base 29 1 v X.length (X.map (·.1)) ∧ (∀ x ∈ X, MadeOk wide base w x) ∧ X.length ≤ 5
/-- How far the making has come. -/
def SetsTo (wide : Bool) (S : Nat) (a : Option Addr) (len cap : Nat) (zs : List Int) (w : World) (k : Nat) (X : List QEnt) (v : Value) (wr : World) : Prop :=
  SetsAre wide w.heap.size X v wr ∧ X.length + k ≤ 5 ∧ (∃ p, p + 49 * k ≤ 1000 ∧ SeqAt S a len cap zs p wr) ∧ But S w wr
theorem SetsAre.on {wide : Bool} {base : Nat} {X : List QEnt} {v : Value} {w w' : World} (h : SetsAre wide base X v w) (hb : Below w.heap.size w w') : SetsAre wide base X v w' :=
  ⟨own_on h.1 hb, fun x hx => (h.2.1 x hx).on hb, h.2.2⟩
theorem SetsAre.ls {wide : Bool} {base : Nat} {X : List QEnt} {v : Value} {w : World} (h : SetsAre wide base X v w) : LsIs w v X ∧ (flat X).length ≤ 40 := by
  refine ⟨⟨?_, fun x hx => ?_, by have := h.2.2; omega⟩, ?_⟩
  · have hlt := h.1.lt
    rcases h.1.2 with ⟨rfl, h0⟩ | ⟨g, c, cur, rfl, k1, k2, k3, k4, k5⟩
    · exact .inl ⟨none, 0, rfl, by rw [List.eq_nil_of_length_eq_zero h0]; rfl⟩
    · refine .inr ⟨g, 0, c, by rw [List.length_map], by rw [List.length_map]; exact k3, k4, (hlt g rfl).2, fun i hi => ?_⟩
      rw [Nat.zero_add, h.1.cellAt i (by simp at hi; omega)]; exact List.getElem?_eq_getElem hi
  · obtain ⟨m1, m2, m3, m4, _⟩ := h.2.1 x hx
    exact ⟨m1.ents, m2.1, m3, by omega⟩
  · have : ∀ X : List QEnt, (∀ x ∈ X, x.2.length ≤ 8) → (flat X).length ≤ 8 * X.length := by
      intro X
      induction X with
      | nil => intro _; simp [flat]
      | cons x X ih =>
        intro h
        have h1 := ih (fun y hy => h y (by simp [hy]))
        have h2 := h x (by simp)
        rw [flat_cons, List.length_append, List.length_cons]; omega
    have h1 := this X (fun x hx => (h.2.1 x hx).2.2.2.1)
    have := h.2.2
    omega
/-- What is new stays, while another list of the call's own grows. -/
theorem EntsNew.beside {base base' : Nat} {l : List Ent} {v v' : Value} {w w' : World} {n : Nat} {xs : List Value} (h : EntsNew base l v w) (ho : w.ownsRow base' 29 1 v' n xs) (hg : w.grownBy w' v'.ownBlock) : EntsNew base l v w' := by
  obtain ⟨us, h1, h2, h3⟩ := h
  have hV : ∀ k, ValB k w → some k ≠ v'.ownBlock := fun k ⟨c, fz, ek⟩ e => by
    rcases ho.2 with ⟨rfl, _⟩ | ⟨g, c', cur, rfl, _, hh, _⟩
    · cases e
    · have : k = g := Option.some.inj e
      subst this
      rw [hh] at ek
      simp only [Option.some.injEq, Obj.cells.injEq] at ek
      exact absurd ek.2.1 (by decide)
  refine ⟨us, ?_, ⟨h2.1, fun i a b => ⟨?_, (h2.2 i a b).2⟩⟩, fun i a b => ?_⟩
  · refine h1.kept hg ?_
    cases hv : v'.ownBlock with
    | none =>
      cases hv' : v.ownBlock with
      | none => exact .inl rfl
      | some g => exact .inr (by simp)
    | some g => exact .inr (own_ne_types h1 ho (by decide) g hv)
  · have hr := (h2.2 i a b).1
    rcases h3 i a b with e | e
    · obtain ⟨a0, c0, ef⟩ := hr.form
      rw [ef, e]; exact .inl ⟨a0, c0, rfl, rfl⟩
    · rcases hr with hr | ⟨b', o, cap, e', g1, g2, g3, g4⟩
      · exact .inl hr
      · have hb := hV b' (e b' (by rw [e']; rfl)).2
        refine .inr ⟨b', o, cap, e', g1, g2, Nat.lt_of_lt_of_le g3 hg.size, fun i hi => ?_⟩
        obtain ⟨c1, c2, c3⟩ := g4 i hi
        exact ⟨hg.cell c1 hb, hg.cell c2 hb, hg.cell c3 hb⟩
  · rcases h3 i a b with e | e
    · exact .inl e
    · refine .inr (fun k hk => ⟨(e k hk).1, ?_⟩)
      have hb := hV k (e k hk).2
      obtain ⟨c, fz, ek⟩ := (e k hk).2
      exact ⟨c, fz, by rw [hg.block k (Array.getElem?_eq_some_iff.1 ek).1 hb]; exact ek⟩
theorem SetsTo.more {wide : Bool} {S : Nat} {a : Option Addr} {len cap : Nat} {zs : List Int} {w : World} {k : Nat} {X : List QEnt} {v v4 : Value} {wr wc w2 w4 : World} {x : QEnt} (h : SetsTo wide S a len cap zs w (k + 1) X v wr) (hS : S < w.heap.size) (p' p : Nat) (hp : p' ≤ p + 49) (hp0 : p + 49 * (k + 1) ≤ 1000) (hc : Below wr.heap.size wr wc)
    (hx : MadeOk wide wc.heap.size w2 x) (hs : SeqAt S a len cap zs p' w2) (hb : But S wc w2) (g1 : w4.ownsRow w.heap.size 29 1 v4 (X.length + 1) (X.map (·.1) ++ [x.1])) (g2 : (w2.alloc (.cells #[x.1] 29)).grownBy w4 v.ownBlock) : SetsTo wide S a len cap zs w k (X ++ [x]) v4 w4 := by
  obtain ⟨⟨h1, h2, h3⟩, h4, _, h6⟩ := h
  have hB : Below w2.heap.size w2 (w2.alloc (.cells #[x.1] 29)) := one_box
  have o2 := own_on (own_but (own_on h1 hc) hb hS) hB
  have hsz := h6.size
  have hlt : ∀ k, v.ownBlock = some k → w.heap.size ≤ k := fun k e => (h1.lt k e).1
  refine ⟨⟨?_, fun y hy => ?_, by simp; omega⟩, by simp; omega, ⟨p', by omega, ?_⟩, ?_⟩
  · rw [List.map_append, List.length_append]; exact g1
  · rcases List.mem_append.1 hy with hy | hy
    · exact ⟨(((((h2 y hy).on hc).but hb hS).1.on hB).beside o2 g2), (h2 y hy).2⟩
    · simp at hy
      subst hy
      exact ⟨((hx.1.on hB).beside o2 g2).mono (by have := hc.size; omega), hx.2⟩
  · exact SeqAt.beside (hs.on hB) g2 (fun e => by have := hlt S e; omega) (fun b hb' e => by have := hlt b e; omega)
  · have : But S w (w2.alloc (.cells #[x.1] 29)) := ((h6.trans (But.of_below hc)).trans hb).trans (But.of_below hB)
    exact ⟨g2.os.trans this.1, g2.tape.trans this.2.1, g2.output.trans this.2.2.1, Nat.le_trans this.2.2.2.1 g2.size, fun i i1 i2 => (g2.block i (Nat.lt_of_lt_of_le i2 this.2.2.2.1) (fun e => by have := hlt i e.symm; omega)).trans (this.2.2.2.2 i i1 i2)⟩
theorem cols_one (w : World) : ColsAt w.heap.size [1] (w.alloc (.cells #[.int .i64 1] 3)) := by
  refine ⟨by simp, fun i hi => ?_⟩
  obtain rfl : i = 0 := by simp at hi; exact hi
  rw [World.cell?_alloc_at _ _ _ _ rfl]; rfl
theorem cell_one_new {w : World} {v : Value} {t : TypeId} : ∀ (j : Nat) (u : Value), ([v] : List Value)[j]? = some u → (w.alloc (.cells #[v] t)).cell? ((⟨w.heap.size, 0, none⟩ : Addr).add j) = some u := by
  intro j u hu
  have hj : j = 0 := by have := (List.getElem?_eq_some_iff.1 hu).1; simp at this; exact this
  subst hj
  rw [add_plain, World.cell?_alloc_at _ _ _ _ rfl]; simpa using hu
set_option maxHeartbeats 8000000 in
theorem lawSets (wide : Bool) (S : Nat) (a : Option Addr) (len cap : Nat) (zs : List Int) (w : World) (h : SeqAt S a len cap zs 0 w) :
    Calls Tryd.prog 7 #[.pointer (some ⟨S, 0, none⟩), .bool wide] w fun e w' => ∃ v X, e = .returned v ∧ SetsAre wide w.heap.size X v w' ∧ But S w w' := by
  obtain ⟨i0, hi, hz0, hz1, hz2⟩ := info_parts info_list
  have q1 := next S a len cap zs 0 6 w h (by omega) (by omega) (by omega)
  have hS : S < w.heap.size := h.2.2.2.1
  obtain ⟨n6, hn6, hn6'⟩ : ∃ n6 : Nat, nm (sq zs len 0) 6 = (n6 : Int) ∧ n6 ≤ 5 := by
    have := nm_bd (sq zs len 0) 6 (by omega)
    exact ⟨(nm (sq zs len 0) 6).toNat, by omega, by omega⟩
  rw [hn6] at q1
  clear h hn6
  go_enter Tryd.func7, Tryd.ntmps7
  go_wp2_with fail
  refine q1.mono ?_
  rintro e w1 ⟨rfl, s1, b1⟩
  have G0 : Hid (SetsTo wide S a len cap zs w n6 [] (.slice none 0 0) w1) := ⟨⟨World.ownsRow_nil _ _ _ _, fun x hx => (by cases hx), by simp⟩, by simp; omega, ⟨1, by omega, s1⟩, b1⟩
  clear q1 s1 b1
  go_wp2_with fail
  go_loopw [5, 6] (fun v i wr => ∃ (k : Nat) (X : List QEnt), i = .int .i64 k ∧ k ≤ 5 ∧ SetsTo wide S a len cap zs w k X v wr) (fun _ i _ => (intOf i).toNat)
  case atStart => exact ⟨n6, [], rfl, by omega, G0.out⟩
  case round =>
    clear G0
    obtain ⟨k, X, rfl, hk, hT⟩ := hrel
    cases k with
    | zero =>
      have F : Hid (SetsAre wide w.heap.size X u5 wr ∧ But S w wr) := ⟨hT.1, hT.2.2.2⟩
      clear hT
      go_wp2_with fail
      go_ret
      exact ⟨u5, X, rfl, F.out.1, F.out.2⟩
    | succ k =>
      have I1 : (0 : Int) < ((k + 1 : Nat) : Int) := by omega
      obtain ⟨p, hp0, hsq⟩ := hT.2.2.1
      have hXL : X.length ≤ 5 := hT.1.2.2
      have HT : Hid (SetsTo wide S a len cap zs w (k + 1) X u5 wr) := hT
      have hlt : S < wr.heap.size := hsq.2.2.2.1
      have FA : Hid (∀ w2 x p', p' ≤ p + 49 → MadeOk wide (wr.alloc (.cells #[.int .i64 1] 3)).heap.size w2 x → SeqAt S a len cap zs p' w2 → But S (wr.alloc (.cells #[.int .i64 1] 3)) w2 → (w2.alloc (.cells #[x.1] 29)).ownsRow w.heap.size 29 1 u5 X.length (X.map (·.1)) ∧ w.heap.size ≤ w2.heap.size ∧ ∀ v4 w4, w4.ownsRow w.heap.size 29 1 v4 (X.length + 1) (X.map (·.1) ++ [x.1]) → (w2.alloc (.cells #[x.1] 29)).grownBy w4 (Value.ownBlock u5) → SetsTo wide S a len cap zs w k (X ++ [x]) v4 w4) := by
        intro w2 x p' g1 g2 g3 g4
        refine ⟨own_on (own_but (own_on HT.out.1.1 one_box) g4 hS) one_box, ?_, fun v4 w4 g5 g6 => HT.out.more hS p' p g1 hp0 one_box g2 g3 g4 g5 g6⟩
        have h1 := HT.out.2.2.2.size
        have h2 := g4.size
        simp at h2; omega
      cases wide with
      | true =>
        have q2 : Hid (Calls Tryd.prog 20 #[.pointer (some ⟨S, 0, none⟩), .slice (some ⟨wr.heap.size, 0, none⟩) 1 1, .int .i64 6] (wr.alloc (.cells #[.int .i64 1] 3)) fun e w' => ∃ v z, e = .returned v ∧ MadeOk true (wr.alloc (.cells #[.int .i64 1] 3)).heap.size w' (v, z) ∧ ∃ p', p' ≤ p + 49 ∧ SeqAt S a len cap zs p' w' ∧ But S (wr.alloc (.cells #[.int .i64 1] 3)) w') :=
          (makeWide S a len cap zs p wr.heap.size 1 1 [1] 6 _ (hsq.on one_box) (by omega) (by omega) (cols_one wr) (by omega) (by omega) (by simp) (by intro i h; match i, h with | 0, _ => simp)).mono (by
            rintro e w' ⟨v, z, rfl, ⟨p', m1, m2, m3, m4, m5, m6, m7⟩, _⟩
            exact ⟨v, z, rfl, ⟨m4, m1, m2, by show z.length ≤ 8; omega, fun e => by cases e⟩, p', by omega, m6, m7⟩)
        clear hT hsq HT
        go_wp2_with fail
        refine q2.out.mono ?_
        rintro e w2 ⟨v, z, rfl, g1, p', g2, g3, g4⟩
        obtain ⟨j1, j2, j3⟩ := FA.out w2 (v, z) p' g2 g1 g3 g4
        obtain ⟨av, cv, hv⟩ := g1.1.ents.form
        simp only at hv j1 j3
        subst hv
        have J1 : Hid ((w2.alloc (.cells #[.slice av z.length cv] 29)).ownsRow w.heap.size 29 1 u5 X.length (X.map (·.1))) := j1
        have J3 : Hid (∀ v4 w4, w4.ownsRow w.heap.size 29 1 v4 (X.length + 1) (X.map (·.1) ++ [.slice av z.length cv]) → (w2.alloc (.cells #[.slice av z.length cv] 29)).grownBy w4 (Value.ownBlock u5) → SetsTo true S a len cap zs w k (X ++ [(.slice av z.length cv, z)]) v4 w4) := j3
        clear q2 g1 g2 g3 g4 FA j1 j3
        go_wp2_with (first | (at_builtin; refine wpList_append_own _ rfl _ _ 24 rfl w.heap.size 29 i0 (.slice none 0 0) 1 24 Tryd.underlying24 hi hz0 hz1 hz2 rfl (by decide) _ X.length _ rfl J1.out ⟨w2.heap.size, 0, none⟩ 1 1 [.slice av z.length cv] rfl rfl cell_one_new (by simp [Value.oneCell']) (by unfold maxLen; omega) (by omega) (by simp; omega) ?_; intro v4 w4 hown4 hg4 _; have F : Hid (SetsTo true S a len cap zs w k (X ++ [(.slice av z.length cv, z)]) v4 w4) := J3.out _ _ hown4 hg4; clear hown4 hg4 J3 J1) | fail)
        go_roundw
        case rel => exact ⟨k, _, by go_num, by omega, F.out⟩
        case measure => simp [intOf]
      | false =>
        have q2 : Hid (Calls Tryd.prog 16 #[.pointer (some ⟨S, 0, none⟩), .slice (some ⟨wr.heap.size, 0, none⟩) 1 1, .int .i64 8] (wr.alloc (.cells #[.int .i64 1] 3)) fun e w' => ∃ v z, e = .returned v ∧ MadeOk false (wr.alloc (.cells #[.int .i64 1] 3)).heap.size w' (v, z) ∧ ∃ p', p' ≤ p + 49 ∧ SeqAt S a len cap zs p' w' ∧ But S (wr.alloc (.cells #[.int .i64 1] 3)) w') :=
          (makeSet S a len cap zs p wr.heap.size 1 1 [1] 8 _ (hsq.on one_box) (by omega) (by omega) (cols_one wr) (by omega) (by omega) (by simp) (by intro i h; match i, h with | 0, _ => simp)).mono (by
            rintro e w' ⟨v, z, rfl, ⟨p', m1, m2, m3, m4, m5, m6, m7⟩, m8, _⟩
            exact ⟨v, z, rfl, ⟨m4, m1, m2, by show z.length ≤ 8; omega, fun _ r => by have := m8 r; show -800 ≤ wt r z ∧ wt r z ≤ 800; omega⟩, p', by omega, m6, m7⟩)
        clear hT hsq HT
        go_wp2_with fail
        refine q2.out.mono ?_
        rintro e w2 ⟨v, z, rfl, g1, p', g2, g3, g4⟩
        obtain ⟨j1, j2, j3⟩ := FA.out w2 (v, z) p' g2 g1 g3 g4
        obtain ⟨av, cv, hv⟩ := g1.1.ents.form
        simp only at hv j1 j3
        subst hv
        have J1 : Hid ((w2.alloc (.cells #[.slice av z.length cv] 29)).ownsRow w.heap.size 29 1 u5 X.length (X.map (·.1))) := j1
        have J3 : Hid (∀ v4 w4, w4.ownsRow w.heap.size 29 1 v4 (X.length + 1) (X.map (·.1) ++ [.slice av z.length cv]) → (w2.alloc (.cells #[.slice av z.length cv] 29)).grownBy w4 (Value.ownBlock u5) → SetsTo false S a len cap zs w k (X ++ [(.slice av z.length cv, z)]) v4 w4) := j3
        clear q2 g1 g2 g3 g4 FA j1 j3
        go_wp2_with (first | (at_builtin; refine wpList_append_own _ rfl _ _ 24 rfl w.heap.size 29 i0 (.slice none 0 0) 1 24 Tryd.underlying24 hi hz0 hz1 hz2 rfl (by decide) _ X.length _ rfl J1.out ⟨w2.heap.size, 0, none⟩ 1 1 [.slice av z.length cv] rfl rfl cell_one_new (by simp [Value.oneCell']) (by unfold maxLen; omega) (by omega) (by simp; omega) ?_; intro v4 w4 hown4 hg4 _; have F : Hid (SetsTo false S a len cap zs w k (X ++ [(.slice av z.length cv, z)]) v4 w4) := J3.out _ _ hown4 hg4; clear hown4 hg4 J3 J1) | fail)
        go_roundw
        case rel => exact ⟨k, _, by go_num, by omega, F.out⟩
        case measure => simp [intOf]
end Go.Proofs.YtanfjnhpdchbbabDoor
