/- The walk of the law that many are one in whatever order, and a cursor tells all. -/
import Derived.Test.YtanfjnhpdchbbabDoorMgLaw
import Derived.Test.YtanfjnhpdchbbabDoorMgNew
namespace Go.Proofs.YtanfjnhpdchbbabDoor
open Go.RowKit Go.Sort
set_option maxRecDepth 100000
theorem step_call1y {P : Program} {ops : Array Oper} {o : Oper} {a : Act} {w : World} {K : Act → World → Prop} {Q : Exit → Act → World → Prop} {E : Prop} (hw : Region.wanted o (yielded ops a.tmps) = true)
    (f : FuncId) (x : Operand) (t : TypeId) (ho : o.op = .call { callee := .value (.func f), args := #[x], argTypes := #[t] }) (he : ∀ args w, (callFunc f args).run P w = .ok (.enter f args) w)
    (vx : Value) (hx : a.eval x = vx) (R : Value → World → Prop) (hc : Calls P f #[vx] w fun e w' => ∃ v, e = .returned v ∧ R v w') (h : ∀ v w', R v w' → K (a.put o.dst v) w') :
    if Region.wanted o (yielded ops a.tmps) = true then Oper.wp P o a w K Q else E := by
  rw [if_pos hw]
  subst hx
  have e0 : a.eval (.func f) = .func (.func f) #[] #[] := rfl
  unfold Oper.wp
  simp [execOp, ho, resolve, invoke, e0, Deferred.ofValue, he, Oper.upon]
  exact hc.mono fun e w' ⟨v, h1, h2⟩ => by subst h1; exact h v w' h2
/-- Z-sets of small weights: all may be. -/
theorem small_ok {X : List QEnt} (hl : X.length ≤ 5) (h : ∀ x ∈ X, ∀ r, -800 ≤ wt r x.2 ∧ wt r x.2 ≤ 800) : okZ (flat X) = true ∧ wkZ (flat X) = mkZ (flat X) := by
  have hb : ∀ (Y : List QEnt), (∀ x ∈ Y, ∀ r, -800 ≤ wt r x.2 ∧ wt r x.2 ≤ 800) → ∀ r, -(800 * (Y.length : Int)) ≤ wt r (flat Y) ∧ wt r (flat Y) ≤ 800 * (Y.length : Int) := by
    intro Y
    induction Y with
    | nil => intro _ r; simp [flat, wt]
    | cons x Y ih =>
      intro hY r
      have h1 := ih (fun y hy => hY y (by simp [hy])) r
      have h2 := hY x (by simp) r
      rw [flat_cons, wt_append, List.length_cons]; omega
  have hi : ∀ r, inI (wt r (flat X)) = true := fun r => by have := hb X h r; unfold inI; simp; omega
  have ho : okZ (flat X) = true := (okZ_iff _).2 hi
  exact ⟨ho, wkZ_of (mkZ_isZ _) (fun r => by rw [wt_mkZ ho]; unfold cutI; rw [if_pos (hi r)])⟩
theorem rot_same {X : List QEnt} (k : Nat) (ho : okZ (flat X) = true) : okZ (flat (X.drop k ++ X.take k)) = true ∧ mkZ (flat (X.drop k ++ X.take k)) = mkZ (flat X) ∧ (flat (X.drop k ++ X.take k)).length = (flat X).length := by
  have hp : (X.drop k ++ X.take k).Perm X := by
    have := List.perm_append_comm (l₁ := X.drop k) (l₂ := X.take k)
    rwa [List.take_append_drop] at this
  have ho' : okZ (flat (X.drop k ++ X.take k)) = true := (okZ_iff _).2 (fun r => by rw [wt_flat hp]; exact (okZ_iff _).1 ho r)
  exact ⟨ho', mkZ_of ho' (mkZ_isZ _) (fun r => by rw [wt_mkZ ho, wt_flat hp]), flat_len hp⟩
/-- How far the list of what a cursor tells has come. -/
def OrdTo (w0 : World) (hb ab cp base : Nat) (L : List Ent) (j : Nat) (dv : Value) (B : Nat) (b : Bool) (wr : World) : Prop :=
  (∃ ds, ds.length = j ∧ wr.ownsRow base 39 2 dv j (es ds) ∧ OwnRows base wr ds (L.take j)) ∧ dv.ownBlock ≠ some B ∧ (w0.heap.size ≤ B ∧ B ≠ hb ∧ B ≠ ab) ∧
  (∃ Y, CurIs w0 hb ab cp Y wr ∧ wkZ (flat Y) = L.drop (if b then j + 1 else j)) ∧ j ≤ L.length ∧ (b = false → j = L.length) ∧
  ∃ ar nr cr kk, wr.heap[B]? = some (.cells #[.slice ar nr cr, .int .i64 kk] 39 (0, 0)) ∧ (b = true → ∃ h : j < L.length, L[j].2 = kk ∧ nr = L[j].1.length ∧ wr.ownsRow base 45 3 (.slice ar nr cr) nr (rc L[j].1))
theorem QC.grown {w0 : World} {hb ab cap : Nat} {X : List QEnt} {w w' : World} {g : Option Nat} (h : QC w0 hb ab cap X w) (hg : w.grownBy w' g) (h1 : g ≠ some hb) (h2 : g ≠ some ab) (h3 : ∀ k, g = some k → w0.heap.size ≤ k) : QC w0 hb ab cap X w' :=
  ⟨h.1.grown hg h1 h2, h.2.1, h.2.2.1.grown hg h.2.2.1.size h3, h.2.2.2⟩
theorem OwnRows.off {hb : Nat} {tH : Hd} {ab cap base : Nat} {vs : List Value} {us : List VEnt} {l : List Ent} {w w' : World} (h : QAt hb tH ab cap vs w) (hO : Off hb ab w w') (h2 : 45 ≠ tH.t) (ho : OwnRows base w us l) : OwnRows base w' us l := ⟨ho.1, fun i a b => ⟨h.own hO (ho.2 i a b).1 h2 (by decide), (ho.2 i a b).2⟩⟩
/-- Ahead of a Next. -/
def OrdMid (w0 : World) (hb ab cp base : Nat) (L : List Ent) (j : Nat) (dv : Value) (W : World) : Prop :=
  (∃ ds, ds.length = j ∧ W.ownsRow base 39 2 dv j (es ds) ∧ OwnRows base W ds (L.take j)) ∧ (∃ Y, CurIs w0 hb ab cp Y W ∧ wkZ (flat Y) = L.drop j) ∧ j ≤ L.length ∧ base ≤ W.heap.size
/-- What a Next answers there, and what stands behind it. -/
theorem OrdMid.next {w0 : World} {hb ab cp base : Nat} {L : List Ent} {j : Nat} {dv : Value} {W w8 : World} {Y : List QEnt} {e : Ending} (hd : ∃ ds, ds.length = j ∧ W.ownsRow base 39 2 dv j (es ds) ∧ OwnRows base W ds (L.take j)) (hC : CurIs w0 hb ab cp Y W) (hw : wkZ (flat Y) = L.drop j) (hj : j ≤ L.length) (hbase : base ≤ W.heap.size) (h : NextIs w0 hb ab cp Y W e w8) :
    ∃ b ar nr cr kk, e = .returned (.tuple #[.agg #[.slice ar nr cr, .int .i64 kk], .bool b]) ∧ (∃ ds, ds.length = j ∧ w8.ownsRow base 39 2 dv j (es ds) ∧ OwnRows base w8 ds (L.take j)) ∧ (∃ Y, CurIs w0 hb ab cp Y w8 ∧ wkZ (flat Y) = L.drop (if b then j + 1 else j)) ∧ (b = false → j = L.length) ∧ (b = true → ∃ h : j < L.length, L[j].2 = kk ∧ nr = L[j].1.length ∧ w8.ownsRow base 45 3 (.slice ar nr cr) nr (rc L[j].1)) ∧ Off hb ab W w8 := by
  obtain ⟨ds, d1, d2, d3⟩ := hd
  obtain ⟨Y3, c1, c2, _, h8⟩ := h
  have hd8 : ∃ ds, ds.length = j ∧ w8.ownsRow base 39 2 dv j (es ds) ∧ OwnRows base w8 ds (L.take j) := ⟨ds, d1, hC.1.1.own c2 d2 (by decide) (by decide), OwnRows.off hC.1.1 c2 (by decide) d3⟩
  rw [hw] at h8
  rcases h8 with ⟨e8, e9, e10⟩ | ⟨r, kk, ar, cr, e8, e9, hrow⟩
  · have hj' : j = L.length := by have := congrArg List.length e8; simp at this; omega
    exact ⟨false, none, 0, 0, 0, e10, hd8, ⟨Y3, c1, by rw [e9]; exact e8.symm⟩, fun _ => hj', fun h => (by cases h), c2⟩
  · have hlt : j < L.length := by
      by_cases h : j < L.length
      · exact h
      · rw [List.drop_of_length_le (by omega)] at e8; cases e8
    rw [List.drop_eq_getElem_cons hlt] at e8
    obtain ⟨e1, e2⟩ := List.cons.inj e8
    refine ⟨true, ar, r.length, cr, kk, e9, hd8, ⟨Y3, c1, e2.symm⟩, fun h => (by cases h), fun _ => ⟨hlt, by rw [e1], by rw [e1], ?_⟩, c2⟩
    rw [e1]; exact own_mono hrow hbase
/-- The entry that is told, in a box of its own. -/
theorem OrdTo.box {w0 : World} {hb ab cp base : Nat} {L : List Ent} {j : Nat} {dv : Value} {w8 : World} {b : Bool} {ar : Option Addr} {nr cr : Nat} {kk : Int} (h0 : w0.heap.size ≤ w8.heap.size) (hj : j ≤ L.length)
    (h1 : ∃ ds, ds.length = j ∧ w8.ownsRow base 39 2 dv j (es ds) ∧ OwnRows base w8 ds (L.take j)) (h2 : ∃ Y, CurIs w0 hb ab cp Y w8 ∧ wkZ (flat Y) = L.drop (if b then j + 1 else j)) (h3 : b = false → j = L.length)
    (h4 : b = true → ∃ h : j < L.length, L[j].2 = kk ∧ nr = L[j].1.length ∧ w8.ownsRow base 45 3 (.slice ar nr cr) nr (rc L[j].1)) :
    OrdTo w0 hb ab cp base L j dv w8.heap.size b (w8.alloc (.cells #[.slice ar nr cr, .int .i64 kk] 39)) := by
  obtain ⟨ds, d1, d2, d3⟩ := h1
  obtain ⟨Y, y1, y2⟩ := h2
  have hq := y1.1.1.lt
  refine ⟨⟨ds, d1, own_on d2 one_box, d3.on one_box⟩, fun e => by have := (d2.lt _ e).2; omega, ⟨h0, by omega, by omega⟩, ⟨Y, ⟨y1.1.on one_box, y1.2⟩, y2⟩, hj, h3, ar, nr, cr, kk, heap_alloc_new w8 _, fun hb' => ?_⟩
  obtain ⟨g1, g2, g3, g4⟩ := h4 hb'
  exact ⟨g1, g2, g3, own_on g4 one_box⟩
/-- The entry that is told, in a box that was there. -/
theorem OrdTo.set {w0 : World} {hb ab cp base B : Nat} {L : List Ent} {j : Nat} {dv : Value} {w8 : World} {b : Bool} {ar : Option Addr} {nr cr : Nat} {kk : Int} {x y : Value} (hj : j ≤ L.length)
    (h1 : ∃ ds, ds.length = j ∧ w8.ownsRow base 39 2 dv j (es ds) ∧ OwnRows base w8 ds (L.take j)) (h2 : ∃ Y, CurIs w0 hb ab cp Y w8 ∧ wkZ (flat Y) = L.drop (if b then j + 1 else j)) (h3 : b = false → j = L.length)
    (h4 : b = true → ∃ h : j < L.length, L[j].2 = kk ∧ nr = L[j].1.length ∧ w8.ownsRow base 45 3 (.slice ar nr cr) nr (rc L[j].1))
    (h5 : dv.ownBlock ≠ some B) (h6 : w0.heap.size ≤ B ∧ B ≠ hb ∧ B ≠ ab) (h7 : w8.heap[B]? = some (.cells #[x, y] 39 (0, 0))) :
    OrdTo w0 hb ab cp base L j dv B b ((w8.setCell ⟨B, 0, none⟩ (.slice ar nr cr)).setCell ⟨B, 1, none⟩ (.int .i64 kk)) := by
  obtain ⟨ds, d1, d2, d3⟩ := h1
  obtain ⟨Y, y1, y2⟩ := h2
  have kp : ∀ (e : TypeId) (s : Nat) (v : Value) (n : Nat) (xs : List Value), v.ownBlock ≠ some B → w8.ownsRow base e s v n xs → ((w8.setCell ⟨B, 0, none⟩ (.slice ar nr cr)).setCell ⟨B, 1, none⟩ (.int .i64 kk)).ownsRow base e s v n xs := fun e s v n xs hne ho => by
    refine ⟨ho.1, ?_⟩
    rcases ho.2 with hn | ⟨g, cap, cur, rfl, k1, k2, k3⟩
    · exact .inl hn
    · refine .inr ⟨g, cap, cur, rfl, k1, ?_, k3⟩
      have : g ≠ B := fun e => hne (by rw [e]; rfl)
      rw [Below.heap_setCell _ _ _ _ this, Below.heap_setCell _ _ _ _ this]; exact k2
  have kv : ∀ (s : Nat) (v : Value) (n : Nat) (xs : List Value), w8.ownsRow base 45 s v n xs → v.ownBlock ≠ some B := fun s v n xs ho e => by
    obtain ⟨c, fz, ek⟩ := (own_val ho B e).2
    rw [h7] at ek
    simp only [Option.some.injEq, Obj.cells.injEq] at ek
    exact absurd ek.2.1 (by decide)
  refine ⟨⟨ds, d1, kp _ _ _ _ _ h5 d2, d3.1, fun i a c => ⟨kp _ _ _ _ _ (kv _ _ _ _ (d3.2 i a c).1) (d3.2 i a c).1, (d3.2 i a c).2⟩⟩, h5, h6, ⟨Y, ⟨(y1.1.set h6.2.1 h6.2.2 h6.1 0 _).set h6.2.1 h6.2.2 h6.1 1 _, y1.2⟩, y2⟩, hj, h3, ar, nr, cr, kk, ?_, fun hb' => ?_⟩
  · rw [heap_set_at (heap_set_at h7)]; rfl
  · obtain ⟨g1, g2, g3, g4⟩ := h4 hb'
    exact ⟨g1, g2, g3, kp _ _ _ _ _ (kv _ _ _ _ g4) g4⟩
/-- One more behind the list. -/
theorem ord_more {w0 : World} {hb ab cp base B : Nat} {L : List Ent} {j : Nat} {dv v4 x y : Value} {wr w4 : World} {ds : List VEnt} {Y : List QEnt} {ar : Option Addr} {cr : Nat} {kk : Int} (hj : j < L.length) (d1 : ds.length = j) (d2 : wr.ownsRow base 39 2 dv j (es ds)) (d3 : OwnRows base wr ds (L.take j)) (h2 : dv.ownBlock ≠ some B) (y1 : CurIs w0 hb ab cp Y wr) (y2 : wkZ (flat Y) = L.drop (j + 1))
    (h7 : wr.heap[B]? = some (.cells #[x, y] 39 (0, 0))) (hw0 : w0.heap.size ≤ base) (hbase : base ≤ wr.heap.size)
    (hr : wr.ownsRow base 45 3 (.slice ar L[j].1.length cr) L[j].1.length (rc L[j].1)) (hk : L[j].2 = kk)
    (g1 : w4.ownsRow base 39 2 v4 (j + 1) (es ds ++ ec (.slice ar L[j].1.length cr, kk))) (g2 : (wr.alloc (.cells #[.slice ar L[j].1.length cr, .int .i64 kk] 39)).grownBy w4 dv.ownBlock) :
    OrdMid w0 hb ab cp base L (j + 1) v4 w4 ∧ w4.heap[B]? = some (.cells #[x, y] 39 (0, 0)) := by
  have hB : Below wr.heap.size wr (wr.alloc (.cells #[.slice ar L[j].1.length cr, .int .i64 kk] 39)) := one_box
  have hne := y1.1.1.ne_own d2 (by decide) (by decide)
  have o2 := own_on d2 hB
  refine ⟨⟨⟨ds ++ [(.slice ar L[j].1.length cr, kk)], by simp [d1], ?_, ?_⟩, ⟨Y, ⟨(y1.1.on hB).grown g2 hne.1 hne.2 (fun k e => Nat.le_trans hw0 (d2.lt k e).1), y1.2⟩, y2⟩, by omega, Nat.le_trans hbase (Nat.le_trans hB.size g2.size)⟩, ?_⟩
  · rw [es_snoc]; exact g1
  · rw [List.take_succ_eq_append_getElem hj, show L[j] = (L[j].1, kk) from Prod.ext rfl hk]
    exact ((d3.on hB).snoc (own_on hr hB) kk).grown o2 g2
  · rw [g2.block B (by have := (Array.getElem?_eq_some_iff.1 h7).1; simp; omega) (fun e => h2 e.symm), hB.block B (Array.getElem?_eq_some_iff.1 h7).1]; exact h7
/-- A Next behind a new box. -/
theorem OrdMid.boxed {w0 : World} {hb ab cp base : Nat} {L : List Ent} {j : Nat} {dv x y : Value} {w4 : World} (h : OrdMid w0 hb ab cp base L j dv w4) (hw0 : w0.heap.size ≤ base) :
    ∃ Y, CurIs w0 hb ab cp Y (w4.alloc (.cells #[x, y] 39)) ∧ ∀ e w8, NextIs w0 hb ab cp Y (w4.alloc (.cells #[x, y] 39)) e w8 → ∃ b ar nr cr kk, e = .returned (.tuple #[.agg #[.slice ar nr cr, .int .i64 kk], .bool b]) ∧ w8.cell? ⟨w4.heap.size, 0, none⟩ = some x ∧ w8.cell? ⟨w4.heap.size, 1, none⟩ = some y ∧ w8.frozen? ⟨w4.heap.size, 0, none⟩ = false ∧ w8.frozen? ⟨w4.heap.size, 1, none⟩ = false ∧
      OrdTo w0 hb ab cp base L j dv w4.heap.size b ((w8.setCell ⟨w4.heap.size, 0, none⟩ (.slice ar nr cr)).setCell ⟨w4.heap.size, 1, none⟩ (.int .i64 kk)) ∧ base ≤ ((w8.setCell ⟨w4.heap.size, 0, none⟩ (.slice ar nr cr)).setCell ⟨w4.heap.size, 1, none⟩ (.int .i64 kk)).heap.size := by
  obtain ⟨⟨ds, d1, d2, d3⟩, ⟨Y, y1, y2⟩, h3, h4⟩ := h
  have hq := y1.1.1.lt
  refine ⟨Y, ⟨y1.1.on one_box, y1.2⟩, fun e w8 hn => ?_⟩
  obtain ⟨b, ar, nr, cr, kk, g1, g2, g3, g4, g5, g6⟩ := OrdMid.next ⟨ds, d1, own_on d2 one_box, d3.on one_box⟩ ⟨y1.1.on one_box, y1.2⟩ y2 h3 (Nat.le_trans h4 (by simp)) hn
  have h7 : w8.heap[w4.heap.size]? = some (.cells #[x, y] 39 (0, 0)) := by
    rw [g6.2.2.2.2 w4.heap.size (by omega) (by omega) (by simp)]; exact heap_alloc_new w4 _
  refine ⟨b, ar, nr, cr, kk, g1, by simp [World.cell?, h7], by simp [World.cell?, h7], by simp [World.frozen?, h7], by simp [World.frozen?, h7], OrdTo.set h3 g2 g3 g4 g5 (fun e => by have := (d2.lt _ e).2; omega) ⟨by omega, by omega, by omega⟩ h7, ?_⟩
  have := g6.size
  simp at this
  simp [World.setCell]; omega
theorem LsIs.part {w : World} {b o n cap k : Nat} {X : List QEnt} (h : LsIs w (.slice (some ⟨b, o, none⟩) n cap) X) (hk : k < X.length) : (∀ (j : Nat) (u : Value), ((X.drop k).map (·.1))[j]? = some u → w.cell? ((⟨b, o + k, none⟩ : Addr).add j) = some u) ∧ (∀ (j : Nat) (u : Value), ((X.take k).map (·.1))[j]? = some u → w.cell? ((⟨b, o, none⟩ : Addr).add j) = some u) ∧ ∀ u ∈ X.map (·.1), u.oneCell' = true := by
  have hc : ∀ i (hi : i < X.length), w.cell? ⟨b, o + i, none⟩ = some X[i].1 := fun i hi => by
    obtain ⟨b', o', a', c', e, c1, c2⟩ := h.at i hi
    cases e
    rw [c2]; exact c1
  refine ⟨fun j u hu => ?_, fun j u hu => ?_, fun u hu => ?_⟩
  · rw [add_plain]
    obtain ⟨hj, e⟩ := List.getElem?_eq_some_iff.1 hu
    simp at hj
    have := hc (k + j) (by omega)
    rw [Nat.add_assoc, this, ← e]; simp
  · rw [add_plain]
    obtain ⟨hj, e⟩ := List.getElem?_eq_some_iff.1 hu
    simp at hj
    have := hc j (by omega)
    rw [this, ← e]; simp
  · obtain ⟨x, hx, rfl⟩ := List.mem_map.1 hu
    obtain ⟨a, c, e⟩ := (h.2.1 x hx).1.form
    rw [e]; rfl
/-- A list of z-sets of a call's own. -/
def SetLike (w : World) (v : Value) (X : List QEnt) : Prop := ∃ base, w.ownsRow base 29 1 v X.length (X.map (·.1))
theorem SetLike.ls {w : World} {v : Value} {X : List QEnt} (h : SetLike w v X) (hx : ∀ x ∈ X, LOk w x) (hl : X.length ≤ 65536) : LsIs w v X := by
  obtain ⟨base, h⟩ := h
  refine ⟨?_, hx, hl⟩
  have hlt := h.lt
  rcases h.2 with ⟨rfl, h0⟩ | ⟨g, c, cur, rfl, k1, k2, k3, k4, k5⟩
  · exact .inl ⟨none, 0, rfl, by rw [List.eq_nil_of_length_eq_zero h0]; rfl⟩
  · refine .inr ⟨g, 0, c, by rw [List.length_map], by rw [List.length_map]; exact k3, k4, (hlt g rfl).2, fun i hi => ?_⟩
    rw [Nat.zero_add, h.cellAt i (by simp at hi; omega)]; exact List.getElem?_eq_getElem hi
set_option maxHeartbeats 16000000 in
theorem mergeOrders_walk (a : Option Addr) (len cap : Nat) (zs : List Int) (turn : Int) (_ : (Lit.int .i64 turn).wf = true) (w : World) (he : ∃ ad, OverAt ad w) (ha : IsRow .i64 w a len cap zs) :
    Calls Tryd.prog 3 #[.slice a len cap, .int .i64 turn] w fun e w' => e = .returned (.bool true) ∧ Below w.heap.size w w' := by
  obtain ⟨ad, hE⟩ := he
  obtain ⟨i0, hi, hz0, hz1, hz2⟩ := info_parts info_list
  obtain ⟨i1, hi1, hy0, hy1, hy2⟩ := info_parts info_entry
  have q0 := lawFirst5 ad w hE
  have HE : Hid (OverAt ad w) := hE
  have HA : Hid (IsRow .i64 w a len cap zs) := ha
  clear hE ha
  go_enter Tryd.func3, Tryd.ntmps3
  go_wp2_with fail
  refine q0.mono ?_
  rintro e w1 ⟨rfl, hb1⟩
  have B1 : Hid (Below w.heap.size w w1) := hb1
  clear q0 hb1
  by_cases hl : 200 < len
  · have I1 : (200 : Int) < (len : Int) := by omega
    go_wp2_with fail
    go_ret
    exact ⟨rfl, B1.out⟩
  · have I1 : ¬ (200 : Int) < (len : Int) := by omega
    have q1 := lawSets false w1.heap.size a len cap zs _ (SeqAt.make (HA.out.below B1.out) 28)
    go_wp2_with fail
    refine q1.mono ?_
    rintro e w2 ⟨v, X, rfl, hX, hB2⟩
    have B2 : Hid (Below w.heap.size w w2) := (B1.out.trans (one_box.mono B1.out.size)).trans (hB2.below (B1.out.size) (by have := B1.out.size; simp; omega))
    obtain ⟨hLs, hN⟩ := hX.ls
    have hXL := hX.2.2
    obtain ⟨ho, hwk⟩ := small_ok hX.2.2 (fun x hx => (hX.2.1 x hx).2.2.2.2 rfl)
    have HO : Hid (okZ (flat X) = true ∧ wkZ (flat X) = mkZ (flat X)) := ⟨ho, hwk⟩
    obtain ⟨aX, cX, rfl⟩ := hLs.form
    have HL : Hid (LsIs w2 (.slice aX X.length cX) X) := hLs
    have q2 := mgAll X _ ad w2 (HE.out.on B2.out) hLs (by omega)
    rw [ho, ovE_t] at q2
    clear q1 hX hB2 hLs ho hwk
    go_wp2_with fail
    refine q2.mono ?_
    rintro e w3 ⟨v3, rfl, h3, hb3⟩
    have C3 : Hid (Below w2.heap.size w2 w3) := hb3
    have A3 : Hid (EntsIs w3 v3 (mkZ (flat X))) := h3.ents
    obtain ⟨a3, c3, rfl⟩ := h3.ents.form
    clear q2 h3 hb3
    by_cases hx0 : X.length = 0
    · have hX0 : X = [] := List.eq_nil_of_length_eq_zero hx0
      have bz : ((X.length : Int) == 0) = true := by simp [hx0]
      have hm0 : (mkZ (flat X)).length = 0 := by rw [hX0]; rfl
      have BF : Hid (Below w.heap.size w w3) := B2.out.trans (C3.out.mono B2.out.size)
      rw [hm0]
      clear hX0
      go_wp2_with fail
      go_ret
      exact ⟨rfl, BF.out⟩
    · have bz : ((X.length : Int) == 0) = false := beq_eq_false_iff_ne.2 (by omega)
      have bm : ((X.length : Int) == -1) = false := beq_eq_false_iff_ne.2 (by omega)
      obtain ⟨k, hk, hkl⟩ : ∃ k : Nat, (wrap64 (turn.tmod (X.length : Int) + (X.length : Int))).tmod (X.length : Int) = (k : Int) ∧ k < X.length := by
        have hp : (0 : Int) < (X.length : Int) := by omega
        have t1 := Int.tmod_lt_of_pos turn hp
        have t2 := Int.tmod_lt_of_pos (-turn) hp
        rw [Int.neg_tmod] at t2
        have e : wrap64 (turn.tmod (X.length : Int) + (X.length : Int)) = turn.tmod (X.length : Int) + (X.length : Int) := by unfold wrap64; omega
        rw [e, Int.tmod_eq_emod_of_nonneg (by omega)]
        have e1 := Int.emod_nonneg (turn.tmod (X.length : Int) + (X.length : Int)) (show (X.length : Int) ≠ 0 by omega)
        have e2 := Int.emod_lt_of_pos (turn.tmod (X.length : Int) + (X.length : Int)) hp
        exact ⟨((turn.tmod (X.length : Int) + (X.length : Int)) % (X.length : Int)).toNat, by omega, by omega⟩
      obtain ⟨b, o, _, _, rfl, _, _⟩ := HL.out.at 0 (by omega)
      have hcap := HL.out.cap
      have hck : ¬ cX = k := by omega
      have hkle : k ≤ X.length := by omega
      have hkc : k ≤ cX := by omega
      obtain ⟨p1, p2, p3⟩ := HL.out.part hkl
      obtain ⟨r1, r2, r3⟩ := rot_same k HO.out.1
      obtain ⟨W5, hW5⟩ : ∃ W5, W5 = (w3.alloc (.cells #[] 29)).drew := ⟨_, rfl⟩
      have B5 : Below w3.heap.size w3 W5 := by rw [hW5]; exact ((Below.refl _ _).alloc (Nat.le_refl _) _).drew
      have O5 : Hid (W5.ownsRow w3.heap.size 29 1 (.slice (some ⟨w3.heap.size, 0, none⟩) 0 0) 0 []) := by
        rw [hW5]; exact World.ownsRow_made (base := w3.heap.size) (size := 1) (e := 29) w3 #[] 0 (Nat.le_refl _) (by unfold maxLen; omega) rfl
      have CW : Below w2.heap.size w2 W5 := C3.out.trans (B5.mono C3.out.size)
      have P1 : Hid (∀ (j : Nat) (u : Value), ((X.drop k).map (·.1))[j]? = some u → W5.cell? ((⟨b, o + k, none⟩ : Addr).add j) = some u) := fun j u h => cell_on (p1 j u h) CW
      have P3 : Hid (∀ u ∈ (X.drop k).map (·.1), u.oneCell' = true) := fun u hu => p3 u (by rw [List.map_drop] at hu; exact List.mem_of_mem_drop hu)
      have P4 : Hid (∀ u ∈ (X.take k).map (·.1), u.oneCell' = true) := fun u hu => p3 u (by rw [List.map_take] at hu; exact List.mem_of_mem_take hu)
      have D1 : Hid (((X.drop k).map (·.1)).length = (X.length - k) * 1) := by show _ = _; simp
      have D2 : Hid (((X.take k).map (·.1)).length = k * 1) := by show _ = _; simp; omega
      have F6 : Hid (∀ w6, W5.grownBy w6 (some w3.heap.size) → Below w3.heap.size w3 w6 ∧ w3.heap.size ≤ w6.heap.size ∧ ∀ (j : Nat) (u : Value), ((X.take k).map (·.1))[j]? = some u → w6.cell? ((⟨b, o, none⟩ : Addr).add j) = some u) := fun w6 g => by
        have h6 : Below w3.heap.size w3 w6 := B5.grown g B5.size (fun k e => by cases e; exact Nat.le_refl _)
        exact ⟨h6, h6.size, fun j u h => cell_on (p2 j u h) (C3.out.trans (h6.mono C3.out.size))⟩
      have F7 : Hid (∀ v7 w6 w7 g6, Below w3.heap.size w3 w6 → (∀ k, g6 = some k → w3.heap.size ≤ k) → w6.grownBy w7 g6 → w7.ownsRow w3.heap.size 29 1 v7 (0 + (X.length - k) + k) ([] ++ (X.drop k).map (·.1) ++ (X.take k).map (·.1)) → Calls Tryd.prog 8 #[v7] w7 fun e w' => ∃ v, e = .returned v ∧ ∃ x, v = .tuple #[x, .nilIface] ∧ EntsIs w' x (mkZ (flat X)) ∧ Below w3.heap.size w3 w') := fun v7 w6 w7 g6 h6 hg6 g o7 => by
        have h7 : Below w3.heap.size w3 w7 := h6.grown g h6.size hg6
        have hl7 : (X.drop k ++ X.take k).length = 0 + (X.length - k) + k := by rw [List.length_append, List.length_drop, List.length_take]; omega
        have hC7 := C3.out.trans (h7.mono C3.out.size)
        have hs : SetLike w7 v7 (X.drop k ++ X.take k) := by
          refine ⟨w3.heap.size, ?_⟩
          rw [hl7, List.map_append]; simpa using o7
        have hLs7 : LsIs w7 v7 (X.drop k ++ X.take k) := hs.ls (fun x hx => by
          have hm : x ∈ X := by
            rcases List.mem_append.1 hx with h | h
            · exact List.mem_of_mem_drop h
            · exact List.mem_of_mem_take h
          exact (HL.out.2.1 x hm).on hC7) (by omega)
        refine (mgAll _ _ ad w7 ((HE.out.on B2.out).on hC7) hLs7 (by rw [r3]; omega)).mono ?_
        rintro e w' ⟨x, rfl, g1, g2⟩
        rw [r1, ovE_t]
        rw [r2] at g1
        exact ⟨_, rfl, x, rfl, g1.ents, h7.trans (g2.mono h7.size)⟩
      have HW5 : Hid ((w3.alloc (.cells #[] 29)).drew = W5) := hW5.symm
      have hW5s := B5.size
      clear p1 p2 p3 r1 r2 r3 hW5 B5 CW
      have hLm : (mkZ (flat X)).length ≤ 40 := Nat.le_trans (mkZ_len _) hN
      generalize mkZ (flat X) = L at *
      go_wp2_with fail
      go_region_law (first
        | (refine step_call1y (by rfl) 8 (.tmp 64) 24 (by rfl) (enters_of Tryd.func8 (by kernel_rfl) rfl) _ (by rfl) _ (F7.out _ _ _ _ g6.1 g6o hg7 o7) ?_; intro v8 w8 hR8; obtain ⟨x8, rfl, y8⟩ := hR8; have Y8 : Hid (EntsIs w8 x8 L ∧ Below w3.heap.size w3 w8) := y8; clear y8)
        | (refine step_append_own' _ (by rfl) (.tmp 60) (.tmp 63) 24 (by rfl) w3.heap.size 29 i0 (.slice none 0 0) 1 24 Tryd.underlying24 hi hz0 hz1 hz2 rfl (by decide) _ _ _ (by rfl) o6 ⟨b, o, none⟩ k cX _ (by rfl) D2.out g6.2.2 P4.out (by unfold maxLen; omega) (by omega) g6.2.1 ?_; intro v7 w7 o7 hg7; have g6o := (fun kk e => (o6.lt kk e).1 : ∀ kk, _ = some kk → w3.heap.size ≤ kk))
        | (rw [HW5.out]; refine step_append_own' W5 (by rfl) (.tmp 56) (.tmp 59) 24 (by rfl) w3.heap.size 29 i0 (.slice none 0 0) 1 24 Tryd.underlying24 hi hz0 hz1 hz2 rfl (by decide) _ 0 [] (by rfl) O5.out ⟨b, o + k, none⟩ (X.length - k) (cX - k) _ (by rfl) D1.out P1.out P3.out (by unfold maxLen; omega) (by omega) hW5s ?_; intro v6 w6 o6 hg6; have g6 := F6.out _ hg6))
      obtain ⟨a8, n8, c8, hx8⟩ : ∃ a8 n8 c8, x8 = .slice a8 n8 c8 := by obtain ⟨x, y, h⟩ := Y8.out.1.form; exact ⟨x, _, y, h⟩
      subst hx8
      have C8 : Hid (Below w2.heap.size w2 w8) := C3.out.trans (Y8.out.2.mono C3.out.size)
      have q9 := mgNew X _ w8 (HL.out.on C8.out) (by omega)
      have A8 : Hid (EntsIs w8 (.slice a3 L.length c3) L ∧ EntsIs w8 (.slice a8 n8 c8) L) := ⟨A3.out.on Y8.out.2, Y8.out.1⟩
      clear o6 o7 hg6 hg7 g6 g6o F6 F7 P1 P3 P4 D1 D2 O5 HW5 hW5s Y8 A3 hk bz bm hck hkle hkc hcap
      go_wp2_with fail
      refine q9.mono ?_
      rintro e w9 ⟨w0, hb, ab, cp, Y, rfl, hC, hw, _, hB0⟩
      have HB0 : Hid (Below w8.heap.size w8 w0) := hB0
      have O0 : Hid (OverAt ad w0) := ((HE.out.on B2.out).on C8.out).on hB0
      have hw0 : w0.heap.size ≤ w9.heap.size := hC.1.2.2.1.size
      have BF : Hid (∀ W, Below w0.heap.size w0 W → Below w.heap.size w W) := fun W hW => by
        have s1 := B2.out.size
        have s2 := C8.out.size
        have s3 := hB0.size
        exact ((B2.out.trans (C8.out.mono s1)).trans (hB0.mono (by omega))).trans (hW.mono (by omega))
      have QN : Hid (∀ W Y, CurIs w0 hb ab cp Y W → Calls Tryd.prog 10 #[.pointer (some ⟨hb, 0, none⟩)] W fun e w' => NextIs w0 hb ab cp Y W e w') := fun W Y h => mgNext w0 hb ab cp Y ad W O0.out h
      have q10 := QN.out w9 Y hC
      have M0 : Hid (∀ e w8, NextIs w0 hb ab cp Y w9 e w8 → ∃ b ar nr cr kk, e = .returned (.tuple #[.agg #[.slice ar nr cr, .int .i64 kk], .bool b]) ∧ OrdTo w0 hb ab cp w9.heap.size L 0 (.slice none 0 0) w8.heap.size b (w8.alloc (.cells #[.slice ar nr cr, .int .i64 kk] 39)) ∧ w9.heap.size ≤ (w8.alloc (.cells #[.slice ar nr cr, .int .i64 kk] 39)).heap.size) := fun e w10 hn => by
        obtain ⟨b, ar, nr, cr, kk, g1, g2, g3, g4, g5, g6⟩ := OrdMid.next (dv := .slice none 0 0) (base := w9.heap.size) (L := L) (j := 0) ⟨[], rfl, World.ownsRow_nil _ _ _ _, rfl, fun i h => by simp at h⟩ hC (by rw [wkZ_eq hw, HO.out.2]; rfl) (Nat.zero_le _) (Nat.le_refl _) hn
        exact ⟨b, ar, nr, cr, kk, g1, OrdTo.box (Nat.le_trans hw0 g6.size) (Nat.zero_le _) g2 g3 g4 g5, by have := g6.size; simp; omega⟩
      clear q9 hC hw hB0
      go_wp2_with fail
      refine q10.mono ?_
      rintro e w10 hn
      obtain ⟨b1, ar, nr, cr, kk, rfl, g, gs⟩ := M0.out _ _ hn
      have GS : Hid (w9.heap.size ≤ (w10.alloc (.cells #[.slice ar nr cr, .int .i64 kk] 39)).heap.size) := gs
      have G0 : Hid (OrdTo w0 hb ab cp w9.heap.size L 0 (.slice none 0 0) w10.heap.size b1 (w10.alloc (.cells #[.slice ar nr cr, .int .i64 kk] 39))) := g
      clear q10 M0 hn g gs
      go_wp2_with fail
      go_loopw [13, 14, 15] (fun s13 s14 s15 wr => ∃ (j : Nat) (B : Nat) (bb : Bool), s14 = .pointer (some ⟨B, 0, none⟩) ∧ s15 = .bool bb ∧ slLen s13 = j ∧ Hid (OrdTo w0 hb ab cp w9.heap.size L j s13 B bb wr ∧ w9.heap.size ≤ wr.heap.size)) (fun s13 _ _ _ => L.length - slLen s13)
      case atStart => exact ⟨0, _, _, rfl, rfl, rfl, G0.out, GS.out⟩
      case round =>
        clear G0 GS
        obtain ⟨j, B, bb, rfl, rfl, hsl, hT⟩ := hrel
        obtain ⟨hT', hbw⟩ := hT.out
        obtain ⟨⟨ds, d1, d2, d3⟩, t2, t3, ⟨Y1, y1, y2⟩, t5, t6, ar1, nr1, cr1, kk1, t7, t8⟩ := hT'
        obtain ⟨ad1, cd1, hdv⟩ := own_form d2
        subst hdv
        cases bb
        · obtain rfl := t6 rfl
          have EDD : EntsIs wr (.slice ad1 L.length cd1) L := ⟨ds, EntsAt.of_own (l := ds) (by rw [d1]; exact d2), by have := d3.reads; rwa [List.take_length] at this⟩
          have B0 := y1.1.2.2.1
          have S1 : Hid (∀ W, Below wr.heap.size wr W → Calls Tryd.prog 11 #[.slice a3 L.length c3, .slice a8 n8 c8] W fun e w' => e = .returned (.bool true) ∧ Below W.heap.size W w') := fun W hW => sameEnts L _ _ W (((A8.out.1.on HB0.out).on B0).on hW) (((A8.out.2.on HB0.out).on B0).on hW)
          have S2 : Hid (∀ W, Below wr.heap.size wr W → Calls Tryd.prog 11 #[.slice a3 L.length c3, .slice ad1 L.length cd1] W fun e w' => e = .returned (.bool true) ∧ Below W.heap.size W w') := fun W hW => sameEnts L _ _ W (((A8.out.1.on HB0.out).on B0).on hW) (EDD.on hW)
          have BW : Hid (Below w.heap.size w wr) := BF.out wr B0
          clear hT d2 d3 y1 y2 t2 t3 t5 t6 t7 t8 EDD B0
          go_wp2_with fail
          refine (S1.out wr (Below.refl _ _)).mono ?_
          rintro e w11 ⟨rfl, hb11⟩
          have q12 := S2.out w11 hb11
          have BW2 : Hid (Below w.heap.size w w11) := BW.out.trans (hb11.mono BW.out.size)
          clear hb11 S1 S2
          go_wp2_with fail
          refine q12.mono ?_
          rintro e w12 ⟨rfl, hb12⟩
          have BW3 : Hid (Below w.heap.size w w12) := BW2.out.trans (hb12.mono BW2.out.size)
          clear q12 hb12
          go_wp2_with fail
          go_ret
          exact ⟨rfl, BW3.out⟩
        · obtain ⟨hjl, e1, e2, o3⟩ := t8 rfl
          subst e2
          have z0 : wr.cell? ⟨B, 0, none⟩ = some (.slice ar1 L[j].1.length cr1) := by simp [World.cell?, t7]
          have z1 : wr.cell? ⟨B, 1, none⟩ = some (.int .i64 kk1) := by simp [World.cell?, t7]
          have MO : Hid (∀ v4 w4, w4.ownsRow w9.heap.size 39 2 v4 (j + 1) (es ds ++ ec (.slice ar1 L[j].1.length cr1, kk1)) → (wr.alloc (.cells #[.slice ar1 L[j].1.length cr1, .int .i64 kk1] 39)).grownBy w4 (Value.ownBlock (.slice ad1 j cd1)) → OrdMid w0 hb ab cp w9.heap.size L (j + 1) v4 w4 ∧ w4.heap[B]? = some (.cells #[.slice ar1 L[j].1.length cr1, .int .i64 kk1] 39 (0, 0))) := fun v4 w4 g1 g2 =>
            ord_more hjl d1 d2 d3 t2 y1 y2 t7 hw0 hbw o3 e1 g1 g2
          have OD : Hid (wr.ownsRow w9.heap.size 39 2 (.slice ad1 j cd1) j (es ds)) := d2
          have Ij : ¬ (L.length : Int) < (j : Int) + 1 := by omega
          clear hT d1 d2 d3 y1 y2 t2 t3 t5 t6 t7 t8 o3 e1
          generalize L[j].1.length = n1 at *
          go_wp2_with (first | (at_builtin; refine wpList_append_own _ rfl _ _ 29 rfl w9.heap.size 39 i1 (.agg #[.slice none 0 0, .int .i64 0]) 2 32 Tryd.underlying29 hi1 hy0 hy1 hy2 rfl (by decide) _ j (es ds) rfl (own_on OD.out one_box) ⟨wr.heap.size, 0, none⟩ 1 1 (ec (.slice ar1 n1 cr1, kk1)) rfl rfl (cell_two_new _ _ _ _) (by simp [ec, Value.oneCell']) (by unfold maxLen; omega) (by omega) (by simp; omega) ?_; intro v4 w4 hown4 hg4 _; obtain ⟨m1, m2⟩ := MO.out _ _ hown4 hg4; have M1 : Hid (OrdMid w0 hb ab cp w9.heap.size L (j + 1) v4 w4) := m1; obtain ⟨a4, c4, hv4⟩ := own_form hown4; subst hv4; have x0 : w4.cell? ⟨B, 0, none⟩ = some (.slice ar1 n1 cr1) := (by simp [World.cell?, m2]); have x1 : w4.cell? ⟨B, 1, none⟩ = some (.int .i64 kk1) := (by simp [World.cell?, m2]); clear hown4 hg4 MO m1 m2 z0 z1) | fail)
          obtain ⟨Y4, y4, n4⟩ := M1.out.boxed (x := .slice ar1 n1 cr1) (y := .int .i64 kk1) hw0
          have q13 := QN.out _ Y4 y4
          have N4 : Hid (∀ e w8, NextIs w0 hb ab cp Y4 (w4.alloc (.cells #[.slice ar1 n1 cr1, .int .i64 kk1] 39)) e w8 → ∃ b ar nr cr kk, e = .returned (.tuple #[.agg #[.slice ar nr cr, .int .i64 kk], .bool b]) ∧ w8.cell? ⟨w4.heap.size, 0, none⟩ = some (.slice ar1 n1 cr1) ∧ w8.cell? ⟨w4.heap.size, 1, none⟩ = some (.int .i64 kk1) ∧ w8.frozen? ⟨w4.heap.size, 0, none⟩ = false ∧ w8.frozen? ⟨w4.heap.size, 1, none⟩ = false ∧ OrdTo w0 hb ab cp w9.heap.size L (j + 1) (.slice a4 (j + 1) c4) w4.heap.size b ((w8.setCell ⟨w4.heap.size, 0, none⟩ (.slice ar nr cr)).setCell ⟨w4.heap.size, 1, none⟩ (.int .i64 kk)) ∧ w9.heap.size ≤ ((w8.setCell ⟨w4.heap.size, 0, none⟩ (.slice ar nr cr)).setCell ⟨w4.heap.size, 1, none⟩ (.int .i64 kk)).heap.size) := n4
          clear M1 y4 n4
          refine q13.mono ?_
          rintro e w14 hn
          obtain ⟨b5, ar5, nr5, cr5, kk5, rfl, z0, z1, f0, f1, g5, g6⟩ := N4.out _ _ hn
          have G5 : Hid (OrdTo w0 hb ab cp w9.heap.size L (j + 1) (.slice a4 (j + 1) c4) w4.heap.size b5 ((w14.setCell ⟨w4.heap.size, 0, none⟩ (.slice ar5 nr5 cr5)).setCell ⟨w4.heap.size, 1, none⟩ (.int .i64 kk5)) ∧ w9.heap.size ≤ ((w14.setCell ⟨w4.heap.size, 0, none⟩ (.slice ar5 nr5 cr5)).setCell ⟨w4.heap.size, 1, none⟩ (.int .i64 kk5)).heap.size) := ⟨g5, g6⟩
          clear q13 N4 hn g5 g6 x0 x1
          go_wp2_with fail
          go_roundw
          case rel => exact ⟨j + 1, _, b5, rfl, rfl, rfl, G5.out⟩
          case measure => simp [slLen]; omega
end Go.Proofs.YtanfjnhpdchbbabDoor
