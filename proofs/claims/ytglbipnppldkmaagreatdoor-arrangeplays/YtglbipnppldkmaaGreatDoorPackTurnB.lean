/- Texts of one claim, one behind the other. -/
import Derived.Test.YtglbipnppldkmaaGreatDoorPackBatchB
import Derived.Test.YtglbipnppldkmaaGreatDoorPackHeldB
/- What a merge's add answers: an entry more is counted in. -/
namespace Go.Proofs.YtglbipnppldkmaaGreatDoor
open Go.RowKit Go.Sort
set_option maxRecDepth 100000
/-- What becomes of a sum. -/
def AddIs (S : List Ent) (e : Ent) (S' : List Ent) : Prop :=
  ((∀ f ∈ S, f.1 ≠ e.1) ∧ S' = S ++ [e]) ∨ ∃ S0 f, S = S0 ++ [f] ∧ f.1 = e.1 ∧ ((wrap64 (f.2 + e.2) ≠ 0 ∧ S' = S0 ++ [(f.1, wrap64 (f.2 + e.2))]) ∨ (wrap64 (f.2 + e.2) = 0 ∧ S' = S0))
theorem MgSum.add {T S S' Q Q' : List Ent} {e : Ent} (h : MgSum T S Q) (ho : OneLess Q Q' e) (ha : AddIs S e S') : MgSum T S' Q' := by
  rcases ha with ⟨h1, rfl⟩ | ⟨S0, f, rfl, h2, ⟨h3, rfl⟩ | ⟨h3, rfl⟩⟩
  · exact h.app ho h1
  · exact h.more ho h2 rfl h3
  · exact h.gone ho h2 h3
/-- The cells of a merge. -/
theorem QAt.mg {mb many ab cap : Nat} {sv : Value} {vs : List Value} {w : World} (h : QAt mb (mgH many sv) ab cap vs w) : w.heap[mb]? = some (.cells #[.int .i64 many, .slice (some ⟨ab, 0, none⟩) vs.length cap, sv] 140 (0, 0)) := h.1
theorem QIs.side {R : World} {mb many ab cap : Nat} {sv : Value} {X : List QEnt} {w : World} (h : QIs R mb (mgH many sv) ab cap X w) (u : Value) : QIs R mb (mgH many u) ab cap X (w.setCell ⟨mb, 2, none⟩ u) := by
  refine ⟨⟨?_, own_same h.1.2.1 (fun k e => ?_), h.1.2.2⟩, h.2.1, h.2.2.1.set h.2.2.2.1 _, h.2.2.2⟩
  · rw [heap_set_at h.1.mg]; rfl
  · cases e; exact Below.heap_setCell _ _ _ _ (fun e => h.1.ne e.symm)
theorem MgAt.on {R : World} {mb ab cap many : Nat} {sv : Value} {us : List VEnt} {S : List Ent} {Y : List QEnt} {w w' : World} (h : MgAt R mb ab cap many sv us S Y w) (hB : Below w.heap.size w w') : MgAt R mb ab cap many sv us S Y w' :=
  ⟨h.1.on hB, h.2.1, own_on h.2.2.1 hB, h.2.2.2⟩
theorem MgAt.far {R : World} {mb ab cap many : Nat} {sv : Value} {us : List VEnt} {S : List Ent} {Y : List QEnt} {w : World} (h : MgAt R mb ab cap many sv us S Y w) : sv.ownBlock ≠ some mb ∧ sv.ownBlock ≠ some ab :=
  h.1.1.ne_own h.2.2.1 (show 37 ≠ 140 by decide) (by decide)
/-- The blocks that a merge's add changes. -/
def AddF (mb : Nat) (sv : Value) (k : Nat) : Prop := k = mb ∨ sv.ownBlock = some k
/-- Where add ends. -/
def AddTo (R : World) (mb ab cap many : Nat) (sv : Value) (S : List Ent) (e : Ent) (Y : List QEnt) (w w' : World) : Prop :=
  ∃ sv' us' S', MgAt R mb ab cap many sv' us' S' Y w' ∧ AddIs S e S' ∧ Chg (AddF mb sv) w w' ∧ ∀ k, sv'.ownBlock = some k → sv.ownBlock = some k ∨ w.heap.size ≤ k
/-- An append, and the merge's cell. -/
theorem MgAt.app {R : World} {mb ab cap many : Nat} {sv : Value} {us : List VEnt} {S : List Ent} {Y : List QEnt} {w W w1 : World} {vr sv' : Value} {e : Ent} (h : MgAt R mb ab cap many sv us S Y w) (hW : Below w.heap.size w W) (hr : RowIs R vr e.1) (hn : ∀ f ∈ S, f.1 ≠ e.1)
    (g1 : w1.ownsRow 0 37 2 sv' (us.length + 1) (es us ++ ec (vr, e.2))) (g2 : W.grownBy w1 sv.ownBlock) (g3 : sv'.ownBlock = sv.ownBlock ∨ ∃ k, sv'.ownBlock = some k ∧ w.heap.size ≤ k) :
    w1.cell? ⟨mb, 2, none⟩ = some sv ∧ w1.frozen? ⟨mb, 2, none⟩ = false ∧ AddTo R mb ab cap many sv S e Y w (w1.setCell ⟨mb, 2, none⟩ sv') := by
  have hf := h.far
  have hq : QIs R mb (mgH many sv) ab cap Y w1 := (h.1.on hW).grown g2 hf.1 hf.2 h.2.2.2.2
  have hb := hq.1.mg
  refine ⟨by simp [World.cell?, hb], by simp [World.frozen?, hb], sv', us ++ [(vr, e.2)], S ++ [e], ⟨hq.side sv', h.2.1, ?_, h.2.2.2.1.snoc hr e.2, fun k ek => ?_⟩, .inl ⟨hn, rfl⟩, ?_, fun k ek => ?_⟩
  · rw [List.length_append, es_snoc]
    refine own_same g1 (fun k ek => Below.heap_setCell _ _ _ _ (fun e' => ?_))
    subst e'
    obtain ⟨c, hc⟩ := own_blk g1 ek
    exact blk_ne hb hc (by decide) rfl
  · rcases g3 with g3 | ⟨k', hk', hle⟩
    · rw [g3] at ek; exact h.2.2.2.2 k ek
    · rw [hk'] at ek; cases ek; exact free_le (Nat.le_trans h.1.2.2.1.1 hle)
  · exact ((Chg.of_below hW).trans' (Chg.grown g2 (fun k ek => .inr ek))).trans' (Chg.set sv' (.inl rfl))
  · rcases g3 with g3 | ⟨k', hk', hle⟩
    · rw [g3] at ek; exact .inl ek
    · rw [hk'] at ek; cases ek; exact .inr hle
theorem es_set (us : List VEnt) (x : Value) (k n : Int) : (es (us ++ [(x, k)])).set (us.length * 2 + 1) (.int .i64 n) = es (us ++ [(x, n)]) := by
  rw [es_snoc, es_snoc, List.set_append_right _ _ (by rw [es_len]; omega), es_len]
  congr 1
  rw [show us.length * 2 + 1 - us.length * 2 = 1 by omega]; rfl
theorem Reads.last {w : World} {us : List VEnt} {x : Value} {k n : Int} {S : List Ent} {f : Ent} (h : Reads w (us ++ [(x, k)]) (S ++ [f])) : Reads w us S ∧ RowIs w x f.1 ∧ k = f.2 ∧ Reads w (us ++ [(x, n)]) (S ++ [(f.1, n)]) := by
  have hl : us.length = S.length := by have := h.1; simp at this; exact this
  have h1 : Reads w us S := by
    have := h.take us.length
    rw [List.take_left, hl, List.take_left] at this; exact this
  have h2 := h.2 us.length (by simp) (by simp; omega)
  rw [List.getElem_append_right (Nat.le_refl _), List.getElem_append_right (by omega)] at h2
  simp only [hl, Nat.sub_self, List.getElem_singleton] at h2
  exact ⟨h1, h2.1, h2.2, h1.snoc h2.1 n⟩
/-- The last weight is set. -/
theorem MgAt.wgt {R : World} {mb ab cap many g c : Nat} {us : List VEnt} {x : Value} {k n : Int} {S : List Ent} {f : Ent} {Y : List QEnt} {w : World} (h : MgAt R mb ab cap many (.slice (some ⟨g, 0, none⟩) (us.length + 1) c) (us ++ [(x, k)]) (S ++ [f]) Y w) :
    MgAt R mb ab cap many (.slice (some ⟨g, 0, none⟩) (us.length + 1) c) (us ++ [(x, n)]) (S ++ [(f.1, n)]) Y (w.setCell ⟨g, us.length * 2 + 1, none⟩ (.int .i64 n)) := by
  have hf := h.far
  have hm : mb ≠ g := fun e => hf.1 (by rw [e]; rfl)
  have ha : ab ≠ g := fun e => hf.2 (by rw [e]; rfl)
  have ho := h.2.2.1
  rw [List.length_append, List.length_singleton] at ho
  obtain ⟨o1, _⟩ := ho.stored (us.length * 2 + 1) (.int .i64 n)
  refine ⟨h.1.same (Below.heap_setCell _ _ _ _ hm) (Below.heap_setCell _ _ _ _ ha) (h.1.2.2.1.set (h.2.2.2.2 g rfl) _), h.2.1, ?_, (h.2.2.2.1.last (n := n)).2.2.2, h.2.2.2.2⟩
  rw [es_set] at o1
  rw [List.length_append, List.length_singleton]
  exact o1
/-- The last one is left out. -/
theorem MgAt.cut {R : World} {mb ab cap many g c : Nat} {us : List VEnt} {x : Value} {k : Int} {S : List Ent} {f : Ent} {Y : List QEnt} {w : World} (h : MgAt R mb ab cap many (.slice (some ⟨g, 0, none⟩) (us.length + 1) c) (us ++ [(x, k)]) (S ++ [f]) Y w) :
    MgAt R mb ab cap many (.slice (some ⟨g, 0, none⟩) us.length c) us S Y (w.setCell ⟨mb, 2, none⟩ (.slice (some ⟨g, 0, none⟩) us.length c)) := by
  have hf := h.far
  have hm : mb ≠ g := fun e => hf.1 (by rw [e]; rfl)
  refine ⟨h.1.side _, h.2.1, ?_, (h.2.2.2.1.last (n := 0)).1, h.2.2.2.2⟩
  have ho := h.2.2.1
  rcases ho.2 with ⟨e, _⟩ | ⟨g', cp, cur, e, _, h2, h3, h4, h5, h6⟩
  · cases e
  · simp only [Value.slice.injEq, Option.some.injEq, Addr.mk.injEq, and_true] at e
    obtain ⟨rfl, _, rfl⟩ := e
    rw [List.length_append, List.length_singleton] at h3 h6
    refine ⟨es_len _, .inr ⟨g, c, cur, rfl, Nat.zero_le _, ?_, by omega, h4, h5, ?_⟩⟩
    · rw [Below.heap_setCell _ _ _ _ (fun e => hm e.symm)]; exact h2
    · have e1 : List.take (us.length * 2) cur.toList = List.take (us.length * 2) (List.take ((us.length + 1) * 2) cur.toList) := by rw [List.take_take]; congr 1; omega
      rw [e1, h6, es_snoc, List.take_append_of_le_length (by rw [es_len]; omega)]
      exact List.take_of_length_le (by rw [es_len]; omega)
end Go.Proofs.YtglbipnppldkmaaGreatDoor
/- A merge begins, a merge ends: what becomes of a spine. -/
namespace Go.Proofs.YtglbipnppldkmaaGreatDoor
open Go.RowKit Go.Sort
set_option maxRecDepth 100000
theorem step_call2e {P : Program} {ops : Array Oper} {o : Oper} {a : Act} {w : World} {K : Act → World → Prop} {Q : Exit → Act → World → Prop} {E : Prop} (hw : Region.wanted o (yielded ops a.tmps) = true)
    (f : FuncId) (x y : Operand) (t u : TypeId) (ho : o.op = .call { callee := .value (.func f), args := #[x, y], argTypes := #[t, u] }) (he : ∀ args w, (callFunc f args).run P w = .ok (.enter f args) w)
    (vx vy : Value) (hx : a.eval x = vx) (hy : a.eval y = vy) (R : Value → World → Prop) (hc : Calls P f #[vx, vy] w fun e w' => ∃ r, e = .returned r ∧ R r w') (h : ∀ r w', R r w' → K (a.put o.dst r) w') :
    if Region.wanted o (yielded ops a.tmps) = true then Oper.wp P o a w K Q else E := by
  rw [if_pos hw]
  subst hx hy
  have e0 : a.eval (.func f) = .func (.func f) #[] #[] := rfl
  unfold Oper.wp
  simp [execOp, ho, resolve, invoke, e0, Deferred.ofValue, he, Oper.upon]
  exact hc.mono fun e w' ⟨r, h1, h2⟩ => by subst h1; exact h r w' h2
/-- Where begin ends. -/
def BegIs (F : Nat → Prop) (sb : Sb) (A : List Ent) (n m : Nat) (w w' : World) : Prop := ∃ mb, SpX (Grow F w w') sb A n m (some (mb, n, m)) w' ∧ Chg F w w'
theorem SpX.begun {F : Nat → Prop} {sb : Sb} {A : List Ent} {n m : Nat} {R : World} {bv pv v : Value} {X : List QEnt} {w w0 w1 : World}
    (h1 : SpAt R sb bv pv X w) (h2 : Foot R F sb bv w) (h3 : X.length = n) (h4 : (flat X).length = m) (h5 : okZ (flat X) = true) (h6 : mkZ (flat X) = A) (hn : 1 ≤ n) (b0 : Below w.heap.size w w0) (hq : QueIs X w0 v w1) (o : Obj) (ho : o = .cells #[.int .i64 n, v, .slice none 0 0] 140) :
    (w1.alloc o).cell? ⟨sb.b, 2, none⟩ = some pv ∧ (w1.alloc o).frozen? ⟨sb.b, 2, none⟩ = false ∧ BegIs F sb A n m w ((w1.alloc o).setCell ⟨sb.b, 2, none⟩ (.pointer (some ⟨w1.heap.size, 0, none⟩))) := by
  subst ho
  obtain ⟨Y, ab, cap, rfl, y1, y2, y3, y4, y5, y6⟩ := hq
  have hab := (y5.lt ab rfl).1
  have hab2 := (y5.lt ab rfl).2
  have s0 := b0.size
  have s1 := y6.size
  have bW : Below w.heap.size w (w1.alloc (.cells #[.int .i64 n, .slice (some ⟨ab, 0, none⟩) Y.length cap, .slice none 0 0] 140)) := (b0.trans (y6.mono s0)).trans (one_box.mono (by omega))
  obtain ⟨W, hW⟩ : ∃ W, W = w1.alloc (.cells #[.int .i64 n, .slice (some ⟨ab, 0, none⟩) Y.length cap, .slice none 0 0] 140) := ⟨_, rfl⟩
  rw [← hW] at bW ⊢
  have hWs : W.heap.size = w1.heap.size + 1 := by rw [hW]; simp
  have hsb := h2.2.1 sb.b h2.2.2.1
  have hb : W.heap[sb.b]? = some (.cells #[sb.cv, bv, pv] 67 (0, 0)) := by rw [bW.block sb.b hsb]; exact h1.1
  have hm : W.heap[w1.heap.size]? = some (.cells #[.int .i64 n, .slice (some ⟨ab, 0, none⟩) Y.length cap, .slice none 0 0] 140 (0, 0)) := by rw [hW]; exact heap_alloc_new w1 _
  have hRs : R.heap.size ≤ w.heap.size := h1.2.2.2.1.1
  obtain ⟨w5, hw⟩ : ∃ w5, w5 = W.setCell ⟨sb.b, 2, none⟩ (.pointer (some ⟨w1.heap.size, 0, none⟩)) := ⟨_, rfl⟩
  have hw5 : w5.heap.size = W.heap.size := by rw [hw]; simp [World.setCell]
  have hS5 : Sees R w5 := by rw [hw]; exact (h1.2.2.2.1.on bW).set h1.2.2.2.2.1 _
  have hc5 : Chg F w w5 := by rw [hw]; exact (Chg.of_below bW).trans' (Chg.set _ h2.2.2.1)
  obtain ⟨f1, f2, f3⟩ := que_flat y1
  refine ⟨by simp [World.cell?, hb], by simp [World.frozen?, hb], w1.heap.size, ?_, by rw [← hw]; exact hc5⟩
  rw [← hw]
  refine ⟨R, bv, .pointer (some ⟨w1.heap.size, 0, none⟩), X, ⟨?_, ?_, h1.2.2.1, hS5, h1.2.2.2.2⟩, ⟨fun k hk => .inl (h2.1 k hk), fun k hk => ?_, .inl h2.2.2.1, fun k e => .inl (h2.2.2.2 k e)⟩, h3, h4, h5, h6, ?_⟩
  · rw [hw, heap_set_at hb]; rfl
  · refine own_same h1.2.1 (fun k e => ?_)
    have := h2.2.1 k (h2.2.2.2 k e)
    rw [hw, Below.heap_setCell _ _ _ _ (fun e' => by obtain ⟨c, hc⟩ := own_blk h1.2.1 e; exact blk_ne h1.1 hc (by decide) e'.symm), bW.block k this]
  · rcases hk with hk | hk
    · have := h2.2.1 k hk; omega
    · exact hk.2
  · have q1 : QAt w1.heap.size (mgH n (.slice none 0 0)) ab cap (Y.map (·.1)) w5 := by
      refine ⟨?_, ?_, show 140 ≠ 29 by decide, show 1 < 3 by decide⟩
      · rw [hw, Below.heap_setCell _ _ _ _ (show w1.heap.size ≠ sb.b by omega), hm, List.length_map]; rfl
      · rw [List.length_map]
        refine own_same (own_mono y5 (Nat.zero_le _)) (fun k e => ?_)
        cases e
        rw [hw, Below.heap_setCell _ _ _ _ (show ab ≠ sb.b by omega), hW]; exact one_box.block ab hab2
    have hmem : ∀ x ∈ Y, x ∈ X := fun x hx => (List.mem_filter.1 (y1.mem_iff.1 hx)).1
    have ht : X.take n = X := by rw [← h3, List.take_length]
    refine ⟨ab, cap, .slice none 0 0, [], [], Y, rfl, ⟨⟨q1, fun x hx => (h1.2.2.1 x (hmem x hx)).1, hS5, free_le (by omega), free_le (by omega), y4⟩, y2, World.ownsRow_nil _ _ _ _, Reads.nil _, fun k e => (by cases e)⟩, .inr ⟨by omega, by omega⟩, .inr ⟨by omega, by omega⟩, fun k e => (by cases e), fun e => ?_, ?_, by rw [f2]; exact h4, hn, by omega, fun r => ?_⟩
    · have := h2.2.1 ab (h2.2.2.2 ab e); omega
    · rw [ht]
      refine MgSum.start (fun f hf => ?_) (fun f hf => ?_) f1 f2
      · obtain ⟨x, hx, hfx⟩ := mem_flat.1 ((f3 f).1 hf)
        exact (h1.2.2.1 x hx).2 f hfx
      · obtain ⟨x, hx, hfx⟩ := mem_flat.1 ((f3 f).1 hf)
        exact (h1.2.2.1 x hx).1.2.2.2.1 f hfx
    · rw [ht]; exact (okZ_iff _).1 h5 r
/-- Where put of none ends. -/
def PutN (w : World) (s : List Value) (v' : Value) (w' : World) : Prop := w'.ownsRow 0 29 1 v' s.length s ∧ w.grownBy w' none ∧ ∀ k, v'.ownBlock = some k → w.heap.size ≤ k
theorem spPutN (az : Option Addr) (nz cz : Nat) (w : World) (s : List Value) (hs : s = if nz = 0 then [] else [.slice az nz cz]) :
    Calls Tryz.prog 57 #[.slice none 0 0, .slice az nz cz] w fun e w' => ∃ v', e = .returned v' ∧ PutN w s v' w' := by
  by_cases h0 : nz = 0
  · subst h0
    rw [if_pos rfl] at hs
    subst hs
    refine (spPut0 none az 0 0 cz w).mono ?_
    rintro e w' ⟨rfl, rfl⟩
    exact ⟨_, rfl, World.ownsRow_nil _ _ _ _, ⟨rfl, rfl, rfl, Nat.le_refl _, fun _ _ _ => rfl⟩, fun k e => (by cases e)⟩
  · rw [if_neg h0] at hs
    subst hs
    refine (spPut1 (.slice none 0 0) [] az nz cz w (World.ownsRow_nil _ _ _ _) (by omega) (by simp)).mono ?_
    rintro e w' ⟨v', rfl, p1, p2, p3⟩
    refine ⟨v', rfl, p1, p2, fun k e => ?_⟩
    rcases p3 with p3 | ⟨k', hk', hle⟩
    · rw [p3] at e; cases e
    · rw [hk'] at e; cases e; exact hle
/-- Where end ends. -/
def EndIs (F : Nat → Prop) (sb : Sb) (A : List Ent) (n m many : Nat) (w w' : World) : Prop := ∃ n' m', SpX (Grow F w w') sb A n' m' none w' ∧ Chg F w w' ∧ n' + many ≤ n + 1 ∧ m' ≤ m
theorem SpX.ended {F : Nat → Prop} {sb : Sb} {A : List Ent} {n m mb many ab cap : Nat} {R : World} {bv sv v2 : Value} {us : List VEnt} {S : List Ent} {X : List QEnt} {w w4 : World} {s : List Value}
    (h1 : SpAt R sb bv (.pointer (some ⟨mb, 0, none⟩)) X w) (h2 : Foot R F sb bv w) (h3 : X.length = n) (h4 : (flat X).length = m) (h5 : okZ (flat X) = true) (h6 : mkZ (flat X) = A)
    (g2 : MgAt R mb ab cap many sv us S [] w) (g5 : ∀ k, sv.ownBlock = some k → F k) (g7 : MgSum (flat (X.take many)) S []) (g9 : 1 ≤ many) (g10 : many ≤ X.length) (g11 : ∀ r, inI (wt r (flat (X.take many))) = true)
    (hm : m ≤ 30000) (hs : s = if us.length = 0 then [] else [sv]) (ho : w4.ownsRow 0 29 1 v2 (s.length + (n - many)) (s ++ (X.drop many).map (·.1))) (hB : Below w.heap.size w w4) (hv : ∀ k, v2.ownBlock = some k → w.heap.size ≤ k) :
    EndIs F sb A n m many w ((w4.setCell ⟨sb.b, 1, none⟩ v2).setCell ⟨sb.b, 2, none⟩ (.pointer none)) := by
  obtain ⟨w5, hw⟩ : ∃ w5, w5 = (w4.setCell ⟨sb.b, 1, none⟩ v2).setCell ⟨sb.b, 2, none⟩ (.pointer none) := ⟨_, rfl⟩
  have hsb := h2.2.1 sb.b h2.2.2.1
  have hb4 : w4.heap[sb.b]? = some (.cells #[sb.cv, bv, .pointer (some ⟨mb, 0, none⟩)] 67 (0, 0)) := by rw [hB.block sb.b hsb]; exact h1.1
  have hb5 : w5.heap[sb.b]? = some (.cells #[sb.cv, v2, .pointer none] 67 (0, 0)) := by rw [hw, heap_set_at (heap_set_at hb4)]; rfl
  have hw5 : w5.heap.size = w4.heap.size := by rw [hw]; simp [World.setCell]
  have hk5 : ∀ k, k ≠ sb.b → w5.heap[k]? = w4.heap[k]? := fun k hk => by rw [hw, Below.heap_setCell _ _ _ _ hk, Below.heap_setCell _ _ _ _ hk]
  have hS5 : Sees R w5 := by rw [hw]; exact ((h1.2.2.2.1.on hB).set h1.2.2.2.2.1 _).set h1.2.2.2.2.1 _
  have hc5 : Chg F w w5 := by rw [hw]; exact ((Chg.of_below hB).trans' (Chg.set _ h2.2.2.1)).trans' (Chg.set _ h2.2.2.1)
  have s04 := hB.size
  have hsvsb : sv.ownBlock ≠ some sb.b := fun e => by obtain ⟨c, hc⟩ := own_blk g2.2.2.1 e; exact blk_ne h1.1 hc (by decide) rfl
  obtain ⟨Q, hQ⟩ : ∃ Q : Nat → Bool, Q = fun k => decide (sv.ownBlock = some k) := ⟨_, rfl⟩
  have hRR : Sees R (joinW R w5 Q) := joinW_up hS5
  have hsv5 : ∀ k, sv.ownBlock = some k → w5.heap[k]? = w.heap[k]? := fun k e => by
    rw [hk5 k (fun e' => hsvsb (by rw [← e']; exact e)), hB.block k (h2.2.1 k (g5 k e))]
  have hEnt : EntsIs (joinW R w5 Q) sv S := ⟨us, EntsAt.of_own (base := 0) (own_same g2.2.2.1 (fun k e => by rw [joinW_heap (by rw [hQ]; simpa using e)]; exact hsv5 k e)), g2.2.2.2.1.sees hRR⟩
  have hfin := g7.fin g11
  have hlen : S.length ≤ (flat (X.take many)).length := by have := g7.2.2.2.2.2.2; simp at this; exact this
  have hfl : (flat (X.take many)).length + (flat (X.drop many)).length = m := by
    rw [← h4]; conv => rhs; rw [← List.take_append_drop many X]
    rw [flat_app, List.length_append]
  have hul : us.length = S.length := g2.2.2.2.1.1
  obtain ⟨P, hP⟩ : ∃ P : List QEnt, P = if S = [] then [] else [(sv, S)] := ⟨_, rfl⟩
  have hPs : s = P.map (·.1) := by
    rw [hs, hP]
    by_cases h0 : S = []
    · rw [if_pos h0, if_pos (by rw [hul, h0]; rfl)]; rfl
    · rw [if_neg h0, if_neg (by rw [hul]; exact fun e => h0 (List.eq_nil_of_length_eq_zero e))]; rfl
  have hPf : flat P = S := by
    rw [hP]
    by_cases h0 : S = []
    · rw [if_pos h0, h0]; rfl
    · rw [if_neg h0]; simp [flat]
  have hPl : P.length ≤ 1 := by rw [hP]; split <;> simp
  have hwt : ∀ r, wt r (flat (P ++ X.drop many)) = wt r (flat X) := fun r => by
    rw [flat_app, wt_append, hPf, hfin r]
    conv => rhs; rw [← List.take_append_drop many X, flat_app, wt_append]
  obtain ⟨z1, z2⟩ := z_congr hwt
  have hXl := h1.2.2.2.2.2.2
  refine ⟨(P ++ X.drop many).length, (flat (P ++ X.drop many)).length, ?_, by rw [← hw]; exact hc5, by simp; omega, by rw [flat_app, List.length_append, hPf]; omega⟩
  rw [← hw]
  refine ⟨joinW R w5 Q, v2, .pointer none, P ++ X.drop many, ⟨hb5, ?_, fun x hx => ?_, joinW_sees hS5, joinW_free hS5 h1.2.2.2.2.1 (by rw [hQ]; simpa using hsvsb), fun k e => ?_, by simp; omega⟩, ⟨fun k hk => ?_, fun k hk => ?_, .inl h2.2.2.1, fun k e => ?_⟩, rfl, rfl, by rw [z1]; exact h5, by rw [z2]; exact h6, rfl⟩
  · rw [List.map_append, ← hPs, List.length_append, List.length_drop, h3, show P.length = s.length by rw [hPs, List.length_map]]
    refine own_same ho (fun k e => hk5 k (fun e' => ?_))
    have := hv k e; omega
  · rcases List.mem_append.1 hx with hx | hx
    · rw [hP] at hx
      split at hx
      · cases hx
      · rename_i h0
        simp at hx; subst hx
        exact ⟨⟨hEnt, h0, g7.1.1, g7.2.1, by show S.length ≤ 65536; omega⟩, g7.1.2⟩
    · have := h1.2.2.1 x (List.mem_of_mem_drop hx)
      exact ⟨this.1.sees hRR, this.2⟩
  · have hle := hv k e
    exact joinW_free hS5 (free_le (Nat.le_trans h1.2.2.2.1.1 hle)) (by rw [hQ]; simp; intro e'; have := h2.2.1 k (g5 k e'); omega)
  · rcases joinW_not hS5 hk with hk | hk
    · exact .inl (h2.1 k hk)
    · rw [hQ] at hk; simp at hk; exact .inl (g5 k hk)
  · rcases hk with hk | hk
    · have := h2.2.1 k hk; omega
    · exact hk.2
  · exact .inr ⟨hv k e, by rw [hw5]; exact (ho.lt k e).2⟩
end Go.Proofs.YtglbipnppldkmaaGreatDoor
/- What a spine's begin and end answer. -/
namespace Go.Proofs.YtglbipnppldkmaaGreatDoor
open Go.RowKit Go.Sort
set_option maxRecDepth 100000
set_option maxHeartbeats 1000000 in
theorem spBegin (F : Nat → Prop) (sb : Sb) (A : List Ent) (n m : Nat) (st : Option (Nat × Nat × Nat)) (f : Int) (w : World) (h : SpX F sb A n m st w) (hn : 1 ≤ n) :
    Calls Tryz.prog 86 #[.pointer (some ⟨sb.b, 1, none⟩), .int .i64 f] w fun e w' => e = .returned (.int .i64 0) ∧ BegIs F sb A n m w w' := by
  obtain ⟨R, bv, pv, X, h1, h2, h3, h4, h5, h6, h7⟩ := h
  have c0 := h1.c0
  have c1 := h1.c1
  obtain ⟨b0, cb, e0⟩ := h1.ls.form
  rw [h3] at e0
  have HQ : Hid (∀ w', Below w.heap.size w w' → Calls Tryz.prog 88 #[bv] w' fun e w'' => ∃ v, e = .returned (.agg #[v]) ∧ QueIs X w' v w'') := fun w' hB => mgQueueOf X bv w' (h1.ls.on hB)
  have HC : Hid (∀ w', Below w.heap.size w w' → w'.cell? ⟨sb.b, 1, none⟩ = some bv) := fun w' hB => cell_on c0 hB
  have HF : Hid (∀ v w0 w1, Below w.heap.size w w0 → QueIs X w0 v w1 → (w1.alloc (.cells #[.int .i64 n, v, .slice none 0 0] 140)).cell? ⟨sb.b, 2, none⟩ = some pv ∧ (w1.alloc (.cells #[.int .i64 n, v, .slice none 0 0] 140)).frozen? ⟨sb.b, 2, none⟩ = false ∧ BegIs F sb A n m w ((w1.alloc (.cells #[.int .i64 n, v, .slice none 0 0] 140)).setCell ⟨sb.b, 2, none⟩ (.pointer (some ⟨w1.heap.size, 0, none⟩)))) := fun v w0 w1 hB hq => SpX.begun h1 h2 h3 h4 h5 h6 hn hB hq _ rfl
  clear h1 h2 h3 h4 h5 h6 h7 hn
  subst e0
  go_enter Tryz.func86, Tryz.ntmps86
  go_wp2_with fail
  go_region_with (go_at_call 88; refine (HQ.out _ ((Below.refl _ _).drew)).mono ?_; rintro e w7 ⟨v7, rfl, g7⟩; obtain ⟨c3, c4, c5⟩ := HF.out v7 _ w7 ((Below.refl _ _).drew) g7; have C0 := HC.out w7 (((Below.refl _ _).drew).trans (by obtain ⟨_, _, _, _, _, _, _, _, _, hB⟩ := g7; exact hB)); obtain ⟨a7, n7, c7, rfl⟩ : ∃ a n c, v7 = .slice a n c := (by obtain ⟨Y, ab, cap, e, _⟩ := g7; exact ⟨_, _, _, e⟩); have C5 : Hid _ := c5; clear g7 c5)
  all_goals (go_wp2_with fail; go_ret; exact ⟨rfl, C5.out⟩)
end Go.Proofs.YtglbipnppldkmaaGreatDoor
