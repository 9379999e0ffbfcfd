/- Texts of one claim, one behind the other. -/
import Derived.Test.YtglbipnppldkmaaGreatDoorStepCallB
import Derived.Maps.AppendAt
import Derived.Test.YtglbipnppldkmaaGreatDoorSpReadB
import Derived.Test.YtglbipnppldkmaaGreatDoorZCombB
/- An append to what the call owns, and where the new list lies: as one step of a region that draws its order. -/
namespace Go.Proofs.YtglbipnppldkmaaGreatDoor
open Go.RowKit
set_option maxRecDepth 100000
theorem step_append_at {P : Program} (w : World) {ops : Array Oper} {o : Oper} {a : Act} {K : Act → World → Prop} {Q : Exit → Act → World → Prop} {E : Prop} (hw : Region.wanted o (yielded ops a.tmps) = true) (s x : Operand) (t : TypeId)
    (ho : o.op = .call { callee := .builtin .append, args := #[s, x], argTypes := #[t, t] })
    (base : Nat) (e : TypeId) (i : TypeInfo) (z : Value) (size bytes : Nat) (ht : P.underlying t = some (.slice e)) (hi : P.info? e = some i) (hz : i.zero = some z)
    (hsize : i.size = size) (hby : i.bytes = bytes) (hzs : z.cells.size = size) (hsz : 0 < size)
    (v : Value) (n : Nat) (xs : List Value) (hs : a.eval s = v) (hown : w.ownsRow base e size v n xs)
    (ad : Addr) (m c : Nat) (news : List Value) (hx : a.eval x = .slice (some ad) m c) (hl : news.length = m * size) (hnews : ∀ j u, news[j]? = some u → w.cell? (ad.add j) = some u) (h1 : ∀ u ∈ news, u.oneCell' = true)
    (h63 : n + m ≤ maxLen) (hbytes : (n + m) * bytes ≤ 140737488355328) (hbase : base ≤ w.heap.size)
    (h : ∀ v' w', w'.ownsRow base e size v' (n + m) (xs ++ news) → w.grownBy w' v.ownBlock → (v'.ownBlock = v.ownBlock ∨ v'.ownBlock = some w.heap.size) → K (a.put o.dst v') w') :
    if Region.wanted o (yielded ops a.tmps) = true then Oper.wp P o a w K Q else E := by
  rw [if_pos hw]
  obtain ⟨v', w', hr, h2, h3, _, h5⟩ := run_append_own_at (P := P) w base t o.type e i z size bytes ht hi hz hsize hby hzs hsz v n xs hown ad m c news hl hnews h1 h63 hbytes hbase
  unfold Oper.wp execOp
  simp only [ho, resolve, invoke, builtin, Sem.run_bind, Sem.run_pure, Result.andThen_ok, List.map_toArray, List.map_cons, List.map_nil, hs, hx, hr]
  exact h v' w' h2 h3 h5
end Go.Proofs.YtglbipnppldkmaaGreatDoor
/- A spine that takes a batch: what changes, what stays. -/
namespace Go.Proofs.YtglbipnppldkmaaGreatDoor
open Go.RowKit Go.Sort
set_option maxRecDepth 100000
theorem blk_ne {w : World} {a b : Nat} {ca cb : Array Value} {ta tb : TypeId} {fa fb : Nat × Nat} (h1 : w.heap[a]? = some (.cells ca ta fa)) (h2 : w.heap[b]? = some (.cells cb tb fb)) (h : ta ≠ tb) : a ≠ b := by
  intro e; subst e
  rw [h1] at h2
  simp only [Option.some.injEq, Obj.cells.injEq] at h2
  exact h h2.2.1
theorem own_blk {base : Nat} {w : World} {e : TypeId} {s : Nat} {v : Value} {n : Nat} {xs : List Value} (ho : w.ownsRow base e s v n xs) {k : Nat} (hk : v.ownBlock = some k) : ∃ cur, w.heap[k]? = some (.cells cur e (0, 0)) := by
  rcases ho.2 with ⟨rfl, _⟩ | ⟨g, cap, cur, rfl, hb, hgg, rest⟩
  · cases hk
  · cases hk; exact ⟨cur, hgg⟩
theorem grown_box {w w' : World} {o : Obj} {g : Option Nat} (h : (w.alloc o).grownBy w' g) : w.grownBy w' g :=
  ⟨h.os, h.tape, h.output, Nat.le_trans (by simp) h.size, fun k hk hne => (h.block k (by simp; omega) hne).trans (one_box.block k hk)⟩
theorem z_congr {l m : List Ent} (h : ∀ r, wt r l = wt r m) : okZ l = okZ m ∧ mkZ l = mkZ m := by
  have e : okZ l = okZ m := by
    cases hm : okZ m with
    | true => exact (okZ_iff l).2 (fun r => by rw [h r]; exact (okZ_iff m).1 hm r)
    | false =>
      cases hl : okZ l with
      | false => rfl
      | true => rw [(okZ_iff m).2 (fun r => by rw [← h r]; exact (okZ_iff l).1 hl r)] at hm; cases hm
  refine ⟨e, ?_⟩
  cases hm : okZ m with
  | true => exact mkZ_of (by rw [e]; exact hm) (mkZ_isZ m) (fun r => by rw [wt_mkZ hm, h r])
  | false => unfold mkZ; rw [e, hm]; rfl
/-- What there is of a z-set's rows. -/
def heldZ (A Z : List Ent) : List Ent := (Z.map fun e => (e.1, wt e.1 A)).filter fun e => e.2 != 0
theorem heldZ_snoc (A Z : List Ent) (e : Ent) : heldZ A (Z ++ [e]) = heldZ A Z ++ if wt e.1 A = 0 then [] else [(e.1, wt e.1 A)] := by
  unfold heldZ
  rw [List.map_append, List.filter_append]
  by_cases h : wt e.1 A = 0
  · simp [h]
  · simp [h]
theorem heldZ_len (A Z : List Ent) : (heldZ A Z).length ≤ Z.length := Nat.le_trans (List.length_filter_le _ _) (by simp)
theorem heldZ_sorted {A Z : List Ent} (h : SortedZ Z) : SortedZ (heldZ A Z) := by
  refine List.Pairwise.sublist List.filter_sublist ?_
  exact List.pairwise_map.2 h
theorem heldZ_ok {A Z : List Ent} (hA : ∀ r, inI (wt r A) = true) (h : EOk Z) : EOk (heldZ A Z) := by
  intro e he
  obtain ⟨x, hx, rfl⟩ := List.mem_map.1 (List.mem_filter.1 he).1
  exact ⟨hA _, (h x hx).2⟩
theorem heldZ_wt (A : List Ent) (r : List Val) : ∀ {Z : List Ent}, SortedZ Z → wt r (heldZ A Z) = if ∃ e ∈ Z, e.1 = r then wt r A else 0
  | [], _ => by simp [heldZ, wt]
  | e :: Z, h => by
    have h1 := List.pairwise_cons.1 h
    have ih := heldZ_wt A r h1.2
    have hs : heldZ A (e :: Z) = (if wt e.1 A = 0 then [] else [(e.1, wt e.1 A)]) ++ heldZ A Z := by
      unfold heldZ
      by_cases h0 : wt e.1 A = 0
      · simp [h0]
      · simp [h0]
    rw [hs, wt_append, ih]
    by_cases he : e.1 = r
    · subst he
      have hn : ¬ ∃ x ∈ Z, x.1 = e.1 := by
        rintro ⟨x, hx, hxe⟩
        have := h1.1 x hx
        rw [hxe, cR_self] at this; omega
      rw [if_neg hn, if_pos (show ∃ x ∈ e :: Z, x.1 = e.1 from ⟨e, by simp, rfl⟩)]
      by_cases h0 : wt e.1 A = 0
      · simp [h0, wt]
      · simp [h0, wt]
    · have hz : wt r (if wt e.1 A = 0 then [] else [(e.1, wt e.1 A)]) = 0 := by
        split
        · rfl
        · simp [wt, he]
      rw [hz, Int.zero_add]
      by_cases hx : ∃ x ∈ Z, x.1 = r
      · obtain ⟨x, hx, hxe⟩ := hx
        rw [if_pos ⟨x, hx, hxe⟩, if_pos ⟨x, List.mem_cons_of_mem _ hx, hxe⟩]
      · rw [if_neg hx, if_neg]
        rintro ⟨x, hm, hxe⟩
        rcases List.mem_cons.1 hm with rfl | hm
        · exact he hxe
        · exact hx ⟨x, hm, hxe⟩
theorem held_over {A Z : List Ent} (hA : ∀ r, inI (wt r A) = true) (h : SortedZ Z) : okZ (heldZ A Z ++ Z) = okZ (A ++ Z) := by
  have e : ∀ r, inI (wt r (heldZ A Z ++ Z)) = inI (wt r (A ++ Z)) := fun r => by
    rw [wt_append, wt_append, heldZ_wt A r h]
    by_cases hx : ∃ x ∈ Z, x.1 = r
    · rw [if_pos hx]
    · rw [if_neg hx, wt_none (fun x hm hxe => hx ⟨x, hm, hxe⟩)]; simp only [Int.add_zero]; rw [hA r]; rfl
  cases h2 : okZ (A ++ Z) with
  | true => exact (okZ_iff _).2 (fun r => by rw [e]; exact (okZ_iff _).1 h2 r)
  | false =>
    cases h1 : okZ (heldZ A Z ++ Z) with
    | false => rfl
    | true => rw [(okZ_iff (A ++ Z)).2 (fun r => by rw [← e]; exact (okZ_iff _).1 h1 r)] at h2; cases h2
theorem joinW_heap {R w : World} {Q : Nat → Bool} {k : Nat} (hq : Q k = true) : (joinW R w Q).heap[k]? = w.heap[k]? := by
  unfold joinW
  simp only [Array.getElem?_ofFn]
  by_cases hk : k < w.heap.size
  · rw [dif_pos hk, if_pos hq, Array.getElem?_eq_getElem hk]; rfl
  · rw [dif_neg hk, Array.getElem?_eq_none (by omega)]
theorem ZOwn.same {base : Nat} {us : List VEnt} {l : List Ent} {v : Value} {w w' : World} (h : ZOwn base us l v w) (hk : ∀ k, base ≤ k → k < w.heap.size → w'.heap[k]? = w.heap[k]?) : ZOwn base us l v w' :=
  ⟨own_same h.1 (fun k e => hk k (h.1.lt k e).1 (h.1.lt k e).2), h.2.1, fun i h1 h2 => ⟨own_same (h.2.2 i h1 h2).1 (fun k e => hk k ((h.2.2 i h1 h2).1.lt k e).1 ((h.2.2 i h1 h2).1.lt k e).2), (h.2.2 i h1 h2).2⟩⟩
theorem ZHas.same {base : Nat} {l : List Ent} {v : Value} {w w' : World} (h : ZHas base l v w) (hk : ∀ k, base ≤ k → k < w.heap.size → w'.heap[k]? = w.heap[k]?) : ZHas base l v w' := by
  obtain ⟨us, h⟩ := h; exact ⟨us, h.same hk⟩
/-- The merge that is under way stays while batches change. -/
theorem UnIs.move {R R' : World} {F F' : Nat → Prop} {sb : Sb} {bv pv bv' : Value} {X X' : List QEnt} {w w' : World} {st : Option (Nat × Nat × Nat)} (h : UnIs R F bv pv X w st) (h1 : SpAt R sb bv pv X w)
    (hs : Sees R R') (hw : Sees R' w') (hf : ∀ k, F k → Free R k → Free R' k) (hF : ∀ k, F k → F' k) (hk : ∀ k, F k → k ≠ sb.b → bv.ownBlock ≠ some k → w'.heap[k]? = w.heap[k]?)
    (hb : ∀ k, F k → bv'.ownBlock = some k → bv.ownBlock = some k) (hX : ∀ j, j ≤ X.length → X'.take j = X.take j) (hl : X.length ≤ X'.length) : UnIs R' F' bv' pv X' w' st := by
  cases st with
  | none => exact h
  | some p =>
    obtain ⟨mb, many, y⟩ := p
    obtain ⟨ab, cap, sv, us, S, Y, g1, ⟨q1, q2, q3, q4, q5⟩, g3, g4, g5, g6, g7, g8, g9, g10, g11⟩ := h
    obtain ⟨cur, c1, _⟩ := q1.1.block
    have m1 : w'.heap[mb]? = w.heap[mb]? := hk mb g3 (blk_ne q1.1.1 h1.1 (show 140 ≠ 67 by decide)) (fun e => by obtain ⟨c, hc⟩ := own_blk h1.2.1 e; exact blk_ne q1.1.1 hc (show 140 ≠ 29 by decide) rfl)
    have m2 : w'.heap[ab]? = w.heap[ab]? := hk ab g4 (blk_ne c1 h1.1 (by decide)) g6
    have m3 : ∀ k, sv.ownBlock = some k → w'.heap[k]? = w.heap[k]? := fun k e => by
      obtain ⟨c, hc⟩ := own_blk q3 e
      exact hk k (g5 k e) (blk_ne hc h1.1 (by decide)) (fun e' => by obtain ⟨c', hc'⟩ := own_blk h1.2.1 e'; exact blk_ne hc hc' (by decide) rfl)
    have q1' : QIs R mb (mgH many sv) ab cap Y w' := q1.same m1 m2 (hs.trans hw)
    refine ⟨ab, cap, sv, us, S, Y, g1, ⟨q1'.read hs hw (hf _ g3 q1.2.2.2.1) (hf _ g4 q1.2.2.2.2.1), q2, own_same q3 m3, q4.sees hs, fun k e => hf k (g5 k e) (q5 k e)⟩, hF _ g3, hF _ g4, fun k e => hF k (g5 k e), fun e => g6 (hb ab g4 e), ?_, g8, g9, Nat.le_trans g10 hl, ?_⟩
    · rw [hX many g10]; exact g7
    · rw [hX many g10]; exact g11
theorem SpX.inAll {F : Nat → Prop} {sb : Sb} {A : List Ent} {n m : Nat} {st : Option (Nat × Nat × Nat)} {w : World} (h : SpX F sb A n m st w) (r : List Val) : inI (wt r A) = true := by
  obtain ⟨R, bv, pv, X, h1, h2, h3, h4, h5, h6, h7⟩ := h
  rw [← h6, wt_mkZ h5]; exact (okZ_iff _).1 h5 r
/-- A batch more: w1 is behind Make, w3 ahead of put; then the list's append, then the spine's cell. -/
theorem SpX.more {F : Nat → Prop} {sb : Sb} {A : List Ent} {n m : Nat} {st : Option (Nat × Nat × Nat)} {w w1 w3 : World} {R : World} {bv pv vz : Value} {X : List QEnt} {Z : List Ent}
    (h1 : SpAt R sb bv pv X w) (h2 : Foot R F sb bv w) (h3 : X.length = n) (h4 : (flat X).length = m) (h6 : mkZ (flat X) = A) (h7 : UnIs R F bv pv X w st) (h5 : okZ (flat X) = true)
    (hZ : IsZ Z) (hE : EOk Z) (hn : Z ≠ []) (hl : m + Z.length ≤ 60000) (hz : ZHas w.heap.size Z vz w1) (b1 : Below w.heap.size w w1) (b3 : Below w1.heap.size w1 w3) (hok : okZ (A ++ Z) = true)
    {v' : Value} {w4 : World} (ho : w4.ownsRow 0 29 1 v' (X.length + 1) (X.map (·.1) ++ [vz])) (hg : w3.grownBy w4 bv.ownBlock) (hat : v'.ownBlock = bv.ownBlock ∨ ∃ k, v'.ownBlock = some k ∧ w3.heap.size ≤ k) :
    SpX (Grow F w (w4.setCell ⟨sb.b, 1, none⟩ v')) sb (mkZ (A ++ Z)) (n + 1) (m + Z.length) st (w4.setCell ⟨sb.b, 1, none⟩ v') ∧ Chg F w (w4.setCell ⟨sb.b, 1, none⟩ v') := by
  have b13 : Below w.heap.size w w3 := b1.trans (b3.mono b1.size)
  have hbF : ∀ k, bv.ownBlock = some k → F k := h2.2.2.2
  have c4 : Chg F w w4 := (Chg.of_below b13).trans' (Chg.grown hg hbF)
  have c5 : Chg F w (w4.setCell ⟨sb.b, 1, none⟩ v') := c4.trans' (Chg.set v' h2.2.2.1)
  have hw5 : (w4.setCell ⟨sb.b, 1, none⟩ v').heap.size = w4.heap.size := by simp [World.setCell]
  refine ⟨?_, c5⟩
  obtain ⟨w5, hw⟩ : ∃ w5, w5 = w4.setCell ⟨sb.b, 1, none⟩ v' := ⟨_, rfl⟩
  obtain ⟨Q, hQ⟩ : ∃ Q : Nat → Bool, Q = fun k => decide (w.heap.size ≤ k) && decide (k < w1.heap.size) := ⟨_, rfl⟩
  have s31 : w1.heap.size ≤ w3.heap.size := b3.size
  have s34 : w3.heap.size ≤ w4.heap.size := hg.size
  have s01 : w.heap.size ≤ w1.heap.size := b1.size
  have hsb : sb.b < w.heap.size := h2.2.1 sb.b h2.2.2.1
  have hS5 : Sees R w5 := by rw [hw]; exact ((h1.2.2.2.1.on b13).grown hg h1.2.2.2.2.2.1).set h1.2.2.2.2.1 _
  -- blocks of the new batch
  have e5 : ∀ k, w.heap.size ≤ k → k < w1.heap.size → w5.heap[k]? = w1.heap[k]? := fun k k1 k2 => by
    rw [hw, Below.heap_setCell _ _ _ _ (show k ≠ sb.b by omega), hg.block k (by omega) (fun e => by have := h2.2.1 k (hbF k e.symm); omega), b3.block k k2]
  have hZR : ZHas w.heap.size Z vz (joinW R w5 Q) := hz.same (fun k k1 k2 => by rw [joinW_heap (by rw [hQ]; simp; omega)]; exact e5 k k1 k2)
  have hRR : Sees R (joinW R w5 Q) := joinW_up hS5
  have hR5 : Sees (joinW R w5 Q) w5 := joinW_sees hS5
  have hfr : ∀ k, F k → Free R k → Free (joinW R w5 Q) k := fun k hk hf => joinW_free hS5 hf (by rw [hQ]; have := h2.2.1 k hk; simp; omega)
  have hsb4 : w4.heap[sb.b]? = some (.cells #[sb.cv, bv, pv] 67 (0, 0)) := by
    rw [hg.block sb.b (by omega) (fun e => by obtain ⟨c, hc⟩ := own_blk h1.2.1 e.symm; exact blk_ne h1.1 hc (by decide) rfl), b13.block sb.b hsb]; exact h1.1
  have hv'lt : ∀ k, v'.ownBlock = some k → k < w4.heap.size := fun k e => (ho.lt k e).2
  have hwt : ∀ r, wt r (flat (X ++ [(vz, Z)])) = wt r (A ++ Z) := fun r => by
    rw [flat_app, wt_append, wt_append, ← h6, wt_mkZ h5]; simp [flat]
  obtain ⟨z1, z2⟩ := z_congr hwt
  rw [← hw]
  refine ⟨joinW R w5 Q, v', pv, X ++ [(vz, Z)], ⟨?_, ?_, fun x hx => ?_, hR5, hfr sb.b h2.2.2.1 h1.2.2.2.2.1, fun k e => ?_, ?_⟩, ⟨fun k hk => ?_, fun k hk => ?_, .inl h2.2.2.1, fun k e => ?_⟩, by simp [h3], ?_, by rw [z1]; exact hok, z2, ?_⟩
  · rw [hw, heap_set_at hsb4]; rfl
  · rw [hw, List.map_append, List.length_append]
    refine own_same ho (fun k e => Below.heap_setCell _ _ _ _ (fun e' => ?_))
    subst e'
    obtain ⟨c, hc⟩ := own_blk ho e
    exact blk_ne hsb4 hc (by decide) rfl
  · rcases List.mem_append.1 hx with hx | hx
    · exact ⟨(h1.2.2.1 x hx).1.sees hRR, (h1.2.2.1 x hx).2⟩
    · simp at hx; subst hx
      exact ⟨⟨hZR.ents, hn, hZ.1, hE, by show Z.length ≤ 65536; omega⟩, hZ.2⟩
  · rcases hat with hat | ⟨k', hk', hle⟩
    · rw [hat] at e; exact hfr k (hbF k e) (h1.2.2.2.2.2.1 k e)
    · rw [hk'] at e; cases e
      exact joinW_free hS5 (free_le (Nat.le_trans h1.2.2.2.1.1 (by omega))) (by rw [hQ]; simp; omega)
  · have : X.length ≤ (flat X).length := by
      have := (SpX.le ⟨R, bv, pv, X, h1, h2, rfl, rfl, h5, h6, h7⟩).1; exact this
    simp; omega
  · rcases joinW_not hS5 hk with hk | hk
    · exact .inl (h2.1 k hk)
    · rw [hQ] at hk; simp at hk
      exact .inr ⟨hk.1, by rw [hw, hw5]; omega⟩
  · rcases hk with hk | hk
    · have := h2.2.1 k hk; rw [hw, hw5]; omega
    · exact hk.2
  · rcases hat with hat | ⟨k', hk', hle⟩
    · rw [hat] at e; exact .inl (hbF k e)
    · have h8 := hv'lt k e
      rw [hk'] at e; cases e
      exact .inr ⟨by omega, by rw [hw, hw5]; exact h8⟩
  · rw [flat_app, List.length_append, h4]; simp [flat]
  · refine h7.move h1 hRR hR5 hfr (fun k hk => .inl hk) (fun k hk k1 k2 => ?_) (fun k hk e => ?_) (fun j hj => List.take_append_of_le_length hj) (by simp)
    · have hlt := h2.2.1 k hk
      rw [hw, Below.heap_setCell _ _ _ _ k1, hg.block k (by omega) (fun e => k2 e.symm), b13.block k hlt]
    · rcases hat with hat | ⟨k', hk', hle⟩
      · rw [← hat]; exact e
      · rw [hk'] at e; cases e
        have := h2.2.1 k hk; omega
end Go.Proofs.YtglbipnppldkmaaGreatDoor
