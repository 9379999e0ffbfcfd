/- Texts of one claim, one behind the other. -/
import Derived.Test.YtglbipnppldkmaaGreatDoorPackRowsB
import Derived.Test.YtglbipnppldkmaaGreatDoorPackPickB
import Derived.Test.YtglbipnppldkmaaGreatDoorPackSpineB
import Derived.Test.YtglbipnppldkmaaGreatDoorPackNegB
import Derived.Test.YtglbipnppldkmaaGreatDoorSpReadB
import Derived.Test.YtglbipnppldkmaaGreatDoorPackSliceB
import Derived.Test.YtglbipnppldkmaaGreatDoorPackBatchB
/- An arrange in memory: a spine behind the key's columns; New and key. -/
namespace Go.Proofs.YtglbipnppldkmaaGreatDoor
open Go.RowKit Go.Sort
set_option maxRecDepth 100000
/-- The key's columns: in blocks G. -/
def ColsP (cv : Value) (ks : List Int) (G : Nat → Prop) (w : World) : Prop := IntsIs w cv ks ∧ (∀ k, G k → k < w.heap.size) ∧ ∀ k, cv.ownBlock = some k → G k
theorem ColsP.keep {cv : Value} {ks : List Int} {G : Nat → Prop} {w w' : World} (h : ColsP cv ks G w) (hs : w.heap.size ≤ w'.heap.size) (hk : ∀ k, G k → w'.heap[k]? = w.heap[k]?) : ColsP cv ks G w' := by
  refine ⟨?_, fun k e => Nat.lt_of_lt_of_le (h.2.1 k e) hs, h.2.2⟩
  rcases h.1 with h1 | ⟨b, o, cap, rfl, h1, h2, h3, h4⟩
  · exact .inl h1
  · exact .inr ⟨b, o, cap, rfl, h1, h2, Nat.lt_of_lt_of_le h3 hs, fun i hi => by rw [World.cell?_of_block (w := w) (hk b (h.2.2 b rfl))]; exact h4 i hi⟩
theorem ColsP.on {cv : Value} {ks : List Int} {G : Nat → Prop} {w w' : World} (h : ColsP cv ks G w) (hb : Below w.heap.size w w') : ColsP cv ks G w' :=
  h.keep hb.size (fun k e => hb.block k (h.2.1 k e))
/-- An arrange: its blocks F, its columns' blocks G, its key, all of it. -/
def ArIs (F G : Nat → Prop) (sb : Sb) (ks : List Int) (A : List Ent) (n m : Nat) (w : World) : Prop := SpIs F sb A n m w ∧ ColsP sb.cv ks G w ∧ (∀ k, F k → ¬ G k) ∧ (∀ e ∈ A, allIn e.1 ks = true) ∧ ks.length ≤ 65536
theorem ArIs.on {F G : Nat → Prop} {sb : Sb} {ks : List Int} {A : List Ent} {n m : Nat} {w w' : World} (h : ArIs F G sb ks A n m w) (hb : Below w.heap.size w w') : ArIs F G sb ks A n m w' :=
  ⟨h.1.on hb, h.2.1.on hb, h.2.2⟩
theorem SpIs.cols {F : Nat → Prop} {sb : Sb} {A : List Ent} {n m : Nat} {w : World} (h : SpIs F sb A n m w) : w.cell? ⟨sb.b, 0, none⟩ = some sb.cv := by
  obtain ⟨st, ⟨R, bv, pv, X, h1, _⟩, _⟩ := h
  simp [World.cell?, h1.1]
theorem info_int : (Tryz.prog.info? 3).map (fun i => (i.zero, i.size, i.bytes)) = some (some (.int .i64 0), 1, 8) := by kernel_rfl
def ni (ks : List Int) : List Value := ks.map (Value.int .i64)
/-- The copy of a list of numbers. -/
theorem cloneInts (ks : List Int) (vc : Value) (w : World) (hn : ks.length ≤ 65536) (h : IntsIs w vc ks) (h0 : ks ≠ [] ∨ vc = .slice none 0 0) :
    Calls Tryz.prog 27 #[vc] w fun e w' => ∃ v, e = .returned v ∧ IntsIs w' v ks ∧ (∀ k, v.ownBlock = some k → w.heap.size ≤ k ∧ k < w'.heap.size) ∧ Below w.heap.size w w' := by
  obtain ⟨i0, hi, hz0, hz1, hz2⟩ := info_parts info_int
  by_cases hk : ks = []
  · obtain rfl : vc = .slice none 0 0 := by
      rcases h0 with h0 | h0
      · exact absurd hk h0
      · exact h0
    subst hk
    have q := AnyE.slices_Clone_nil Tryz.cloneInt 0 0 w
    change Calls Tryz.prog 27 _ _ _ at q
    refine q.mono ?_
    rintro e w' ⟨rfl, rfl⟩
    exact ⟨_, rfl, .inl ⟨none, 0, rfl, rfl⟩, fun k e => (by cases e), Below.refl _ _⟩
  · obtain ⟨b, o, cap, rfl⟩ := h.addr hk
    have q := AnyE.slices_Clone Tryz.cloneInt i0 (.int .i64 0) 1 8 hi hz0 hz1 hz2 rfl (by decide) Tryz.sizeOf3 b o ks.length cap (ni ks) w (by simp [ni]) (by unfold maxLen; omega) (by omega) (fun j u hu => by
      have hj := (List.getElem?_eq_some_iff.1 hu).1
      have hj' : j < ks.length := by simpa [ni] using hj
      rw [h.at j hj']
      rw [← hu]; simp [ni, hj']) (fun u hu => by
      obtain ⟨x, _, rfl⟩ := List.mem_map.1 hu; rfl)
    change Calls Tryz.prog 27 _ _ _ at q
    refine q.mono ?_
    rintro e w' ⟨v', rfl, g1, _, g2⟩
    refine ⟨v', rfl, ?_, fun k e => g1.lt k e, g2⟩
    have hlt := g1.lt
    obtain ⟨e1, e2 | ⟨g, cp, cur, rfl, hg, hh, hc, hm, hs, ht⟩⟩ := g1
    · exact absurd (List.eq_nil_of_length_eq_zero e2.2) hk
    · have own : w'.ownsRow w.heap.size 3 1 (.slice (some ⟨g, 0, none⟩) ks.length cp) ks.length (ni ks) := ⟨e1, .inr ⟨g, cp, cur, rfl, hg, hh, hc, hm, hs, ht⟩⟩
      refine .inr ⟨g, 0, cp, rfl, hc, hm, (hlt g rfl).2, fun i hi => ?_⟩
      rw [Nat.zero_add, own.cellAt i (by omega)]; simp [ni, hi]
/-- What New answers. -/
def NewA (ks : List Int) (w : World) (e : Ending) (w' : World) : Prop :=
  ∃ sb G, e = .returned (.pointer (some ⟨sb.b, 0, none⟩)) ∧ ArIs (fun k => k = sb.b) G sb ks [] 0 0 w' ∧ (∀ k, G k → w.heap.size ≤ k) ∧ w.heap.size ≤ sb.b ∧ Below w.heap.size w w'
set_option maxHeartbeats 1000000 in
theorem arNew (ks : List Int) (vc : Value) (w : World) (hn : ks.length ≤ 65536) (h : IntsIs w vc ks) (h0 : ks ≠ [] ∨ vc = .slice none 0 0) :
    Calls Tryz.prog 7 #[vc] w fun e w' => NewA ks w e w' := by
  have q := cloneInts ks vc w hn h h0
  obtain ⟨a0, cap, rfl⟩ := h.form
  have HQ : Hid (∀ v w1, IntsIs w1 v ks → (∀ k, v.ownBlock = some k → w.heap.size ≤ k ∧ k < w1.heap.size) → Below w.heap.size w w1 → NewA ks w (.returned (.pointer (some ⟨w1.heap.size, 0, none⟩))) (w1.alloc (.cells #[v, .slice none 0 0, .pointer none] 67))) := fun v w1 g1 g2 g3 => by
    have hx := SpIs.new w1 v
    refine ⟨⟨w1.heap.size, v⟩, fun k => v.ownBlock = some k, rfl, ⟨hx, ⟨g1.on one_box, fun k e => ?_, fun k e => e⟩, fun k e1 e2 => ?_, fun e he => (by cases he), hn⟩, fun k e => (g2 k e).1, g3.size, g3.trans (one_box.mono g3.size)⟩
    · have := (g2 k e).2; simp; omega
    · have := (g2 k e2).2; simp only at e1; omega
  clear h h0
  go_enter Tryz.func7, Tryz.ntmps7
  go_wp2_with fail
  refine q.mono ?_
  rintro e w1 ⟨v, rfl, g1, g2, g3⟩
  have H := HQ.out v w1 g1 g2 g3
  obtain ⟨a1, c1, e1⟩ := g1.form
  have HH : Hid (NewA ks w (.returned (.pointer (some ⟨w1.heap.size, 0, none⟩))) (w1.alloc (.cells #[v, .slice none 0 0, .pointer none] 67))) := H
  clear H g1 g2 g3 HQ q
  subst e1
  go_wp2_with fail
  go_ret
  exact HH.out
set_option maxHeartbeats 1000000 in
/-- The key of a row: the call's own. -/
theorem arKey (sb : Sb) (ks : List Int) (r : List Val) (va : Value) (w : World) (hn : ks.length ≤ 65536) (c : w.cell? ⟨sb.b, 0, none⟩ = some sb.cv) (hk : IntsIs w sb.cv ks) (hr : RowIs w va r) :
    Calls Tryz.prog 42 #[.pointer (some ⟨sb.b, 0, none⟩), va] w fun e w' => ∃ v, e = .returned v ∧ w'.ownsRow w.heap.size 56 3 v (pk r ks).length (rc (pk r ks)) ∧ Below w.heap.size w w' := by
  have q := rowPickO r ks va sb.cv w hn hr hk
  obtain ⟨a0, cap, rfl⟩ := hr.form
  obtain ⟨a1, c1, e1⟩ := hk.form
  rw [e1] at q c
  clear hr hk
  go_enter Tryz.func42, Tryz.ntmps42
  go_wp2_with fail
  refine q.mono ?_
  rintro e w1 ⟨v, rfl, g1, g2⟩
  have H : Hid (w1.ownsRow w.heap.size 56 3 v (pk r ks).length (rc (pk r ks)) ∧ Below w.heap.size w w1) := ⟨g1, g2⟩
  obtain ⟨a2, c2, e2⟩ := own_form g1
  clear g1 g2 q
  subst e2
  go_wp2_with fail
  go_ret
  exact ⟨_, rfl, H.out⟩
end Go.Proofs.YtglbipnppldkmaaGreatDoor
/- What an arrange's All, Chunk and Lookup answer. -/
namespace Go.Proofs.YtglbipnppldkmaaGreatDoor
open Go.RowKit Go.Sort
set_option maxRecDepth 100000
set_option maxHeartbeats 1000000 in
theorem arAll (F G : Nat → Prop) (sb : Sb) (ks : List Int) (A : List Ent) (n m : Nat) (a : Addr) (w : World) (h : ArIs F G sb ks A n m w) (ho : OverAt a w) (hm : m ≤ 65536) :
    Calls Tryz.prog 17 #[.pointer (some ⟨sb.b, 0, none⟩)] w fun e w' => ∃ v, e = .returned v ∧ ZHas w.heap.size A v w' ∧ Below w.heap.size w w' := by
  have hc := h.1.cols
  obtain ⟨⟨st, h1, _⟩, _⟩ := h
  have q := spAllX F sb A n m st a w h1 ho hm
  clear h1 ho
  go_enter Tryz.func17, Tryz.ntmps17
  go_wp2_with fail
  refine q.mono ?_
  rintro e w1 ⟨v, rfl, g1, g2⟩
  have H : Hid (ZHas w.heap.size A v w1 ∧ Below w.heap.size w w1) := ⟨g1, g2⟩
  obtain ⟨a1, c1, e1⟩ := g1.ents.form
  clear g1 g2 q
  subst e1
  go_wp2_with fail
  go_ret
  exact ⟨_, rfl, H.out⟩
/-- What is all of it: in order, and no more than there are entries. -/
theorem SpIs.all {F : Nat → Prop} {sb : Sb} {A : List Ent} {n m : Nat} {w : World} (h : SpIs F sb A n m w) : IsZ A ∧ A.length ≤ m ∧ EOk A := by
  obtain ⟨st, ⟨R, bv, pv, X, h1, h2, h3, h4, h5, h6, h7⟩, _⟩ := h
  refine ⟨by rw [← h6]; exact mkZ_isZ _, by rw [← h6, ← h4]; exact mkZ_len _, ?_⟩
  rw [← h6]
  refine mkZ_ok (fun e he => ?_)
  obtain ⟨x, hx, hex⟩ := mem_flat.1 he
  exact (((h1.2.2.1 x hx).1.2.2.2.1) e hex).2
set_option maxHeartbeats 1000000 in
theorem arChunk (F G : Nat → Prop) (sb : Sb) (ks : List Int) (A : List Ent) (n m : Nat) (a : Addr) (w : World) (h : ArIs F G sb ks A n m w) (ho : OverAt a w) (hm : m ≤ 65536) (r : List Val) (vr : Value) (hr : RowIs w vr r) (any : Bool) (k : Int) :
    Calls Tryz.prog 19 #[.pointer (some ⟨sb.b, 0, none⟩), vr, .bool any, .int .i64 k] w fun e w' => ∃ v, e = .returned v ∧ EntsIs w' v (after any r A k) ∧ Below w.heap.size w w' := by
  have q := arAll F G sb ks A n m a w h ho hm
  obtain ⟨z1, z2, z3⟩ := h.1.all
  obtain ⟨b0, c0, rfl⟩ := hr.form
  have HQ : Hid (∀ v w1, ZHas w.heap.size A v w1 → Below w.heap.size w w1 → Calls Tryz.prog 41 #[v, .slice b0 r.length c0, .bool any, .int .i64 k] w1 fun e w' => ∃ v', e = .returned v' ∧ EntsIs w' v' (after any r A k) ∧ Below w.heap.size w w') := fun v w1 g1 g2 => by
    refine (slAfter A r v _ any k w1 (by omega) z1 z3 g1.ents (hr.on g2)).mono ?_
    rintro e w' ⟨v', rfl, k1, k2⟩
    exact ⟨v', rfl, k1.ents, g2.trans (k2.mono g2.size)⟩
  clear h ho hr z1 z2 z3
  go_enter Tryz.func19, Tryz.ntmps19
  go_wp2_with fail
  refine q.mono ?_
  rintro e w1 ⟨v, rfl, g1, g2⟩
  have q2 := HQ.out v w1 g1 g2
  obtain ⟨a1, c1, e1⟩ := g1.ents.form
  clear g1 g2 q HQ
  subst e1
  go_wp2_with fail
  refine q2.mono ?_
  rintro e w2 ⟨v2, rfl, k1, k2⟩
  have H : Hid (EntsIs w2 v2 (after any r A k) ∧ Below w.heap.size w w2) := ⟨k1, k2⟩
  obtain ⟨a2, c2, e2⟩ := k1.form
  clear k1 k2 q2
  subst e2
  go_wp2_with fail
  go_ret
  exact ⟨_, rfl, H.out⟩
/-- Entries chosen so far: their rows are read in a world R. -/
def SelR (R w : World) (m : List Ent) (v : Value) (W : World) : Prop := EntsN w.heap.size R m v W ∧ Below w.heap.size w W
theorem SelR.nil (R w : World) : SelR R w [] (.slice none 0 0) w := ⟨⟨[], World.ownsRow_nil _ _ _ _, Reads.nil R⟩, Below.refl _ _⟩
theorem SelR.on {R w : World} {m : List Ent} {v : Value} {W W' : World} (h : SelR R w m v W) (hb : Below W.heap.size W W') : SelR R w m v W' := by
  obtain ⟨⟨us, h1, h2⟩, h3⟩ := h
  exact ⟨⟨us, own_on h1 hb, h2⟩, h3.trans (hb.mono h3.size)⟩
theorem SelR.form {R w : World} {m : List Ent} {v : Value} {W : World} (h : SelR R w m v W) : ∃ a cap, v = .slice a m.length cap := by
  obtain ⟨⟨us, h1, h2⟩, _⟩ := h
  rw [← h2.1]; exact own_form h1
theorem wpList_append_selR {ops : Array Oper} {rest : List Oper} {op : Oper} {a : Act} {R w W : World} {Q : Exit → Act → World → Prop} (hgd : op.guard = none) (s x : Operand)
    (ho : op.op = .call { callee := .builtin .append, args := #[s, x], argTypes := #[29, 29] }) {m : List Ent} {v : Value} (hs : a.eval s = v) (hsel : SelR R w m v W) (hm : m.length ≤ 65536) {vr : Value} {r : List Val} (hr : RowIs R vr r) (k : Int)
    (hx : a.eval x = .slice (some ⟨W.heap.size, 0, none⟩) 1 1) (h : ∀ v' w', SelR R w (m ++ [(r, k)]) v' w' → wpList Tryz.prog ops Q rest (a.put op.dst v') w') :
    wpList Tryz.prog ops Q (op :: rest) a (W.alloc (.cells #[vr, .int .i64 k] 37)) := by
  obtain ⟨i0, hi, hz0, hz1, hz2⟩ := info_parts info_entry
  obtain ⟨⟨us, h1, h2⟩, h3⟩ := hsel
  have hz := h3.size
  have hul : us.length ≤ 65536 := by rw [h2.1]; exact hm
  obtain ⟨ar, cr, er⟩ := hr.form
  have hvr : vr.oneCell' = true := by rw [er]; rfl
  refine wpList_append_own _ hgd s x 29 ho w.heap.size 37 i0 (.agg #[.slice none 0 0, .int .i64 0]) 2 32 Tryz.underlying29 hi hz0 hz1 hz2 rfl (by decide) v us.length _ hs (own_on h1 one_box) ⟨W.heap.size, 0, none⟩ 1 1 (ec (vr, k)) hx rfl (cell_two_new _ _ _ _) (by intro u hu; simp only [ec, List.mem_cons, List.not_mem_nil, or_false] at hu; rcases hu with rfl | rfl; exact hvr; rfl) (by unfold maxLen; omega) (by omega) (by simp; omega) ?_
  intro v' w' g1 g2 _
  refine h v' w' ⟨⟨us ++ [(vr, k)], ?_, h2.snoc hr k⟩, ?_⟩
  · rw [es_snoc, List.length_append]; exact g1
  · exact (h3.alloc hz _).grown g2 (by simp; omega) (fun k e => (h1.lt k e).1)
def SelRBy (p : Ent → Bool) (l : List Ent) (R w : World) (j : Nat) (v : Value) (W : World) : Prop := SelR R w ((l.take j).filter p) v W
set_option maxHeartbeats 4000000 in
theorem arLookup (F G : Nat → Prop) (sb : Sb) (ks : List Int) (A : List Ent) (n m : Nat) (a : Addr) (w : World) (h : ArIs F G sb ks A n m w) (ho : OverAt a w) (hm : m ≤ 65536) (r : List Val) (vr : Value) (hr : RowIs w vr r) :
    Calls Tryz.prog 22 #[.pointer (some ⟨sb.b, 0, none⟩), vr] w fun e w' => ∃ v, e = .returned v ∧ EntsNew w.heap.size (under ks r A) v w' ∧ Below w.heap.size w w' := by
  have q := arAll F G sb ks A n m a w h ho hm
  obtain ⟨z1, z2, z3⟩ := h.1.all
  have hn : A.length ≤ 65536 := by omega
  obtain ⟨b0, c0, rfl⟩ := hr.form
  have HA : Hid (ArIs F G sb ks A n m w) := h
  have Hb : Hid (RowIs w (.slice b0 r.length c0) r) := hr
  clear h ho hr z1 z2 z3
  go_enter Tryz.func22, Tryz.ntmps22
  go_wp2_with fail
  refine q.mono ?_
  rintro e w1 ⟨va, rfl, g1, g2⟩
  obtain ⟨vs, ho1, hor⟩ := g1
  have ha1 := EntsAt.of_own ho1
  have hr := hor.reads
  obtain ⟨R, hR⟩ : ∃ R, R = above w.heap.size w1 := ⟨_, rfl⟩
  have HRR : Hid (Reads R vs A) := by rw [hR]; exact hor.above.reads
  have HRE : Hid (R = above w.heap.size w1) := hR
  obtain ⟨a0, cap, rfl⟩ := ha1.form
  have B1 : Hid (Below w.heap.size w w1) := g2
  have HVL : Hid (vs.length = A.length) := hr.1
  have Ha : Hid (EntsAt w1 (.slice a0 vs.length cap) vs) := ha1
  have Hr : Hid (Reads w1 vs A) := hr
  clear ho1 hor g2 ha1 hr q hR
  go_wp2_with fail
  go_loopw [5, 11] (fun v i wr => ∃ j : Nat, j ≤ vs.length ∧ i = .int .i64 j ∧ SelRBy (kP ks r) A R w1 j v wr) (fun _ i _ => vs.length - (intOf i).toNat)
  case atStart => exact ⟨0, by omega, rfl, SelR.nil R w1⟩
  case round =>
    obtain ⟨j, hj, rfl, hS⟩ := hrel
    obtain ⟨av, cv, rfl⟩ := hS.form
    have hfl := filter_len (kP ks r) A j hn
    have HS : Hid (SelR R w1 ((A.take j).filter (kP ks r)) (.slice av ((A.take j).filter (kP ks r)).length cv) wr) := hS
    clear hS
    by_cases k1 : j < vs.length
    · have k2 : j < A.length := by have := HVL.out; omega
      have I1 : (j : Int) < (vs.length : Int) := by omega
      obtain ⟨b, o, rfl, x1, x2, _⟩ := (Ha.out.on HS.out.2).at j k1
      obtain ⟨r1, r2⟩ := Hr.out.2 j k1 k2
      obtain ⟨am, cm, em⟩ := r1.form
      rw [em] at x1 r1
      rw [r2] at x2
      have HR : Hid (RowIs w1 (.slice am A[j].1.length cm) A[j].1) := r1
      have HR2 : Hid (RowIs R (.slice am A[j].1.length cm) A[j].1) := by have := (HRR.out.2 j k1 k2).1; rw [em] at this; exact this
      have HF : Hid ((A.take (j + 1)).filter (kP ks r) = (A.take j).filter (kP ks r) ++ (if kP ks r A[j] then [A[j]] else [])) := filter_snoc k2
      have HG : Hid (kP ks r A[j] = true → SelR R w1 ((A.take j).filter (kP ks r) ++ [(A[j].1, A[j].2)]) = SelRBy (kP ks r) A R w1 (j + 1)) := fun h => by
        unfold SelRBy
        rw [HF.out, if_pos h]
      have HN : Hid (kP ks r A[j] = false → SelR R w1 ((A.take j).filter (kP ks r)) = SelRBy (kP ks r) A R w1 (j + 1)) := fun h => by
        unfold SelRBy
        rw [HF.out, if_neg (by rw [h]; decide), List.append_nil]
      have hBw : Below w.heap.size w wr := B1.out.trans (HS.out.2.mono B1.out.size)
      obtain ⟨Wb, hWb⟩ : ∃ Wb, Wb = wr.alloc (.cells #[.slice am A[j].1.length cm, .int .i64 A[j].2] 37) := ⟨_, rfl⟩
      have bWb : Below wr.heap.size wr Wb := by rw [hWb]; exact one_box
      have u0 : Wb.cell? ⟨wr.heap.size, 0, none⟩ = some (.slice am A[j].1.length cm) := by rw [hWb, World.cell?_alloc_at _ _ _ _ rfl]; rfl
      have u1 : Wb.cell? ⟨wr.heap.size, 1, none⟩ = some (.int .i64 A[j].2) := by rw [hWb, World.cell?_alloc_at _ _ _ _ rfl]; rfl
      have HW : Hid (wr.alloc (.cells #[.slice am A[j].1.length cm, .int .i64 A[j].2] 37) = Wb) := hWb.symm
      have BWb : Hid (Below wr.heap.size wr Wb) := bWb
      have q2 : Hid (Calls Tryz.prog 42 #[.pointer (some ⟨sb.b, 0, none⟩), .slice am A[j].1.length cm] Wb fun e w' => ∃ v, e = .returned v ∧ RowIs w' v (pk A[j].1 ks) ∧ Below Wb.heap.size Wb w') := by
        have hA := HA.out.on (hBw.trans (bWb.mono hBw.size))
        refine (arKey sb ks A[j].1 _ Wb hA.2.2.2.2 hA.1.cols hA.2.1.1 ((HR.out.on HS.out.2).on bWb)).mono ?_
        rintro e w' ⟨v, rfl, y1, y2⟩
        exact ⟨v, rfl, RowIs.of_own y1, y2⟩
      have HC : Hid (∀ W v, Below Wb.heap.size Wb W → RowIs W v (pk A[j].1 ks) → Calls Tryz.prog 44 #[v, .slice b0 r.length c0] W fun e w' => e = .returned (.int .i64 (cR (pk A[j].1 ks) r)) ∧ Below Wb.heap.size Wb w') := fun W v hW hv => by
        refine (rowCompare _ r v _ W hv (((Hb.out.on hBw).on bWb).on hW)).mono ?_
        rintro e w' ⟨rfl, y2⟩
        exact ⟨rfl, hW.trans (y2.mono hW.size)⟩
      have HP : Hid (kP ks r A[j] = decide (cR (pk A[j].1 ks) r = 0)) := rfl
      generalize kP ks r A[j] = pj at *
      generalize (A.take j).filter (kP ks r) = mm at *
      generalize cR (pk A[j].1 ks) r = c at *
      generalize pk A[j].1 ks = kk at *
      generalize A[j].1 = rj at *
      generalize A[j].2 = kj at *
      generalize hnl : rj.length = nl at *
      clear r1 r2 em HF hBw hWb bWb
      go_wp2_with fail
      rw [HW.out]
      refine q2.out.mono ?_
      rintro e w2 ⟨v2, rfl, y1, y2⟩
      have q3 := HC.out w2 v2 y2 y1
      obtain ⟨a2, c2, e2⟩ := y1.form
      clear y1 y2 q2 HC x1 x2
      subst e2
      by_cases hc : c = 0
      · have HB2 : Hid (SelR R w1 (mm ++ [(rj, kj)]) = SelRBy (kP ks r) A R w1 (j + 1)) := HG.out (by rw [HP.out, hc]; rfl)
        clear HG HN HP
        subst hc
        go_wp2_with fail
        refine q3.mono ?_
        rintro e w3 ⟨rfl, hb3⟩
        have y1 := cell_on u0 hb3
        have y2 := cell_on u1 hb3
        have HS2 : Hid (SelR R w1 mm (.slice av mm.length cv) w3) := (HS.out.on BWb.out).on hb3
        clear hb3 q3 u0 u1
        go_wp2_with (first | (at_builtin; refine wpList_append_selR rfl _ _ rfl rfl HS2.out hfl HR2.out kj rfl ?_; intro v4 w4 hs4; rw [HB2.out] at hs4; have H4 : Hid (SelRBy (kP ks r) A R w1 (j + 1) v4 w4) := hs4; clear hs4) | fail)
        go_roundw
        case rel => exact ⟨j + 1, by omega, by go_num, H4.out⟩
        case measure => simp [intOf]; omega
      · have HB2 : Hid (SelR R w1 mm = SelRBy (kP ks r) A R w1 (j + 1)) := HN.out (by rw [HP.out]; simp [hc])
        have hc' : (c == 0) = false := by simp [hc]
        clear HG HN HP
        go_wp2_with fail
        refine q3.mono ?_
        rintro e w3 ⟨rfl, hb3⟩
        have HS2 : Hid (SelRBy (kP ks r) A R w1 (j + 1) (.slice av mm.length cv) w3) := by
          have := (HS.out.on BWb.out).on hb3
          rw [HB2.out] at this; exact this
        clear hb3 q3 u0 u1
        go_wp2_with fail
        go_roundw
        case rel => exact ⟨j + 1, by omega, by go_num, HS2.out⟩
        case measure => simp [intOf]; omega
    · have I1 : ¬ (j : Int) < (vs.length : Int) := by omega
      have E : Hid (under ks r A = (A.take j).filter (kP ks r)) := by
        show _ = _
        have e1 : A.take j = A := List.take_of_length_le (by have := HVL.out; omega)
        rw [e1]; rfl
      generalize (A.take j).filter (kP ks r) = mm at *
      go_wp2_with fail
      go_ret
      exact ⟨_, rfl, by rw [E.out]; have h1 := HS.out.1; rw [HRE.out] at h1; exact EntsN.new h1 HS.out.2 B1.out.size, B1.out.trans (HS.out.2.mono B1.out.size)⟩
end Go.Proofs.YtglbipnppldkmaaGreatDoor
/- What an arrange's Keys answers: each key that has entries, once, in order. -/
namespace Go.Proofs.YtglbipnppldkmaaGreatDoor
open Go.RowKit Go.Sort
set_option maxRecDepth 100000
/-- How far Keys has come. -/
def KeyTo (ks : List Int) (A : List Ent) (w1 : World) (j : Nat) (v : Value) (wr : World) : Prop :=
  ∃ ps, RowsOwn w1.heap.size ps v wr ∧ ps.map (·.2) = (A.take j).map (fun e => pk e.1 ks) ∧ Below w1.heap.size w1 wr
theorem KeyTo.form {ks : List Int} {A : List Ent} {w1 : World} {j : Nat} {v : Value} {wr : World} (h : KeyTo ks A w1 j v wr) : ∃ a n cap, v = .slice a n cap := by
  obtain ⟨ps, h1, _⟩ := h
  obtain ⟨a, cap, e⟩ := own_form h1.1
  exact ⟨a, _, cap, e⟩
/-- Where Keys ends. -/
def KeysEnd (ks : List Int) (A : List Ent) (w : World) (e : Ending) (w' : World) : Prop := ∃ v K, e = .returned v ∧ KeysOf ks A K ∧ RowsIs w' v K ∧ Below w.heap.size w w'
theorem compactNone (a : Option Addr) (cap : Nat) (W : World) :
    Calls Tryz.prog 45 #[.slice a 0 cap, .func (.func 46) #[] #[]] W fun e w' => e = .returned (.slice a 0 cap) ∧ w' = W := by
  go_enter Tryz.func45, Tryz.ntmps45
  go_wp2_with fail
  go_ret
  exact ⟨rfl, rfl⟩
/-- The sort, then the compaction, of what the call owns. -/
def SrtIs (ps : List PRow) (W : World) (v : Value) (w' : World) : Prop := ∃ qs : List PRow, qs.Perm ps ∧ (qs.map (·.2)).Pairwise (fun a b => cR a b ≤ 0) ∧ ((v = .slice none 0 0 ∧ ps = [] ∧ w' = W) ∨ ∃ g cap, v = .slice (some ⟨g, 0, none⟩) ps.length cap ∧ CellsW w' g (qs.map (·.1)) ∧ RowsOff w' g qs ∧ But g W w' ∧ ps.length ≤ cap ∧ cap ≤ maxLen)
theorem sortOf (base : Nat) (ps : List PRow) (v : Value) (W : World) (h : RowsOwn base ps v W) (hn : ps.length ≤ 65536) :
    Calls Tryz.prog 43 #[v, .func (.func 44) #[] #[]] W fun e w' => e = .returned (.tuple #[]) ∧ SrtIs ps W v w' := by
  have h1 := h.1
  rcases h.1.2 with ⟨e1, e2⟩ | ⟨g, cap, cur, rfl, hg, hh, hc, hm, hs, ht⟩
  · have hp : ps = [] := List.eq_nil_of_length_eq_zero e2
    subst hp e1
    refine (sortNone none 0 W).mono ?_
    rintro e w' ⟨rfl, rfl⟩
    exact ⟨rfl, [], List.Perm.nil, by simp, .inl ⟨rfl, rfl, rfl⟩⟩
  · have hC : CellsW W g (ps.map (·.1)) := ⟨(h1.lt g rfl).2, fun i hi => by
      rw [List.length_map] at hi
      exact ⟨by rw [h1.cellAt i (by omega)]; exact List.getElem?_eq_getElem (by simpa using hi), h1.frozenAt i⟩⟩
    have hR : RowsOff W g ps := fun x hx => ⟨RowIs.of_own (h.2 x hx), own_apart (h.2 x hx) h1 (by decide) rfl⟩
    refine (sortRows ps W g cap hR hC hn).mono ?_
    rintro e w' ⟨rfl, qs, g1, g2, g3, g4⟩
    exact ⟨rfl, qs, g1, g2, .inr ⟨g, cap, rfl, g3, fun x hx => (hR.but g4) x (g1.mem_iff.1 hx), g4, hc, hm⟩⟩
/-- The keys out of all keys. -/
theorem keysOf_cpt {ks : List Int} {A : List Ent} {ps qs : List PRow} (h1 : ps.map (·.2) = A.map (fun e => pk e.1 ks)) (h2 : qs.Perm ps) (h3 : (qs.map (·.2)).Pairwise (fun a b => cR a b ≤ 0)) : KeysOf ks A ((cpt qs qs.length).map (·.2)) := by
  obtain ⟨i1, i2⟩ := cpt_sorted h3 (Nat.le_refl _)
  refine ⟨i1, fun r => ?_⟩
  rw [i2 r, List.take_length, (h2.map (·.2)).mem_iff, h1, List.mem_map]
theorem SrtIs.compact {ks : List Int} {A : List Ent} {ps : List PRow} {w W : World} {v : Value} {w' : World} (h : SrtIs ps W v w') (hps : ps.map (·.2) = A.map (fun e => pk e.1 ks)) (hn : ps.length ≤ 65536) (hB : Below w.heap.size w W) (hv : ∀ k, v.ownBlock = some k → w.heap.size ≤ k) :
    Calls Tryz.prog 45 #[v, .func (.func 46) #[] #[]] w' fun e w'' => KeysEnd ks A w e w'' := by
  obtain ⟨qs, g1, g2, g3⟩ := h
  have hK := keysOf_cpt hps g1 g2
  have hl := g1.length_eq
  rcases g3 with ⟨rfl, rfl, rfl⟩ | ⟨g, cap, rfl, c1, c2, c3, c4, c5⟩
  · refine (compactNone none 0 w').mono ?_
    rintro e w'' ⟨rfl, rfl⟩
    have hq : qs = [] := List.eq_nil_of_length_eq_zero hl
    subst hq
    exact ⟨_, [], rfl, hK, RowsIs.nil _ _ _, hB⟩
  · rw [← hl] at c4 hn
    rw [← hl]
    refine (compactRows qs w' g cap c2 c1 hn ⟨c4, c5⟩).mono ?_
    rintro e w'' ⟨k, rfl, k1, k2, k3⟩
    have hg : w.heap.size ≤ g := hv g rfl
    refine ⟨_, _, rfl, hK, ⟨cpt qs qs.length, .inr ⟨g, 0, cap, by rw [k1, List.length_map], ?_, c5, k2.1, fun i hi => ?_⟩, fun x hx => ((c2.but k3) x (cpt_sub hx)).1, rfl⟩, ?_⟩
    · have := cpt_len qs qs.length; rw [List.length_map]; omega
    · rw [Nat.zero_add]; exact (k2.2 i hi).1
    · exact hB.trans ((c3.trans k3).below hg hB.size)
set_option maxHeartbeats 4000000 in
theorem arKeys (F G : Nat → Prop) (sb : Sb) (ks : List Int) (A : List Ent) (n m : Nat) (a : Addr) (w : World) (h : ArIs F G sb ks A n m w) (ho : OverAt a w) (hm : m ≤ 65536) :
    Calls Tryz.prog 21 #[.pointer (some ⟨sb.b, 0, none⟩)] w fun e w' => KeysEnd ks A w e w' := by
  have q := arAll F G sb ks A n m a w h ho hm
  obtain ⟨z1, z2, z3⟩ := h.1.all
  obtain ⟨i0, hi0, hz0, hz1, hz2⟩ := info_parts info_rows
  have hn : A.length ≤ 65536 := by omega
  have HA : Hid (ArIs F G sb ks A n m w) := h
  clear h ho z1 z2 z3
  go_enter Tryz.func21, Tryz.ntmps21
  go_wp2_with fail
  refine q.mono ?_
  rintro e w1 ⟨va, rfl, g1, g2⟩
  obtain ⟨vs, ha1, hr⟩ := g1.ents
  obtain ⟨a0, cap, rfl⟩ := ha1.form
  have B1 : Hid (Below w.heap.size w w1) := g2
  have HVL : Hid (vs.length = A.length) := hr.1
  have Ha : Hid (EntsAt w1 (.slice a0 vs.length cap) vs) := ha1
  have Hr : Hid (Reads w1 vs A) := hr
  clear g1 g2 ha1 hr q
  go_wp2_with fail
  go_loopw [3, 9] (fun v i wr => ∃ j : Nat, j ≤ vs.length ∧ i = .int .i64 j ∧ Hid (KeyTo ks A w1 j v wr)) (fun _ i _ => vs.length - (intOf i).toNat)
  case atStart => exact ⟨0, by omega, rfl, [], RowsOwn.nil _ _, rfl, Below.refl _ _⟩
  case round =>
    obtain ⟨j, hj, rfl, hK⟩ := hrel
    by_cases k1 : j < vs.length
    · have k2 : j < A.length := by have := HVL.out; omega
      have I1 : (j : Int) < (vs.length : Int) := by omega
      obtain ⟨ps, hP, hpm, hBr⟩ := hK.out
      have hpl : ps.length = j := by have := congrArg List.length hpm; simp at this; omega
      obtain ⟨av, cv, ev⟩ := own_form hP.1
      rw [hpl] at ev
      subst ev
      obtain ⟨b, o, rfl, x1, x2, _⟩ := (Ha.out.on hBr).at j k1
      obtain ⟨r1, r2⟩ := Hr.out.2 j k1 k2
      obtain ⟨am, cm, em⟩ := r1.form
      rw [em] at x1 r1
      rw [r2] at x2
      have hBw : Below w.heap.size w wr := B1.out.trans (hBr.mono B1.out.size)
      obtain ⟨Wb, hWb⟩ : ∃ Wb, Wb = wr.alloc (.cells #[.slice am A[j].1.length cm, .int .i64 A[j].2] 37) := ⟨_, rfl⟩
      have bWb : Below wr.heap.size wr Wb := by rw [hWb]; exact one_box
      have HW : Hid (wr.alloc (.cells #[.slice am A[j].1.length cm, .int .i64 A[j].2] 37) = Wb) := hWb.symm
      have u0 : Wb.cell? ⟨wr.heap.size, 0, none⟩ = some (.slice am A[j].1.length cm) := by rw [hWb, World.cell?_alloc_at _ _ _ _ rfl]; rfl
      have q2 : Hid (Calls Tryz.prog 42 #[.pointer (some ⟨sb.b, 0, none⟩), .slice am A[j].1.length cm] Wb fun e w' => ∃ v, e = .returned v ∧ w'.ownsRow Wb.heap.size 56 3 v (pk A[j].1 ks).length (rc (pk A[j].1 ks)) ∧ Below Wb.heap.size Wb w') := by
        have hA := HA.out.on (hBw.trans (bWb.mono hBw.size))
        exact arKey sb ks A[j].1 _ Wb hA.2.2.2.2 hA.1.cols hA.2.1.1 ((r1.on hBr).on bWb)
      have hbz : w1.heap.size ≤ Wb.heap.size := Nat.le_trans hBr.size bWb.size
      have HO : Hid (∀ W y, W.ownsRow Wb.heap.size 56 3 y (pk A[j].1 ks).length (rc (pk A[j].1 ks)) → Below Wb.heap.size Wb W → ((W.alloc (.cells #[y] 33)).ownsRow w1.heap.size 33 1 (.slice av j cv) j (ps.map (·.1)) ∧ w1.heap.size ≤ W.heap.size + 1) ∧ ∀ v' w', w'.ownsRow w1.heap.size 33 1 v' (j + 1) (ps.map (·.1) ++ [y]) → (W.alloc (.cells #[y] 33)).grownBy w' (Value.ownBlock (.slice av j cv)) → KeyTo ks A w1 (j + 1) v' w') := fun W y hy hb => by
        have hP2 := ((hP.on bWb).on hb).on (one_box (o := .cells #[y] 33))
        refine ⟨⟨by have := hP2.1; rwa [hpl] at this, by have := hb.size; omega⟩, fun v' w' h1 h2 => ?_⟩
        refine ⟨ps ++ [(y, pk A[j].1 ks)], hP2.push (own_on (own_mono hy hbz) one_box) h2 (by rw [hpl]; exact h1), ?_, ?_⟩
        · rw [List.take_succ_eq_append_getElem k2, List.map_append, List.map_append, hpm]; rfl
        · have b3 := (hBr.trans (bWb.mono hBr.size)).trans (hb.mono hbz)
          exact (b3.trans (one_box.mono b3.size)).grown h2 (by have := b3.size; simp; omega) (fun k e => (hP2.1.lt k e).1)
      generalize A[j].1.length = nl at *
      generalize A[j].2 = kj at *
      generalize pk A[j].1 ks = kk at *
      clear hP hpm hBr r1 r2 em hWb bWb hBw hK hbz
      generalize ps.map (·.1) = us at *
      go_wp2_with fail
      rw [HW.out]
      refine q2.out.mono ?_
      rintro e w2 ⟨y, rfl, y1, y2⟩
      obtain ⟨⟨o1, o2⟩, o3⟩ := HO.out w2 y y1 y2
      have O1 : Hid ((w2.alloc (.cells #[y] 33)).ownsRow w1.heap.size 33 1 (.slice av j cv) j us) := o1
      have O3 : Hid (∀ v' w', w'.ownsRow w1.heap.size 33 1 v' (j + 1) (us ++ [y]) → (w2.alloc (.cells #[y] 33)).grownBy w' (Value.ownBlock (.slice av j cv)) → KeyTo ks A w1 (j + 1) v' w') := o3
      obtain ⟨ay, cy, ey⟩ := own_form y1
      clear y1 y2 o1 o3 HO q2 u0
      have Y1 : Hid (y.oneCell' = true) := by show _ = _; rw [ey]; rfl
      subst ey
      generalize kk.length = kl at *
      have hj6 : j ≤ 65536 := by omega
      go_wp2_with (first | (at_builtin; refine wpList_append_own _ rfl _ _ 51 rfl w1.heap.size 33 i0 (.slice none 0 0) 1 24 Tryz.underlying51 hi0 hz0 hz1 hz2 rfl (by decide) _ j us rfl O1.out ⟨w2.heap.size, 0, none⟩ 1 1 [.slice ay kl cy] rfl rfl (cell_one_new _ _ _) (by simpa using Y1.out) (by unfold maxLen; omega) (by omega) (by simp; omega) ?_; intro v4 w4 hown4 hg4 _; have H4 : Hid (KeyTo ks A w1 (j + 1) v4 w4) := O3.out _ _ hown4 hg4; clear hown4 hg4) | go_in)
      go_roundw
      case rel => exact ⟨j + 1, by omega, by go_num, H4⟩
      case measure => simp [intOf]; omega
    · have I1 : ¬ (j : Int) < (vs.length : Int) := by omega
      obtain ⟨ps, hP, hpm, hBr⟩ := hK.out
      have hpa : ps.map (·.2) = A.map (fun e => pk e.1 ks) := by rw [hpm, List.take_of_length_le (by have := HVL.out; omega)]
      have hpl : ps.length ≤ 65536 := by have := congrArg List.length hpa; simp at this; omega
      have hBw : Below w.heap.size w wr := B1.out.trans (hBr.mono B1.out.size)
      obtain ⟨av, cv, ev⟩ := own_form hP.1
      subst ev
      have q5 := sortOf w1.heap.size ps _ wr hP hpl
      have HS : Hid (∀ w', SrtIs ps wr (.slice av ps.length cv) w' → Calls Tryz.prog 45 #[.slice av ps.length cv, .func (.func 46) #[] #[]] w' fun e w'' => KeysEnd ks A w e w'') := fun w' hS =>
        hS.compact hpa hpl hBw (fun k e => Nat.le_trans B1.out.size (hP.1.lt k e).1)
      clear hP hpm hBr hpa hBw hK
      generalize ps.length = pl at *
      go_wp2_with fail
      refine q5.mono ?_
      rintro e w2 ⟨rfl, hS⟩
      have q6 := HS.out w2 hS
      clear q5 HS hS
      go_wp2_with fail
      refine q6.mono ?_
      rintro e w3 ⟨v3, K, rfl, c1, c2, c3⟩
      have HE : Hid (KeysEnd ks A w (.returned v3) w3) := ⟨v3, K, rfl, c1, c2, c3⟩
      clear q6 c1 c2 c3
      go_wp2_with fail
      go_ret
      exact HE.out
end Go.Proofs.YtglbipnppldkmaaGreatDoor
