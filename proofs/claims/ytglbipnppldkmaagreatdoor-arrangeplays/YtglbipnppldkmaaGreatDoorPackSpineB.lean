/- Texts of one claim, one behind the other. -/
import Derived.Test.YtglbipnppldkmaaGreatDoorPackQueueB
import Derived.Test.YtglbipnppldkmaaGreatDoorPackSetsB
/- A spine plainly: a sum of what was gone through; its weights may wrap round on the way. -/
namespace Go.Proofs.YtglbipnppldkmaaGreatDoor
open Go.RowKit
set_option maxRecDepth 100000
/-- How far a merge has come: T was all, S is the sum of what was gone through, Q is what is left. -/
def MgSum (T S Q : List Ent) : Prop := IsZ S ∧ EOk S ∧ (∀ f ∈ Q, f.2 ≠ 0) ∧ EOk Q ∧ (∀ e ∈ S, ∀ f ∈ Q, cR e.1 f.1 ≤ 0) ∧ (∀ r, (wt r S + wt r Q - wt r T) % 18446744073709551616 = 0) ∧ S.length + Q.length ≤ T.length
/-- One entry is gone through. -/
def OneLess (Q Q' : List Ent) (e : Ent) : Prop := e ∈ Q ∧ (∀ f ∈ Q', f ∈ Q) ∧ (∀ f ∈ Q, cR e.1 f.1 ≤ 0) ∧ (∀ s, wt s Q = wt s Q' + wt s [e]) ∧ Q'.length + 1 = Q.length
theorem MgSum.start {T Q : List Ent} (h1 : ∀ f ∈ Q, f.2 ≠ 0) (h2 : EOk Q) (h3 : ∀ r, wt r Q = wt r T) (h4 : Q.length = T.length) : MgSum T [] Q :=
  ⟨⟨List.Pairwise.nil, fun e h => (by cases h)⟩, fun e h => (by cases h), h1, h2, fun e h => (by cases h), fun r => by rw [h3 r]; simp [wt], by simp; omega⟩
theorem wt_in {S : List Ent} (h : IsZ S) (ho : EOk S) (r : List Val) : inI (wt r S) = true := by
  by_cases h0 : wt r S = 0
  · rw [h0]; rfl
  · obtain ⟨e, he, rfl⟩ := mem_of_wt h0
    rw [wt_mem h.1 he]; exact (ho e he).1
theorem mod_eq {a b : Int} (ha : inI a = true) (hb : inI b = true) (h : (a - b) % 18446744073709551616 = 0) : a = b := by
  have h1 := inI_iff.1 ha
  have h2 := inI_iff.1 hb
  omega
theorem MgSum.fin {T S : List Ent} (h : MgSum T S []) (hT : ∀ r, inI (wt r T) = true) (r : List Val) : wt r S = wt r T := by
  obtain ⟨h1, h2, _, _, _, h6, _⟩ := h
  have := h6 r
  simp only [wt, Int.add_zero] at this
  exact mod_eq (wt_in h1 h2 r) (hT r) this
/-- A row that is not the last one's. -/
theorem MgSum.app {T S Q Q' : List Ent} {e : Ent} (h : MgSum T S Q) (ho : OneLess Q Q' e) (hl : ∀ f ∈ S, f.1 ≠ e.1) : MgSum T (S ++ [e]) Q' := by
  obtain ⟨h1, h2, h3, h4, h5, h6, h7⟩ := h
  obtain ⟨o1, o2, o3, o4, o5⟩ := ho
  refine ⟨⟨?_, fun f hf => ?_⟩, fun f hf => ?_, fun f hf => h3 f (o2 f hf), fun f hf => h4 f (o2 f hf), fun f hf g hg => ?_, fun r => ?_, by simp; omega⟩
  · unfold SortedZ
    rw [List.pairwise_append]
    refine ⟨h1.1, List.pairwise_singleton _ _, fun a ha b hb => ?_⟩
    simp at hb; subst hb
    have k1 := h5 a ha b o1
    have k2 : cR a.1 b.1 ≠ 0 := fun k => hl a ha ((cR_zero _ _).1 k)
    omega
  · rcases List.mem_append.1 hf with hf | hf
    · exact h1.2 f hf
    · simp at hf; rw [hf]; exact h3 e o1
  · rcases List.mem_append.1 hf with hf | hf
    · exact h2 f hf
    · simp at hf; rw [hf]; exact h4 e o1
  · rcases List.mem_append.1 hf with hf | hf
    · exact h5 f hf g (o2 g hg)
    · simp at hf; rw [hf]; exact o3 g (o2 g hg)
  · have := h6 r
    rw [o4 r] at this
    rw [wt_append]
    rw [show wt r S + wt r [e] + wt r Q' - wt r T = wt r S + (wt r Q' + wt r [e]) - wt r T by omega]
    exact this
/-- The last one's row. -/
theorem MgSum.more {T S Q Q' : List Ent} {e f : Ent} {n : Int} (h : MgSum T (S ++ [f]) Q) (ho : OneLess Q Q' e) (hl : f.1 = e.1) (hn : n = wrap64 (f.2 + e.2)) (h0 : n ≠ 0) : MgSum T (S ++ [(f.1, n)]) Q' := by
  obtain ⟨h1, h2, h3, h4, h5, h6, h7⟩ := h
  obtain ⟨o1, o2, o3, o4, o5⟩ := ho
  have hI : inI n = true := by rw [hn, inI_iff]; unfold wrap64; omega
  have hs := List.pairwise_append.1 h1.1
  refine ⟨⟨?_, fun g hg => ?_⟩, fun g hg => ?_, fun g hg => h3 g (o2 g hg), fun g hg => h4 g (o2 g hg), fun g hg k hk => ?_, fun r => ?_, by simp at h7 ⊢; omega⟩
  · unfold SortedZ
    rw [List.pairwise_append]
    refine ⟨hs.1, List.pairwise_singleton _ _, fun a ha b hb => ?_⟩
    simp at hb; subst hb
    exact hs.2.2 a ha f (by simp)
  · rcases List.mem_append.1 hg with hg | hg
    · exact h1.2 g (List.mem_append_left _ hg)
    · simp at hg; rw [hg]; exact h0
  · rcases List.mem_append.1 hg with hg | hg
    · exact h2 g (List.mem_append_left _ hg)
    · simp at hg; rw [hg]; exact ⟨hI, (h2 f (by simp)).2⟩
  · rcases List.mem_append.1 hg with hg | hg
    · exact h5 g (List.mem_append_left _ hg) k (o2 k hk)
    · simp at hg; rw [hg]; exact h5 f (by simp) k (o2 k hk)
  · have := h6 r
    rw [o4 r, wt_append] at this
    rw [wt_append]
    have e1 : wt r [f] = if f.1 = r then f.2 else 0 := wt_one r f.1 f.2
    have e2 : wt r [e] = if e.1 = r then e.2 else 0 := wt_one r e.1 e.2
    rw [wt_one]
    rw [e1, e2] at this
    rw [hl] at this ⊢
    split at this
    · rw [if_pos (by assumption), hn]; unfold wrap64; omega
    · rw [if_neg (by assumption)]; omega
/-- The last one's row, and nothing of it is left. -/
theorem MgSum.gone {T S Q Q' : List Ent} {e f : Ent} (h : MgSum T (S ++ [f]) Q) (ho : OneLess Q Q' e) (hl : f.1 = e.1) (hn : wrap64 (f.2 + e.2) = 0) : MgSum T S Q' := by
  obtain ⟨h1, h2, h3, h4, h5, h6, h7⟩ := h
  obtain ⟨o1, o2, o3, o4, o5⟩ := ho
  have hs := List.pairwise_append.1 h1.1
  refine ⟨⟨hs.1, fun g hg => h1.2 g (List.mem_append_left _ hg)⟩, fun g hg => h2 g (List.mem_append_left _ hg), fun g hg => h3 g (o2 g hg), fun g hg => h4 g (o2 g hg), fun g hg k hk => h5 g (List.mem_append_left _ hg) k (o2 k hk), fun r => ?_, by simp at h7; omega⟩
  have := h6 r
  rw [o4 r, wt_append] at this
  have e1 : wt r [f] = if f.1 = r then f.2 else 0 := wt_one r f.1 f.2
  have e2 : wt r [e] = if e.1 = r then e.2 else 0 := wt_one r e.1 e.2
  rw [e1, e2, hl] at this
  unfold wrap64 at hn
  split at this <;> omega
/-- Rows of the last one: no other has it. -/
theorem last_row {S : List Ent} {f : Ent} {r : List Val} (h : SortedZ (S ++ [f])) (hr : ∀ g ∈ S ++ [f], cR g.1 r ≤ 0) (hl : f.1 ≠ r) : ∀ g ∈ S ++ [f], g.1 ≠ r := by
  intro g hg e
  rcases List.mem_append.1 hg with hg' | hg'
  · have h1 := (List.pairwise_append.1 h).2.2 g hg' f (by simp)
    have h2 := hr f (by simp)
    rw [e] at h1
    have := cR_anti f.1 r
    omega
  · simp at hg'; rw [hg'] at e; exact hl e
end Go.Proofs.YtglbipnppldkmaaGreatDoor
/- A spine in memory: its batches, the merge that is under way, and what of the world is its own. -/
namespace Go.Proofs.YtglbipnppldkmaaGreatDoor
open Go.RowKit Go.Sort
set_option maxRecDepth 100000
/-- But for those blocks the world is as it was. -/
def Chg (F : Nat → Prop) (w w' : World) : Prop :=
  w'.os = w.os ∧ w'.tape = w.tape ∧ w'.output = w.output ∧ w.heap.size ≤ w'.heap.size ∧ ∀ k, ¬ F k → k < w.heap.size → w'.heap[k]? = w.heap[k]?
/-- Those blocks, and all that were made meanwhile. -/
def Grow (F : Nat → Prop) (w w' : World) (k : Nat) : Prop := F k ∨ (w.heap.size ≤ k ∧ k < w'.heap.size)
theorem Chg.refl (F : Nat → Prop) (w : World) : Chg F w w := ⟨rfl, rfl, rfl, Nat.le_refl _, fun _ _ _ => rfl⟩
theorem Chg.size {F : Nat → Prop} {w w' : World} (h : Chg F w w') : w.heap.size ≤ w'.heap.size := h.2.2.2.1
theorem Chg.trans {F : Nat → Prop} {a b c : World} (h : Chg F a b) (k : Chg (Grow F a b) b c) : Chg F a c :=
  ⟨k.1.trans h.1, k.2.1.trans h.2.1, k.2.2.1.trans h.2.2.1, Nat.le_trans h.size k.size, fun i h1 h2 => (k.2.2.2.2 i (fun g => g.elim h1 (fun e => by omega)) (Nat.lt_of_lt_of_le h2 h.size)).trans (h.2.2.2.2 i h1 h2)⟩
theorem Chg.trans' {F : Nat → Prop} {a b c : World} (h : Chg F a b) (k : Chg F b c) : Chg F a c :=
  ⟨k.1.trans h.1, k.2.1.trans h.2.1, k.2.2.1.trans h.2.2.1, Nat.le_trans h.size k.size, fun i h1 h2 => (k.2.2.2.2 i h1 (Nat.lt_of_lt_of_le h2 h.size)).trans (h.2.2.2.2 i h1 h2)⟩
theorem Chg.of_below {F : Nat → Prop} {w w' : World} (h : Below w.heap.size w w') : Chg F w w' := ⟨h.os, h.tape, h.output, h.size, fun i _ h2 => h.block i h2⟩
theorem Chg.of_off {F : Nat → Prop} {a b : Nat} {w w' : World} (h : Off a b w w') (ha : F a) (hb : F b) : Chg F w w' :=
  ⟨h.1, h.2.1, h.2.2.1, h.size, fun i h1 h2 => h.2.2.2.2 i (fun e => h1 (e ▸ ha)) (fun e => h1 (e ▸ hb)) h2⟩
theorem Chg.set {F : Nat → Prop} {w : World} {b o : Nat} (u : Value) (hb : F b) : Chg F w (w.setCell ⟨b, o, none⟩ u) :=
  ⟨rfl, rfl, rfl, by simp [World.setCell], fun i h1 _ => Below.heap_setCell _ _ _ _ (fun e => h1 (e ▸ hb))⟩
theorem Chg.grown {F : Nat → Prop} {w w' : World} {g : Option Nat} (h : w.grownBy w' g) (hg : ∀ k, g = some k → F k) : Chg F w w' :=
  ⟨h.os, h.tape, h.output, h.size, fun i h1 h2 => h.block i h2 (fun e => h1 (hg i e.symm))⟩
theorem Chg.drew {F : Nat → Prop} {w w' : World} (h : Chg F w w') : Chg F w w'.drew := h
/-- What lies elsewhere is still read. -/
theorem Sees.chg {R w w' : World} {F : Nat → Prop} (h : Sees R w) (hc : Chg F w w') (hf : ∀ k, F k → Free R k) : Sees R w' :=
  h.at hc.size (fun k hk hl => hc.2.2.2.2 k (fun e => hk (hf k e)) hl)
theorem own_same {base : Nat} {w w' : World} {e : TypeId} {s : Nat} {v : Value} {n : Nat} {xs : List Value} (ho : w.ownsRow base e s v n xs) (hk : ∀ k, v.ownBlock = some k → w'.heap[k]? = w.heap[k]?) : w'.ownsRow base e s v n xs := by
  refine ⟨ho.1, ?_⟩
  rcases ho.2 with hn | ⟨g, cap, cur, rfl, hb, hgg, rest⟩
  · exact .inl hn
  · exact .inr ⟨g, cap, cur, rfl, hb, by rw [hk g rfl]; exact hgg, rest⟩
theorem QAt.same {hb : Nat} {tH : Hd} {ab cap : Nat} {vs : List Value} {w w' : World} (h : QAt hb tH ab cap vs w) (h1 : w'.heap[hb]? = w.heap[hb]?) (h2 : w'.heap[ab]? = w.heap[ab]?) : QAt hb tH ab cap vs w' :=
  ⟨by rw [h1]; exact h.1, own_same h.2.1 (fun k e => by cases e; exact h2), h.2.2⟩
theorem QIs.same {R : World} {hb : Nat} {tH : Hd} {ab cap : Nat} {X : List QEnt} {w w' : World} (h : QIs R hb tH ab cap X w) (h1 : w'.heap[hb]? = w.heap[hb]?) (h2 : w'.heap[ab]? = w.heap[ab]?) (h3 : Sees R w') : QIs R hb tH ab cap X w' :=
  ⟨h.1.same h1 h2, h.2.1, h3, h.2.2.2⟩
theorem QOk.sees {R R' : World} {x : QEnt} (h : QOk R x) (hs : Sees R R') : QOk R' x := ⟨h.1.sees hs, h.2⟩
theorem QIs.read {R R' : World} {hb : Nat} {tH : Hd} {ab cap : Nat} {X : List QEnt} {w : World} (h : QIs R hb tH ab cap X w) (h1 : Sees R R') (h2 : Sees R' w) (h3 : Free R' hb) (h4 : Free R' ab) : QIs R' hb tH ab cap X w :=
  ⟨h.1, fun x hx => (h.2.1 x hx).sees h1, h2, h3, h4, h.2.2.2.2.2⟩
/-- A reading world, and blocks of another one besides. -/
def joinW (R w : World) (Q : Nat → Bool) : World := { w with heap := Array.ofFn (n := w.heap.size) fun k => if Q k then w.heap[k] else (R.heap[k.val]?).getD (.cells #[] 0) }
theorem joinW_cell {R w : World} {Q : Nat → Bool} (hs : R.heap.size ≤ w.heap.size) (p : Addr) : (joinW R w Q).cell? p = if Q p.block then w.cell? p else R.cell? p := by
  unfold World.cell? joinW
  simp only [Array.getElem?_ofFn]
  by_cases hp : p.block < w.heap.size
  · rw [dif_pos hp]
    by_cases hq : Q p.block = true
    · rw [if_pos hq, if_pos hq, Array.getElem?_eq_getElem hp]; rfl
    · rw [if_neg hq, if_neg hq]
      cases hr : R.heap[p.block]? with
      | none => simp
      | some o => rfl
  · rw [dif_neg hp, Array.getElem?_eq_none (by omega), Array.getElem?_eq_none (by omega)]
    simp
theorem joinW_size {R w : World} {Q : Nat → Bool} : (joinW R w Q).heap.size = w.heap.size := by unfold joinW; simp
theorem joinW_up {R w : World} {Q : Nat → Bool} (h : Sees R w) : Sees R (joinW R w Q) := by
  refine ⟨by rw [joinW_size]; exact h.1, fun p v hp => ?_⟩
  rw [joinW_cell h.1]
  split
  · exact h.2 p v hp
  · exact hp
theorem joinW_sees {R w : World} {Q : Nat → Bool} (h : Sees R w) : Sees (joinW R w Q) w := by
  refine ⟨by rw [joinW_size]; exact Nat.le_refl _, fun p v hp => ?_⟩
  rw [joinW_cell h.1] at hp
  split at hp
  · exact hp
  · exact h.2 p v hp
theorem joinW_free {R w : World} {Q : Nat → Bool} (h : Sees R w) {k : Nat} (hf : Free R k) (hq : Q k = false) : Free (joinW R w Q) k := by
  intro p v hp e
  rw [joinW_cell h.1, e, hq] at hp
  exact hf p v (by simpa using hp) e
theorem joinW_at {R w : World} {Q : Nat → Bool} (h : Sees R w) {p : Addr} {v : Value} (hq : Q p.block = true) (hp : w.cell? p = some v) : (joinW R w Q).cell? p = some v := by
  rw [joinW_cell h.1, if_pos hq]; exact hp
theorem joinW_not {R w : World} {Q : Nat → Bool} (h : Sees R w) {k : Nat} (hk : ¬ Free (joinW R w Q) k) : ¬ Free R k ∨ Q k = true := by
  by_cases hf : Free R k
  · right
    cases hq : Q k with
    | true => rfl
    | false => exact absurd (joinW_free h hf hq) hk
  · exact .inl hf
/-- Where a merge's queue stands. -/
abbrev mgH (many : Nat) (sv : Value) : Hd := ⟨140, 1, #[.int .i64 many, undef, sv]⟩
/-- A merge under way in memory. -/
def MgAt (R : World) (mb ab cap many : Nat) (sv : Value) (us : List VEnt) (S : List Ent) (Y : List QEnt) (w : World) : Prop :=
  QIs R mb (mgH many sv) ab cap Y w ∧ Heap (kf Y) Y.length ∧ w.ownsRow 0 37 2 sv us.length (es us) ∧ Reads R us S ∧ ∀ k, sv.ownBlock = some k → Free R k
/-- Where a spine stands: the block, and what lies ahead of it there. -/
structure Sb where
  b : Nat
  cv : Value
/-- A spine's batches in memory. -/
def SpAt (R : World) (sb : Sb) (bv pv : Value) (X : List QEnt) (w : World) : Prop :=
  w.heap[sb.b]? = some (.cells #[sb.cv, bv, pv] 67 (0, 0)) ∧ w.ownsRow 0 29 1 bv X.length (X.map (·.1)) ∧ (∀ x ∈ X, QOk R x ∧ ∀ e ∈ x.2, e.2 ≠ 0) ∧ Sees R w ∧ Free R sb.b ∧ (∀ k, bv.ownBlock = some k → Free R k) ∧ X.length ≤ 65536
/-- What is its own: so much may change. -/
def Foot (R : World) (F : Nat → Prop) (sb : Sb) (bv : Value) (w : World) : Prop := (∀ k, ¬ Free R k → F k) ∧ (∀ k, F k → k < w.heap.size) ∧ F sb.b ∧ ∀ k, bv.ownBlock = some k → F k
/-- The merge that is under way, or none. -/
def UnIs (R : World) (F : Nat → Prop) (bv pv : Value) (X : List QEnt) (w : World) : Option (Nat × Nat × Nat) → Prop
  | none => pv = .pointer none
  | some (mb, many, y) => ∃ ab cap sv us S Y, pv = .pointer (some ⟨mb, 0, none⟩) ∧ MgAt R mb ab cap many sv us S Y w ∧ F mb ∧ F ab ∧ (∀ k, sv.ownBlock = some k → F k) ∧ bv.ownBlock ≠ some ab ∧ MgSum (flat (X.take many)) S (flat Y) ∧ (flat Y).length = y ∧ 1 ≤ many ∧ many ≤ X.length ∧ ∀ r, inI (wt r (flat (X.take many))) = true
/-- A spine: what it is in all, how many batches, how many entries, the merge. -/
def SpX (F : Nat → Prop) (sb : Sb) (A : List Ent) (n m : Nat) (st : Option (Nat × Nat × Nat)) (w : World) : Prop :=
  ∃ R bv pv X, SpAt R sb bv pv X w ∧ Foot R F sb bv w ∧ X.length = n ∧ (flat X).length = m ∧ okZ (flat X) = true ∧ mkZ (flat X) = A ∧ UnIs R F bv pv X w st
theorem SpX.keep {F : Nat → Prop} {sb : Sb} {A : List Ent} {n m : Nat} {st : Option (Nat × Nat × Nat)} {w w' : World} (h : SpX F sb A n m st w) (hs : w.heap.size ≤ w'.heap.size) (hk : ∀ k, F k → w'.heap[k]? = w.heap[k]?) : SpX F sb A n m st w' := by
  obtain ⟨R, bv, pv, X, h1, h2, h3, h4, h5, h6, h7⟩ := h
  have hS : Sees R w' := h1.2.2.2.1.at hs (fun k hf _ => hk k (h2.1 k hf))
  refine ⟨R, bv, pv, X, ⟨by rw [hk sb.b h2.2.2.1]; exact h1.1, own_same h1.2.1 (fun k e => hk k (h2.2.2.2 k e)), h1.2.2.1, hS, h1.2.2.2.2⟩, ⟨h2.1, fun k e => Nat.lt_of_lt_of_le (h2.2.1 k e) hs, h2.2.2⟩, h3, h4, h5, h6, ?_⟩
  cases st with
  | none => exact h7
  | some p =>
    obtain ⟨mb, many, y⟩ := p
    obtain ⟨ab, cap, sv, us, S, Y, g1, ⟨q1, q2, q3, q4, q5⟩, g3, g4, g5, g6⟩ := h7
    exact ⟨ab, cap, sv, us, S, Y, g1, ⟨q1.same (hk _ g3) (hk _ g4) hS, q2, own_same q3 (fun k e => hk k (g5 k e)), q4, q5⟩, g3, g4, g5, g6⟩
theorem SpX.lt {F : Nat → Prop} {sb : Sb} {A : List Ent} {n m : Nat} {st : Option (Nat × Nat × Nat)} {w : World} (h : SpX F sb A n m st w) : ∀ k, F k → k < w.heap.size := by
  obtain ⟨R, bv, pv, X, h1, h2, _⟩ := h; exact h2.2.1
theorem SpX.on {F : Nat → Prop} {sb : Sb} {A : List Ent} {n m : Nat} {st : Option (Nat × Nat × Nat)} {w w' : World} (h : SpX F sb A n m st w) (hB : Below w.heap.size w w') : SpX F sb A n m st w' :=
  h.keep hB.size (fun k e => hB.block k (h.lt k e))
theorem SpX.mono {F F' : Nat → Prop} {sb : Sb} {A : List Ent} {n m : Nat} {st : Option (Nat × Nat × Nat)} {w : World} (h : SpX F sb A n m st w) (hF : ∀ k, F k → F' k) (hl : ∀ k, F' k → k < w.heap.size) : SpX F' sb A n m st w := by
  obtain ⟨R, bv, pv, X, h1, h2, h3, h4, h5, h6, h7⟩ := h
  refine ⟨R, bv, pv, X, h1, ⟨fun k e => hF k (h2.1 k e), hl, hF _ h2.2.2.1, fun k e => hF k (h2.2.2.2 k e)⟩, h3, h4, h5, h6, ?_⟩
  cases st with
  | none => exact h7
  | some p =>
    obtain ⟨mb, many, y⟩ := p
    obtain ⟨ab, cap, sv, us, S, Y, g1, g2, g3, g4, g5, g6⟩ := h7
    exact ⟨ab, cap, sv, us, S, Y, g1, g2, hF _ g3, hF _ g4, fun k e => hF k (g5 k e), g6⟩
theorem SpX.grow {F : Nat → Prop} {sb : Sb} {A : List Ent} {n m : Nat} {st : Option (Nat × Nat × Nat)} {w w' : World} (h : SpX F sb A n m st w') : SpX (Grow F w w') sb A n m st w' :=
  h.mono (fun _ e => .inl e) (fun k e => e.elim (h.lt k) (fun e => e.2))
theorem SpAt.c0 {R : World} {sb : Sb} {bv pv : Value} {X : List QEnt} {w : World} (h : SpAt R sb bv pv X w) : w.cell? ⟨sb.b, 1, none⟩ = some bv := by simp [World.cell?, h.1]
theorem SpAt.c1 {R : World} {sb : Sb} {bv pv : Value} {X : List QEnt} {w : World} (h : SpAt R sb bv pv X w) : w.cell? ⟨sb.b, 2, none⟩ = some pv := by simp [World.cell?, h.1]
theorem SpAt.fz {R : World} {sb : Sb} {bv pv : Value} {X : List QEnt} {w : World} (h : SpAt R sb bv pv X w) (o : Nat) : w.frozen? ⟨sb.b, o, none⟩ = false := by simp [World.frozen?, h.1]
theorem LsAt.of_own {base : Nat} {w : World} {v : Value} {vs : List Value} (h : w.ownsRow base 29 1 v vs.length vs) : LsAt w v vs := by
  have hlt := h.lt
  obtain ⟨h1, h2 | ⟨g, cap, cur, rfl, hg, hh, hc, hm, hs, ht⟩⟩ := h
  · exact .inl ⟨none, 0, h2.1, List.eq_nil_of_length_eq_zero h2.2⟩
  · have own : w.ownsRow base 29 1 (.slice (some ⟨g, 0, none⟩) vs.length cap) vs.length vs := ⟨h1, .inr ⟨g, cap, cur, rfl, hg, hh, hc, hm, hs, ht⟩⟩
    refine .inr ⟨g, 0, cap, rfl, hc, hm, (hlt g rfl).2, fun i hi => ?_⟩
    rw [Nat.zero_add, own.cellAt i (by omega)]; exact List.getElem?_eq_getElem hi
theorem SpAt.ls {R : World} {sb : Sb} {bv pv : Value} {X : List QEnt} {w : World} (h : SpAt R sb bv pv X w) : LsIs w bv X :=
  ⟨LsAt.of_own (base := 0) (by rw [List.length_map]; exact h.2.1), fun x hx => ⟨((h.2.2.1 x hx).1.1).sees h.2.2.2.1, (h.2.2.1 x hx).1.2.2⟩, h.2.2.2.2.2.2⟩
theorem SpAt.order {R : World} {sb : Sb} {bv pv : Value} {X : List QEnt} {w : World} (h : SpAt R sb bv pv X w) : InOrder X := fun x hx => ⟨(h.2.2.1 x hx).1.2.1, (h.2.2.1 x hx).1.2.2.1⟩
/-- A spine of none. -/
theorem SpX.new (w : World) (cv : Value) : SpX (fun k => k = w.heap.size) ⟨w.heap.size, cv⟩ [] 0 0 none (w.alloc (.cells #[cv, .slice none 0 0, .pointer none] 67)) := by
  have hf : ∀ k, Free { w with heap := #[] } k := fun k p v hp => by simp [World.cell?] at hp
  refine ⟨{ w with heap := #[] }, .slice none 0 0, .pointer none, [], ⟨heap_alloc_new w _, World.ownsRow_nil _ _ _ _, fun x hx => (by cases hx), ⟨by simp, fun p v hp => by simp [World.cell?] at hp⟩, hf _, fun k e => (by cases e), by simp⟩, ⟨fun k e => absurd (hf k) e, fun k e => by subst e; simp, rfl, fun k e => (by cases e)⟩, rfl, rfl, rfl, rfl, rfl⟩
/-- A spine between calls. -/
def SpIs (F : Nat → Prop) (sb : Sb) (A : List Ent) (n m : Nat) (w : World) : Prop := ∃ st, SpX F sb A n m st w ∧ ∀ mb many y, st = some (mb, many, y) → 0 < y
theorem SpIs.keep {F : Nat → Prop} {sb : Sb} {A : List Ent} {n m : Nat} {w w' : World} (h : SpIs F sb A n m w) (hs : w.heap.size ≤ w'.heap.size) (hk : ∀ k, F k → w'.heap[k]? = w.heap[k]?) : SpIs F sb A n m w' := by
  obtain ⟨st, h1, h2⟩ := h; exact ⟨st, h1.keep hs hk, h2⟩
theorem SpIs.lt {F : Nat → Prop} {sb : Sb} {A : List Ent} {n m : Nat} {w : World} (h : SpIs F sb A n m w) : ∀ k, F k → k < w.heap.size := by
  obtain ⟨st, h1, h2⟩ := h; exact h1.lt
theorem SpIs.on {F : Nat → Prop} {sb : Sb} {A : List Ent} {n m : Nat} {w w' : World} (h : SpIs F sb A n m w) (hB : Below w.heap.size w w') : SpIs F sb A n m w' :=
  h.keep hB.size (fun k e => hB.block k (h.lt k e))
theorem SpIs.grow {F : Nat → Prop} {sb : Sb} {A : List Ent} {n m : Nat} {w w' : World} (h : SpIs F sb A n m w') : SpIs (Grow F w w') sb A n m w' := by
  obtain ⟨st, h1, h2⟩ := h; exact ⟨st, h1.grow, h2⟩
theorem SpIs.new (w : World) (cv : Value) : SpIs (fun k => k = w.heap.size) ⟨w.heap.size, cv⟩ [] 0 0 (w.alloc (.cells #[cv, .slice none 0 0, .pointer none] 67)) := ⟨none, SpX.new w cv, fun _ _ _ e => by cases e⟩
/-- No more batches than entries, and of none no row. -/
theorem SpX.le {F : Nat → Prop} {sb : Sb} {A : List Ent} {n m : Nat} {st : Option (Nat × Nat × Nat)} {w : World} (h : SpX F sb A n m st w) : n ≤ m ∧ (A ≠ [] → 0 < n) ∧ n ≤ 65536 ∧ IsZ A := by
  obtain ⟨R, bv, pv, X, h1, h2, h3, h4, h5, h6, h7⟩ := h
  refine ⟨?_, fun hA => ?_, by rw [← h3]; exact h1.2.2.2.2.2.2, by rw [← h6]; exact mkZ_isZ _⟩
  · rw [← h3, ← h4]
    have := h1.order
    clear h1 h2 h3 h4 h5 h6 h7
    induction X with
    | nil => simp
    | cons x X ih =>
      rw [flat_cons, List.length_append, List.length_cons]
      have h1 := ih (fun y hy => this y (List.mem_cons_of_mem _ hy))
      have h2 := List.length_pos_iff.2 (this x (by simp)).1
      omega
  · rw [← h3]
    cases X with
    | nil => exact absurd h6.symm hA
    | cons x X => simp
theorem SpIs.le {F : Nat → Prop} {sb : Sb} {A : List Ent} {n m : Nat} {w : World} (h : SpIs F sb A n m w) : n ≤ m ∧ (A ≠ [] → 0 < n) ∧ n ≤ 65536 ∧ IsZ A := by
  obtain ⟨st, h1, _⟩ := h; exact h1.le
end Go.Proofs.YtglbipnppldkmaaGreatDoor
