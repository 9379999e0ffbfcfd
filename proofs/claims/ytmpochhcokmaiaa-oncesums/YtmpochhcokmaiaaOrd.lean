/- A region that draws its order, walked once, in an order that the prover names: operations that yield one value in every world of the class come up as soon as they may; of the others just one may come up at a time. -/
import Derived.Deep.RegionHeld3
import Derived.Lib.QuietBelow
import Derived.BigQuiet
import Derived.Shelf.Abstract
import Derived.Test.YtmpochhcokmaiaaProg
namespace Go.Proofs.Ytmpochhcokmaiaa
open Go.RowKit Go.Sort
set_option linter.unusedVariables false

/-- Operations that, if they come to an end, yield a value. -/
def valOp : Op → Bool
  | .move _ | .assign _ | .nilCheck _ | .pick .. | .build .. | .load .. | .binOp .. | .unOp .. | .convert .. | .makeInterface .. | .slice .. | .fieldAddr .. | .field .. | .indexAddr .. | .index .. | .extract .. => true
  | .call { callee := .builtin .len, .. } => true
  | _ => false
theorem val_map {A : Type} {P : Program} (f : A → Value) (s : Sem A) (w w' : World) (n : Next) (h : (do let x ← s; pure (Next.value (f x)) : Sem Next).run P w = .ok n w') : ∃ v, n = .value v := by
  have e : (do let x ← s; pure (Next.value (f x)) : Sem Next).run P w = (s.run P w).andThen fun x w'' => (pure (Next.value (f x)) : Sem Next).run P w'' := Sem.run_bind ..
  rw [e] at h
  cases hs : s.run P w with
  | ok v w1 =>
    rw [hs] at h
    simp [Result.andThen] at h
    exact ⟨f v, h.1.symm⟩
  | halt x w1 =>
    rw [hs] at h
    simp [Result.andThen] at h
theorem pan_no {P : Program} {w w' : World} {n : Next} : ¬ (runtimePanic .nilDeref : Sem Next).run P w = .ok n w' := fun h => by simp [runtimePanic, goPanic, Sem.run] at h
theorem bind_ok {P : Program} {w' : World} {n : Next} {A : Type} (s : Sem A) (f : A → Sem Next) (w : World) (h : (s >>= f).run P w = .ok n w') : ∃ a w1, (f a).run P w1 = .ok n w' := by
  rw [Sem.run_bind] at h
  cases hs : s.run P w with
  | ok v w1 => rw [hs] at h; exact ⟨v, w1, by simpa [Result.andThen] using h⟩
  | halt x w1 => rw [hs] at h; simp [Result.andThen] at h
theorem pure_val {P : Program} {w' : World} {n : Next} (v : Value) (w : World) (h : (pure (Next.value v) : Sem Next).run P w = .ok n w') : ∃ v, n = .value v := by
  simp at h; exact ⟨v, h.1.symm⟩
theorem val_of_run {P : Program} {ev : Operand → Value} {o : Oper} {w w' : World} {n : Next} (hv : valOp o.op = true) (h : (execOp ev o).run P w = .ok n w') : ∃ v, n = .value v := by
  unfold execOp at h
  generalize o.op = p at *
  cases p <;> try (exact absurd (show false = true from hv) (by decide))
  case nilCheck x =>
    dsimp only at h
    split at h
    · exact absurd h pan_no
    · exact absurd h pan_no
    · exact absurd h pan_no
    · split at h
      · exact absurd h pan_no
      · obtain ⟨a1, w1, h1⟩ := bind_ok _ _ _ h
        obtain ⟨a2, w2, h2⟩ := bind_ok _ _ _ h1
        split at h2
        · obtain ⟨a3, w3, h3⟩ := bind_ok _ _ _ h2
          exact pure_val _ _ h3
        · exact pure_val _ _ h2
      · exact pure_val _ _ h
    · exact pure_val _ _ h
  case pick c x y => exact val_map (fun t : Bool => if t = true then ev x else ev y) _ _ _ _ h
  case call c =>
    obtain ⟨callee, args, ts⟩ := c
    cases callee with
    | builtin b =>
      cases b <;> try (exact absurd (show false = true from hv) (by decide))
      simp only [resolve, Sem.run_bind] at h
      have h' : (do pure (Next.value (← Builtin.len_ ts o.type (args.map ev))) : Sem Next).run P w = .ok n w' := h
      exact val_map id _ _ _ _ h'
    | value x => exact absurd (show false = true from hv) (by decide)
    | invoke r m => exact absurd (show false = true from hv) (by decide)
  all_goals first
    | exact val_map id _ _ _ _ h
    | (simp at h; exact ⟨_, h.1.symm⟩)
section
variable {P : Program} {md : Region.Mode} {ops : Array Oper} {Q : Exit → Act → World → Prop} {S : World → Prop}
/-- The walk in an order that is named: 'true': an operation that yields one value in every world of the class; 'false': one that is run where it comes up. -/
def wpOrd (P : Program) (ops : Array Oper) (Q : Exit → Act → World → Prop) (S : World → Prop) : List (Nat × Bool) → Act → World → Prop
  | [], a, w => Q .normal a w
  | (i, true) :: l, a, w => ∃ o, ops[i]? = some o ∧ wpQuiet P ops S (fun a' => wpOrd P ops Q S l a' w) [o] a
  | (i, false) :: l, a, w => wpOp P ops Q i (fun a' w' => S w' ∧ wpOrd P ops Q S l a' w') a w
/-- Is it an order of that kind? -/
def ordB (md : Region.Mode) (ops : Array Oper) : List (Nat × Bool) → Array Bool → Bool
  | [], listed => (Region.ready md ops listed).isEmpty
  | (i, true) :: l, listed => (Region.ready md ops listed).contains i && Region.free md ops listed i && ((ops[i]?).map fun o => valOp o.op).getD false && ordB md ops l (listed.setIfInBounds i true)
  | (i, false) :: l, listed => (Region.ready md ops listed == [i]) && ordB md ops l (listed.setIfInBounds i true)
theorem wpAnyH_ord (hs : Region.noSelect ops = true) (hQ : ∀ c a d v w, Q (.panic c) (a.put d v) w → Q (.panic c) a w) : ∀ (l : List (Nat × Bool)) (listed : Array Bool) (a : Act) (w : World),
    ordB md ops l listed = true → S w → wpOrd P ops Q S l a w → wpAnyH P md ops Q S l.length listed a w
  | [], listed, a, w, hB, hS, h => by
    have e : Region.ready md ops listed = [] := by simpa [ordB] using hB
    exact wpAnyH_done e h _
  | (i, true) :: l, listed, a, w, hB, hS, h => by
    obtain ⟨o, ho, hq⟩ := h
    simp only [ordB, Bool.and_eq_true] at hB
    obtain ⟨⟨⟨hr, hf⟩, hv⟩, hB'⟩ := hB
    rw [ho] at hv
    have hv' : valOp o.op = true := hv
    by_cases hw : Region.wanted o (yielded ops a.tmps) = true
    · have hq' : o.quiet P a S (fun a' => wpOrd P ops Q S l a' w) := by
        have := hq; unfold wpQuiet at this; rw [if_pos hw] at this; exact this
      obtain ⟨v, h1, h2⟩ := hq'
      refine wpAnyH_take ho hs hf hr (fun c a w => hQ c a _ _ w) (.inl ⟨hw, fun W hW => ?_⟩) hS (wpAnyH_ord hs hQ l _ _ w hB' hS h2)
      have h3 := h1 W hW
      unfold Oper.quietAt at h3
      cases hr : (execOp a.eval o).run P W with
      | ok n w1 =>
        obtain ⟨u, rfl⟩ := val_of_run hv' hr
        rw [hr] at h3
        obtain ⟨rfl, rfl⟩ := h3
        rfl
      | halt x w1 =>
        rw [hr] at h3
        exact False.elim h3
    · have hw' : Region.wanted o (yielded ops a.tmps) = false := by simpa using hw
      have h2 : wpOrd P ops Q S l (a.put o.dst undef) w := by
        have := hq; unfold wpQuiet at this; rw [if_neg hw] at this; exact this
      exact wpAnyH_take ho hs hf hr (fun c a w => hQ c a _ _ w) (.inr ⟨hw', rfl⟩) hS (wpAnyH_ord hs hQ l _ _ w hB' hS h2)
  | (i, false) :: l, listed, a, w, hB, hS, h => by
    simp only [ordB, Bool.and_eq_true, beq_iff_eq] at hB
    refine wpAnyH_all hB.1 (by simp) fun j hj => ?_
    obtain rfl : j = i := by simpa using hj
    exact wpOp_mono (fun a' w' h' => ⟨h'.1, wpAnyH_ord hs hQ l _ a' w' hB.2 h'.1 h'.2⟩) h
/-- A class of worlds: those that meet K. -/
structure Wd (K : World → Prop) where
  v : World
  ok : K v
theorem Wd.of {K : World → Prop} {w : World} (h : K w) : ∃ p : Wd K, w = p.v := ⟨⟨w, h⟩, rfl⟩
theorem wp_region_ord {K : World → Prop} {id : Nat} {a : Act} {w : World} {l : List Oper} (ord : List (Nat × Bool)) (hm : P.follows .mixedOrders = true)
    (hB : (Region.noSelect l.toArray && (ord.length == l.toArray.size) && ordB .any l.toArray ord (Array.replicate l.toArray.size false)) = true) (hQ : ∀ c a d v w, Q (.panic c) (a.put d v) w → Q (.panic c) a w)
    (h0 : K w.drew) (h : wpOrd P l.toArray Q (fun w' => ∃ p : Wd K, w' = p.v) ord a w.drew) : (Code.region id l.toArray true).wp P Q a w := by
  simp only [Bool.and_eq_true, beq_iff_eq] at hB
  have := wpAnyH_ord (P := P) (Q := Q) (S := fun w' => ∃ p : Wd K, w' = p.v) hB.1.1 hQ ord _ a w.drew hB.2 (Wd.of h0) h
  rw [hB.1.2] at this
  exact wp_region_held hm this
/-- The class most used: nothing of what was there has turned. -/
def Ex (w w' : World) : Prop := Below w.heap.size w w'
theorem Ex.ne (w : World) : Nonempty (Wd (Ex w)) := ⟨⟨w, Below.refl _ _⟩⟩
theorem Ex.cell {w : World} {a : Addr} {v : Value} (h : w.cell? a = some v) (p : Wd (Ex w)) : p.v.cell? a = some v := by
  rw [Below.cell (h := p.ok) (p := a) (World.block_lt_of_cell? _ _ h)]; exact h
theorem Ex.of {w w' : World} (h : Below w.heap.size w w') : ∃ p : Wd (Ex w), w' = p.v := ⟨⟨w', h⟩, rfl⟩
/-- The regions of a body; the order, held against a region once for all. -/
def regsOf : Code → List (Nat × Array Oper)
  | .region id ops _ => [(id, ops)]
  | .seq a b => regsOf a ++ regsOf b
  | .cond _ a b => regsOf a ++ regsOf b
  | .block _ b => regsOf b
  | .loop b => regsOf b
  | .rangeFunc _ _ a b => regsOf a ++ regsOf b
  | .scope b => regsOf b
  | _ => []
def regOf (c : Option Code) (k : Nat) : Array Oper := (((c.map regsOf).getD []).lookup k).getD #[]
def ordOk (ops : Array Oper) (ord : List (Nat × Bool)) : Bool := Region.noSelect ops && (ord.length == ops.size) && ordB .any ops ord (Array.replicate ops.size false)
theorem wp_region_ord_at (K : World → Prop) {id : Nat} {a : Act} {w : World} {l : List Oper} (ops0 : Array Oper) (ord : List (Nat × Bool)) (hm : P.follows .mixedOrders = true) (he : l.toArray = ops0) (hB : ordOk ops0 ord = true)
    (h0 : K w.drew) (h : wpOrd P l.toArray (NoPanic Q) (fun w' => ∃ p : Wd K, w' = p.v) ord a w.drew) : (Code.region id l.toArray true).wp P Q a w := by
  rw [← he] at hB
  exact wp_region_noPanic (wp_region_ord ord hm hB (fun _ _ _ _ _ h => h) h0 h)
theorem ord_end {a : Act} {w : World} (h : Q .normal a w) : wpOrd P ops (NoPanic Q) S [] a w := h
/-- An operation of a list that is written out. -/
def nthO : List Oper → Nat → Option Oper
  | [], _ => none
  | o :: _, 0 => some o
  | _ :: l, n + 1 => nthO l n
theorem nthO_at : ∀ {L : List Oper} {i : Nat} {o : Oper}, nthO L i = some o → L.toArray[i]? = some o
  | [], _, _, h => by cases h
  | x :: l, 0, o, h => by simpa [nthO] using h
  | x :: l, n + 1, o, h => by
    have := nthO_at (L := l) (i := n) h
    simpa using this
theorem ord_quiet {i : Nat} {o : Oper} {L : List Oper} {l : List (Nat × Bool)} {a : Act} {w : World} (ho : nthO L i = some o) (h : wpQuiet P L.toArray S (fun a' => wpOrd P L.toArray Q S l a' w) [o] a) : wpOrd P L.toArray Q S ((i, true) :: l) a w := ⟨o, nthO_at ho, h⟩
theorem ord_loud {i : Nat} {o : Oper} {L : List Oper} {l : List (Nat × Bool)} {a : Act} {w : World} (ho : nthO L i = some o)
    (h : ∀ K : Act → World → Prop, (∀ a' w', S w' → wpOrd P L.toArray Q S l a' w' → K a' w') → if Region.wanted o (yielded L.toArray a.tmps) = true then Oper.wp P o a w K Q else K (a.put o.dst undef) w) : wpOrd P L.toArray Q S ((i, false) :: l) a w :=
  wpOp_step (nthO_at ho) fun K hK => h K fun a' w' h1 h2 => hK a' w' ⟨h1, h2⟩
/-- A call that is run where it comes up. -/
theorem ord_call {i : Nat} {o : Oper} {L : List Oper} {l : List (Nat × Bool)} {a : Act} {w : World} (ho : nthO L i = some o) (hw : Region.wanted o (yielded L.toArray a.tmps) = true)
    (f : FuncId) {xs : List Operand} {ts : Array TypeId} (hop : o.op = .call { callee := .value (.func f), args := xs.toArray, argTypes := ts }) (he : ∀ args w, (callFunc f args).run P w = .ok (.enter f args) w)
    (vs : List Value) (hv : xs.map a.eval = vs) (R : Ending → World → Prop) (hc : Calls P f vs.toArray w R) (h : ∀ e w', R e w' → ∃ v, e = .returned v ∧ S w' ∧ wpOrd P L.toArray Q S l (a.put o.dst v) w') : wpOrd P L.toArray Q S ((i, false) :: l) a w := by
  refine ord_loud ho fun K hK => ?_
  rw [if_pos hw]
  have e0 : a.eval (.func f) = .func (.func f) #[] #[] := rfl
  subst hv
  unfold Oper.wp
  simp [execOp, hop, resolve, invoke, e0, Deferred.ofValue, he, Oper.upon]
  exact hc.mono fun e w' h1 => by
    obtain ⟨v, rfl, h2, h3⟩ := h e w' h1
    exact hK _ _ h2 h3
/-- An operation whose guard is not met. -/
theorem ord_skip {i : Nat} {o : Oper} {L : List Oper} {l : List (Nat × Bool)} {a : Act} {w : World} (ho : nthO L i = some o) (hw : Region.wanted o (yielded L.toArray a.tmps) = false) (hS : S w) (h : wpOrd P L.toArray Q S l (a.put o.dst undef) w) : wpOrd P L.toArray Q S ((i, false) :: l) a w :=
  ord_loud ho fun K hK => by rw [if_neg (by rw [hw]; exact Bool.false_ne_true)]; exact hK _ _ hS h
end
end Go.Proofs.Ytmpochhcokmaiaa
