/- The document's sums in memory: a row and a wide number each; and where one more entry goes. -/
import Derived.Test.YtmpochhcokmaiaaZMem
import Derived.Test.YtmpochhcokmaiaaZWide
import Derived.Test.YtmpochhcokmaiaaRowStore
namespace Go.Proofs.Ytmpochhcokmaiaa
open Go.RowKit
set_option maxRecDepth 100000

/-- A sum's four cells; sums' cells. -/
def sc (e : VEnt) : List Value := [e.1, .int .u64 (wHi e.2), .int .u64 (wMid e.2), .int .u64 (wLo e.2)]
def ss (l : List VEnt) : List Value := l.flatMap sc
theorem ss_cons (a : VEnt) (l : List VEnt) : ss (a :: l) = sc a ++ ss l := rfl
theorem ss_len (l : List VEnt) : (ss l).length = l.length * 4 := by
  induction l with
  | nil => rfl
  | cons a l ih => rw [ss_cons, List.length_append, ih, List.length_cons]; simp [sc]; omega
theorem ss_snoc (l : List VEnt) (v : VEnt) : ss (l ++ [v]) = ss l ++ sc v := by simp [ss]
theorem ss_at : ∀ (l : List VEnt) (i : Nat) (h : i < l.length), (ss l)[i * 4]? = some l[i].1 ∧ (ss l)[i * 4 + 1]? = some (.int .u64 (wHi l[i].2)) ∧ (ss l)[i * 4 + 2]? = some (.int .u64 (wMid l[i].2)) ∧ (ss l)[i * 4 + 3]? = some (.int .u64 (wLo l[i].2))
  | a :: l, 0, _ => ⟨rfl, rfl, rfl, rfl⟩
  | a :: l, i + 1, h => by
    have ih := ss_at l i (by simpa using h)
    have hv : (sc a).length = 4 := rfl
    rw [ss_cons, List.getElem?_append_right (by omega), List.getElem?_append_right (by omega), List.getElem?_append_right (by omega), List.getElem?_append_right (by omega), hv]
    rw [show (i + 1) * 4 - 4 = i * 4 by omega, show (i + 1) * 4 + 1 - 4 = i * 4 + 1 by omega, show (i + 1) * 4 + 2 - 4 = i * 4 + 2 by omega, show (i + 1) * 4 + 3 - 4 = i * 4 + 3 by omega]
    simpa using ih
theorem ss_set : ∀ (l : List VEnt) (i : Nat) (x : VEnt), i < l.length → ss (l.set i x) = ((((ss l).set (i * 4) x.1).set (i * 4 + 1) (.int .u64 (wHi x.2))).set (i * 4 + 2) (.int .u64 (wMid x.2))).set (i * 4 + 3) (.int .u64 (wLo x.2))
  | a :: l, 0, x, _ => rfl
  | a :: l, i + 1, x, h => by
    have hv : (sc a).length = 4 := rfl
    have ih := ss_set l i x (by simpa using h)
    have s : ∀ (m : List Value) (j : Nat) (u : Value), (sc a ++ m).set (j + 4) u = sc a ++ m.set j u := by
      intro m j u; rw [List.set_append, if_neg (by omega), hv, Nat.add_sub_cancel]
    rw [List.set_cons_succ, ss_cons, ss_cons, ih, show (i + 1) * 4 = i * 4 + 4 by omega, show i * 4 + 4 + 1 = (i * 4 + 1) + 4 by omega, show i * 4 + 4 + 2 = (i * 4 + 2) + 4 by omega, show i * 4 + 4 + 3 = (i * 4 + 3) + 4 by omega, s, s, s, s]
/-- The row stays. -/
theorem set_same {α : Type} : ∀ (l : List α) (i : Nat) (x : α), l[i]? = some x → l.set i x = l
  | a :: l, 0, x, h => by simp at h; rw [h]; rfl
  | a :: l, i + 1, x, h => by rw [List.set_cons_succ, set_same l i x (by simpa using h)]
theorem ss_setw (l : List VEnt) (i : Nat) (h : i < l.length) (k : Int) : ss (l.set i (l[i].1, k)) = (((ss l).set (i * 4 + 1) (.int .u64 (wHi k))).set (i * 4 + 1 + 1) (.int .u64 (wMid k))).set (i * 4 + 1 + 2) (.int .u64 (wLo k)) := by
  rw [ss_set l i _ h]
  have := (ss_at l i h).1
  rw [show ((ss l).set (i * 4) (l[i].1, k).1) = ss l from set_same _ _ _ this]
theorem own_on {w1 w2 : World} {base : Nat} {e : TypeId} {size : Nat} {v : Value} {n : Nat} {xs : List Value} (h : w1.ownsRow base e size v n xs) (k : Below w1.heap.size w1 w2) : w2.ownsRow base e size v n xs := by
  obtain ⟨h1, h2 | ⟨g, cap, cur, hv, hg, hh, r⟩⟩ := h
  · exact ⟨h1, .inl h2⟩
  · exact ⟨h1, .inr ⟨g, cap, cur, hv, hg, by rw [k.block g (Array.getElem?_eq_some_iff.1 hh).1]; exact hh, r⟩⟩
/-- The list that a call owns: sums as they stand. -/
def OwnS (base : Nat) (w : World) (v : Value) (vs : List VEnt) : Prop := w.ownsRow base 54 4 v vs.length (ss vs)
theorem OwnS.on {base : Nat} {w w' : World} {v : Value} {vs : List VEnt} (h : OwnS base w v vs) (k : Below w.heap.size w w') : OwnS base w' v vs := own_on h k
theorem OwnS.form {base : Nat} {w : World} {v : Value} {vs : List VEnt} (h : OwnS base w v vs) : ∃ a cap, v = .slice a vs.length cap := by
  rcases h.2 with ⟨h1, h2⟩ | ⟨g, cap, cur, hv, _⟩
  · exact ⟨none, 0, by rw [h1, h2]⟩
  · exact ⟨_, _, hv⟩
theorem OwnS.at {base : Nat} {w : World} {a : Option Addr} {n cap : Nat} {vs : List VEnt} (h : OwnS base w (.slice a n cap) vs) (i : Nat) (hi : i < vs.length) :
    ∃ g, a = some ⟨g, 0, none⟩ ∧ base ≤ g ∧ g < w.heap.size ∧ w.cell? ⟨g, i * 4, none⟩ = some vs[i].1 ∧ w.cell? ⟨g, i * 4 + 1, none⟩ = some (.int .u64 (wHi vs[i].2)) ∧ w.cell? ⟨g, i * 4 + 2, none⟩ = some (.int .u64 (wMid vs[i].2)) ∧ w.cell? ⟨g, i * 4 + 3, none⟩ = some (.int .u64 (wLo vs[i].2)) := by
  have hlt := h.lt
  rcases h.2 with ⟨_, h2⟩ | ⟨g, cap', cur, hv, _⟩
  · omega
  · simp only [Value.slice.injEq] at hv
    obtain ⟨rfl, rfl, rfl⟩ := hv
    have hc := ss_at vs i hi
    have own : w.ownsRow base 54 4 (.slice (some ⟨g, 0, none⟩) vs.length cap) vs.length (ss vs) := h
    refine ⟨g, rfl, (hlt g rfl).1, (hlt g rfl).2, ?_, ?_, ?_, ?_⟩
    · rw [own.cellAt _ (by omega)]; exact hc.1
    · rw [own.cellAt _ (by omega)]; exact hc.2.1
    · rw [own.cellAt _ (by omega)]; exact hc.2.2.1
    · rw [own.cellAt _ (by omega)]; exact hc.2.2.2
theorem OwnS.frozen {base : Nat} {w : World} {g n cap : Nat} {vs : List VEnt} (h : OwnS base w (.slice (some ⟨g, 0, none⟩) n cap) vs) (o : Nat) : w.frozen? ⟨g, o, none⟩ = false := by
  rcases h.2 with ⟨e, _⟩ | ⟨g', cap', cur, hv, _, hh, _⟩
  · cases e
  · simp only [Value.slice.injEq, Option.some.injEq, Addr.mk.injEq, and_true] at hv
    obtain ⟨rfl, _⟩ := hv
    exact Lib.frozen_of_heap hh o

/-- Where one more entry goes: all ahead are less, none behind is. -/
def Split (z : List Ent) (r : List Val) (p q : Nat) : Prop := (∀ i (h : i < z.length), i < p → cR z[i].1 r < 0) ∧ ∀ i (h : i < z.length), q ≤ i → ¬ cR z[i].1 r < 0
theorem Split.all (z : List Ent) (r : List Val) : Split z r 0 z.length := ⟨fun i _ h => by omega, fun i h h' => by omega⟩
theorem Split.up {z : List Ent} {r : List Val} {p q m : Nat} (hz : SortedZ z) (h : Split z r p q) (hm : m < z.length) (hlt : cR z[m].1 r < 0) : Split z r (m + 1) q := by
  refine ⟨fun i hi hi' => ?_, h.2⟩
  by_cases e : i = m
  · subst e; exact hlt
  · exact cR_lt_trans (List.pairwise_iff_getElem.1 hz i m hi hm (by omega)) hlt
theorem Split.down {z : List Ent} {r : List Val} {p q m : Nat} (hz : SortedZ z) (h : Split z r p q) (hm : m < z.length) (hge : ¬ cR z[m].1 r < 0) : Split z r p m := by
  refine ⟨h.1, fun i hi hi' hlt => ?_⟩
  by_cases e : i = m
  · subst e; exact hge hlt
  · exact hge (cR_lt_trans (List.pairwise_iff_getElem.1 hz m i hm hi (by omega)) hlt)
theorem ins_hit : ∀ {z : List Ent} {r : List Val} {k : Int} {p : Nat}, Split z r p p → (hp : p < z.length) → cR z[p].1 r = 0 → ins r k z = z.set p (z[p].1, z[p].2 + k)
  | e :: z, r, k, 0, h, hp, h0 => by
    simp only [List.getElem_cons_zero] at h0
    unfold ins; rw [if_neg (by omega), if_pos h0]; rfl
  | e :: z, r, k, p + 1, h, hp, h0 => by
    have h1 := h.1 0 (by simp) (by omega)
    simp only [List.getElem_cons_zero] at h1
    have ih := ins_hit (z := z) (r := r) (k := k) (p := p) ⟨fun i hi hi' => by have := h.1 (i + 1) (by simpa using hi) (by omega); simpa using this, fun i hi hi' => by have := h.2 (i + 1) (by simpa using hi) (by omega); simpa using this⟩ (by simpa using hp) (by simpa using h0)
    unfold ins; rw [if_pos h1, ih]; rfl
theorem ins_new : ∀ {z : List Ent} {r : List Val} {k : Int} {p : Nat}, Split z r p p → p ≤ z.length → ((hp : p < z.length) → cR z[p].1 r ≠ 0) → ins r k z = z.take p ++ (r, k) :: z.drop p
  | [], r, k, p, h, hp, h0 => by obtain rfl : p = 0 := by simpa using hp
                                 rfl
  | e :: z, r, k, 0, h, hp, h0 => by
    have h1 := h.2 0 (by simp) (by omega)
    have h2 := h0 (by simp)
    simp only [List.getElem_cons_zero] at h1 h2
    unfold ins; rw [if_neg h1, if_neg h2]; rfl
  | e :: z, r, k, p + 1, h, hp, h0 => by
    have h1 := h.1 0 (by simp) (by omega)
    simp only [List.getElem_cons_zero] at h1
    have ih := ins_new (z := z) (r := r) (k := k) (p := p) ⟨fun i hi hi' => by have := h.1 (i + 1) (by simpa using hi) (by omega); simpa using this, fun i hi hi' => by have := h.2 (i + 1) (by simpa using hi) (by omega); simpa using this⟩ (by simpa using hp) (fun hp' => by have := h0 (by simp; omega); simpa using this)
    unfold ins; rw [if_pos h1, ih]; rfl
theorem ins_len (r : List Val) (k : Int) : ∀ z : List Ent, (ins r k z).length ≤ z.length + 1
  | [] => by simp [ins]
  | e :: z => by
    have := ins_len r k z
    unfold ins; split
    · simp; omega
    · split <;> simp
theorem foldl_len : ∀ (l z : List Ent), (l.foldl (fun z e => ins e.1 e.2 z) z).length ≤ z.length + l.length
  | [], z => by simp
  | e :: l, z => by
    have h1 := foldl_len l (ins e.1 e.2 z)
    have h2 := ins_len e.1 e.2 z
    rw [List.foldl_cons, List.length_cons]; omega
theorem gat_len (l : List Ent) : (gat l).length ≤ l.length := by have := foldl_len l []; simpa [gat] using this
/-- Room made for it: what stands when all from k on have gone one place up. -/
def up (vs : List VEnt) (z : VEnt) (k : Nat) : List VEnt := (vs ++ [z]).take (k + 1) ++ vs.drop k
theorem up_len {vs : List VEnt} {z : VEnt} {k : Nat} (h : k ≤ vs.length) : (up vs z k).length = vs.length + 1 := by unfold up; simp; omega
theorem up_first (vs : List VEnt) (z : VEnt) : up vs z vs.length = vs ++ [z] := by unfold up; rw [List.take_of_length_le (by simp), List.drop_length, List.append_nil]
theorem up_at {vs : List VEnt} {z : VEnt} {k : Nat} (h0 : 0 < k) (h : k ≤ vs.length) : (up vs z k)[k - 1]? = vs[k - 1]? := by
  unfold up
  rw [List.getElem?_append_left (by simp; omega), List.getElem?_take, if_pos (by omega), List.getElem?_append_left (by omega)]
theorem up_step {vs : List VEnt} {z : VEnt} {k : Nat} (h0 : 0 < k) (h : k ≤ vs.length) (x : VEnt) (hx : vs[k - 1]? = some x) : (up vs z k).set k x = up vs z (k - 1) := by
  apply List.ext_getElem?
  intro i
  have hk : k - 1 < vs.length := by omega
  rw [List.getElem?_set]
  unfold up
  have ht : ((vs ++ [z]).take (k + 1)).length = k + 1 := by simp; omega
  have ht' : ((vs ++ [z]).take (k - 1 + 1)).length = k := by simp; omega
  have hlen : k < ((vs ++ [z]).take (k + 1) ++ vs.drop k).length := by simp; omega
  by_cases e : k = i
  · subst e
    rw [if_pos rfl, if_pos hlen, List.getElem?_append_right (by omega), ht', Nat.sub_self, List.getElem?_drop, Nat.add_zero, hx]
  · rw [if_neg e]
    by_cases hi : i < k
    · rw [List.getElem?_append_left (by omega), List.getElem?_append_left (by omega), List.getElem?_take, List.getElem?_take, if_pos (by omega), if_pos (by omega)]
    · rw [List.getElem?_append_right (by omega), List.getElem?_append_right (by omega), ht, ht', List.getElem?_drop, List.getElem?_drop]
      congr 1; omega
theorem up_put {vs : List VEnt} {z x : VEnt} {p : Nat} (h : p ≤ vs.length) : (up vs z p).set p x = vs.take p ++ x :: vs.drop p := by
  unfold up
  apply List.ext_getElem?
  intro i
  rw [List.getElem?_set]
  have ht : ((vs ++ [z]).take (p + 1)).length = p + 1 := by simp; omega
  have ht' : (vs.take p).length = p := by simp; omega
  have hlen : p < ((vs ++ [z]).take (p + 1) ++ vs.drop p).length := by simp; omega
  by_cases e : p = i
  · subst e
    rw [if_pos rfl, if_pos hlen, List.getElem?_append_right (by omega), ht', Nat.sub_self]; rfl
  · rw [if_neg e]
    by_cases hi : i < p
    · rw [List.getElem?_append_left (by omega), List.getElem?_append_left (by omega), List.getElem?_take, List.getElem?_take, if_pos (by omega), if_pos (by omega), List.getElem?_append_left (by omega)]
    · rw [List.getElem?_append_right (by omega), List.getElem?_append_right (by omega), ht, ht', show i - p = (i - (p + 1)) + 1 by omega, List.getElem?_cons_succ]
theorem Reads.drop {w : World} {vs : List VEnt} {l : List Ent} (h : Reads w vs l) (k : Nat) : Reads w (vs.drop k) (l.drop k) := by
  refine ⟨by simp [h.1], fun i h1 h2 => ?_⟩
  simp only [List.length_drop] at h1 h2
  simp only [List.getElem_drop]
  exact h.2 _ (by omega) (by omega)
theorem Reads.one {w : World} {v : Value} {r : List Val} (h : RowIs w v r) (n : Int) : Reads w [(v, n)] [(r, n)] := (Reads.nil w).snoc h n
theorem Reads.put {w : World} {vs : List VEnt} {l : List Ent} (h : Reads w vs l) {v : Value} {r : List Val} (hv : RowIs w v r) (n : Int) (p : Nat) : Reads w (vs.take p ++ (v, n) :: vs.drop p) (l.take p ++ (r, n) :: l.drop p) :=
  (h.take p).append ((Reads.one hv n).append (h.drop p))
theorem Reads.setw {w : World} {vs : List VEnt} {l : List Ent} (h : Reads w vs l) (p : Nat) (hp : p < vs.length) (hp' : p < l.length) (n : Int) : Reads w (vs.set p (vs[p].1, n)) (l.set p (l[p].1, n)) := by
  refine ⟨by simp [h.1], fun i h1 h2 => ?_⟩
  simp only [List.length_set] at h1 h2
  by_cases e : p = i
  · subst e; simp only [List.getElem_set_self]; exact ⟨(h.2 p hp hp').1, by trivial⟩
  · rw [List.getElem_set_ne e, List.getElem_set_ne e]; exact h.2 i h1 h2
end Go.Proofs.Ytmpochhcokmaiaa
