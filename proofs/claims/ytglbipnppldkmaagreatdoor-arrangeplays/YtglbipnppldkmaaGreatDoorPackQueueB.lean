/- Texts of one claim, one behind the other. -/
import Derived.Test.YtglbipnppldkmaaGreatDoorZMemB
import Derived.Test.YtglbipnppldkmaaGreatDoorErrsB
import Derived.Test.YtglbipnppldkmaaGreatDoorPackPlainB
import Derived.Test.YtglbipnppldkmaaGreatDoorHpOpsB
/- Entries without their first ones; the error of an answer; rows that are none. -/
namespace Go.Proofs.YtglbipnppldkmaaGreatDoor
open Go.RowKit Go.Sort
set_option maxRecDepth 100000

/-- A list of entries without its first ones. -/
theorem EntsIs.drop {w : World} {b o n cap : Nat} {l : List Ent} (h : EntsIs w (.slice (some ⟨b, o, none⟩) n cap) l) (k : Nat) (hk : k ≤ l.length) : EntsIs w (.slice (some ⟨b, o + k * 2, none⟩) (n - k) (cap - k)) (l.drop k) := by
  obtain ⟨vs, h1, h2⟩ := h
  have hkv : k ≤ vs.length := by rw [h2.1]; exact hk
  refine ⟨vs.drop k, ?_, by simp [h2.1], fun i h3 h4 => ?_⟩
  · rcases h1 with ⟨a, c, e, rfl⟩ | ⟨b', o', c, e, g1, g2, g3, g4⟩
    · simp only [Value.slice.injEq] at e
      obtain ⟨_, rfl, rfl⟩ := e
      exact .inl ⟨some ⟨b, o + k * 2, none⟩, cap - k, by simp, by simp⟩
    · simp only [Value.slice.injEq, Option.some.injEq, Addr.mk.injEq, and_true] at e
      obtain ⟨⟨rfl, rfl⟩, rfl, rfl⟩ := e
      refine .inr ⟨b, o + k * 2, cap - k, by simp, by simp; omega, by omega, g3, fun i hi => ?_⟩
      simp only [List.length_drop] at hi
      have := g4 (k + i) (by omega)
      rw [show o + (k + i) * 2 = o + k * 2 + i * 2 by omega] at this
      simpa using this
  · simp only [List.length_drop] at h3 h4
    simp only [List.getElem_drop]
    exact h2.2 (k + i) (by omega) (by omega)
theorem EntsIs.tail {w : World} {b o n cap : Nat} {x : Ent} {l : List Ent} (h : EntsIs w (.slice (some ⟨b, o, none⟩) n cap) (x :: l)) : EntsIs w (.slice (some ⟨b, o + 2, none⟩) l.length (cap - 1)) l := by
  have hn : n = l.length + 1 := by obtain ⟨_, _, e⟩ := h.form; simp only [Value.slice.injEq] at e; exact e.2.1
  have := h.drop 1 (by simp)
  simpa [hn] using this
theorem EntsIs.cap {w : World} {b o n cap : Nat} {x : Ent} {l : List Ent} (h : EntsIs w (.slice (some ⟨b, o, none⟩) n cap) (x :: l)) : l.length + 1 ≤ cap ∧ cap ≤ maxLen := by
  obtain ⟨vs, h1, h2⟩ := h
  rcases h1 with ⟨a, c, e, rfl⟩ | ⟨b', o', c, e, g1, g2, g3, g4⟩
  · have := h2.1; simp at this
  · simp only [Value.slice.injEq] at e
    obtain ⟨_, _, rfl⟩ := e
    have := h2.1
    simp at this
    exact ⟨by omega, g2⟩
theorem EntsIs.none {w : World} {a : Option Addr} {l : List Ent} {c : Nat} (h : l.length = 0) : EntsIs w (.slice a l.length c) l := by
  obtain rfl := List.eq_nil_of_length_eq_zero h
  exact EntsIs.nil _ _ _
theorem inI_iff {k : Int} : inI k = true ↔ -9223372036854775808 ≤ k ∧ k ≤ 9223372036854775807 := by unfold inI; simp
def slLen : Value → Nat
  | .slice _ n _ => n
  | _ => 0
theorem wt_none {r : List Val} : ∀ {l : List Ent}, (∀ e ∈ l, e.1 ≠ r) → wt r l = 0
  | [], _ => rfl
  | e :: l, h => by simp only [wt]; rw [if_neg (h e (by simp)), wt_none (fun x hx => h x (by simp [hx]))]; rfl
/-- The error of an answer. -/
def ovE (a : Addr) (ok : Bool) : Value := if ok then .nilIface else errV a
theorem ovE_t (a : Addr) : ovE a true = .nilIface := rfl
theorem ovE_f (a : Addr) : ovE a false = errV a := rfl
end Go.Proofs.YtglbipnppldkmaaGreatDoor
/- Many z-sets as one, plainly: what the first row of all is, what is left behind it, what a cursor tells. -/
namespace Go.Proofs.YtglbipnppldkmaaGreatDoor
open Go.RowKit
set_option maxRecDepth 100000
/-- Each list in order, none empty. -/
def InOrder (X : List QEnt) : Prop := ∀ x ∈ X, x.2 ≠ [] ∧ SortedZ x.2
theorem head_le {l : List Ent} (hs : SortedZ l) {e : Ent} (he : e ∈ l) : cR (hd l) e.1 ≤ 0 := by
  cases l with
  | nil => cases he
  | cons x l =>
    rcases List.mem_cons.1 he with rfl | he
    · show cR e.1 e.1 ≤ 0; rw [cR_self]; omega
    · have := (List.pairwise_cons.1 hs).1 e he
      show cR x.1 e.1 ≤ 0; omega
/-- Who is first is least of all. -/
theorem first_le {X : List QEnt} (ho : InOrder X) (hh : Heap (kf X) X.length) {e : Ent} (he : e ∈ flat X) : cR (kf X 0) e.1 ≤ 0 := by
  obtain ⟨x, hx, he⟩ := mem_flat.1 he
  obtain ⟨i, hi, rfl⟩ := List.getElem_of_mem hx
  have h1 := heap_root hh i hi
  have h2 := head_le (ho _ (List.getElem_mem hi)).2 he
  have e : kf X i = hd X[i].2 := by unfold kf; rw [List.getD_eq_getElem?_getD, List.getElem?_eq_getElem hi]; rfl
  rw [e] at h1
  exact cR_trans _ _ _ h1 h2
theorem first_lt {X : List QEnt} (ho : InOrder X) (hh : Heap (kf X) X.length) {r : List Val} (hr : cR r (kf X 0) < 0) {e : Ent} (he : e ∈ flat X) : cR r e.1 < 0 := by
  have h1 := first_le ho hh he
  rcases Int.lt_or_eq_of_le h1 with h2 | h2
  · exact cR_lt_trans hr h2
  · rw [← (cR_zero _ _).1 h2]; exact hr
/-- Without empty ones it is the same. -/
def nonE (X : List QEnt) : List QEnt := X.filter fun x => !x.2.isEmpty
theorem flat_nonE : ∀ X : List QEnt, flat (nonE X) = flat X
  | [] => rfl
  | x :: X => by
    unfold nonE
    by_cases h : x.2 = []
    · rw [List.filter_cons_of_neg (by simp [h]), flat_cons, h]; exact flat_nonE X
    · rw [List.filter_cons_of_pos (by simp [h]), flat_cons, flat_cons]; congr 1; exact flat_nonE X
theorem nonE_snoc (X : List QEnt) (x : QEnt) : nonE (X ++ [x]) = nonE X ++ (if x.2 = [] then [] else [x]) := by
  unfold nonE; rw [List.filter_append]
  by_cases h : x.2 = []
  · simp [h]
  · simp [h]
/-- What a cursor tells: rows whose weights come to something. -/
def wkZ (l : List Ent) : List Ent := (gat l).filter fun e => e.2 != 0 && inI e.2
def cutI (k : Int) : Int := if inI k then k else 0
theorem wkZ_isZ (l : List Ent) : IsZ (wkZ l) := ⟨List.Pairwise.sublist List.filter_sublist (gat_sorted l), fun e he => by have := (List.mem_filter.1 he).2; simp at this; exact this.1⟩
theorem wkZ_in (l : List Ent) : ∀ e ∈ wkZ l, inI e.2 = true := fun e he => by have := (List.mem_filter.1 he).2; simp at this; exact this.2
theorem wt_wk (r : List Val) : ∀ z : List Ent, SortedZ z → wt r (z.filter fun e => e.2 != 0 && inI e.2) = cutI (wt r z)
  | [], _ => rfl
  | e :: z, h => by
    obtain ⟨h1, h2⟩ := List.pairwise_cons.1 h
    have ih := wt_wk r z h2
    by_cases hr : e.1 = r
    · subst hr
      have hz : wt e.1 z = 0 := wt_less h1
      rw [wt_head h]
      by_cases hc : (e.2 != 0 && inI e.2) = true
      · rw [List.filter_cons_of_pos (by simpa using hc)]
        simp only [wt, if_true]; rw [ih, hz]
        have : inI e.2 = true := by simp at hc; exact hc.2
        unfold cutI; rw [this]; simp [inI]
      · rw [List.filter_cons_of_neg (by simpa using hc), ih, hz]
        unfold cutI
        by_cases h0 : e.2 = 0
        · rw [h0]
        · have : inI e.2 = false := by
            cases hi : inI e.2 with
            | false => rfl
            | true => exact absurd (by simp [h0, hi]) hc
          rw [this]; simp [inI]
    · have e1 : wt r (e :: z) = wt r z := by simp only [wt]; rw [if_neg hr]; omega
      rw [e1, ← ih]
      by_cases hc : (e.2 != 0 && inI e.2) = true
      · rw [List.filter_cons_of_pos (by simpa using hc)]; simp only [wt]; rw [if_neg hr]; omega
      · rw [List.filter_cons_of_neg (by simpa using hc)]
theorem wt_wkZ (r : List Val) (l : List Ent) : wt r (wkZ l) = cutI (wt r l) := by unfold wkZ; rw [wt_wk r _ (gat_sorted l), wt_gat]
theorem wkZ_of {l z : List Ent} (hz : IsZ z) (hw : ∀ r, wt r z = cutI (wt r l)) : wkZ l = z :=
  z_uniq (wkZ_isZ l).1 hz.1 (wkZ_isZ l).2 hz.2 (fun r => by rw [wt_wkZ, hw])
theorem wkZ_eq {l m : List Ent} (h : ∀ r, wt r l = wt r m) : wkZ l = wkZ m := wkZ_of (wkZ_isZ m) (fun r => by rw [wt_wkZ, h])
theorem wkZ_nil : wkZ [] = [] := rfl
/-- Rows of what a cursor tells are rows that came in. -/
theorem wkZ_rows {l : List Ent} {e : Ent} (he : e ∈ wkZ l) : ∃ x ∈ l, x.1 = e.1 := by
  have h1 := wt_mem (wkZ_isZ l).1 he
  rw [wt_wkZ] at h1
  refine mem_of_wt (fun h0 => ?_)
  rw [h0] at h1
  exact (wkZ_isZ l).2 e he (by rw [← h1]; rfl)
/-- The first row's weight of all; what is left. -/
def firstZ (r : List Val) (k : Int) : List Ent := if inI k then nzZ [(r, k)] else []
theorem firstZ_cut (r : List Val) (k : Int) : firstZ r k = nzZ [(r, cutI k)] := by
  unfold firstZ cutI
  split
  · rfl
  · rfl
theorem wt_one (s r : List Val) (k : Int) : wt s [(r, k)] = if r = s then k else 0 := by simp [wt]
/-- What the first row leaves. -/
def Left (r : List Val) (l m : List Ent) : Prop := (∀ s, s ≠ r → wt s m = wt s l) ∧ (∀ e ∈ m, cR r e.1 < 0) ∧ (∀ e ∈ l, cR r e.1 ≤ 0) ∧ m.length < l.length
theorem Left.zero {r : List Val} {l m : List Ent} (h : Left r l m) : wt r m = 0 := wt_none (fun e he => by have := h.2.1 e he; intro e'; rw [e', cR_self] at this; omega)
theorem wk_first {r : List Val} {l m : List Ent} (h : Left r l m) : wkZ l = firstZ r (wt r l) ++ wkZ m := by
  refine wkZ_of ⟨?_, ?_⟩ (fun s => ?_)
  · refine List.pairwise_append.2 ⟨?_, (wkZ_isZ m).1, fun a ha b hb => ?_⟩
    · rw [firstZ_cut]; unfold nzZ; rw [List.filter_cons]; split <;> simp
    · rw [firstZ_cut] at ha
      have : a = (r, cutI (wt r l)) := by have := (List.mem_filter.1 ha).1; simpa using this
      rw [this]
      obtain ⟨x, hx, e⟩ := wkZ_rows hb
      rw [← e]; exact h.2.1 x hx
  · intro e he
    rcases List.mem_append.1 he with h1 | h1
    · rw [firstZ_cut] at h1; exact nzZ_nz e h1
    · exact (wkZ_isZ m).2 e h1
  · rw [wt_append, firstZ_cut, wt_nzZ, wt_one, wt_wkZ]
    by_cases e : r = s
    · subst e; rw [if_pos rfl, h.zero]; simp [cutI, inI]
    · rw [if_neg e, h.1 s (fun e' => e e'.symm)]; omega
/-- Rows that are not ahead of one. -/
def fromZ (r : List Val) (l : List Ent) : List Ent := l.filter fun e => decide (0 ≤ cR e.1 r)
theorem wt_from (s r : List Val) : ∀ l : List Ent, wt s (fromZ r l) = if cR s r < 0 then 0 else wt s l
  | [] => by simp [fromZ, wt]
  | e :: l => by
    have ih := wt_from s r l
    unfold fromZ at ih ⊢
    by_cases h : 0 ≤ cR e.1 r
    · rw [List.filter_cons_of_pos (by simpa using h)]; simp only [wt]; rw [ih]
      by_cases hs : cR s r < 0
      · rw [if_pos hs, if_pos hs, if_neg (fun e' => by rw [e'] at h; omega)]; rfl
      · rw [if_neg hs, if_neg hs]
    · rw [List.filter_cons_of_neg (by simpa using h), ih]
      by_cases hs : cR s r < 0
      · rw [if_pos hs, if_pos hs]
      · rw [if_neg hs, if_neg hs]; simp only [wt]; rw [if_neg (fun e' => by rw [e'] at h; omega)]; omega
theorem wk_from {r : List Val} {l m : List Ent} (h : ∀ s, wt s m = if cR s r < 0 then 0 else wt s l) : wkZ m = fromZ r (wkZ l) := by
  refine wkZ_of ⟨List.Pairwise.sublist List.filter_sublist (wkZ_isZ l).1, fun e he => (wkZ_isZ l).2 e (List.mem_filter.1 he).1⟩ (fun s => ?_)
  rw [wt_from, wt_wkZ, h]
  split
  · rfl
  · rfl
/-- All so far: what has been summed, and what is left. -/
def SumTo (l S m : List Ent) : Prop := IsZ S ∧ (∀ e ∈ S, inI e.2 = true) ∧ (∀ e ∈ S, ∀ f ∈ m, cR e.1 f.1 < 0) ∧ ∀ s, wt s S + wt s m = wt s l
theorem SumTo.start (l : List Ent) : SumTo l [] l := ⟨⟨List.Pairwise.nil, fun e h => by cases h⟩, fun e h => (by cases h), fun e h => (by cases h), fun s => by simp [wt]⟩
theorem SumTo.fin {l S : List Ent} (h : SumTo l S []) : okZ l = true ∧ mkZ l = S := by
  have hw : ∀ r, wt r S = wt r l := fun r => by have := h.2.2.2 r; simp only [wt] at this; omega
  have ho : okZ l = true := (okZ_iff l).2 (fun r => by
    rw [← hw]
    by_cases h0 : wt r S = 0
    · rw [h0]; rfl
    · obtain ⟨e, he, rfl⟩ := mem_of_wt h0
      rw [wt_mem h.1.1 he]; exact h.2.1 e he)
  exact ⟨ho, mkZ_of ho h.1 hw⟩
theorem SumTo.gone {l S m : List Ent} (h : SumTo l S m) {r : List Val} (hr : ∃ e ∈ m, e.1 = r) : wt r S = 0 := by
  obtain ⟨f, hf, rfl⟩ := hr
  exact wt_none (fun e he e' => by have := h.2.2.1 e he f hf; rw [e', cR_self] at this; omega)
theorem SumTo.over {l S m : List Ent} (h : SumTo l S m) {r : List Val} (hr : ∃ e ∈ m, e.1 = r) (hk : inI (wt r m) = false) : okZ l = false := by
  cases ho : okZ l with
  | false => rfl
  | true =>
    have := (okZ_iff l).1 ho r
    rw [← h.2.2.2 r, h.gone hr, Int.zero_add, hk] at this
    cases this
theorem SumTo.step {l S m n : List Ent} (h : SumTo l S m) {r : List Val} (hr : ∃ e ∈ m, e.1 = r) (hl : Left r m n) (hs : ∀ e ∈ n, ∃ x ∈ m, x.1 = e.1) (hk : inI (wt r m) = true) : SumTo l (S ++ firstZ r (wt r m)) n := by
  have hf : firstZ r (wt r m) = nzZ [(r, wt r m)] := by unfold firstZ; rw [if_pos hk]
  have hm : ∀ e ∈ firstZ r (wt r m), e = (r, wt r m) := fun e he => by rw [hf] at he; have := (List.mem_filter.1 he).1; simpa using this
  refine ⟨⟨List.pairwise_append.2 ⟨h.1.1, ?_, fun a ha b hb => ?_⟩, fun e he => ?_⟩, fun e he => ?_, fun e he f hf' => ?_, fun s => ?_⟩
  · rw [hf]; unfold nzZ; rw [List.filter_cons]; split <;> simp
  · rw [hm b hb]
    obtain ⟨f, hf', rfl⟩ := hr
    exact h.2.2.1 a ha f hf'
  · rcases List.mem_append.1 he with he | he
    · exact h.1.2 e he
    · rw [hf] at he; exact nzZ_nz e he
  · rcases List.mem_append.1 he with he | he
    · exact h.2.1 e he
    · rw [hm e he]; exact hk
  · rcases List.mem_append.1 he with he | he
    · obtain ⟨x, hx, e'⟩ := hs f hf'
      rw [← e']; exact h.2.2.1 e he x hx
    · rw [hm e he]; exact hl.2.1 f hf'
  · rw [wt_append, hf, wt_nzZ, wt_one]
    by_cases e : r = s
    · subst e; rw [if_pos rfl, hl.zero]; have := h.2.2.2 r; omega
    · rw [if_neg e, hl.1 s (fun e' => e e'.symm)]; have := h.2.2.2 s; omega
end Go.Proofs.YtglbipnppldkmaaGreatDoor
/- What is behind the first ones of a slice of entries. -/
namespace Go.Proofs.YtglbipnppldkmaaGreatDoor
open Go.RowKit
set_option maxRecDepth 100000
theorem EntsIs.zero {w : World} {a : Option Addr} {l : List Ent} {n c : Nat} (h : l.length = 0) (hn : n = 0) : EntsIs w (.slice a n c) l := by
  obtain rfl := List.eq_nil_of_length_eq_zero h
  subst hn
  exact EntsIs.nil _ _ _
theorem drop_if {w : World} {b o n cap : Nat} {l : List Ent} (h : EntsIs w (.slice (some ⟨b, o, none⟩) n cap) l) (k : Nat) (hk : k ≤ l.length) (hc : n ≤ cap) : EntsIs w (.slice (if cap = k then some ⟨b, o, none⟩ else some ⟨b, o + k * 2, none⟩) (n - k) (cap - k)) (l.drop k) := by
  have hn : n = l.length := by obtain ⟨_, _, e⟩ := h.form; simp only [Value.slice.injEq] at e; exact e.2.1
  by_cases e : cap = k
  · rw [if_pos e]
    exact EntsIs.zero (by rw [List.length_drop]; omega) (by omega)
  · rw [if_neg e]; exact h.drop k hk
end Go.Proofs.YtglbipnppldkmaaGreatDoor
/- What a queue's nextRow and skip answer. -/
namespace Go.Proofs.YtglbipnppldkmaaGreatDoor
open Go.RowKit Go.Sort
set_option maxRecDepth 100000
/-- A queue's header in a box of its own. -/
abbrev qH : Hd := ⟨138, 0, #[undef]⟩
theorem qEmpty (hb o n cap : Nat) (a : Option Addr) (w : World) (h : w.cell? ⟨hb, o, none⟩ = some (.slice a n cap)) :
    Calls Tryz.prog 82 #[.pointer (some ⟨hb, o, none⟩)] w fun e w' => e = .returned (.bool (n == 0)) ∧ w' = w := by
  by_cases hn : n = 0
  · subst hn
    go_enter Tryz.func82, Tryz.ntmps82
    go_wp2_with fail
    go_ret
    exact ⟨rfl, rfl⟩
  · have b0 : ((n : Int) == 0) = false := by simpa using hn
    have b1 : (n == 0) = false := by simpa using hn
    rw [b1]
    go_enter Tryz.func82, Tryz.ntmps82
    go_wp2_with fail
    go_ret
    exact ⟨rfl, rfl⟩
set_option maxHeartbeats 1000000 in
theorem qFirst (hb o a n cap m c : Nat) (a' : Option Addr) (w : World) (hn : 0 < n) (h1 : w.cell? ⟨hb, o, none⟩ = some (.slice (some ⟨a, 0, none⟩) n cap)) (h2 : w.cell? ⟨a, 0, none⟩ = some (.slice a' m c)) :
    Calls Tryz.prog 115 #[.pointer (some ⟨hb, o, none⟩)] w fun e w' => e = .returned (.slice a' m c) ∧ w' = w := by
  have I1 : (0 : Int) < (n : Int) := by omega
  go_enter Tryz.func115, Tryz.ntmps115
  go_wp2_with fail
  go_ret
  exact ⟨rfl, rfl⟩
/-- Where skip ends. -/
def SkipIs (w0 : World) (hb : Nat) (tH : Hd) (ab cap : Nat) (l : List Ent) (T : List QEnt) (w w' : World) : Prop :=
  ∃ Y, Heap (kf Y) Y.length ∧ QIs w0 hb tH ab cap Y w' ∧ Off hb ab w w' ∧ (∀ r, wt r (flat Y) = wt r (l ++ flat T)) ∧ (∀ e, e ∈ flat Y ↔ e ∈ l ++ flat T) ∧ (flat Y).length = (l ++ flat T).length
theorem SkipIs.of {w0 : World} {hb : Nat} {tH : Hd} {ab cap : Nat} {v : Value} {l : List Ent} {T Y : List QEnt} {w w' : World} (hp : Y.Perm ((v, l) :: T)) (h1 : Heap (kf Y) Y.length) (h2 : QIs w0 hb tH ab cap Y w') (h3 : Off hb ab w w') : SkipIs w0 hb tH ab cap l T w w' :=
  ⟨Y, h1, h2, h3, fun r => by rw [wt_flat hp]; rfl, fun e => flat_perm hp, flat_len hp⟩
theorem QIs.inOrder {w0 : World} {hb : Nat} {tH : Hd} {ab cap : Nat} {X : List QEnt} {w : World} (h : QIs w0 hb tH ab cap X w) : InOrder X := fun x hx => ⟨(h.2.1 x hx).2.1, (h.2.1 x hx).2.2.1⟩
set_option maxHeartbeats 4000000 in
theorem qSkip (w0 : World) (hb : Nat) (tH : Hd) (ab cap : Nat) (x : QEnt) (T : List QEnt) (k : Nat) (w : World) (h : QIs w0 hb tH ab cap (x :: T) w) (hu : Heap (kf (x :: T)) (x :: T).length) (hk : k ≤ x.2.length) :
    Calls Tryz.prog 116 #[.pointer (some ⟨hb, tH.o, none⟩), .int .i64 k] w fun e w' => e = .returned (.tuple #[]) ∧ SkipIs w0 hb tH ab cap (x.2.drop k) T w w' := by
  obtain ⟨b, o, c, a', c', e, l, rfl, k1, k2, k3, k4, k5, k6, k7, k8, k9, k10⟩ := h.head0
  have c1 := h.1.cell
  have f1 := h.1.fz 0
  have hL := h.2.2.2.2.2
  rw [List.length_map, List.length_cons] at c1
  rw [List.length_cons] at hL
  have KD : Hid (EntsIs w0 (.slice (if c = k then some ⟨b, o, none⟩ else some ⟨b, o + k * 2, none⟩) ((e :: l).length - k) (c - k)) ((e :: l).drop k)) := drop_if k4 k hk (by omega)
  have hk' : k ≤ (e :: l).length := hk
  have KK : Hid (SortedZ (e :: l) ∧ EOk (e :: l)) := ⟨k5, k6⟩
  have H : Hid (QIs w0 hb tH ab cap ((.slice (some ⟨b, o, none⟩) (e :: l).length c, e :: l) :: T) w) := h
  have HU : Hid (Heap (kf ((.slice (some ⟨b, o, none⟩) (e :: l).length c, e :: l) :: T)) ((.slice (some ⟨b, o, none⟩) (e :: l).length c, e :: l) :: T).length) := hu
  unfold maxLen at k2
  clear h hu k4 k5 k6 k8 k9 k10 hk
  simp only
  generalize e :: l = L at *
  clear e l
  by_cases hz : k = L.length
  · have hd0 : L.drop k = [] := List.drop_of_length_le (by omega)
    rw [hd0]
    have b0 : ((L.length - k : Nat) : Int) = 0 := by omega
    have q1 := heapPop w0 hb tH ab cap _ T w H.out HU.out
    clear HU H KD KK hd0
    subst hz
    go_enter Tryz.func116, Tryz.ntmps116
    go_wp2_with fail
    all_goals (
      refine q1.mono ?_
      rintro e w1 ⟨⟨v, rfl⟩, Y, y1, y2, y3, y4⟩
      have F : Hid (SkipIs w0 hb tH ab cap [] T w w1) := ⟨Y, y2, y3, y4, fun r => by rw [wt_flat y1]; rfl, fun e => flat_perm y1, flat_len y1⟩
      clear q1 y1 y2 y3 y4
      go_wp2_with fail
      go_returns
      exact ⟨rfl, F.out⟩)
  · have hkl : k < L.length := by omega
    have b0 : ((L.length - k : Nat) : Int) ≠ 0 := by omega
    have b1 : (((L.length - k : Nat) : Int) == 0) = false := by simp; omega
    have hck : ¬ c = k := by omega
    have hx : QOk w0 (.slice (some ⟨b, o + k * 2, none⟩) (L.length - k) (c - k), L.drop k) := by
      have := KD.out
      rw [if_neg hck] at this
      refine ⟨this, fun e => ?_, List.Pairwise.sublist (List.drop_sublist _ _) KK.out.1, fun e he => KK.out.2 e (List.mem_of_mem_drop he), by simp; omega⟩
      have := congrArg List.length e
      simp at this; omega
    have P := H.out.put 0 _ hx
    have HD := heap_first (.slice (some ⟨b, o + k * 2, none⟩) (L.length - k) (c - k), L.drop k) HU.out
    rw [List.set_cons_zero] at P HD
    have q2 := heapFix w0 hb tH ab cap _ _ P (by simp) HD
    have F : Hid (∀ w1, HpIs w0 hb tH ab cap ((.slice (some ⟨b, o + k * 2, none⟩) (L.length - k) (c - k), L.drop k) :: T) (w.setCell ⟨ab, 0, none⟩ (.slice (some ⟨b, o + k * 2, none⟩) (L.length - k) (c - k))) w1 → SkipIs w0 hb tH ab cap (L.drop k) T w w1) := fun w1 h1 => by
      obtain ⟨Y, _, y1, y2, y3, y4⟩ := h1.len
      exact SkipIs.of y1 y2 y3 (Off.of_r ((But.set _ _).trans y4))
    clear HU H KD KK P HD hx
    go_enter Tryz.func116, Tryz.ntmps116
    go_wp2_with fail
    refine q2.mono ?_
    rintro e w1 ⟨rfl, h1⟩
    have G : Hid (SkipIs w0 hb tH ab cap (L.drop k) T w w1) := F.out _ h1
    clear q2 F h1
    go_wp2_with fail
    go_end0
    exact ⟨rfl, G.out⟩
end Go.Proofs.YtglbipnppldkmaaGreatDoor
/- What merge's queueOf answers: a queue of the z-sets that are not empty. -/
namespace Go.Proofs.YtglbipnppldkmaaGreatDoor
open Go.RowKit Go.Sort
set_option maxRecDepth 100000
/-- A slice of slices. -/
def LsAt (w : World) (v : Value) (vs : List Value) : Prop :=
  (∃ a cap, v = .slice a 0 cap ∧ vs = []) ∨
  ∃ b o cap, v = .slice (some ⟨b, o, none⟩) vs.length cap ∧ vs.length ≤ cap ∧ cap ≤ maxLen ∧ b < w.heap.size ∧ ∀ i (h : i < vs.length), w.cell? ⟨b, o + i, none⟩ = some vs[i]
theorem LsAt.on {w w' : World} {v : Value} {vs : List Value} (h : LsAt w v vs) (hb : Below w.heap.size w w') : LsAt w' v vs := by
  rcases h with h | ⟨b, o, cap, rfl, h1, h2, h3, h4⟩
  · exact .inl h
  · exact .inr ⟨b, o, cap, rfl, h1, h2, Nat.lt_of_lt_of_le h3 hb.size, fun i hi => by rw [hb.cell (p := ⟨b, o + i, none⟩) h3]; exact h4 i hi⟩
theorem LsAt.form {w : World} {v : Value} {vs : List Value} (h : LsAt w v vs) : ∃ a cap, v = .slice a vs.length cap := by
  rcases h with ⟨a, cap, rfl, rfl⟩ | ⟨b, o, cap, rfl, _⟩
  · exact ⟨a, cap, rfl⟩
  · exact ⟨_, cap, rfl⟩
/-- A z-set that was handed in. -/
def LOk (w : World) (x : QEnt) : Prop := EntsIs w x.1 x.2 ∧ SortedZ x.2 ∧ EOk x.2 ∧ x.2.length ≤ 65536
/-- Z-sets that were handed in. -/
def LsIs (w : World) (v : Value) (X : List QEnt) : Prop := LsAt w v (X.map (·.1)) ∧ (∀ x ∈ X, LOk w x) ∧ X.length ≤ 65536
theorem LsIs.on {w w' : World} {v : Value} {X : List QEnt} (h : LsIs w v X) (hb : Below w.heap.size w w') : LsIs w' v X :=
  ⟨h.1.on hb, fun x hx => ⟨(h.2.1 x hx).1.on hb, (h.2.1 x hx).2⟩, h.2.2⟩
theorem LsIs.form {w : World} {v : Value} {X : List QEnt} (h : LsIs w v X) : ∃ a cap, v = .slice a X.length cap := by
  have := h.1.form; rwa [List.length_map] at this
theorem LsIs.at {w : World} {a : Option Addr} {n cap : Nat} {X : List QEnt} (h : LsIs w (.slice a n cap) X) (i : Nat) (hi : i < X.length) :
    ∃ b o a' c', a = some ⟨b, o, none⟩ ∧ w.cell? ⟨b, o + i, none⟩ = some (.slice a' X[i].2.length c') ∧ X[i].1 = .slice a' X[i].2.length c' := by
  rcases h.1 with ⟨_, _, _, e⟩ | ⟨b, o, cap', e, _, _, h3, h4⟩
  · have := congrArg List.length e; simp at this; rw [this] at hi; simp at hi
  · simp only [Value.slice.injEq] at e
    obtain ⟨a', c', e'⟩ := (h.2.1 X[i] (List.getElem_mem hi)).1.form
    have := h4 i (by simpa using hi)
    rw [List.getElem_map, e'] at this
    exact ⟨b, o, a', c', e.1, this, e'⟩
/-- How far queueOf has come. -/
def QueTo (X : List QEnt) (w : World) (hb : Nat) (j : Nat) (wr : World) : Prop := ∃ Y ab cap, Y.Perm (nonE (X.take j)) ∧ Heap (kf Y) Y.length ∧ QIs w hb qH ab cap Y wr ∧ w.heap.size ≤ ab ∧ Below w.heap.size w wr
/-- Where queueOf ends. -/
def QueIs (X : List QEnt) (w : World) (v : Value) (w' : World) : Prop := ∃ Y ab cap, v = .slice (some ⟨ab, 0, none⟩) Y.length cap ∧ Y.Perm (nonE X) ∧ Heap (kf Y) Y.length ∧ (∀ x ∈ Y, QOk w x) ∧ Y.length ≤ 65536 ∧ w'.ownsRow w.heap.size 29 1 (.slice (some ⟨ab, 0, none⟩) Y.length cap) Y.length (Y.map (·.1)) ∧ Below w.heap.size w w'
theorem QueTo.fin {X : List QEnt} {w : World} {hb : Nat} {wr : World} (h : QueTo X w hb X.length wr) : ∃ v, wr.cell? ⟨hb, 0, none⟩ = some v ∧ QueIs X w v wr := by
  obtain ⟨Y, ab, cap, h1, h2, h3, h4, h5⟩ := h
  have c := h3.1.cell
  have b := h3.1.base (base := w.heap.size) h4
  rw [List.length_map] at c b
  rw [List.take_length] at h1
  exact ⟨_, c, Y, ab, cap, rfl, h1, h2, h3.2.1, h3.2.2.2.2.2, b, h5⟩
theorem QueTo.empty {X : List QEnt} {w : World} {hb j : Nat} {wr : World} (h : QueTo X w hb j wr) (hj : j < X.length) (he : X[j].2 = []) : QueTo X w hb (j + 1) wr := by
  obtain ⟨Y, ab, cap, h1, h2, h3⟩ := h
  refine ⟨Y, ab, cap, ?_, h2, h3⟩
  rw [List.take_succ_eq_append_getElem hj, nonE_snoc, if_pos he, List.append_nil]; exact h1
theorem nonE_len (X : List QEnt) : (nonE X).length ≤ X.length := List.length_filter_le _ _
theorem QueTo.push {X : List QEnt} {w : World} {hb j : Nat} {Y : List QEnt} {wr w1 : World} (h : Y.Perm (nonE (X.take j))) (hj : j < X.length) (he : X[j].2 ≠ []) (hB : Below w.heap.size w wr) (hp : PushIs w hb qH Y X[j] wr w1) : QueTo X w hb (j + 1) w1 := by
  obtain ⟨Z, ab, cap, h1, h2, h3, h4, h5⟩ := hp
  refine ⟨Z, ab, cap, ?_, h2, h3, h4, hB.trans h5⟩
  rw [List.take_succ_eq_append_getElem hj, nonE_snoc, if_neg he]
  exact h1.trans (h.append_right _)
theorem own_at {base : Nat} {w w' : World} {e : TypeId} {s : Nat} {v : Value} {n : Nat} {xs : List Value} (ho : w.ownsRow base e s v n xs) (hk : ∀ k, v.ownBlock = some k → w'.heap[k]? = w.heap[k]?) : w'.ownsRow base e s v n xs := by
  refine ⟨ho.1, ?_⟩
  rcases ho.2 with hn | ⟨g, cap, cur, rfl, hb, hgg, rest⟩
  · exact .inl hn
  · exact .inr ⟨g, cap, cur, rfl, hb, by rw [hk g rfl]; exact hgg, rest⟩
theorem QueIs.res {X : List QEnt} {w : World} {va v : Value} {o : Obj} {wr : World} (hX : LsIs w va X) (h : QueIs X (w.alloc o) v wr) (u : Value) : QueIs X w v (wr.setCell ⟨w.heap.size, 0, none⟩ u) := by
  obtain ⟨Y, ab, cap, e, h1, h2, h3, h4, h5, h6⟩ := h
  have hs : (w.alloc o).heap.size = w.heap.size + 1 := by simp
  have hab := (h5.lt ab rfl).1
  refine ⟨Y, ab, cap, e, h1, h2, fun x hx => ?_, h4, ?_, (one_box.trans (h6.mono (by omega))).setCell (Nat.le_refl _) _⟩
  · have hm := List.mem_filter.1 (h1.mem_iff.1 hx)
    obtain ⟨k1, k2⟩ := hX.2.1 x hm.1
    exact ⟨k1, by simpa using hm.2, k2⟩
  · refine own_at (own_mono h5 (by omega)) (fun k e => ?_)
    have : k = ab := (Option.some.inj e).symm
    subst this
    exact Below.heap_setCell _ _ _ _ (show k ≠ w.heap.size by omega)
set_option maxHeartbeats 4000000 in
theorem mgQueueOf (X : List QEnt) (va : Value) (w : World) (h : LsIs w va X) :
    Calls Tryz.prog 88 #[va] w fun e w' => ∃ v, e = .returned (.agg #[v]) ∧ QueIs X w v w' := by
  obtain ⟨i0, hi, hz0, hz1, hz2⟩ := info_parts info_list
  obtain ⟨a0, cap, rfl⟩ := h.form
  obtain ⟨W, hW⟩ : ∃ W, W = w.alloc (.cells #[.slice none 0 0] 138) := ⟨_, rfl⟩
  have hWs : W.heap.size = w.heap.size + 1 := by rw [hW]; simp
  have HX : Hid (LsIs W (.slice a0 X.length cap) X) := by rw [hW]; exact h.on one_box
  have hL := h.2.2
  have HR : Hid (∀ v wr u, QueIs X W v wr → QueIs X w v (wr.setCell ⟨w.heap.size, 0, none⟩ u)) := fun v wr u h1 => by rw [hW] at h1; exact h1.res h u
  have HC : Hid (∀ wr, Below W.heap.size W wr → wr.cell? ⟨w.heap.size, 0, none⟩ = some (.slice none 0 0) ∧ wr.frozen? ⟨w.heap.size, 0, none⟩ = false ∧ ∀ u, (wr.setCell ⟨w.heap.size, 0, none⟩ u).cell? ⟨w.heap.size, 0, none⟩ = some u) := fun wr hB => by
    have e : wr.heap[w.heap.size]? = some (.cells #[.slice none 0 0] 138 (0, 0)) := by
      rw [hB.block w.heap.size (by omega), hW]; exact heap_alloc_new w _
    exact ⟨by simp [World.cell?, e], by simp [World.frozen?, e], fun u => by simp only [World.cell?, heap_set_at e]; simp⟩
  have F0 : Hid (∀ w1, w1.ownsRow W.heap.size 29 1 (.slice (some ⟨W.heap.size, 0, none⟩) 0 X.length) 0 [] → W.grownBy w1 none → QueTo X W w1.heap.size 0 (w1.alloc (.cells #[.slice (some ⟨w.heap.size + 1, 0, none⟩) 0 X.length] 138))) := by
    intro w1 g1 g2
    rw [← hWs]
    refine ⟨[], W.heap.size, X.length, List.Perm.refl _, heap_one _ (by simp), ⟨⟨heap_alloc_new w1 _, ?_, by decide, by decide⟩, fun x hx => (by cases hx), Sees.of_below ?_, free_le g2.size, free_le (Nat.le_refl _), by simp⟩, Nat.le_refl _, ?_⟩
    · exact own_on (own_mono g1 (Nat.zero_le _)) one_box
    · exact ((Below.refl _ _).grown g2 (Nat.le_refl _) (fun k e => by cases e)).trans (one_box.mono g2.size)
    · exact ((Below.refl _ _).grown g2 (Nat.le_refl _) (fun k e => by cases e)).trans (one_box.mono g2.size)
  have HW : Hid (w.alloc (.cells #[.slice none 0 0] 138) = W) := hW.symm
  clear h hW
  go_enter Tryz.func88, Tryz.ntmps88
  go_wp2_with (first | (at_make; rw [HW.out]; refine wpList_make_own _ rfl _ _ 136 rfl W.heap.size 29 i0 (.slice none 0 0) 1 Tryz.underlying136 hi hz0 hz1 .i64 .i64 _ X.length rfl rfl rfl (by rw [hz2]; omega) (by unfold maxLen; omega) (Nat.le_refl _) ?_; intro w1 hown1 hg1; have G0 : Hid _ := F0.out _ hown1 hg1; have hz := hg1.size; clear hown1 hg1 F0) | fail)
  go_loopw [12] (fun i wr => ∃ j : Nat, j ≤ X.length ∧ i = .int .i64 j ∧ Hid (QueTo X W w1.heap.size j wr)) (fun i _ => X.length - (intOf i).toNat)
  case atStart => exact ⟨0, by omega, rfl, G0.out⟩
  case round =>
    clear G0
    obtain ⟨j, hj, rfl, hS⟩ := hrel
    by_cases k1 : j < X.length
    · have I1 : (j : Int) < (X.length : Int) := by omega
      obtain ⟨Y, ab, capY, y1, y2, y3, y4, y5⟩ := hS.out
      obtain ⟨b, o, a', c', rfl, x1, x2⟩ := (HX.out.on y5).at j k1
      by_cases he : X[j].2 = []
      · have F : Hid (QueTo X W w1.heap.size (j + 1) wr) := hS.out.empty k1 he
        have hl0 : X[j].2.length = 0 := by rw [he]; rfl
        rw [hl0] at x1
        clear hS y1 y2 y3 y4 y5 x2 hl0 he
        go_wp2_with fail
        go_roundw
        case rel => exact ⟨j + 1, by omega, by go_num, F.out⟩
        case measure => simp [intOf]; omega
      · have hl0 : 0 < X[j].2.length := List.length_pos_iff.2 he
        have hx := HX.out.2.1 X[j] (List.getElem_mem k1)
        have q : Hid (Calls Tryz.prog 117 #[.iface 171 (.pointer (some ⟨w1.heap.size, 0, none⟩)), .iface 29 (.slice a' X[j].2.length c')] wr fun e w' => e = .returned (.tuple #[]) ∧ PushIs W w1.heap.size qH Y X[j] wr w') := by
          have := heapPush W w1.heap.size qH ab capY Y X[j] wr y3 ⟨hx.1, he, hx.2⟩ (by rw [y1.length_eq]; have := nonE_len (X.take j); rw [List.length_take] at this; omega) y4 hz y2
          rw [x2] at this; exact this
        have HP : Hid (∀ w2, PushIs W w1.heap.size qH Y X[j] wr w2 → QueTo X W w1.heap.size (j + 1) w2) := fun w2 h2 => QueTo.push y1 k1 he y5 h2
        clear hS y1 y2 y3 y4 y5 hx x2 he
        generalize X[j].2.length = n3 at *
        have I2 : (0 : Int) < (n3 : Int) := by omega
        go_wp2_with fail
        refine q.out.mono ?_
        rintro e w2 ⟨rfl, h2⟩
        have F : Hid (QueTo X W w1.heap.size (j + 1) w2) := HP.out _ h2
        clear q h2 HP x1
        go_wp2_with fail
        go_roundw
        case rel => exact ⟨j + 1, by omega, by go_num, F.out⟩
        case measure => simp [intOf]; omega
    · have I1 : ¬ (j : Int) < (X.length : Int) := by omega
      obtain rfl : j = X.length := by omega
      obtain ⟨v, c1, h1⟩ := hS.out.fin
      have F : Hid (∀ u, QueIs X w v (wr.setCell ⟨w.heap.size, 0, none⟩ u)) := fun u => HR.out v wr u h1
      obtain ⟨r1, r2, r3⟩ := HC.out wr (by obtain ⟨_, _, _, _, _, _, _, _, _, h⟩ := h1; exact h)
      have hv : ∃ a n c, v = .slice a n c := by obtain ⟨Y, ab, cap, e, _⟩ := h1; exact ⟨_, _, _, e⟩
      obtain ⟨av, nv, cv, rfl⟩ := hv
      clear hS h1
      go_wp2_with fail
      refine bodyPost_ret (by simp [results, Tryz.results88, go_sem, r3]; try rfl) rfl ?_
      exact ⟨_, rfl, F.out _⟩
end Go.Proofs.YtglbipnppldkmaaGreatDoor
