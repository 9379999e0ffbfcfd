/- What the library's sort.Search answers with a closure of two captured boxes. -/
import Derived.Test.YtlafokjkpbhckaaGreatDoorPackSets
import Derived.Test.YtlafokjkpbhckaaGreatDoorPackGrown
namespace Go.Proofs.YtlafokjkpbhckaaGreatDoor
open Go.RowKit Go.Sort
set_option maxRecDepth 100000
/-- Where a search ends: how many places are still false. -/
def Ends (p : Nat → Bool) (n : Nat) (w : World) (e : Ending) (w' : World) : Prop := ∃ k : Nat, e = .returned (.int .i64 k) ∧ k ≤ n ∧ (∀ t, t < k → p t = false) ∧ (∀ t, t < n → k ≤ t → p t = true) ∧ Below w.heap.size w w'
set_option maxHeartbeats 4000000 in
theorem search (g : Nat) (c0 c1 : Value) (n : Nat) (p : Nat → Bool) (w : World) (hn : n ≤ 65536) (eg : ∀ args w, (callFunc g args).run Tryz.prog w = .ok (.enter g args) w)
    (hf : ∀ W, Below w.heap.size w W → ∀ i : Nat, i < n → Calls Tryz.prog g #[.int .i64 i, c0, c1] W fun e w' => e = .returned (.bool (p i)) ∧ Below W.heap.size W w')
    (hm : ∀ a b, a ≤ b → b < n → p a = true → p b = true) :
    Calls Tryz.prog 62 #[.int .i64 n, .func (.func g) #[] #[c0, c1]] w fun e w' => Ends p n w e w' := by
  have HF : Hid (∀ W, Below w.heap.size w W → ∀ i : Nat, i < n → Calls Tryz.prog g #[.int .i64 i, c0, c1] W fun e w' => e = .returned (.bool (p i)) ∧ Below W.heap.size W w') := hf
  have HM : Hid (∀ a b, a ≤ b → b < n → p a = true → p b = true) := hm
  clear hf hm
  go_enter Tryz.func62, Tryz.ntmps62
  go_wp2_with fail
  go_loopw [5, 6] (fun s5 s6 wr => ∃ lo hi : Nat, s5 = .int .i64 lo ∧ s6 = .int .i64 hi ∧ lo ≤ hi ∧ hi ≤ n ∧ Hid (∀ t, t < lo → p t = false) ∧ Hid (∀ t, t < n → hi ≤ t → p t = true) ∧ Below w.heap.size w wr) (fun s5 s6 _ => (intOf s6).toNat - (intOf s5).toNat)
  case atStart => exact ⟨0, n, rfl, rfl, Nat.zero_le _, Nat.le_refl _, fun t h => by omega, fun t _ h => by omega, Below.refl _ _⟩
  case round =>
    obtain ⟨lo, hi, rfl, rfl, h1, h2, hL, hH, hB⟩ := hrel
    by_cases hlt : lo < hi
    · obtain ⟨k, hk⟩ : ∃ k : Nat, k = (lo + hi) / 2 := ⟨_, rfl⟩
      have hk1 : k < n := by omega
      have I1 : (lo : Int) < (hi : Int) := by omega
      have E1 : Hid (((lo : Int) + (hi : Int)) / 2 = (k : Int) ∧ lo ≤ k ∧ k < hi) := ⟨by omega, by omega, by omega⟩
      have q : Hid (Calls Tryz.prog g #[.int .i64 (((lo : Int) + (hi : Int)) / 2), c0, c1] wr fun e w' => e = .returned (.bool (p k)) ∧ Below wr.heap.size wr w') := by rw [E1.out.1]; exact HF.out wr hB k hk1
      have HS : Hid (p k = false → ∀ t, t < k + 1 → p t = false) := fun h t ht => by
        cases hp : p t with
        | false => rfl
        | true => have := HM.out t k (by omega) hk1 hp; rw [h] at this; cases this
      have HG : Hid (p k = true → ∀ t, t < n → k ≤ t → p t = true) := fun h t ht htk => HM.out k t htk ht h
      clear hk hk1
      generalize p k = c at *
      go_wp2_with fail
      refine q.out.mono ?_
      rintro e w1 ⟨rfl, hb1⟩
      have hB1 : Hid (Below w.heap.size w w1) := hB.trans (hb1.mono hB.size)
      clear hb1 q
      cases c
      · have F : Hid (∀ t, t < k + 1 → p t = false) := HS.out rfl
        clear HS HG hL
        go_wp2_with fail
        go_roundw
        case rel => exact ⟨k + 1, hi, by rw [E1.out.1]; rfl, rfl, by have := E1.out.2; omega, h2, F.out, hH.out, hB1.out⟩
        case measure => rw [E1.out.1]; have := E1.out.2; simp only [intOf]; omega
      · have F : Hid (∀ t, t < n → k ≤ t → p t = true) := HG.out rfl
        clear HS HG hH
        go_wp2_with fail
        go_roundw
        case rel => exact ⟨lo, k, rfl, by rw [E1.out.1], by have := E1.out.2; omega, by have := E1.out.2; omega, hL.out, F.out, hB1.out⟩
        case measure => rw [E1.out.1]; have := E1.out.2; simp only [intOf]; omega
    · obtain rfl : lo = hi := by omega
      have I0 : ¬ (lo : Int) < (lo : Int) := by omega
      clear hlt
      go_wp2_with fail
      go_ret
      exact ⟨lo, rfl, h2, hL.out, hH.out, hB⟩
/-- What a closure over a list and a row is handed. -/
def Boxed (w : World) (b c : Nat) (va vb : Value) : Prop := w.cell? ⟨b, 0, none⟩ = some va ∧ w.cell? ⟨c, 0, none⟩ = some vb
theorem Boxed.on {w w' : World} {b c : Nat} {va vb : Value} (h : Boxed w b c va vb) (hb : Below w.heap.size w w') : Boxed w' b c va vb := ⟨cell_on h.1 hb, cell_on h.2 hb⟩
theorem split_at {l : List Ent} {P : Ent → Bool} {k : Nat} (h1 : ∀ t (h : t < l.length), t < k → P l[t] = false) (h2 : ∀ t (h : t < l.length), k ≤ t → P l[t] = true) : l.filter P = l.drop k ∧ l.filter (fun e => !P e) = l.take k := by
  have a1 : (l.take k).filter P = [] := List.filter_eq_nil_iff.2 (fun x hx => by
    obtain ⟨i, hi, rfl⟩ := List.getElem_of_mem hx
    rw [List.length_take] at hi
    rw [List.getElem_take, h1 i (by omega) (by omega)]; decide)
  have a2 : (l.drop k).filter P = l.drop k := List.filter_eq_self.2 (fun x hx => by
    obtain ⟨i, hi, rfl⟩ := List.getElem_of_mem hx
    rw [List.length_drop] at hi
    rw [List.getElem_drop]; exact h2 _ (by omega) (by omega))
  have b1 : (l.take k).filter (fun e => !P e) = l.take k := List.filter_eq_self.2 (fun x hx => by
    obtain ⟨i, hi, rfl⟩ := List.getElem_of_mem hx
    rw [List.length_take] at hi
    rw [List.getElem_take, h1 i (by omega) (by omega)]; rfl)
  have b2 : (l.drop k).filter (fun e => !P e) = [] := List.filter_eq_nil_iff.2 (fun x hx => by
    obtain ⟨i, hi, rfl⟩ := List.getElem_of_mem hx
    rw [List.length_drop] at hi
    rw [List.getElem_drop, h2 _ (by omega) (by omega)]; decide)
  constructor
  · conv => lhs; rw [← List.take_append_drop k l]
    rw [List.filter_append, a1, a2]; rfl
  · conv => lhs; rw [← List.take_append_drop k l]
    rw [List.filter_append, b1, b2, List.append_nil]
theorem z_after {l : List Ent} (h : SortedZ l) {r : List Val} {a b : Nat} (hab : a ≤ b) (hb : b < l.length) (hc : 0 < cR (l[a]'(by omega)).1 r) : 0 < cR l[b].1 r := by
  rcases Nat.lt_or_eq_of_le hab with hlt | rfl
  · have h1 := List.pairwise_iff_getElem.1 h a b (by omega) hb hlt
    have h3 := cR_anti (l[a]'(by omega)).1 r
    have h5 := cR_anti (l[a]'(by omega)).1 l[b].1
    by_cases hh : 0 < cR l[b].1 r
    · exact hh
    · have := cR_trans l[b].1 r (l[a]'(by omega)).1 (by omega) (by omega)
      omega
  · exact hc
theorem z_from {l : List Ent} (h : SortedZ l) {r : List Val} {a b : Nat} (hab : a ≤ b) (hb : b < l.length) (hc : 0 ≤ cR (l[a]'(by omega)).1 r) : 0 ≤ cR l[b].1 r := by
  rcases Nat.lt_or_eq_of_le hab with hlt | rfl
  · have h1 := List.pairwise_iff_getElem.1 h a b (by omega) hb hlt
    by_cases hh : 0 ≤ cR l[b].1 r
    · exact hh
    · have := cR_lt_trans h1 (show cR l[b].1 r < 0 by omega)
      omega
  · exact hc
/-- Boxes of a list and a row, new. -/
theorem boxed_new (w : World) (va vb : Value) : Boxed ((w.alloc (.cells #[va] 27)).alloc (.cells #[vb] 39)) w.heap.size (w.heap.size + 1) va vb := by
  constructor
  · exact cell_on (by rw [World.cell?_alloc_at _ _ _ _ (by simp)]; rfl) one_box
  · rw [World.cell?_alloc_at _ _ _ _ (by simp)]; rfl
end Go.Proofs.YtlafokjkpbhckaaGreatDoor
