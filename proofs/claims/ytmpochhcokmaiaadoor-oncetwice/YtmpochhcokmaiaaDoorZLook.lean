/- What zset.Get, Same and Check answer: the library's BinarySearchFunc and EqualFunc walked in place. -/
import Derived.Test.YtmpochhcokmaiaaDoorZRef
import Derived.Test.YtmpochhcokmaiaaDoorRowCmp
import Derived.Test.YtmpochhcokmaiaaDoorZDrop
namespace Go.Proofs.YtmpochhcokmaiaaDoor
open Go.RowKit Go.Sort
set_option maxRecDepth 100000

set_option maxHeartbeats 1000000 in
theorem getCmp (x : Ent) (r : List Val) (a0 b0 : Option Addr) (cap cap' : Nat) (w : World) (ha : RowIs w (.slice a0 x.1.length cap) x.1) (hb : RowIs w (.slice b0 r.length cap') r) :
    Calls Tryd.prog 48 #[.agg #[.slice a0 x.1.length cap, .int .i64 x.2], .slice b0 r.length cap'] w fun e w' => e = .returned (.int .i64 (cR x.1 r)) ∧ Below w.heap.size w w' := by
  have q : Hid (∀ W, Below w.heap.size w W → Calls Tryd.prog 49 #[.slice a0 x.1.length cap, .slice b0 r.length cap'] W fun e w' => e = .returned (.int .i64 (cR x.1 r)) ∧ Below W.heap.size W w') :=
    fun W hW => rowCompare x.1 r _ _ W (ha.on hW) (hb.on hW)
  clear ha hb
  generalize cR x.1 r = s at *
  generalize x.1.length = n at *
  generalize r.length = m at *
  generalize x.2 = i at *
  go_enter Tryd.func48, Tryd.ntmps48
  go_wp2_with fail
  refine (q.out _ one_box).mono ?_
  rintro e w1 ⟨rfl, hb1⟩
  have hB : Hid (Below w.heap.size w w1) := one_box.trans (hb1.mono (by simp))
  clear hb1 q
  go_wp2_with fail
  go_ret
  exact ⟨rfl, hB.out⟩
theorem z_mono {l : List Ent} (h : SortedZ l) {r : List Val} {a b : Nat} (hab : a ≤ b) (hb : b < l.length) (hc : cR l[b].1 r < 0) : cR (l[a]'(by omega)).1 r < 0 := by
  rcases Nat.lt_or_eq_of_le hab with hlt | rfl
  · exact cR_lt_trans (List.pairwise_iff_getElem.1 h a b (by omega) hb hlt) hc
  · exact hc
/-- What a search tells. -/
def Found (l : List Ent) (r : List Val) (i : Nat) (b : Bool) : Prop := i ≤ l.length ∧ (b = true → ∃ h : i < l.length, l[i].1 = r) ∧ (b = false → ∀ e ∈ l, e.1 ≠ r)
def FoundAt (l : List Ent) (r : List Val) (w : World) (e : Ending) (w' : World) : Prop := ∃ (i : Nat) (b : Bool), e = .returned (.tuple #[.int .i64 i, .bool b]) ∧ Found l r i b ∧ Below w.heap.size w w'
theorem not_found {l : List Ent} (h : SortedZ l) {r : List Val} {i : Nat} (h1 : ∀ t (h : t < l.length), t < i → cR l[t].1 r < 0) (h2 : ∀ (h : i < l.length), 0 < cR l[i].1 r) : ∀ e ∈ l, e.1 ≠ r := by
  intro e he heq
  obtain ⟨t, ht, rfl⟩ := List.getElem_of_mem he
  by_cases hti : t < i
  · have := h1 t ht hti
    rw [heq, cR_self] at this; omega
  · have g := h2 (by omega)
    rcases Nat.lt_or_eq_of_le (Nat.not_lt.1 hti) with hlt | rfl
    · have := List.pairwise_iff_getElem.1 h i t (by omega) ht hlt
      rw [heq] at this; omega
    · rw [heq, cR_self] at g; omega
set_option maxHeartbeats 4000000 in
theorem binSearch (l : List Ent) (r : List Val) (va vb : Value) (w : World) (la : l.length ≤ 65536) (hl : SortedZ l) (ha : EntsIs w va l) (hb : RowIs w vb r) :
    Calls Tryd.prog 47 #[va, vb, .func (.func 48) #[] #[]] w fun e w' => FoundAt l r w e w' := by
  obtain ⟨a0, cap, rfl⟩ := ha.form
  obtain ⟨b0, cap', rfl⟩ := hb.form
  have Ha : Hid (EntsIs w (.slice a0 l.length cap) l) := ha
  have Hb : Hid (RowIs w (.slice b0 r.length cap') r) := hb
  have Hl : Hid (SortedZ l) := hl
  clear ha hb hl
  go_enter Tryd.func47, Tryd.ntmps47
  go_wp2_with fail
  go_loopw [9, 10] (fun s9 s10 wr => ∃ lo hi : Nat, s9 = .int .i64 lo ∧ s10 = .int .i64 hi ∧ lo ≤ hi ∧ hi ≤ l.length ∧ Hid (∀ t (h : t < l.length), t < lo → cR l[t].1 r < 0) ∧ Hid (∀ t (h : t < l.length), hi ≤ t → 0 ≤ cR l[t].1 r) ∧ Below w.heap.size w wr) (fun s9 s10 _ => (intOf s10).toNat - (intOf s9).toNat)
  case atStart => exact ⟨0, l.length, rfl, rfl, Nat.zero_le _, Nat.le_refl _, fun t _ h => by omega, fun t _ h => by omega, Below.refl _ _⟩
  case round =>
    obtain ⟨lo, hi, rfl, rfl, h1, h2, hL, hH, hB⟩ := hrel
    by_cases hlt : lo < hi
    · obtain ⟨k, hk⟩ : ∃ k : Nat, k = (lo + hi) / 2 := ⟨_, rfl⟩
      have hk1 : k < l.length := by omega
      obtain ⟨b, o, a1, c1, rfl, x1, x2, x3⟩ := (Ha.out.on hB).at k hk1
      have I1 : (lo : Int) < (hi : Int) := by omega
      have q : Hid (Calls Tryd.prog 48 #[.agg #[.slice a1 l[k].1.length c1, .int .i64 l[k].2], .slice b0 r.length cap'] wr fun e w'' => e = .returned (.int .i64 (cR l[k].1 r)) ∧ Below wr.heap.size wr w'') := getCmp l[k] r _ _ _ _ wr x3 (Hb.out.on hB)
      have HS : Hid (cR l[k].1 r < 0 → ∀ t (h : t < l.length), t < k + 1 → cR l[t].1 r < 0) := fun h t ht htk => z_mono Hl.out (by omega) hk1 h
      have HG : Hid (0 ≤ cR l[k].1 r → ∀ t (h : t < l.length), k ≤ t → 0 ≤ cR l[t].1 r) := fun h t ht htk => Int.not_lt.1 fun h' => by have := z_mono Hl.out htk ht h'; omega
      clear x3
      generalize cR l[k].1 r = c at *
      generalize l[k].1.length = n1 at *
      generalize l[k].2 = i1 at *
      have E1 : Hid (((lo : Int) + (hi : Int)) / 2 = (k : Int) ∧ lo ≤ k ∧ k < hi) := ⟨by omega, by omega, by omega⟩
      rw [hk] at x1 x2
      clear hk hk1
      go_wp2_with fail
      refine q.out.mono ?_
      rintro e w1 ⟨rfl, hb1⟩
      have hB1 : Hid (Below w.heap.size w w1) := hB.trans (hb1.mono hB.size)
      clear hb1 q x1 x2
      by_cases hc : c < 0
      · have F : Hid (∀ t (h : t < l.length), t < k + 1 → cR l[t].1 r < 0) := HS.out hc
        clear HS HG hL
        go_wp2_with fail
        go_roundw
        case rel => exact ⟨k + 1, hi, by rw [E1.out.1]; rfl, rfl, by have := E1.out.2; omega, h2, F.out, hH.out, hB1.out⟩
        case measure => rw [E1.out.1]; have := E1.out.2; simp only [intOf]; omega
      · have F : Hid (∀ t (h : t < l.length), k ≤ t → 0 ≤ cR l[t].1 r) := HG.out (by omega)
        clear HS HG hH
        go_wp2_with fail
        go_roundw
        case rel => exact ⟨lo, k, rfl, by rw [E1.out.1], by have := E1.out.2; omega, by have := E1.out.2; omega, hL.out, F.out, hB1.out⟩
        case measure => rw [E1.out.1]; have := E1.out.2; simp only [intOf]; omega
    · obtain rfl : lo = hi := by omega
      have I0 : ¬ (lo : Int) < (lo : Int) := by omega
      by_cases hn : lo < l.length
      · obtain ⟨b, o, a1, c1, rfl, x1, x2, x3⟩ := (Ha.out.on hB).at lo hn
        have I1 : (lo : Int) < (l.length : Int) := by omega
        have q : Hid (Calls Tryd.prog 48 #[.agg #[.slice a1 l[lo].1.length c1, .int .i64 l[lo].2], .slice b0 r.length cap'] wr fun e w'' => e = .returned (.int .i64 (cR l[lo].1 r)) ∧ Below wr.heap.size wr w'') := getCmp l[lo] r _ _ _ _ wr x3 (Hb.out.on hB)
        have HT : Hid (cR l[lo].1 r = 0 → Found l r lo true) := fun h => ⟨h2, fun _ => ⟨hn, (cR_zero _ _).1 h⟩, fun h => by cases h⟩
        have HF : Hid (cR l[lo].1 r ≠ 0 → Found l r lo false) := fun h => ⟨h2, (fun h => by cases h), fun _ => not_found Hl.out hL.out (fun hh => by have := hH.out lo hh (Nat.le_refl _); omega)⟩
        clear x3 hL hH hlt
        generalize cR l[lo].1 r = c at *
        generalize l[lo].1.length = n1 at *
        generalize l[lo].2 = i1 at *
        by_cases hc : c = 0
        · have F : Hid (Found l r lo true) := HT.out hc
          subst hc
          clear HT HF
          go_wp2_with fail
          refine q.out.mono ?_
          rintro e w1 ⟨rfl, hb1⟩
          have hB1 : Hid (Below w.heap.size w w1) := hB.trans (hb1.mono hB.size)
          clear hb1 q x1 x2
          go_wp2_with fail
          go_ret2
          exact ⟨lo, true, rfl, F.out, hB1.out⟩
        · have F : Hid (Found l r lo false) := HF.out hc
          have bc : (c == 0) = false := by simp [hc]
          clear HT HF
          go_wp2_with fail
          refine q.out.mono ?_
          rintro e w1 ⟨rfl, hb1⟩
          have hB1 : Hid (Below w.heap.size w w1) := hB.trans (hb1.mono hB.size)
          clear hb1 q x1 x2
          go_wp2_with fail
          go_ret2
          exact ⟨lo, false, rfl, F.out, hB1.out⟩
      · have I1 : ¬ (lo : Int) < (l.length : Int) := by omega
        have F : Hid (Found l r lo false) := ⟨h2, (fun h => by cases h), fun _ => not_found Hl.out hL.out (fun hh => absurd hh hn)⟩
        clear hL hH hlt
        go_wp2_with fail
        go_ret2
        exact ⟨lo, false, rfl, F.out, hB⟩
set_option maxHeartbeats 1000000 in
/-- zset.Get. -/
theorem zGet (l : List Ent) (r : List Val) (va vb : Value) (w : World) (hn : l.length ≤ 65536) (hl : IsZ l) (ha : EntsIs w va l) (hb : RowIs w vb r) :
    Calls Tryd.prog 35 #[va, vb] w fun e w' => e = .returned (.int .i64 (wt r l)) ∧ Below w.heap.size w w' := by
  have q := binSearch l r va vb w hn hl.1 ha hb
  obtain ⟨a0, cap, rfl⟩ := ha.form
  obtain ⟨b0, cap', rfl⟩ := hb.form
  have Ha : Hid (EntsIs w (.slice a0 l.length cap) l) := ha
  have Hl : Hid (SortedZ l) := hl.1
  clear ha hb hl
  go_enter Tryd.func35, Tryd.ntmps35
  go_wp2_with fail
  refine q.mono ?_
  rintro e w1 ⟨i, b, rfl, h1, h2⟩
  clear q
  cases b
  · have E : Hid (wt r l = 0) := wt_none (h1.2.2 rfl)
    clear h1
    go_wp2_with fail
    go_ret
    exact ⟨retI E.out.symm, h2⟩
  · obtain ⟨hi, he⟩ := h1.2.1 rfl
    obtain ⟨b, o, a1, c1, rfl, x1, x2, x3⟩ := (Ha.out.on h2).at i hi
    have E : Hid (wt r l = l[i].2) := by show _ = _; rw [← he]; exact wt_mem Hl.out (List.getElem_mem hi)
    have I1 : (i : Int) < (l.length : Int) := by omega
    clear h1 he x1 x3
    generalize l[i].2 = i1 at *
    go_wp2_with fail
    go_ret
    exact ⟨retI E.out.symm, h2⟩
end Go.Proofs.YtmpochhcokmaiaaDoor
