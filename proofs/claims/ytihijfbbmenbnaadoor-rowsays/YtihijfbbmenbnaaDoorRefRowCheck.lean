/- What the document's own CheckRow answers of rows in memory: no error, or the number of one. -/
import Derived.Test.YtihijfbbmenbnaaDoorRefPick
import Derived.Test.YtihijfbbmenbnaaDoorRef
import Derived.Test.YtihijfbbmenbnaaDoorRefRow
import Derived.BigQuiet
namespace Go.Proofs.YtihijfbbmenbnaaDoor
open Go.RowKit Go.Sort
set_option maxRecDepth 100000

/-- A value fits a column's kind; a row its columns'. -/
def okc (v : Val) (k : Int) : Bool := ckV v.1 v.2.1 v.2.2 && (v.1 == 0 || v.1 == k)
def okC : List Val → List Int → Bool
  | [], [] => true
  | v :: l, k :: ks => okc v k && okC l ks
  | _, _ => false
def ckR (l : List Val) (ks : List Int) : Int := if l.length = ks.length then (if okC l ks then 0 else 102) else 106
theorem okC_bad : ∀ (l : List Val) (ks : List Int) (j : Nat) (h1 : j < l.length) (h2 : j < ks.length), okc l[j] ks[j] = false → okC l ks = false
  | v :: l, k :: ks, 0, _, _, h => by simp only [List.getElem_cons_zero] at h; simp [okC, h]
  | v :: l, k :: ks, j + 1, h1, h2, h => by
    have := okC_bad l ks j (by simpa using h1) (by simpa using h2) (by simpa using h)
    simp [okC, this]
theorem okC_all : ∀ (l : List Val) (ks : List Int), l.length = ks.length → (∀ j (h1 : j < l.length) (h2 : j < ks.length), okc l[j] ks[j] = true) → okC l ks = true
  | [], [], _, _ => rfl
  | [], _ :: _, h, _ => by simp at h
  | _ :: _, [], h, _ => by simp at h
  | v :: l, k :: ks, h, g => by
    have h0 := g 0 (by simp) (by simp)
    have := okC_all l ks (by simpa using h) (fun j h1 h2 => g (j + 1) (by simp; omega) (by simp; omega))
    simp only [List.getElem_cons_zero] at h0
    simp [okC, h0, this]
/-- All that came fit. -/
def FitTo (l : List Val) (ks : List Int) (j : Nat) : Prop := ∀ i (h1 : i < l.length) (h2 : i < ks.length), i < j → okc l[i] ks[i] = true

set_option maxHeartbeats 1000000 in
theorem refCheckRow_none (a0 b0 : Option Addr) (n m cap cap' : Nat) (h : n ≠ m ∨ n = 0 ∧ m = 0) (w : World) :
    Calls Tryd.prog 21 #[.slice a0 n cap, .slice b0 m cap'] w fun e w' => e = .returned (.int .i64 (if n = m then 0 else 106)) ∧ Below w.heap.size w w' := by
  by_cases hn : n = m
  · obtain ⟨rfl, rfl⟩ : n = 0 ∧ m = 0 := by omega
    go_enter Tryd.func21, Tryd.ntmps21
    go_wp2_with fail
    go_loopw [5] (fun i wr => i = .int .i64 0 ∧ wr = w) (fun _ _ => 0)
    case atStart => exact ⟨rfl, rfl⟩
    case round =>
      obtain ⟨rfl, rfl⟩ := hrel
      go_wp2_with fail
      go_ret
      exact ⟨rfl, Below.refl _ _⟩
  · have e' : ((n : Int) == (m : Int)) = false := by simp; omega
    rw [if_neg hn]
    go_enter Tryd.func21, Tryd.ntmps21
    go_wp2_with fail
    go_ret
    exact ⟨rfl, Below.refl _ _⟩

set_option maxHeartbeats 4000000 in
theorem refCheckRow_some (l : List Val) (ks : List Int) (r : Int) (r1 : Hid (okC l ks = true → r = 0)) (r2 : Hid (okC l ks = false → r = 102)) (b o cap b' o' cap' : Nat) (w : World) (hlen : l.length = ks.length) (ha : RowIs w (.slice (some ⟨b, o, none⟩) l.length cap) l) (hb : IntsIs w (.slice (some ⟨b', o', none⟩) ks.length cap') ks) :
    Calls Tryd.prog 21 #[.slice (some ⟨b, o, none⟩) l.length cap, .slice (some ⟨b', o', none⟩) ks.length cap'] w fun e w' => e = .returned (.int .i64 r) ∧ Below w.heap.size w w' := by
  have la := ha.le
  unfold maxLen at la
  have Ha : Hid (RowIs w (.slice (some ⟨b, o, none⟩) l.length cap) l) := ha
  have Hb : Hid (IntsIs w (.slice (some ⟨b', o', none⟩) ks.length cap') ks) := hb
  have HL : Hid (l.length = ks.length) := hlen
  have hb2 : ks.length ≤ 9223372036854775807 := by omega
  have ee : ((l.length : Int) == (ks.length : Int)) = true := by simp [hlen]
  have ge : ks.length ≤ l.length ∧ l.length ≤ ks.length := by omega
  clear ha hb hlen
  go_enter Tryd.func21, Tryd.ntmps21
  go_wp2_with fail
  go_loopw [5] (fun i wr => ∃ j : Nat, j ≤ l.length ∧ i = .int .i64 j ∧ FitTo l ks j ∧ Below w.heap.size w wr) (fun i _ => l.length - (intOf i).toNat)
  case atStart => exact ⟨0, by omega, rfl, fun _ _ _ h => by omega, Below.refl _ _⟩
  case round =>
    obtain ⟨j, hj1, rfl, hc, hB⟩ := hrel
    by_cases k1 : j < l.length
    · have k2 : j < ks.length := by omega
      have X := (Ha.out.on hB).at' j k1
      have Y := (Hb.out.on hB).at j k2
      have I1 : (j : Int) < (l.length : Int) := by omega
      have I2 : (j : Int) < (ks.length : Int) := by omega
      have HS : Hid (okc l[j] ks[j] = true → FitTo l ks (j + 1)) := fun h i h1 h2 h3 => by
        by_cases e : i = j
        · subst e; exact h
        · exact hc i h1 h2 (by omega)
      have HN : Hid (okc l[j] ks[j] = false → okC l ks = false) := okC_bad l ks j k1 k2
      generalize l[j] = x at *
      generalize ks[j] = k at *
      have gx := fun d os => cells_regrown X d os
      have gy := fun d os => cell_regrown Y d os
      have HO : Hid (okc x k = (ckV x.1 x.2.1 x.2.2 && (x.1 == 0 || x.1 == k))) := rfl
      have q : Hid (∀ d os, Calls Tryd.prog 37 #[.agg #[.int .i64 x.1, .int .i64 x.2.1, .string x.2.2]] (grow (redrawn wr d) os) fun e w'' => e = .returned (.bool (ckV x.1 x.2.1 x.2.2)) ∧ ∃ p : Regrown, w'' = grow (redrawn wr p.d) p.os) :=
        fun d os => Calls.regrown_of (refCheckValue x.1 x.2.1 x.2.2 _)
      generalize ckV x.1 x.2.1 x.2.2 = c at *
      clear X Y hc
      generalize hx1 : x.1 = x1 at *
      clear hx1
      have D : c = false ∨ (c = true ∧ (x1 == 0) = true) ∨ (c = true ∧ (x1 == 0) = false ∧ (x1 == k) = true) ∨ (c = true ∧ (x1 == 0) = false ∧ (x1 == k) = false) := by
        cases c <;> cases (x1 == 0) <;> cases (x1 == k) <;> simp
      rcases D with hc | ⟨hc, h0⟩ | ⟨hc, h0, hk⟩ | ⟨hc, h0, hk⟩
      · have E : Hid (okC l ks = false) := HN.out (by rw [HO.out, hc]; rfl)
        clear HO HN HS
        subst hc
        go_wp2_with fail
        refine wp_region_quiet_below (by kernel_rfl) (by kernel_rfl) ?_
        iterate 5 (go_big_quiet_step (exact q.out _ _))
        iterate 21 (go_big_quiet_step (fail))
        refine wpQuiet_nil ?_
        intro w6 hw6
        obtain ⟨p6, hw6⟩ := hw6
        have hb6 : Below w.heap.size w w6 := by rw [hw6]; exact hB.trans ((below_regrown wr _ _).mono hB.size)
        clear hw6 gx gy q
        go_wp2_with fail
        go_ret
        exact ⟨retI (r2.out E.out).symm, hb6⟩
      · have E : Hid (FitTo l ks (j + 1)) := HS.out (by rw [HO.out, hc, h0]; rfl)
        clear HO HN HS
        have z0 : x1 = 0 := by simpa using h0
        clear h0
        subst hc z0
        go_wp2_with fail
        refine wp_region_quiet_below (by kernel_rfl) (by kernel_rfl) ?_
        iterate 5 (go_big_quiet_step (exact q.out _ _))
        iterate 21 (go_big_quiet_step (fail))
        refine wpQuiet_nil ?_
        intro w6 hw6
        obtain ⟨p6, hw6⟩ := hw6
        have hb6 : Hid (Below w.heap.size w w6) := by rw [hw6]; exact hB.trans ((below_regrown wr _ _).mono hB.size)
        clear hw6 gx gy q
        go_wp2_with fail
        go_roundw
        case rel => exact ⟨j + 1, by omega, by go_num, E.out, hb6.out⟩
        case measure => simp [intOf]; omega
      · have E : Hid (FitTo l ks (j + 1)) := HS.out (by rw [HO.out, hc, h0, hk]; rfl)
        clear HO HN HS
        have z0 : ¬ x1 = 0 := by simpa using h0
        have z1 : x1 = k := by simpa using hk
        have n0 : (x1 != 0) = true := by simp [z0]
        subst hc z1
        go_wp2_with fail
        refine wp_region_quiet_below (by kernel_rfl) (by kernel_rfl) ?_
        iterate 5 (go_big_quiet_step (exact q.out _ _))
        iterate 21 (go_big_quiet_step (fail))
        refine wpQuiet_nil ?_
        intro w6 hw6
        obtain ⟨p6, hw6⟩ := hw6
        have hb6 : Hid (Below w.heap.size w w6) := by rw [hw6]; exact hB.trans ((below_regrown wr _ _).mono hB.size)
        clear hw6 gx gy q
        go_wp2_with fail
        go_roundw
        case rel => exact ⟨j + 1, by omega, by go_num, E.out, hb6.out⟩
        case measure => simp [intOf]; omega
      · have E : Hid (okC l ks = false) := HN.out (by rw [HO.out, hc, h0, hk]; rfl)
        clear HO HN HS
        have z0 : ¬ x1 = 0 := by simpa using h0
        have z1 : ¬ x1 = k := by simpa using hk
        have n0 : (x1 != 0) = true := by simp [z0]
        have n1 : (x1 != k) = true := by simp [z1]
        subst hc
        go_wp2_with fail
        refine wp_region_quiet_below (by kernel_rfl) (by kernel_rfl) ?_
        iterate 5 (go_big_quiet_step (exact q.out _ _))
        iterate 21 (go_big_quiet_step (fail))
        refine wpQuiet_nil ?_
        intro w6 hw6
        obtain ⟨p6, hw6⟩ := hw6
        have hb6 : Below w.heap.size w w6 := by rw [hw6]; exact hB.trans ((below_regrown wr _ _).mono hB.size)
        clear hw6 gx gy q
        go_wp2_with fail
        go_ret
        exact ⟨retI (r2.out E.out).symm, hb6⟩
    · have I1 : ¬ (j : Int) < (l.length : Int) := by omega
      have E : Hid (okC l ks = true) := okC_all l ks HL.out (fun i h1 h2 => hc i h1 h2 (by omega))
      clear hc
      go_wp2_with fail
      go_ret
      exact ⟨retI (r1.out E.out).symm, hB⟩

/-- The document's Check of a row. -/
theorem refCheckRow (l : List Val) (ks : List Int) (va vb : Value) (w : World) (ha : RowIs w va l) (hb : IntsIs w vb ks) :
    Calls Tryd.prog 21 #[va, vb] w fun e w' => e = .returned (.int .i64 (ckR l ks)) ∧ Below w.heap.size w w' := by
  obtain ⟨b0, cap', eb⟩ := hb.form
  obtain ⟨a0, cap, ea⟩ := ha.form
  unfold ckR
  by_cases hn : l.length = ks.length
  · rw [if_pos hn]
    by_cases hl : l = []
    · subst hl
      have hm : ks = [] := List.eq_nil_of_length_eq_zero hn.symm
      subst hm; subst ea eb
      exact refCheckRow_none a0 b0 0 0 cap cap' (.inr ⟨rfl, rfl⟩) w
    · have hm : ks ≠ [] := by rintro rfl; exact hl (List.eq_nil_of_length_eq_zero hn)
      obtain ⟨b, o, cap1, rfl⟩ := ha.addr hl
      obtain ⟨b', o', cap2, rfl⟩ := hb.addr hm
      exact refCheckRow_some l ks _ (fun h => by rw [h]; rfl) (fun h => by rw [h]; rfl) b o cap1 b' o' cap2 w hn ha hb
  · subst ea eb
    have := refCheckRow_none a0 b0 l.length ks.length cap cap' (.inl hn) w
    rw [if_neg hn] at this ⊢
    exact this
end Go.Proofs.YtihijfbbmenbnaaDoor
