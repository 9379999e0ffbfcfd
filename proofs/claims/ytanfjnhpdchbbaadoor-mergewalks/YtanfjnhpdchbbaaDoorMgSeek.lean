/- What a cursor's Seek answers. -/
import Derived.Test.YtanfjnhpdchbbaaDoorMgNext
import Derived.Test.YtanfjnhpdchbbaaDoorMgAhead
namespace Go.Proofs.YtanfjnhpdchbbaaDoor
open Go.RowKit Go.Sort
set_option maxRecDepth 100000
/-- A row's weight, if it is not ahead of one. -/
def wtF (r s : List Val) (l : List Ent) : Int := if cR s r < 0 then 0 else wt s l
/-- How far Seek has come. -/
def SeekTo (w0 : World) (hb ab cap : Nat) (X : List QEnt) (r : List Val) (w : World) (Y : List QEnt) (wr : World) : Prop := QC w0 hb ab cap Y wr ∧ Heap (kf Y) Y.length ∧ Off hb ab w wr ∧ (∀ s, wtF r s (flat Y) = wtF r s (flat X)) ∧ (flat Y).length ≤ (flat X).length
/-- Where Seek ends. -/
def SeekIs (w0 : World) (hb ab cap : Nat) (X : List QEnt) (r : List Val) (w w' : World) : Prop := ∃ Y, CurIs w0 hb ab cap Y w' ∧ Off hb ab w w' ∧ wkZ (flat Y) = fromZ r (wkZ (flat X)) ∧ (flat Y).length ≤ (flat X).length
theorem SeekTo.fin {w0 : World} {hb ab cap : Nat} {X Y : List QEnt} {r : List Val} {w wr : World} (hN : (flat X).length ≤ 65536) (h : SeekTo w0 hb ab cap X r w Y wr) (hn : Y.length = 0 ∨ ¬ cR (kf Y 0) r < 0) : SeekIs w0 hb ab cap X r w wr := by
  obtain ⟨h1, h2, h3, h4, h5⟩ := h
  refine ⟨Y, ⟨h1, h2, by omega⟩, h3, wk_from (fun s => ?_), h5⟩
  have := h4 s
  unfold wtF at this
  by_cases hs : cR s r < 0
  · rw [if_pos hs]
    refine wt_none (fun e he e' => ?_)
    rcases hn with h0 | h0
    · rw [List.eq_nil_of_length_eq_zero h0] at he; cases he
    · have g1 := first_le h1.q.inOrder h2 he
      rw [e'] at g1
      have g2 := cR_trans _ _ _ g1 (show cR s r ≤ 0 by omega)
      rcases Int.lt_or_eq_of_le g2 with g3 | g3
      · exact h0 g3
      · rw [(cR_zero _ _).1 g3] at g1; have := cR_anti s r; omega
  · rw [if_neg hs] at this ⊢; rw [if_neg hs] at this; exact this
theorem SeekTo.on {w0 : World} {hb ab cap : Nat} {X Y : List QEnt} {r : List Val} {w wr w' : World} (h : SeekTo w0 hb ab cap X r w Y wr) (hB : Below wr.heap.size wr w') : SeekTo w0 hb ab cap X r w Y w' :=
  ⟨h.1.on hB, h.2.1, h.2.2.1.trans (Off.of_below hB), h.2.2.2⟩
theorem SeekTo.step {w0 : World} {hb ab cap : Nat} {X T : List QEnt} {vy : Value} {l : List Ent} {r : List Val} {w wr w' : World} {k : Nat} (h : SeekTo w0 hb ab cap X r w ((vy, l) :: T) wr) (hk : k ≤ l.length) (hf : l.filter (fun e => decide (0 ≤ cR e.1 r)) = l.drop k) (hc : cR (hd l) r < 0) (hs : SkipIs w0 hb cH ab cap (l.drop k) T wr w') : ∃ Y, SeekTo w0 hb ab cap X r w Y w' ∧ (flat Y).length < (flat ((vy, l) :: T)).length := by
  obtain ⟨h1, h2, h3, h4, h5⟩ := h
  obtain ⟨Y, y1, y2, y3, y4, y5, y6⟩ := hs
  have hl : l ≠ [] := (h1.2.1 (vy, l) (by simp)).2.1
  have hlt : (l.drop k).length < l.length := by
    rw [← hf]
    cases l with
    | nil => exact absurd rfl hl
    | cons e l =>
      rw [List.filter_cons_of_neg (by have : cR e.1 r < 0 := hc; simp; omega)]
      exact Nat.lt_of_le_of_lt (List.length_filter_le _ _) (by simp)
  have hfl : (flat Y).length < (flat ((vy, l) :: T)).length := by rw [y6, flat_cons, List.length_append, List.length_append]; show (l.drop k).length + _ < l.length + _; omega
  refine ⟨Y, ⟨h1.off y2 y3, y1, h3.trans y3, fun s => ?_, by omega⟩, hfl⟩
  rw [← h4 s]
  unfold wtF
  by_cases hs : cR s r < 0
  · rw [if_pos hs, if_pos hs]
  · rw [if_neg hs, if_neg hs, y4, flat_cons, wt_append, wt_append, ← hf]
    have := wt_from s r l
    unfold fromZ at this
    rw [this, if_neg hs]
set_option maxHeartbeats 8000000 in
theorem mgSeek (w0 : World) (hb ab cap : Nat) (X : List QEnt) (r : List Val) (vr : Value) (w : World) (h : CurIs w0 hb ab cap X w) (hr : RowIs w vr r) (n1 : vr.ownBlock ≠ some hb) (n2 : vr.ownBlock ≠ some ab) :
    Calls Tryd.prog 27 #[.pointer (some ⟨hb, 0, none⟩), vr] w fun e w' => e = .returned (.tuple #[]) ∧ SeekIs w0 hb ab cap X r w w' := by
  have hN := h.2.2
  obtain ⟨ar, cr, rfl⟩ := hr.form
  have HR : Hid (∀ wr, Off hb ab w wr → RowIs wr (.slice ar r.length cr) r) := fun wr hO => hO.row hr n1 n2
  have G0 : Hid (SeekTo w0 hb ab cap X r w X w) := ⟨h.1, h.2.1, Off.refl _ _ _, fun _ => rfl, Nat.le_refl _⟩
  clear h hr n1 n2
  generalize hrl : r.length = nr at *
  go_enter Tryd.func27, Tryd.ntmps27
  go_wp2_with fail
  go_loopw [4] (fun _ wr => ∃ Y, SeekTo w0 hb ab cap X r w Y wr) (fun _ wr => qLeft wr (.pointer (some ⟨hb, 0, none⟩)))
  case atStart => exact ⟨_, G0.out⟩
  case round =>
    clear G0
    obtain ⟨Y, hA⟩ := hrel
    have hY := hA.1.1.cell
    have hYL := hA.1.2.2.2.2.2
    rw [List.length_map] at hY
    have qL := qEmpty hb 0 _ _ _ wr hY
    by_cases hy : Y.length = 0
    · have F : Hid (SeekIs w0 hb ab cap X r w wr) := hA.fin hN (.inl hy)
      rw [hy] at qL
      have qL' : Hid (Calls Tryd.prog 45 #[.pointer (some ⟨hb, 0, none⟩)] wr fun e w' => e = .returned (.bool true) ∧ w' = wr) := qL
      clear hA hy hYL hY qL
      go_wp2_with fail
      refine qL'.out.mono ?_
      rintro e w2 ⟨rfl, rfl⟩
      clear qL'
      go_wp2_with fail
      go_end0
      exact ⟨rfl, F.out⟩
    · obtain ⟨y, T, hYe⟩ : ∃ y T, Y = y :: T := by
        cases Y with
        | nil => exact absurd rfl hy
        | cons y T => exact ⟨y, T, rfl⟩
      subst hYe
      obtain ⟨b, o, c, a2, c2, e2, l2, rfl, k1, k2, k3, k4, k5, k6, k7, k8, k9, k10⟩ := hA.1.q.head0
      rw [List.length_cons] at hY hYL
      have hm : Hid (qLeft wr (.pointer (some ⟨hb, 0, none⟩)) = (flat ((.slice (some ⟨b, o, none⟩) (e2 :: l2).length c, e2 :: l2) :: T)).length) := hA.1.left
      have qF : Hid (∀ V, V.cell? ⟨hb, 0, none⟩ = some (.slice (some ⟨ab, 0, none⟩) (T.length + 1) cap) → V.cell? ⟨ab, 0, none⟩ = some (.slice (some ⟨b, o, none⟩) (e2 :: l2).length c) → Calls Tryd.prog 52 #[.pointer (some ⟨hb, 0, none⟩)] V fun e w' => e = .returned (.slice (some ⟨b, o, none⟩) (e2 :: l2).length c) ∧ w' = V) := fun V c1 c2 => qFirst hb 0 ab (T.length + 1) cap (e2 :: l2).length c (some ⟨b, o, none⟩) V (by omega) c1 c2
      have q2 := qF.out wr hY k7
      have qL' : Hid (Calls Tryd.prog 45 #[.pointer (some ⟨hb, 0, none⟩)] wr fun e w' => e = .returned (.bool false) ∧ w' = wr) := qL
      have I0 : (0 : Int) < ((e2 :: l2).length : Int) := by simp
      have k8' := k8
      have q3 : Hid (Calls Tryd.prog 51 #[.slice a2 e2.1.length c2, .slice ar nr cr] wr fun e w' => e = .returned (.int .i64 (cR e2.1 r)) ∧ Below wr.heap.size wr w') := rowCompare e2.1 r _ _ wr (k10.on hA.1.2.2.1) (HR.out wr hA.2.2.1)
      have HA : Hid (SeekTo w0 hb ab cap X r w ((.slice (some ⟨b, o, none⟩) (e2 :: l2).length c, e2 :: l2) :: T) wr) := hA
      have KE : Hid (EntsIs w0 (.slice (some ⟨b, o, none⟩) (e2 :: l2).length c) (e2 :: l2) ∧ SortedZ (e2 :: l2) ∧ (e2 :: l2).length ≤ 65536) := ⟨k4, k5, k3⟩
      obtain ⟨s, hs⟩ : ∃ s, s = cR e2.1 r := ⟨_, rfl⟩
      have HS : Hid (s = cR e2.1 r) := hs
      rw [← hs] at q3
      clear hA k1 k2 k3 k4 k5 k6 k7 k8 k9 k10 hs hy
      generalize e2.1.length = n2 at *
      generalize hm2 : (e2 :: l2).length = m2 at q2 I0
      clear qL hY
      go_wp2_with fail
      refine qL'.out.mono ?_
      rintro e w2 ⟨rfl, rfl⟩
      clear qL'
      go_wp2_with fail
      refine q2.mono ?_
      rintro e w3 ⟨rfl, rfl⟩
      clear q2
      go_wp2_with fail
      refine q3.out.mono ?_
      rintro e w4 ⟨rfl, hb4⟩
      have hT := HA.out.on hb4
      clear q3 HA hb4 k8' hm2
      by_cases h0 : s < 0
      · have hY := hT.1.1.cell
        have hX := (hT.1.q.get (show 0 < ((Value.slice (some ⟨b, o, none⟩) (e2 :: l2).length c, e2 :: l2) :: T).length by simp)).2
        rw [List.length_map, List.length_cons] at hY
        simp only [List.getD_cons_zero] at hX
        have hc : cR (hd (e2 :: l2)) r < 0 := by show cR e2.1 r < 0; rw [← HS.out]; exact h0
        have qa : Hid (∀ V, Below w4.heap.size w4 V → Calls Tryd.prog 54 #[.slice (some ⟨b, o, none⟩) (e2 :: l2).length c, .slice ar nr cr] V fun e w' => ∃ k : Nat, e = .returned (.int .i64 k) ∧ Hid (k ≤ (e2 :: l2).length ∧ (e2 :: l2).filter (fun e => decide (0 ≤ cR e.1 r)) = (e2 :: l2).drop k) ∧ Below w4.heap.size w4 w') := fun V hV =>
          (mgAhead (e2 :: l2) r _ _ V KE.out.2.2 KE.out.2.1 ((KE.out.1.on hT.1.2.2.1).on hV) ((HR.out w4 hT.2.2.1).on hV)).mono fun e w' ⟨k, g1, g2, g3, _, g5⟩ => ⟨k, g1, ⟨g2, g3⟩, hV.trans (g5.mono hV.size)⟩
        have qs : Hid (∀ V (k : Nat), Below w4.heap.size w4 V → Hid (k ≤ (e2 :: l2).length ∧ (e2 :: l2).filter (fun e => decide (0 ≤ cR e.1 r)) = (e2 :: l2).drop k) → Calls Tryd.prog 53 #[.pointer (some ⟨hb, 0, none⟩), .int .i64 k] V fun e w' => e = .returned (.tuple #[]) ∧ ∃ Y, SeekTo w0 hb ab cap X r w Y w' ∧ (flat Y).length < (flat ((.slice (some ⟨b, o, none⟩) (e2 :: l2).length c, e2 :: l2) :: T)).length) := fun V k hV hk =>
          (qSkip w0 hb cH ab cap _ T k V (hT.1.on hV).q hT.2.1 hk.out.1).mono fun e w' ⟨g1, g2⟩ => ⟨g1, (hT.on hV).step hk.out.1 hk.out.2 hc g2⟩
        generalize (flat ((Value.slice (some ⟨b, o, none⟩) (e2 :: l2).length c, e2 :: l2) :: T)).length = NN at *
        clear hT hc KE
        generalize e2 :: l2 = L at *
        have qF4 : Hid (Calls Tryd.prog 52 #[.pointer (some ⟨hb, 0, none⟩)] w4.drew fun e w' => e = .returned (.slice (some ⟨b, o, none⟩) L.length c) ∧ w' = w4.drew) := qF.out w4.drew hY hX
        clear qF
        go_wp2_with fail
        go_region_with (first
          | (go_at_call 52; refine qF4.out.mono ?_; rintro e w6 ⟨rfl, rfl⟩)
          | (go_at_call 54; refine (qa.out _ ((Below.refl _ _).drew)).mono ?_; rintro e w7 ⟨k, rfl, g1, g2⟩; have g3 : Hid (Below w4.heap.size w4 w7) := g2; clear g2)
          | (go_at_call 53; refine (qs.out _ _ g3.out g1).mono ?_; rintro e w8 ⟨rfl, h8⟩; have G : Hid (∃ Y, SeekTo w0 hb ab cap X r w Y w8 ∧ (flat Y).length < NN) := h8; clear h8))
        all_goals
          go_wp2_with fail
          go_roundw
          case rel => obtain ⟨Y2, g1, _⟩ := G.out; exact ⟨Y2, g1⟩
          case measure => obtain ⟨Y2, g1, g2⟩ := G.out; rw [QC.left g1.1, hm.out]; exact g2
      · have F : Hid (SeekIs w0 hb ab cap X r w w4) := hT.fin hN (.inr (by show ¬ cR e2.1 r < 0; rw [← HS.out]; exact h0))
        clear hT
        go_wp2_with fail
        go_end0
        exact ⟨rfl, F.out⟩
end Go.Proofs.YtanfjnhpdchbbaaDoor
