/- The walk of the law that a cursor tells what the chapter says. -/
import Derived.Test.YtanfjnhpdchbbaaDoorMgSeeksWalk
namespace Go.Proofs.YtanfjnhpdchbbaaDoor
open Go.RowKit Go.Sort
set_option maxRecDepth 100000
/-- From a place on all are less, up to another. -/
def LessAt (L : List Ent) (r : List Val) (a b : Nat) : Prop := a ≤ b ∧ ∀ i (h : i < L.length), a ≤ i → i < b → cR L[i].1 r < 0
/-- How far a cursor and the list of all are. -/
def WkTo (w0 : World) (hb ab cp base : Nat) (L : List Ent) (us : List VEnt) (vA : Value) (at_ : Nat) (wr : World) : Prop :=
  at_ ≤ L.length ∧ wr.ownsRow base 50 2 vA L.length (es us) ∧ ∃ Y, CurIs w0 hb ab cp Y wr ∧ wkZ (flat Y) = L.drop at_
theorem fromZ_from {L : List Ent} (hs : SortedZ L) {r : List Val} {a b : Nat} (hab : a ≤ b) (hb : b ≤ L.length) (h : ∀ i (h : i < L.length), a ≤ i → i < b → cR L[i].1 r < 0) (hn : ∀ h : b < L.length, ¬ cR L[b].1 r < 0) : fromZ r (L.drop a) = L.drop b := by
  have e : L.drop b = (L.drop a).drop (b - a) := by rw [List.drop_drop]; congr 1; omega
  rw [e]
  refine fromZ_drop (List.Pairwise.sublist (List.drop_sublist _ _) hs) ⟨by simp; omega, fun i hi hik => ?_⟩ (fun hi => ?_)
  · simp only [List.getElem_drop]; exact h _ (by simp at hi; omega) (by omega) (by omega)
  · simp only [List.getElem_drop]
    have := hn (by simp at hi; omega)
    simpa [show a + (b - a) = b by omega] using this
set_option maxHeartbeats 16000000 in
theorem mergeWalks_walk (a : Option Addr) (len cap : Nat) (zs : List Int) (wide : Bool) (a' : Option Addr) (len' cap' : Nat) (zs' : List Int) (w : World) (he : ∃ ad, OverAt ad w) (ha : IsRow .i64 w a len cap zs) (ha' : IsRow .i64 w a' len' cap' zs') :
    Calls Tryd.prog 7 #[.slice a len cap, .bool wide, .slice a' len' cap'] w fun e w' => e = .returned (.bool true) ∧ Below w.heap.size w w' := by
  obtain ⟨ad, hE⟩ := he
  have q0 := lawFirst5 ad w hE
  have HE : Hid (OverAt ad w) := hE
  have HA : Hid (IsRow .i64 w a len cap zs) := ha
  have HA' : Hid (IsRow .i64 w a' len' cap' zs') := ha'
  clear hE ha ha'
  go_enter Tryd.func7, Tryd.ntmps7
  go_wp2_with fail
  refine q0.mono ?_
  rintro e w1 ⟨rfl, hb1⟩
  have B1 : Hid (Below w.heap.size w w1) := hb1
  clear q0 hb1
  by_cases hl : 200 < len
  · have I1 : (200 : Int) < (len : Int) := by omega
    go_wp2_with fail
    go_ret
    exact ⟨rfl, B1.out⟩
  · have I1 : ¬ (200 : Int) < (len : Int) := by omega
    by_cases hl' : 20 < len'
    · have I2 : (20 : Int) < (len' : Int) := by omega
      go_wp2_with fail
      go_ret
      exact ⟨rfl, B1.out⟩
    · have I2 : ¬ (20 : Int) < (len' : Int) := by omega
      have q1 := lawSets wide w1.heap.size a len cap zs _ (SeqAt.make (HA.out.below B1.out) 27)
      go_wp2_with fail
      refine q1.mono ?_
      rintro e w2 ⟨v, X, rfl, hX, hB2⟩
      have B2 : Hid (Below w.heap.size w w2) := (B1.out.trans (one_box.mono B1.out.size)).trans (hB2.below (B1.out.size) (by have := B1.out.size; simp; omega))
      obtain ⟨hLs, hN⟩ := hX.ls
      obtain ⟨aX, cX, rfl⟩ := hLs.form
      have HL : Hid (LsIs w2 (.slice aX X.length cX) X) := hLs
      have q2 := mgNew X _ w2 hLs (by omega)
      clear q1 hX hB2 hLs
      go_wp2_with fail
      refine q2.mono ?_
      rintro e w3 ⟨w0, hb, ab, cp, Y, rfl, hC, hw, _, hB0⟩
      have C0 : Hid (Below w2.heap.size w2 w0) := hB0
      have O0 : Hid (OverAt ad w0) := (HE.out.on B2.out).on hB0
      have C3 : Hid (Below w2.heap.size w2 w3) := hB0.trans (hC.1.2.2.1.mono hB0.size)
      have HC : Hid (CurIs w0 hb ab cp Y w3 ∧ wkZ (flat Y) = wkZ (flat X)) := ⟨hC, wkZ_eq hw⟩
      have q3 := refWalk X _ w2 w3 HL.out C3.out (by omega)
      clear q2 hC hw hB0
      go_wp2_with fail
      refine q3.mono ?_
      rintro e w6 ⟨v6, rfl, h6, hb6⟩
      obtain ⟨us, u1, u2⟩ := h6
      have SZ : Hid (SortedZ (wkZ (flat X))) := (wkZ_isZ _).1
      have hul : us.length = (wkZ (flat X)).length := u2.1
      obtain ⟨aA, cA, rfl⟩ := own_form u1
      rw [hul] at u1
      have G0 : Hid (WkTo w0 hb ab cp w3.heap.size (wkZ (flat X)) us (.slice aA (wkZ (flat X)).length cA) 0 w6) := ⟨Nat.zero_le _, u1, Y, ⟨HC.out.1.1.on hb6, HC.out.1.2⟩, HC.out.2⟩
      have U2 : Hid (Reads w2 us (wkZ (flat X))) := u2
      have HUL : Hid (us.length = (wkZ (flat X)).length) := hul
      have hLL : (wkZ (flat X)).length ≤ maxLen := by have := (EntsAt.of_own (l := us) (by rw [HUL.out]; exact u1)).le; rw [HUL.out] at this; exact this
      unfold maxLen at hLL
      rw [hul]
      clear q3 u1 u2 hul hb6 HC
      generalize wkZ (flat X) = L at *
      go_wp2_with fail
      go_loopw [11, 12] (fun s11 s12 wr => ∃ at_ i : Nat, s11 = .int .i64 at_ ∧ s12 = .int .i64 i ∧ i ≤ 60 ∧ Hid (WkTo w0 hb ab cp w3.heap.size L us (.slice aA L.length cA) at_ wr)) (fun _ s12 _ => 60 - (intOf s12).toNat)
      case atStart => exact ⟨0, 0, rfl, rfl, by omega, G0.out⟩
      case round =>
        clear G0
        obtain ⟨at_, i, rfl, rfl, hi60, hk⟩ := hrel
        have hat := hk.out.1
        by_cases h60 : i < 60
        · have I60 : (i : Int) < 60 := by omega
          by_cases hil : i < len'
          · have I3 : (i : Int) < (len' : Int) := by omega
            have hWr : Below w.heap.size w wr := by
              obtain ⟨_, _, Y1, y1, _⟩ := hk.out
              exact B2.out.trans ((C0.out.trans (y1.1.2.2.1.mono C0.out.size)).mono B2.out.size)
            obtain ⟨x0, hx0, x1⟩ : ∃ x, a' = some x ∧ wr.cell? (x.add i) = some (.int .i64 (zs'.getD i 0)) := by
              rcases HA'.out.below hWr with ⟨_, e, _⟩ | ⟨x, hx, d1, d2, d3, d4, d5⟩
              · omega
              · exact ⟨x, hx, d4 i (by omega)⟩
            subst hx0
            generalize zs'.getD i 0 = xi at *
            obtain ⟨A, hA⟩ : ∃ A, wrap64 (xi.tmod 20 - 3) = A := ⟨_, rfl⟩
            clear hWr
            go_wp2_with fail
            rotate_left
            · obtain ⟨hat2, o1, Y1, y1, y2⟩ := hk.out
              have q7 := mgNext w0 hb ab cp Y1 ad wr O0.out y1
              by_cases hal : at_ < L.length
              · have Ia : ((at_ : Nat) : Int) < (L.length : Int) := by omega
                have bi : decide (((at_ : Nat) : Int) < (L.length : Int)) = true := by simp; omega
                refine q7.mono ?_
                rintro e w8 ⟨Y3, hC3, hO, _, h8⟩
                rw [y2, List.drop_eq_getElem_cons hal] at h8
                rcases h8 with ⟨e8, _⟩ | ⟨r, kk, ar, cr, e8, rfl, hrow⟩
                · cases e8
                · have er : L[at_] = (r, kk) := (List.cons.inj e8).1
                  have e9 : wkZ (flat Y3) = L.drop (at_ + 1) := (List.cons.inj e8).2.symm
                  have o8 := y1.1.1.own hO o1 (by decide) (by decide)
                  have hE8 : EntsIs w8 (.slice aA L.length cA) L := ⟨us, EntsAt.of_own (l := us) (by rw [HUL.out]; exact o8), U2.out.on (C0.out.trans (hC3.1.2.2.1.mono C0.out.size))⟩
                  obtain ⟨bA, oA, a2, c2, rfl, t1, t2, t3⟩ := hE8.at at_ hal
                  rw [er] at t1 t2 t3
                  have hR8 : RowIs w8 (.slice ar r.length cr) r := RowIs.of_own hrow
                  have hS : sE (r, kk) (r, kk) = true := (sE_iff _ _).2 rfl
                  have q8 : Hid (∀ d os, Calls Tryd.prog 30 #[.agg #[.slice ar r.length cr, .int .i64 kk], .agg #[.slice a2 r.length c2, .int .i64 kk]] (grow (redrawn (w8.alloc (.cells #[.slice ar r.length cr, .int .i64 kk] 50)) d) os) fun e w'' => e = .returned (.bool true) ∧ ∃ p : Regrown, w'' = grow (redrawn (w8.alloc (.cells #[.slice ar r.length cr, .int .i64 kk] 50)) p.d) p.os) := fun d os => by
                    have := sameEntry (r, kk) (r, kk) ar a2 cr c2 (grow (redrawn (w8.alloc (.cells #[.slice ar r.length cr, .int .i64 kk] 50)) d) os) ((hR8.on one_box).on (below_regrown _ d os)) ((t3.on one_box).on (below_regrown _ d os))
                    rw [hS] at this
                    exact Calls.regrown_of this
                  obtain ⟨W8, hW8⟩ : ∃ W8, W8 = w8.alloc (.cells #[.slice ar r.length cr, .int .i64 kk] 50) := ⟨_, rfl⟩
                  have FN : Hid (∀ W9, Below W8.heap.size W8 W9 → WkTo w0 hb ab cp w3.heap.size L us (.slice (some ⟨bA, oA, none⟩) L.length cA) (at_ + 1) W9) := fun W9 hW9 => by
                    rw [hW8] at hW9
                    exact ⟨by omega, own_on (own_on o8 one_box) hW9, Y3, ⟨(hC3.1.on one_box).on hW9, hC3.2⟩, e9⟩
                  have z1 : W8.cell? ⟨bA, oA + (at_) * 2, none⟩ = some (.slice a2 r.length c2) := by rw [hW8]; exact cell_on t1 one_box
                  have z2 : W8.cell? ⟨bA, oA + (at_) * 2 + 1, none⟩ = some (.int .i64 kk) := by rw [hW8]; exact cell_on t2 one_box
                  have z3 : W8.cell? ⟨w8.heap.size, 0, none⟩ = some (.slice ar r.length cr) := by rw [hW8, World.cell?_alloc_at _ _ _ _ rfl]; rfl
                  have z4 : W8.cell? ⟨w8.heap.size, 1, none⟩ = some (.int .i64 kk) := by rw [hW8, World.cell?_alloc_at _ _ _ _ rfl]; rfl
                  have g1 := fun d os => cell_regrown z1 d os
                  have g2 := fun d os => cell_regrown z2 d os
                  have g3 := fun d os => cell_regrown z3 d os
                  have g4 := fun d os => cell_regrown z4 d os
                  have HW8 : Hid (w8.alloc (.cells #[.slice ar r.length cr, .int .i64 kk] 50) = W8) := hW8.symm
                  rw [← hW8] at q8
                  clear q7 hC3 hO hE8 t1 t2 t3 hR8 hrow hS er e8 e9 hW8 z1 z2 z3 z4 o8 o1 y1 y2
                  generalize r.length = nr at *
                  go_wp2_with fail
                  rw [HW8.out]
                  refine wp_region_quiet_below (by kernel_rfl) (by kernel_rfl) ?_
                  iterate 18 (go_big_quiet_step (exact q8.out _ _))
                  refine wpQuiet_nil ?_
                  intro w9 hw9
                  obtain ⟨p9, hw9⟩ := hw9
                  have F9 : Hid (WkTo w0 hb ab cp w3.heap.size L us (.slice (some ⟨bA, oA, none⟩) L.length cA) (at_ + 1) w9) := by rw [hw9]; exact FN.out _ (below_regrown W8 _ _)
                  clear hw9 g1 g2 g3 g4 q8 FN
                  go_wp2_with fail
                  go_roundw
                  case rel => exact ⟨at_ + 1, i + 1, by go_num, by go_num, by omega, F9.out⟩
                  case measure => simp [intOf]; omega
              · have Ia : ¬ ((at_ : Nat) : Int) < (L.length : Int) := by omega
                have bi : decide (((at_ : Nat) : Int) < (L.length : Int)) = false := by simp; omega
                refine q7.mono ?_
                rintro e w8 ⟨Y3, hC3, hO, _, h8⟩
                rw [y2, List.drop_of_length_le (by omega)] at h8
                rcases h8 with ⟨_, e9, rfl⟩ | ⟨r, kk, ar, cr, e8, _⟩
                · have o8 := y1.1.1.own hO o1 (by decide) (by decide)
                  obtain ⟨W8, hW8⟩ : ∃ W8, W8 = w8.alloc (.cells #[.slice none 0 0, .int .i64 0] 50) := ⟨_, rfl⟩
                  have FN : Hid (∀ W9, Below W8.heap.size W8 W9 → WkTo w0 hb ab cp w3.heap.size L us (.slice aA L.length cA) (at_) W9) := fun W9 hW9 => by
                    rw [hW8] at hW9
                    exact ⟨by omega, own_on (own_on o8 one_box) hW9, Y3, ⟨(hC3.1.on one_box).on hW9, hC3.2⟩, by rw [e9, List.drop_of_length_le (by omega)]⟩
                  have HW8 : Hid (w8.alloc (.cells #[.slice none 0 0, .int .i64 0] 50) = W8) := hW8.symm
                  clear q7 hC3 hO hW8 o8 o1 y1 y2 e9
                  go_wp2_with fail
                  rw [HW8.out]
                  refine wp_region_quiet_below (by kernel_rfl) (by kernel_rfl) ?_
                  iterate 18 (go_big_quiet_step (fail))
                  refine wpQuiet_nil ?_
                  intro w9 hw9
                  obtain ⟨p9, hw9⟩ := hw9
                  have F9 : Hid (WkTo w0 hb ab cp w3.heap.size L us (.slice aA L.length cA) (at_) w9) := by rw [hw9]; exact FN.out _ (below_regrown W8 _ _)
                  clear hw9 FN
                  go_wp2_with fail
                  go_roundw
                  case rel => exact ⟨at_, i + 1, by go_num, by go_num, by omega, F9.out⟩
                  case measure => simp [intOf]; omega
                · cases e8
            · obtain ⟨hat2, o1, Y1, y1, y2⟩ := hk.out
              have hq1 := y1.1.1.lt
              have q4 := mgSeek w0 hb ab cp Y1 (rI A) _ _ ⟨y1.1.on one_box, y1.2⟩ (row_new wr 1 A ⟨#[]⟩) (by intro e; have := Option.some.inj e; simp at this; omega) (by intro e; have := Option.some.inj e; simp at this; omega)
              refine q4.mono ?_
              rintro e w7 ⟨rfl, Y2, hC2, hO2, hw2, _⟩
              have O7 : Hid (w7.ownsRow w3.heap.size 50 2 (.slice aA L.length cA) L.length (es us)) := (y1.1.on one_box).1.own hO2 (own_on o1 one_box) (by decide) (by decide)
              have R7 : Hid (RowIs w7 (.slice (some ⟨wr.heap.size, 0, none⟩) 1 1) (rI A)) := hO2.row (row_new wr 1 A ⟨#[]⟩) (by intro e; have := Option.some.inj e; simp at this; omega) (by intro e; have := Option.some.inj e; simp at this; omega)
              have HC2 : Hid (CurIs w0 hb ab cp Y2 w7 ∧ wkZ (flat Y2) = fromZ (rI A) (L.drop at_)) := ⟨hC2, by rw [hw2, y2]⟩
              have EA : Hid (∀ W, Below w7.heap.size w7 W → EntsIs W (.slice aA L.length cA) L) := fun W hW => ⟨us, EntsAt.of_own (l := us) (by rw [HUL.out]; exact own_on O7.out hW), U2.out.on ((C0.out.trans (HC2.out.1.1.2.2.1.mono C0.out.size)).trans (hW.mono (by have := C0.out.size; have := HC2.out.1.1.2.2.1.size; omega)))⟩
              have DONE : Hid (∀ W at2, Below w7.heap.size w7 W → at_ ≤ at2 → at2 ≤ L.length → (∀ i (h : i < L.length), at_ ≤ i → i < at2 → cR L[i].1 (rI A) < 0) → (∀ h : at2 < L.length, ¬ cR L[at2].1 (rI A) < 0) → WkTo w0 hb ab cp w3.heap.size L us (.slice aA L.length cA) at2 W) := fun W at2 hW j1 j2 j3 j4 =>
                ⟨j2, own_on O7.out hW, Y2, ⟨HC2.out.1.1.on hW, HC2.out.1.2⟩, by rw [HC2.out.2]; exact fromZ_from SZ.out j1 j2 j3 j4⟩
              clear q4 hC2 hO2 hw2 hq1 o1 y1 y2 hk x1 hat2 hA
              generalize wr.heap.size = rb at *
              go_wp2_with fail
              go_loopw [11] (fun s wr => ∃ at2 : Nat, s = .int .i64 at2 ∧ Hid (LessAt L (rI A) at_ at2 ∧ Below w7.heap.size w7 wr) ∧ at2 ≤ L.length) (fun s _ => L.length - (intOf s).toNat)
              case atStart => exact ⟨at_, rfl, ⟨⟨Nat.le_refl _, fun i _ h h' => by omega⟩, Below.refl _ _⟩, hat⟩
              case round =>
                obtain ⟨at2, rfl, hk2, hat2L⟩ := hrel
                by_cases hal : at2 < L.length
                · have Ik : (at2 : Int) < (L.length : Int) := by omega
                  obtain ⟨bA, oA, a1, c1, e1, x1, x2, x3⟩ := (EA.out wr hk2.out.2).at at2 hal
                  subst e1
                  have q6 : Hid (Calls Tryd.prog 28 #[.slice a1 L[at2].1.length c1, .slice (some ⟨rb, 0, none⟩) 1 1] wr fun e w' => e = .returned (.int .i64 (cR L[at2].1 (rI A))) ∧ Below wr.heap.size wr w') :=
                    refCompareRows L[at2].1 (rI A) _ _ wr x3 (R7.out.on hk2.out.2)
                  obtain ⟨s, hs⟩ : ∃ s, s = cR L[at2].1 (rI A) := ⟨_, rfl⟩
                  have HS : Hid (s = cR L[at2].1 (rI A)) := hs
                  rw [← hs] at q6
                  have ADV : Hid (s < 0 → LessAt L (rI A) at_ (at2 + 1)) := fun h => ⟨by have := hk2.out.1.1; omega, fun i hi h1 h2 => by
                    by_cases e : i = at2
                    · subst e; rw [← hs]; exact h
                    · exact hk2.out.1.2 i hi h1 (by omega)⟩
                  clear x2 x3 hs
                  generalize L[at2].1.length = n1 at *
                  go_wp2_with fail
                  refine q6.out.mono ?_
                  rintro e w9 ⟨rfl, hb9⟩
                  have B9 : Hid (Below w7.heap.size w7 w9) := hk2.out.2.trans (hb9.mono hk2.out.2.size)
                  clear q6 hb9 x1
                  by_cases hs0 : s < 0
                  · have G : Hid (LessAt L (rI A) at_ (at2 + 1) ∧ Below w7.heap.size w7 w9) := ⟨ADV.out hs0, B9.out⟩
                    clear ADV DONE
                    go_wp2_with fail
                    go_roundw
                    case rel => exact ⟨at2 + 1, by go_num, G.out, by omega⟩
                    case measure => simp [intOf]; omega
                  · have F2 : Hid (WkTo w0 hb ab cp w3.heap.size L us (.slice (some ⟨bA, oA, none⟩) L.length cA) at2 w9) := DONE.out w9 at2 B9.out hk2.out.1.1 hat2L hk2.out.1.2 (fun _ => by rw [← HS.out]; omega)
                    clear ADV DONE hk2
                    obtain ⟨hat2, o1, Y1, y1, y2⟩ := F2.out
                    have q7 := mgNext w0 hb ab cp Y1 ad w9 O0.out y1
                    go_wp2_with fail
                    have Ia : ((at2 : Nat) : Int) < (L.length : Int) := by omega
                    have bi : decide (((at2 : Nat) : Int) < (L.length : Int)) = true := by simp; omega
                    refine q7.mono ?_
                    rintro e w8 ⟨Y3, hC3, hO, _, h8⟩
                    rw [y2, List.drop_eq_getElem_cons hal] at h8
                    rcases h8 with ⟨e8, _⟩ | ⟨r, kk, ar, cr, e8, rfl, hrow⟩
                    · cases e8
                    · have er : L[at2] = (r, kk) := (List.cons.inj e8).1
                      have e9 : wkZ (flat Y3) = L.drop (at2 + 1) := (List.cons.inj e8).2.symm
                      have o8 := y1.1.1.own hO o1 (by decide) (by decide)
                      have hE8 : EntsIs w8 (.slice (some ⟨bA, oA, none⟩) L.length cA) L := ⟨us, EntsAt.of_own (l := us) (by rw [HUL.out]; exact o8), U2.out.on (C0.out.trans (hC3.1.2.2.1.mono C0.out.size))⟩
                      obtain ⟨bB, oB, a2, c2, eb, t1, t2, t3⟩ := hE8.at at2 hal
                      cases eb
                      rw [er] at t1 t2 t3
                      have hR8 : RowIs w8 (.slice ar r.length cr) r := RowIs.of_own hrow
                      have hS : sE (r, kk) (r, kk) = true := (sE_iff _ _).2 rfl
                      have q8 : Hid (∀ d os, Calls Tryd.prog 30 #[.agg #[.slice ar r.length cr, .int .i64 kk], .agg #[.slice a2 r.length c2, .int .i64 kk]] (grow (redrawn (w8.alloc (.cells #[.slice ar r.length cr, .int .i64 kk] 50)) d) os) fun e w'' => e = .returned (.bool true) ∧ ∃ p : Regrown, w'' = grow (redrawn (w8.alloc (.cells #[.slice ar r.length cr, .int .i64 kk] 50)) p.d) p.os) := fun d os => by
                        have := sameEntry (r, kk) (r, kk) ar a2 cr c2 (grow (redrawn (w8.alloc (.cells #[.slice ar r.length cr, .int .i64 kk] 50)) d) os) ((hR8.on one_box).on (below_regrown _ d os)) ((t3.on one_box).on (below_regrown _ d os))
                        rw [hS] at this
                        exact Calls.regrown_of this
                      obtain ⟨W8, hW8⟩ : ∃ W8, W8 = w8.alloc (.cells #[.slice ar r.length cr, .int .i64 kk] 50) := ⟨_, rfl⟩
                      have FN : Hid (∀ W9, Below W8.heap.size W8 W9 → WkTo w0 hb ab cp w3.heap.size L us (.slice (some ⟨bA, oA, none⟩) L.length cA) (at2 + 1) W9) := fun W9 hW9 => by
                        rw [hW8] at hW9
                        exact ⟨by omega, own_on (own_on o8 one_box) hW9, Y3, ⟨(hC3.1.on one_box).on hW9, hC3.2⟩, e9⟩
                      have z1 : W8.cell? ⟨bA, oA + (at2) * 2, none⟩ = some (.slice a2 r.length c2) := by rw [hW8]; exact cell_on t1 one_box
                      have z2 : W8.cell? ⟨bA, oA + (at2) * 2 + 1, none⟩ = some (.int .i64 kk) := by rw [hW8]; exact cell_on t2 one_box
                      have z3 : W8.cell? ⟨w8.heap.size, 0, none⟩ = some (.slice ar r.length cr) := by rw [hW8, World.cell?_alloc_at _ _ _ _ rfl]; rfl
                      have z4 : W8.cell? ⟨w8.heap.size, 1, none⟩ = some (.int .i64 kk) := by rw [hW8, World.cell?_alloc_at _ _ _ _ rfl]; rfl
                      have g1 := fun d os => cell_regrown z1 d os
                      have g2 := fun d os => cell_regrown z2 d os
                      have g3 := fun d os => cell_regrown z3 d os
                      have g4 := fun d os => cell_regrown z4 d os
                      have HW8 : Hid (w8.alloc (.cells #[.slice ar r.length cr, .int .i64 kk] 50) = W8) := hW8.symm
                      rw [← hW8] at q8
                      clear q7 hC3 hO hE8 t1 t2 t3 hR8 hrow hS er e8 e9 hW8 z1 z2 z3 z4 o8 o1 y1 y2
                      generalize r.length = nr at *
                      go_wp2_with fail
                      rw [HW8.out]
                      refine wp_region_quiet_below (by kernel_rfl) (by kernel_rfl) ?_
                      iterate 18 (go_big_quiet_step (exact q8.out _ _))
                      refine wpQuiet_nil ?_
                      intro w9 hw9
                      obtain ⟨p9, hw9⟩ := hw9
                      have F9 : Hid (WkTo w0 hb ab cp w3.heap.size L us (.slice (some ⟨bA, oA, none⟩) L.length cA) (at2 + 1) w9) := by rw [hw9]; exact FN.out _ (below_regrown W8 _ _)
                      clear hw9 g1 g2 g3 g4 q8 FN
                      go_wp2_with fail
                      go_roundw
                      case rel => exact ⟨at2 + 1, i + 1, by go_num, by go_num, by omega, F9.out⟩
                      case measure => simp [intOf]; omega
                · have Ik : ¬ (at2 : Int) < (L.length : Int) := by omega
                  have F2 : Hid (WkTo w0 hb ab cp w3.heap.size L us (.slice aA L.length cA) at2 wr) := DONE.out wr at2 hk2.out.2 hk2.out.1.1 hat2L hk2.out.1.2 (fun h => absurd h hal)
                  clear DONE hk2
                  obtain ⟨hat2, o1, Y1, y1, y2⟩ := F2.out
                  have q7 := mgNext w0 hb ab cp Y1 ad wr O0.out y1
                  go_wp2_with fail
                  have Ia : ¬ ((at2 : Nat) : Int) < (L.length : Int) := by omega
                  have bi : decide (((at2 : Nat) : Int) < (L.length : Int)) = false := by simp; omega
                  refine q7.mono ?_
                  rintro e w8 ⟨Y3, hC3, hO, _, h8⟩
                  rw [y2, List.drop_of_length_le (by omega)] at h8
                  rcases h8 with ⟨_, e9, rfl⟩ | ⟨r, kk, ar, cr, e8, _⟩
                  · have o8 := y1.1.1.own hO o1 (by decide) (by decide)
                    obtain ⟨W8, hW8⟩ : ∃ W8, W8 = w8.alloc (.cells #[.slice none 0 0, .int .i64 0] 50) := ⟨_, rfl⟩
                    have FN : Hid (∀ W9, Below W8.heap.size W8 W9 → WkTo w0 hb ab cp w3.heap.size L us (.slice aA L.length cA) (at2) W9) := fun W9 hW9 => by
                      rw [hW8] at hW9
                      exact ⟨by omega, own_on (own_on o8 one_box) hW9, Y3, ⟨(hC3.1.on one_box).on hW9, hC3.2⟩, by rw [e9, List.drop_of_length_le (by omega)]⟩
                    have HW8 : Hid (w8.alloc (.cells #[.slice none 0 0, .int .i64 0] 50) = W8) := hW8.symm
                    clear q7 hC3 hO hW8 o8 o1 y1 y2 e9
                    go_wp2_with fail
                    rw [HW8.out]
                    refine wp_region_quiet_below (by kernel_rfl) (by kernel_rfl) ?_
                    iterate 18 (go_big_quiet_step (fail))
                    refine wpQuiet_nil ?_
                    intro w9 hw9
                    obtain ⟨p9, hw9⟩ := hw9
                    have F9 : Hid (WkTo w0 hb ab cp w3.heap.size L us (.slice aA L.length cA) (at2) w9) := by rw [hw9]; exact FN.out _ (below_regrown W8 _ _)
                    clear hw9 FN
                    go_wp2_with fail
                    go_roundw
                    case rel => exact ⟨at2, i + 1, by go_num, by go_num, by omega, F9.out⟩
                    case measure => simp [intOf]; omega
                  · cases e8
          · have I3 : ¬ (i : Int) < (len' : Int) := by omega
            obtain ⟨hat2, o1, Y1, y1, y2⟩ := hk.out
            have q7 := mgNext w0 hb ab cp Y1 ad wr O0.out y1
            go_wp2_with fail
            by_cases hal : at_ < L.length
            · have Ia : ((at_ : Nat) : Int) < (L.length : Int) := by omega
              have bi : decide (((at_ : Nat) : Int) < (L.length : Int)) = true := by simp; omega
              refine q7.mono ?_
              rintro e w8 ⟨Y3, hC3, hO, _, h8⟩
              rw [y2, List.drop_eq_getElem_cons hal] at h8
              rcases h8 with ⟨e8, _⟩ | ⟨r, kk, ar, cr, e8, rfl, hrow⟩
              · cases e8
              · have er : L[at_] = (r, kk) := (List.cons.inj e8).1
                have e9 : wkZ (flat Y3) = L.drop (at_ + 1) := (List.cons.inj e8).2.symm
                have o8 := y1.1.1.own hO o1 (by decide) (by decide)
                have hE8 : EntsIs w8 (.slice aA L.length cA) L := ⟨us, EntsAt.of_own (l := us) (by rw [HUL.out]; exact o8), U2.out.on (C0.out.trans (hC3.1.2.2.1.mono C0.out.size))⟩
                obtain ⟨bA, oA, a2, c2, rfl, t1, t2, t3⟩ := hE8.at at_ hal
                rw [er] at t1 t2 t3
                have hR8 : RowIs w8 (.slice ar r.length cr) r := RowIs.of_own hrow
                have hS : sE (r, kk) (r, kk) = true := (sE_iff _ _).2 rfl
                have q8 : Hid (∀ d os, Calls Tryd.prog 30 #[.agg #[.slice ar r.length cr, .int .i64 kk], .agg #[.slice a2 r.length c2, .int .i64 kk]] (grow (redrawn (w8.alloc (.cells #[.slice ar r.length cr, .int .i64 kk] 50)) d) os) fun e w'' => e = .returned (.bool true) ∧ ∃ p : Regrown, w'' = grow (redrawn (w8.alloc (.cells #[.slice ar r.length cr, .int .i64 kk] 50)) p.d) p.os) := fun d os => by
                  have := sameEntry (r, kk) (r, kk) ar a2 cr c2 (grow (redrawn (w8.alloc (.cells #[.slice ar r.length cr, .int .i64 kk] 50)) d) os) ((hR8.on one_box).on (below_regrown _ d os)) ((t3.on one_box).on (below_regrown _ d os))
                  rw [hS] at this
                  exact Calls.regrown_of this
                obtain ⟨W8, hW8⟩ : ∃ W8, W8 = w8.alloc (.cells #[.slice ar r.length cr, .int .i64 kk] 50) := ⟨_, rfl⟩
                have FN : Hid (∀ W9, Below W8.heap.size W8 W9 → WkTo w0 hb ab cp w3.heap.size L us (.slice (some ⟨bA, oA, none⟩) L.length cA) (at_ + 1) W9) := fun W9 hW9 => by
                  rw [hW8] at hW9
                  exact ⟨by omega, own_on (own_on o8 one_box) hW9, Y3, ⟨(hC3.1.on one_box).on hW9, hC3.2⟩, e9⟩
                have z1 : W8.cell? ⟨bA, oA + (at_) * 2, none⟩ = some (.slice a2 r.length c2) := by rw [hW8]; exact cell_on t1 one_box
                have z2 : W8.cell? ⟨bA, oA + (at_) * 2 + 1, none⟩ = some (.int .i64 kk) := by rw [hW8]; exact cell_on t2 one_box
                have z3 : W8.cell? ⟨w8.heap.size, 0, none⟩ = some (.slice ar r.length cr) := by rw [hW8, World.cell?_alloc_at _ _ _ _ rfl]; rfl
                have z4 : W8.cell? ⟨w8.heap.size, 1, none⟩ = some (.int .i64 kk) := by rw [hW8, World.cell?_alloc_at _ _ _ _ rfl]; rfl
                have g1 := fun d os => cell_regrown z1 d os
                have g2 := fun d os => cell_regrown z2 d os
                have g3 := fun d os => cell_regrown z3 d os
                have g4 := fun d os => cell_regrown z4 d os
                have HW8 : Hid (w8.alloc (.cells #[.slice ar r.length cr, .int .i64 kk] 50) = W8) := hW8.symm
                rw [← hW8] at q8
                clear q7 hC3 hO hE8 t1 t2 t3 hR8 hrow hS er e8 e9 hW8 z1 z2 z3 z4 o8 o1 y1 y2
                generalize r.length = nr at *
                go_wp2_with fail
                rw [HW8.out]
                refine wp_region_quiet_below (by kernel_rfl) (by kernel_rfl) ?_
                iterate 18 (go_big_quiet_step (exact q8.out _ _))
                refine wpQuiet_nil ?_
                intro w9 hw9
                obtain ⟨p9, hw9⟩ := hw9
                have F9 : Hid (WkTo w0 hb ab cp w3.heap.size L us (.slice (some ⟨bA, oA, none⟩) L.length cA) (at_ + 1) w9) := by rw [hw9]; exact FN.out _ (below_regrown W8 _ _)
                clear hw9 g1 g2 g3 g4 q8 FN
                go_wp2_with fail
                go_roundw
                case rel => exact ⟨at_ + 1, i + 1, by go_num, by go_num, by omega, F9.out⟩
                case measure => simp [intOf]; omega
            · have Ia : ¬ ((at_ : Nat) : Int) < (L.length : Int) := by omega
              have bi : decide (((at_ : Nat) : Int) < (L.length : Int)) = false := by simp; omega
              refine q7.mono ?_
              rintro e w8 ⟨Y3, hC3, hO, _, h8⟩
              rw [y2, List.drop_of_length_le (by omega)] at h8
              rcases h8 with ⟨_, e9, rfl⟩ | ⟨r, kk, ar, cr, e8, _⟩
              · have o8 := y1.1.1.own hO o1 (by decide) (by decide)
                obtain ⟨W8, hW8⟩ : ∃ W8, W8 = w8.alloc (.cells #[.slice none 0 0, .int .i64 0] 50) := ⟨_, rfl⟩
                have FN : Hid (∀ W9, Below W8.heap.size W8 W9 → WkTo w0 hb ab cp w3.heap.size L us (.slice aA L.length cA) (at_) W9) := fun W9 hW9 => by
                  rw [hW8] at hW9
                  exact ⟨by omega, own_on (own_on o8 one_box) hW9, Y3, ⟨(hC3.1.on one_box).on hW9, hC3.2⟩, by rw [e9, List.drop_of_length_le (by omega)]⟩
                have HW8 : Hid (w8.alloc (.cells #[.slice none 0 0, .int .i64 0] 50) = W8) := hW8.symm
                clear q7 hC3 hO hW8 o8 o1 y1 y2 e9
                go_wp2_with fail
                rw [HW8.out]
                refine wp_region_quiet_below (by kernel_rfl) (by kernel_rfl) ?_
                iterate 18 (go_big_quiet_step (fail))
                refine wpQuiet_nil ?_
                intro w9 hw9
                obtain ⟨p9, hw9⟩ := hw9
                have F9 : Hid (WkTo w0 hb ab cp w3.heap.size L us (.slice aA L.length cA) (at_) w9) := by rw [hw9]; exact FN.out _ (below_regrown W8 _ _)
                clear hw9 FN
                go_wp2_with fail
                go_roundw
                case rel => exact ⟨at_, i + 1, by go_num, by go_num, by omega, F9.out⟩
                case measure => simp [intOf]; omega
              · cases e8
        · have I60 : ¬ (i : Int) < 60 := by omega
          have BF : Hid (Below w.heap.size w wr) := by
            obtain ⟨_, _, Y1, y1, _⟩ := hk.out
            exact B2.out.trans ((C0.out.trans (y1.1.2.2.1.mono C0.out.size)).mono B2.out.size)
          clear hk
          go_wp2_with fail
          go_ret
          exact ⟨rfl, BF.out⟩
end Go.Proofs.YtanfjnhpdchbbaaDoor
