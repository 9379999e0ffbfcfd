/- The walk of the law that a cursor that is sent on tells the first one that is not less. -/
import Derived.Test.YtanfjnhpdchbbabDoorMgLaw
import Derived.Test.YtanfjnhpdchbbabDoorMgNew
import Derived.Test.YtanfjnhpdchbbabDoorMgSeek
namespace Go.Proofs.YtanfjnhpdchbbabDoor
open Go.RowKit Go.Sort
set_option maxRecDepth 100000
/-- A row of one number. -/
def rI (n : Int) : List Val := [(1, n, ⟨#[]⟩)]
theorem cR_rI {m n : Int} (h : m ≤ n) : cR (rI m) (rI n) ≤ 0 := by
  unfold rI
  simp only [cR, cVal, cV, cI]
  by_cases e : m = n
  · subst e; have := (cS_zero ⟨#[]⟩ ⟨#[]⟩).2 rfl; simp [this]
  · have : m < n := by omega
    simp [this]
/-- How many are less. -/
def LessTo (A : List Ent) (r : List Val) (k : Nat) : Prop := k ≤ A.length ∧ ∀ i (h : i < A.length), i < k → cR A[i].1 r < 0
theorem fromZ_drop {A : List Ent} (hs : SortedZ A) {r : List Val} {k : Nat} (h : LessTo A r k) (hn : ∀ h : k < A.length, ¬ cR A[k].1 r < 0) : fromZ r A = A.drop k := by
  have h2 : ∀ t (h : t < A.length), k ≤ t → 0 ≤ cR A[t].1 r := fun t ht hkt => by
    by_cases e : t = k
    · subst e; have := hn ht; omega
    · have h1 := List.pairwise_iff_getElem.1 hs k t (by omega) ht (by omega)
      have h3 := hn (by omega)
      by_cases hh : 0 ≤ cR A[t].1 r
      · exact hh
      · exact absurd (cR_lt_trans h1 (by omega)) h3
  exact (split_at (P := fun e => decide (0 ≤ cR e.1 r)) (fun t ht hkt => by have := h.2 t ht hkt; simp; omega) (fun t ht hkt => by have := h2 t ht hkt; simpa using this)).1
theorem fromZ_twice {A : List Ent} {r s : List Val} (h : cR s r ≤ 0) : fromZ s (fromZ r A) = fromZ r A := by
  unfold fromZ
  refine List.filter_eq_self.2 (fun e he => ?_)
  have h1 := (List.mem_filter.1 he).2
  simp only [decide_eq_true_eq] at h1 ⊢
  have := cR_anti e.1 r
  have h2 := cR_trans s r e.1 h (by omega)
  have := cR_anti s e.1
  omega
set_option maxHeartbeats 8000000 in
theorem mergeSeeks_walk (a : Option Addr) (len cap : Nat) (zs : List Int) (at_ : Int) (_ : (Lit.int .i64 at_).wf = true) (back : Int) (hbk : (Lit.int .i64 back).wf = true) (w : World) (he : ∃ ad, OverAt ad w) (ha : IsRow .i64 w a len cap zs) :
    Calls Tryd.prog 4 #[.slice a len cap, .int .i64 at_, .int .i64 back] w fun e w' => e = .returned (.bool true) ∧ Below w.heap.size w w' := by
  obtain ⟨ad, hE⟩ := he
  have q0 := lawFirst5 ad w hE
  have HE : Hid (OverAt ad w) := hE
  have HA : Hid (IsRow .i64 w a len cap zs) := ha
  clear hE ha
  go_enter Tryd.func4, Tryd.ntmps4
  go_wp2_with fail
  refine q0.mono ?_
  rintro e w1 ⟨rfl, hb1⟩
  have B1 : Hid (Below w.heap.size w w1) := hb1
  clear q0 hb1
  by_cases hl : 200 < len
  · have I1 : (200 : Int) < (len : Int) := by omega
    go_wp2_with fail
    go_ret
    exact ⟨rfl, B1.out⟩
  · have I1 : ¬ (200 : Int) < (len : Int) := by omega
    have q1 := lawSets false w1.heap.size a len cap zs _ (SeqAt.make (HA.out.below B1.out) 28)
    go_wp2_with fail
    refine q1.mono ?_
    rintro e w2 ⟨v, X, rfl, hX, hB2⟩
    have B2 : Hid (Below w.heap.size w w2) := (B1.out.trans (one_box.mono B1.out.size)).trans (hB2.below (B1.out.size) (by have := B1.out.size; simp; omega))
    obtain ⟨hLs, hN⟩ := hX.ls
    obtain ⟨aX, cX, rfl⟩ := hLs.form
    have HL : Hid (LsIs w2 (.slice aX X.length cX) X) := hLs
    clear q1 hX hB2 hLs
    obtain ⟨A, hA⟩ : ∃ A, wrap64 (at_.tmod 12 - 3) = A := ⟨_, rfl⟩
    have hAb : -15 ≤ A ∧ A ≤ 9 := by
      have t1 := Int.tmod_lt_of_pos at_ (by decide : (0 : Int) < 12)
      have t2 := Int.tmod_lt_of_pos (-at_) (by decide : (0 : Int) < 12)
      rw [Int.neg_tmod] at t2
      rw [← hA]; unfold wrap64; omega
    have hbw : -9223372036854775808 ≤ back ∧ back ≤ 9223372036854775807 := by simpa [Lit.wf, IntKind.min, IntKind.max, IntKind.bits, IntKind.signed] using hbk
    by_cases h0 : back < 0
    · obtain ⟨B, hB⟩ : ∃ B, wrap64 (-wrap64 (back + 1)) = B := ⟨_, rfl⟩
      have hB0 : 0 ≤ B := by rw [← hB]; unfold wrap64; omega
      obtain ⟨C, hC, hCA⟩ : ∃ C, wrap64 (A - B.tmod 5) = C ∧ C ≤ A := by
        have t1 := Int.tmod_lt_of_pos B (by decide : (0 : Int) < 5)
        have t2 := Int.tmod_nonneg 5 hB0
        exact ⟨_, rfl, by unfold wrap64; omega⟩
      have HCA : Hid (C ≤ A) := hCA
      clear hAb hbw hCA hB0
      have q2 := mgNew X _ (w2.alloc (.cells #[.int .i64 1, .int .i64 A, .string ⟨#[]⟩] 45)) (HL.out.on one_box) (by omega)
      go_wp2_with fail
      refine q2.mono ?_
      rintro e w3 ⟨w0, hb, ab, cp, Y, rfl, hC, hw, _, hB0⟩
      have hsz0 : w2.heap.size < w0.heap.size := by have := hB0.size; simp at this; omega
      have R0 : Hid (RowIs w0 (.slice (some ⟨w2.heap.size, 0, none⟩) 1 1) (rI A)) := (row_new w2 1 A ⟨#[]⟩).on hB0
      have C0 : Hid (Below w2.heap.size w2 w0) := one_box.trans (hB0.mono (by simp))
      have O0 : Hid (OverAt ad w0) := (HE.out.on B2.out).on C0.out
      have hbb := hC.1.2.2.2
      have HC : Hid (CurIs w0 hb ab cp Y w3 ∧ wkZ (flat Y) = wkZ (flat X)) := ⟨hC, wkZ_eq hw⟩
      have q3 := mgSeek w0 hb ab cp Y (rI A) _ w3 hC (R0.out.on hC.1.2.2.1) (by intro e; have := Option.some.inj e; simp at this; omega) (by intro e; have := Option.some.inj e; simp at this; omega)
      clear q2 hC hw hB0
      go_wp2_with fail
      refine q3.mono ?_
      rintro e w4 ⟨rfl, Y1, hC1, _, hw1, _⟩
      have HC1 : Hid (CurIs w0 hb ab cp Y1 w4 ∧ wkZ (flat Y1) = fromZ (rI A) (wkZ (flat X))) := ⟨hC1, by rw [hw1, HC.out.2]⟩
      have hq1 := hC1.1.1.lt
      have q4 := mgSeek w0 hb ab cp Y1 (rI C) _ _ ⟨hC1.1.on one_box, hC1.2⟩ (row_new w4 1 C ⟨#[]⟩) (by intro e; have := Option.some.inj e; simp at this; omega) (by intro e; have := Option.some.inj e; simp at this; omega)
      clear q3 hC1 hw1 HC
      go_wp2_with fail
      refine q4.mono ?_
      rintro e w5 ⟨rfl, Y2, hC2, _, hw2, _⟩
      have HC2 : Hid (CurIs w0 hb ab cp Y2 w5 ∧ wkZ (flat Y2) = fromZ (rI A) (wkZ (flat X))) := ⟨hC2, by rw [hw2, HC1.out.2]; exact fromZ_twice (cR_rI HCA.out)⟩
      have C5 : Hid (Below w2.heap.size w2 w5) := C0.out.trans (hC2.1.2.2.1.mono C0.out.size)
      have q5 := refWalk X _ w2 w5 HL.out C5.out (by omega)
      clear q4 hC2 hw2 HC1 hq1
      go_wp2_with fail
      refine q5.mono ?_
      rintro e w6 ⟨v6, rfl, h6, hb6⟩
      have HC6 : Hid (CurIs w0 hb ab cp Y2 w6 ∧ wkZ (flat Y2) = fromZ (rI A) (wkZ (flat X))) := ⟨⟨HC2.out.1.1.on hb6, HC2.out.1.2⟩, HC2.out.2⟩
      have C6 : Hid (Below w2.heap.size w2 w6) := C5.out.trans (hb6.mono C5.out.size)
      have SZ : Hid (SortedZ (wkZ (flat X))) := (wkZ_isZ _).1
      clear q5 hb6 HC2 C5
      generalize wkZ (flat X) = L at *
      obtain ⟨us, u1, u2⟩ := h6
      have hul : us.length = L.length := u2.1
      obtain ⟨aA, cA, rfl⟩ := own_form u1
      rw [hul] at u1
      have U1 : Hid (w6.ownsRow w5.heap.size 39 2 (.slice aA L.length cA) L.length (es us)) := u1
      have U2 : Hid (Reads w2 us L) := u2
      have HUL : Hid (us.length = L.length) := hul
      rw [hul]
      clear u1 u2 hul
      have hLL : L.length ≤ maxLen := by have := (EntsAt.of_own (l := us) (by rw [HUL.out]; exact U1.out)).le; rw [HUL.out] at this; exact this
      unfold maxLen at hLL
      have EA : Hid (∀ wr, Below w6.heap.size w6 wr → EntsIs wr (.slice aA L.length cA) L) := fun wr hwr => ⟨us, EntsAt.of_own (l := us) (by rw [HUL.out]; exact own_on U1.out hwr), U2.out.on (C6.out.trans (hwr.mono C6.out.size))⟩
      go_wp2_with fail
      go_loopw [12] (fun s wr => ∃ k : Nat, s = .int .i64 k ∧ Hid (LessTo L (rI A) k ∧ Below w6.heap.size w6 wr) ∧ k ≤ L.length) (fun s _ => L.length - (intOf s).toNat)
      case atStart => exact ⟨0, rfl, ⟨⟨Nat.zero_le _, fun i _ h => by omega⟩, Below.refl _ _⟩, Nat.zero_le _⟩
      case round =>
        obtain ⟨k, rfl, hk, hkL⟩ := hrel
        have QN : Hid (∀ W, Below w6.heap.size w6 W → Calls Tryd.prog 10 #[.pointer (some ⟨hb, 0, none⟩)] W fun e w' => NextIs w0 hb ab cp Y2 W e w') := fun W hW => mgNext w0 hb ab cp Y2 ad W O0.out ⟨HC6.out.1.1.on hW, HC6.out.1.2⟩
        have FIN : Hid (∀ W, Below w6.heap.size w6 W → (∀ h : k < L.length, ¬ cR L[k].1 (rI A) < 0) → wkZ (flat Y2) = L.drop k) := fun W hW hn => by rw [HC6.out.2]; exact fromZ_drop SZ.out hk.out.1 hn
        by_cases hkl : k < L.length
        · have Ik : (k : Int) < (L.length : Int) := by omega
          obtain ⟨bA, oA, a1, c1, rfl, x1, x2, x3⟩ := (EA.out wr hk.out.2).at k hkl
          have q6 : Hid (Calls Tryd.prog 14 #[.slice a1 L[k].1.length c1, .slice (some ⟨w2.heap.size, 0, none⟩) 1 1] wr fun e w' => e = .returned (.int .i64 (cR L[k].1 (rI A))) ∧ Below wr.heap.size wr w') :=
            refCompareRows L[k].1 (rI A) _ _ wr x3 ((R0.out.on HC6.out.1.1.2.2.1).on hk.out.2)
          obtain ⟨s, hs⟩ : ∃ s, s = cR L[k].1 (rI A) := ⟨_, rfl⟩
          have HS : Hid (s = cR L[k].1 (rI A)) := hs
          rw [← hs] at q6
          have ADV : Hid (s < 0 → ∀ W, Below w6.heap.size w6 W → LessTo L (rI A) (k + 1) ∧ Below w6.heap.size w6 W) := fun h W hW => ⟨⟨by omega, fun i hi hik => by
            by_cases e : i = k
            · subst e; rw [← hs]; exact h
            · exact hk.out.1.2 i hi (by omega)⟩, hW⟩
          clear x2 x3 hs
          generalize L[k].1.length = n1 at *
          go_wp2_with fail
          refine q6.out.mono ?_
          rintro e w7 ⟨rfl, hb7⟩
          have B7 : Hid (Below w6.heap.size w6 w7) := hk.out.2.trans (hb7.mono hk.out.2.size)
          clear q6 hb7 x1
          by_cases hs0 : s < 0
          · have G : Hid (LessTo L (rI A) (k + 1) ∧ Below w6.heap.size w6 w7) := ADV.out hs0 w7 B7.out
            clear ADV FIN QN
            go_wp2_with fail
            go_roundw
            case rel => exact ⟨k + 1, by go_num, G.out, by omega⟩
            case measure => simp [intOf]; omega
          · have hD : wkZ (flat Y2) = L.drop k := FIN.out w7 B7.out (fun _ => by rw [← HS.out]; omega)
            have q7 := QN.out w7 B7.out
            clear ADV FIN QN hk
            go_wp2_with fail
            refine q7.mono ?_
            rintro e w8 ⟨Y3, hC3, hO, _, h8⟩
            rw [hD, List.drop_eq_getElem_cons hkl] at h8
            rcases h8 with ⟨e8, _⟩ | ⟨r, kk, ar, cr, e8, rfl, hrow⟩
            · cases e8
            · have er : L[k] = (r, kk) := (List.cons.inj e8).1
              have hE8 : EntsIs w8 (.slice (some ⟨bA, oA, none⟩) L.length cA) L := ⟨us, EntsAt.of_own (l := us) (by rw [HUL.out]; exact (HC6.out.1.1.on B7.out).1.own hO (own_on U1.out B7.out) (by decide) (by decide)), U2.out.on (C0.out.trans (hC3.1.2.2.1.mono C0.out.size))⟩
              have B8 : Hid (Below w.heap.size w w8) := B2.out.trans ((C0.out.trans (hC3.1.2.2.1.mono C0.out.size)).mono B2.out.size)
              obtain ⟨b2, o2, a2, c2, eb, y1, y2, y3⟩ := hE8.at k hkl
              cases eb
              rw [er] at y1 y2 y3
              have hR8 : RowIs w8 (.slice ar r.length cr) r := RowIs.of_own hrow
              have hS : sE (r, kk) (r, kk) = true := (sE_iff _ _).2 rfl
              have q8 : Hid (∀ d os, Calls Tryd.prog 15 #[.agg #[.slice ar r.length cr, .int .i64 kk], .agg #[.slice a2 r.length c2, .int .i64 kk]] (grow (redrawn (w8.alloc (.cells #[.slice ar r.length cr, .int .i64 kk] 39)) d) os) fun e w'' => e = .returned (.bool true) ∧ ∃ p : Regrown, w'' = grow (redrawn (w8.alloc (.cells #[.slice ar r.length cr, .int .i64 kk] 39)) p.d) p.os) := fun d os => by
                have := sameEntry (r, kk) (r, kk) ar a2 cr c2 (grow (redrawn (w8.alloc (.cells #[.slice ar r.length cr, .int .i64 kk] 39)) d) os) ((hR8.on one_box).on (below_regrown _ d os)) ((y3.on one_box).on (below_regrown _ d os))
                rw [hS] at this
                exact Calls.regrown_of this
              obtain ⟨W8, hW8⟩ : ∃ W8, W8 = w8.alloc (.cells #[.slice ar r.length cr, .int .i64 kk] 39) := ⟨_, rfl⟩
              have BW : Hid (Below w.heap.size w W8) := by rw [hW8]; exact B8.out.trans (one_box.mono B8.out.size)
              have z1 : W8.cell? ⟨bA, oA + k * 2, none⟩ = some (.slice a2 r.length c2) := by rw [hW8]; exact cell_on y1 one_box
              have z2 : W8.cell? ⟨bA, oA + k * 2 + 1, none⟩ = some (.int .i64 kk) := by rw [hW8]; exact cell_on y2 one_box
              have z3 : W8.cell? ⟨w8.heap.size, 0, none⟩ = some (.slice ar r.length cr) := by rw [hW8, World.cell?_alloc_at _ _ _ _ rfl]; rfl
              have z4 : W8.cell? ⟨w8.heap.size, 1, none⟩ = some (.int .i64 kk) := by rw [hW8, World.cell?_alloc_at _ _ _ _ rfl]; rfl
              have g1 := fun d os => cell_regrown z1 d os
              have g2 := fun d os => cell_regrown z2 d os
              have g3 := fun d os => cell_regrown z3 d os
              have g4 := fun d os => cell_regrown z4 d os
              have HW8 : Hid (w8.alloc (.cells #[.slice ar r.length cr, .int .i64 kk] 39) = W8) := hW8.symm
              rw [← hW8] at q8
              clear q7 hC3 hO hE8 y1 y2 y3 hR8 hrow hS er e8 hD hW8 z1 z2 z3 z4
              generalize r.length = nr at *
              go_wp2_with fail
              rw [HW8.out]
              refine wp_region_quiet_below (by kernel_rfl) (by kernel_rfl) ?_
              iterate 22 (go_big_quiet_step (exact q8.out _ _))
              refine wpQuiet_nil ?_
              intro w9 hw9
              obtain ⟨p9, hw9⟩ := hw9
              have hb9 : Hid (Below w.heap.size w w9) := by rw [hw9]; exact BW.out.trans ((below_regrown W8 _ _).mono BW.out.size)
              clear hw9 g1 g2 g3 g4 q8
              go_wp2_with fail
              go_ret
              exact ⟨rfl, hb9.out⟩
        · have Ik : ¬ (k : Int) < (L.length : Int) := by omega
          have hD : wkZ (flat Y2) = L.drop k := FIN.out wr hk.out.2 (fun h => absurd h hkl)
          have q7 := QN.out wr hk.out.2
          clear FIN QN
          go_wp2_with fail
          refine q7.mono ?_
          rintro e w8 ⟨Y3, hC3, hO, _, h8⟩
          rw [hD, List.drop_of_length_le (by omega)] at h8
          rcases h8 with ⟨_, _, rfl⟩ | ⟨r, kk, ar, cr, e8, _⟩
          · have B8 : Hid (Below w.heap.size w w8) := B2.out.trans ((C0.out.trans (hC3.1.2.2.1.mono C0.out.size)).mono B2.out.size)
            obtain ⟨W8, hW8⟩ : ∃ W8, W8 = w8.alloc (.cells #[.slice none 0 0, .int .i64 0] 39) := ⟨_, rfl⟩
            have BW : Hid (Below w.heap.size w W8) := by rw [hW8]; exact B8.out.trans (one_box.mono B8.out.size)
            have HW8 : Hid (w8.alloc (.cells #[.slice none 0 0, .int .i64 0] 39) = W8) := hW8.symm
            clear q7 hC3 hO hD hW8 hk
            go_wp2_with fail
            rw [HW8.out]
            have bk : decide ((k : Int) < (L.length : Int)) = false := by simp; omega
            refine wp_region_quiet_below (by kernel_rfl) (by kernel_rfl) ?_
            iterate 22 (go_big_quiet_step (fail))
            refine wpQuiet_nil ?_
            intro w9 hw9
            obtain ⟨p9, hw9⟩ := hw9
            have hb9 : Hid (Below w.heap.size w w9) := by rw [hw9]; exact BW.out.trans ((below_regrown W8 _ _).mono BW.out.size)
            clear hw9
            go_wp2_with fail
            go_ret
            exact ⟨rfl, hb9.out⟩
          · cases e8
    · obtain ⟨B, hB⟩ : ∃ B, back = B := ⟨_, rfl⟩
      have hB0 : 0 ≤ B := by rw [← hB]; omega
      obtain ⟨C, hC, hC', hCA⟩ : ∃ C, wrap64 (A - back.tmod 5) = C ∧ wrap64 (A - back % 5) = C ∧ C ≤ A := by
        have t1 := Int.tmod_lt_of_pos back (by decide : (0 : Int) < 5)
        have t2 := Int.tmod_nonneg 5 (show 0 ≤ back by omega)
        exact ⟨_, rfl, by rw [Int.tmod_eq_emod_of_nonneg (by omega)], by unfold wrap64; omega⟩
      have HCA : Hid (C ≤ A) := hCA
      clear hAb hbw hCA hB0 hB
      have q2 := mgNew X _ (w2.alloc (.cells #[.int .i64 1, .int .i64 A, .string ⟨#[]⟩] 45)) (HL.out.on one_box) (by omega)
      go_wp2_with fail
      refine q2.mono ?_
      rintro e w3 ⟨w0, hb, ab, cp, Y, rfl, hC, hw, _, hB0⟩
      have hsz0 : w2.heap.size < w0.heap.size := by have := hB0.size; simp at this; omega
      have R0 : Hid (RowIs w0 (.slice (some ⟨w2.heap.size, 0, none⟩) 1 1) (rI A)) := (row_new w2 1 A ⟨#[]⟩).on hB0
      have C0 : Hid (Below w2.heap.size w2 w0) := one_box.trans (hB0.mono (by simp))
      have O0 : Hid (OverAt ad w0) := (HE.out.on B2.out).on C0.out
      have hbb := hC.1.2.2.2
      have HC : Hid (CurIs w0 hb ab cp Y w3 ∧ wkZ (flat Y) = wkZ (flat X)) := ⟨hC, wkZ_eq hw⟩
      have q3 := mgSeek w0 hb ab cp Y (rI A) _ w3 hC (R0.out.on hC.1.2.2.1) (by intro e; have := Option.some.inj e; simp at this; omega) (by intro e; have := Option.some.inj e; simp at this; omega)
      clear q2 hC hw hB0
      go_wp2_with fail
      refine q3.mono ?_
      rintro e w4 ⟨rfl, Y1, hC1, _, hw1, _⟩
      have HC1 : Hid (CurIs w0 hb ab cp Y1 w4 ∧ wkZ (flat Y1) = fromZ (rI A) (wkZ (flat X))) := ⟨hC1, by rw [hw1, HC.out.2]⟩
      have hq1 := hC1.1.1.lt
      have q4 := mgSeek w0 hb ab cp Y1 (rI C) _ _ ⟨hC1.1.on one_box, hC1.2⟩ (row_new w4 1 C ⟨#[]⟩) (by intro e; have := Option.some.inj e; simp at this; omega) (by intro e; have := Option.some.inj e; simp at this; omega)
      clear q3 hC1 hw1 HC
      go_wp2_with fail
      refine q4.mono ?_
      rintro e w5 ⟨rfl, Y2, hC2, _, hw2, _⟩
      have HC2 : Hid (CurIs w0 hb ab cp Y2 w5 ∧ wkZ (flat Y2) = fromZ (rI A) (wkZ (flat X))) := ⟨hC2, by rw [hw2, HC1.out.2]; exact fromZ_twice (cR_rI HCA.out)⟩
      have C5 : Hid (Below w2.heap.size w2 w5) := C0.out.trans (hC2.1.2.2.1.mono C0.out.size)
      have q5 := refWalk X _ w2 w5 HL.out C5.out (by omega)
      clear q4 hC2 hw2 HC1 hq1
      go_wp2_with fail
      refine q5.mono ?_
      rintro e w6 ⟨v6, rfl, h6, hb6⟩
      have HC6 : Hid (CurIs w0 hb ab cp Y2 w6 ∧ wkZ (flat Y2) = fromZ (rI A) (wkZ (flat X))) := ⟨⟨HC2.out.1.1.on hb6, HC2.out.1.2⟩, HC2.out.2⟩
      have C6 : Hid (Below w2.heap.size w2 w6) := C5.out.trans (hb6.mono C5.out.size)
      have SZ : Hid (SortedZ (wkZ (flat X))) := (wkZ_isZ _).1
      clear q5 hb6 HC2 C5
      generalize wkZ (flat X) = L at *
      obtain ⟨us, u1, u2⟩ := h6
      have hul : us.length = L.length := u2.1
      obtain ⟨aA, cA, rfl⟩ := own_form u1
      rw [hul] at u1
      have U1 : Hid (w6.ownsRow w5.heap.size 39 2 (.slice aA L.length cA) L.length (es us)) := u1
      have U2 : Hid (Reads w2 us L) := u2
      have HUL : Hid (us.length = L.length) := hul
      rw [hul]
      clear u1 u2 hul
      have hLL : L.length ≤ maxLen := by have := (EntsAt.of_own (l := us) (by rw [HUL.out]; exact U1.out)).le; rw [HUL.out] at this; exact this
      unfold maxLen at hLL
      have EA : Hid (∀ wr, Below w6.heap.size w6 wr → EntsIs wr (.slice aA L.length cA) L) := fun wr hwr => ⟨us, EntsAt.of_own (l := us) (by rw [HUL.out]; exact own_on U1.out hwr), U2.out.on (C6.out.trans (hwr.mono C6.out.size))⟩
      go_wp2_with fail
      go_loopw [12] (fun s wr => ∃ k : Nat, s = .int .i64 k ∧ Hid (LessTo L (rI A) k ∧ Below w6.heap.size w6 wr) ∧ k ≤ L.length) (fun s _ => L.length - (intOf s).toNat)
      case atStart => exact ⟨0, rfl, ⟨⟨Nat.zero_le _, fun i _ h => by omega⟩, Below.refl _ _⟩, Nat.zero_le _⟩
      case round =>
        obtain ⟨k, rfl, hk, hkL⟩ := hrel
        have QN : Hid (∀ W, Below w6.heap.size w6 W → Calls Tryd.prog 10 #[.pointer (some ⟨hb, 0, none⟩)] W fun e w' => NextIs w0 hb ab cp Y2 W e w') := fun W hW => mgNext w0 hb ab cp Y2 ad W O0.out ⟨HC6.out.1.1.on hW, HC6.out.1.2⟩
        have FIN : Hid (∀ W, Below w6.heap.size w6 W → (∀ h : k < L.length, ¬ cR L[k].1 (rI A) < 0) → wkZ (flat Y2) = L.drop k) := fun W hW hn => by rw [HC6.out.2]; exact fromZ_drop SZ.out hk.out.1 hn
        by_cases hkl : k < L.length
        · have Ik : (k : Int) < (L.length : Int) := by omega
          obtain ⟨bA, oA, a1, c1, rfl, x1, x2, x3⟩ := (EA.out wr hk.out.2).at k hkl
          have q6 : Hid (Calls Tryd.prog 14 #[.slice a1 L[k].1.length c1, .slice (some ⟨w2.heap.size, 0, none⟩) 1 1] wr fun e w' => e = .returned (.int .i64 (cR L[k].1 (rI A))) ∧ Below wr.heap.size wr w') :=
            refCompareRows L[k].1 (rI A) _ _ wr x3 ((R0.out.on HC6.out.1.1.2.2.1).on hk.out.2)
          obtain ⟨s, hs⟩ : ∃ s, s = cR L[k].1 (rI A) := ⟨_, rfl⟩
          have HS : Hid (s = cR L[k].1 (rI A)) := hs
          rw [← hs] at q6
          have ADV : Hid (s < 0 → ∀ W, Below w6.heap.size w6 W → LessTo L (rI A) (k + 1) ∧ Below w6.heap.size w6 W) := fun h W hW => ⟨⟨by omega, fun i hi hik => by
            by_cases e : i = k
            · subst e; rw [← hs]; exact h
            · exact hk.out.1.2 i hi (by omega)⟩, hW⟩
          clear x2 x3 hs
          generalize L[k].1.length = n1 at *
          go_wp2_with fail
          refine q6.out.mono ?_
          rintro e w7 ⟨rfl, hb7⟩
          have B7 : Hid (Below w6.heap.size w6 w7) := hk.out.2.trans (hb7.mono hk.out.2.size)
          clear q6 hb7 x1
          by_cases hs0 : s < 0
          · have G : Hid (LessTo L (rI A) (k + 1) ∧ Below w6.heap.size w6 w7) := ADV.out hs0 w7 B7.out
            clear ADV FIN QN
            go_wp2_with fail
            go_roundw
            case rel => exact ⟨k + 1, by go_num, G.out, by omega⟩
            case measure => simp [intOf]; omega
          · have hD : wkZ (flat Y2) = L.drop k := FIN.out w7 B7.out (fun _ => by rw [← HS.out]; omega)
            have q7 := QN.out w7 B7.out
            clear ADV FIN QN hk
            go_wp2_with fail
            refine q7.mono ?_
            rintro e w8 ⟨Y3, hC3, hO, _, h8⟩
            rw [hD, List.drop_eq_getElem_cons hkl] at h8
            rcases h8 with ⟨e8, _⟩ | ⟨r, kk, ar, cr, e8, rfl, hrow⟩
            · cases e8
            · have er : L[k] = (r, kk) := (List.cons.inj e8).1
              have hE8 : EntsIs w8 (.slice (some ⟨bA, oA, none⟩) L.length cA) L := ⟨us, EntsAt.of_own (l := us) (by rw [HUL.out]; exact (HC6.out.1.1.on B7.out).1.own hO (own_on U1.out B7.out) (by decide) (by decide)), U2.out.on (C0.out.trans (hC3.1.2.2.1.mono C0.out.size))⟩
              have B8 : Hid (Below w.heap.size w w8) := B2.out.trans ((C0.out.trans (hC3.1.2.2.1.mono C0.out.size)).mono B2.out.size)
              obtain ⟨b2, o2, a2, c2, eb, y1, y2, y3⟩ := hE8.at k hkl
              cases eb
              rw [er] at y1 y2 y3
              have hR8 : RowIs w8 (.slice ar r.length cr) r := RowIs.of_own hrow
              have hS : sE (r, kk) (r, kk) = true := (sE_iff _ _).2 rfl
              have q8 : Hid (∀ d os, Calls Tryd.prog 15 #[.agg #[.slice ar r.length cr, .int .i64 kk], .agg #[.slice a2 r.length c2, .int .i64 kk]] (grow (redrawn (w8.alloc (.cells #[.slice ar r.length cr, .int .i64 kk] 39)) d) os) fun e w'' => e = .returned (.bool true) ∧ ∃ p : Regrown, w'' = grow (redrawn (w8.alloc (.cells #[.slice ar r.length cr, .int .i64 kk] 39)) p.d) p.os) := fun d os => by
                have := sameEntry (r, kk) (r, kk) ar a2 cr c2 (grow (redrawn (w8.alloc (.cells #[.slice ar r.length cr, .int .i64 kk] 39)) d) os) ((hR8.on one_box).on (below_regrown _ d os)) ((y3.on one_box).on (below_regrown _ d os))
                rw [hS] at this
                exact Calls.regrown_of this
              obtain ⟨W8, hW8⟩ : ∃ W8, W8 = w8.alloc (.cells #[.slice ar r.length cr, .int .i64 kk] 39) := ⟨_, rfl⟩
              have BW : Hid (Below w.heap.size w W8) := by rw [hW8]; exact B8.out.trans (one_box.mono B8.out.size)
              have z1 : W8.cell? ⟨bA, oA + k * 2, none⟩ = some (.slice a2 r.length c2) := by rw [hW8]; exact cell_on y1 one_box
              have z2 : W8.cell? ⟨bA, oA + k * 2 + 1, none⟩ = some (.int .i64 kk) := by rw [hW8]; exact cell_on y2 one_box
              have z3 : W8.cell? ⟨w8.heap.size, 0, none⟩ = some (.slice ar r.length cr) := by rw [hW8, World.cell?_alloc_at _ _ _ _ rfl]; rfl
              have z4 : W8.cell? ⟨w8.heap.size, 1, none⟩ = some (.int .i64 kk) := by rw [hW8, World.cell?_alloc_at _ _ _ _ rfl]; rfl
              have g1 := fun d os => cell_regrown z1 d os
              have g2 := fun d os => cell_regrown z2 d os
              have g3 := fun d os => cell_regrown z3 d os
              have g4 := fun d os => cell_regrown z4 d os
              have HW8 : Hid (w8.alloc (.cells #[.slice ar r.length cr, .int .i64 kk] 39) = W8) := hW8.symm
              rw [← hW8] at q8
              clear q7 hC3 hO hE8 y1 y2 y3 hR8 hrow hS er e8 hD hW8 z1 z2 z3 z4
              generalize r.length = nr at *
              go_wp2_with fail
              rw [HW8.out]
              refine wp_region_quiet_below (by kernel_rfl) (by kernel_rfl) ?_
              iterate 22 (go_big_quiet_step (exact q8.out _ _))
              refine wpQuiet_nil ?_
              intro w9 hw9
              obtain ⟨p9, hw9⟩ := hw9
              have hb9 : Hid (Below w.heap.size w w9) := by rw [hw9]; exact BW.out.trans ((below_regrown W8 _ _).mono BW.out.size)
              clear hw9 g1 g2 g3 g4 q8
              go_wp2_with fail
              go_ret
              exact ⟨rfl, hb9.out⟩
        · have Ik : ¬ (k : Int) < (L.length : Int) := by omega
          have hD : wkZ (flat Y2) = L.drop k := FIN.out wr hk.out.2 (fun h => absurd h hkl)
          have q7 := QN.out wr hk.out.2
          clear FIN QN
          go_wp2_with fail
          refine q7.mono ?_
          rintro e w8 ⟨Y3, hC3, hO, _, h8⟩
          rw [hD, List.drop_of_length_le (by omega)] at h8
          rcases h8 with ⟨_, _, rfl⟩ | ⟨r, kk, ar, cr, e8, _⟩
          · have B8 : Hid (Below w.heap.size w w8) := B2.out.trans ((C0.out.trans (hC3.1.2.2.1.mono C0.out.size)).mono B2.out.size)
            obtain ⟨W8, hW8⟩ : ∃ W8, W8 = w8.alloc (.cells #[.slice none 0 0, .int .i64 0] 39) := ⟨_, rfl⟩
            have BW : Hid (Below w.heap.size w W8) := by rw [hW8]; exact B8.out.trans (one_box.mono B8.out.size)
            have HW8 : Hid (w8.alloc (.cells #[.slice none 0 0, .int .i64 0] 39) = W8) := hW8.symm
            clear q7 hC3 hO hD hW8 hk
            go_wp2_with fail
            rw [HW8.out]
            have bk : decide ((k : Int) < (L.length : Int)) = false := by simp; omega
            refine wp_region_quiet_below (by kernel_rfl) (by kernel_rfl) ?_
            iterate 22 (go_big_quiet_step (fail))
            refine wpQuiet_nil ?_
            intro w9 hw9
            obtain ⟨p9, hw9⟩ := hw9
            have hb9 : Hid (Below w.heap.size w w9) := by rw [hw9]; exact BW.out.trans ((below_regrown W8 _ _).mono BW.out.size)
            clear hw9
            go_wp2_with fail
            go_ret
            exact ⟨rfl, hb9.out⟩
          · cases e8
end Go.Proofs.YtanfjnhpdchbbabDoor
