/- The law ZsetBounds answers true at every argument. -/
import Derived.Test.YtkamnepbgbficaaDoorZFirst
namespace Go.Proofs.YtkamnepbgbficaaDoor
open Go.RowKit Go.Sort
set_option maxRecDepth 100000

theorem nil_form {w : World} {v : Value} (h : EntsIs w v []) : ∃ a cap, v = .slice a 0 cap := h.form
theorem one_form {w : World} {v : Value} {r : List Val} {k : Int} (h : EntsIs w v [(r, k)]) : ∃ b o cap, v = .slice (some ⟨b, o, none⟩) 1 cap ∧ w.cell? ⟨b, o + 1, none⟩ = some (.int .i64 k) := by
  obtain ⟨a, cap, rfl⟩ := h.form
  obtain ⟨b, o, a', cap', rfl, _, h2, _⟩ := h.at 0 (by simp)
  exact ⟨b, o, cap, rfl, by simpa using h2⟩
theorem in_one {v : Val} {k : Int} (h : inI k = true) : EOk [([v], k)] := fun e he => by simp at he; rw [he]; exact ⟨h, by simp⟩
theorem ng_one (r : List Val) (k : Int) : ngOk [(r, k)] = inI (-k) := by simp [ngOk]
theorem ngZ_one (r : List Val) (k : Int) : ngZ [(r, k)] = if inI (-k) then [(r, -k)] else [] := by unfold ngZ; rw [ng_one]; rfl
/-- What is asked behind all sums: in a world in which the three sets stand. -/
def Three (w0 W : World) (r : List Val) (k : Int) (vt vl vo : Value) : Prop :=
  Below w0.heap.size w0 W ∧ EntsIs W vt [(r, 9223372036854775807)] ∧ EntsIs W vl [(r, -9223372036854775808)] ∧ EntsIs W vo [(r, k)]
theorem Three.on {w0 W W' : World} {r : List Val} {k : Int} {vt vl vo : Value} (h : Three w0 W r k vt vl vo) (hb : Below W.heap.size W W') : Three w0 W' r k vt vl vo :=
  ⟨h.1.trans (hb.mono h.1.size), h.2.1.on hb, h.2.2.1.on hb, h.2.2.2.on hb⟩
set_option maxHeartbeats 4000000 in
theorem zbounds_main (n wv k : Int) (hk : 1 ≤ k ∧ k ≤ 1000) (hw : -9223372036854775808 ≤ wv ∧ wv ≤ 9223372036854775807) (hkw : (0 ≤ wv → wv.tmod 1000 + 1 = k) ∧ (wv < 0 → (-(wv + 1)).tmod 1000 + 1 = k)) (ad : Fin 11 → Addr) (w : World) (he : ErrsAt ad w) :
    Calls Tryd.prog 6 #[.int .i64 n, .int .i64 wv] w fun e w' => e = .returned (.bool true) ∧ Below w.heap.size w w' := by
  have qf := lawFirst3 (ad 6) w he.over
  have HE : Hid (∀ W, Below w.heap.size w W → ErrsAt ad W) := fun W hW => he.on hW
  have qa : Hid (∀ W vt vl vo, Three w W [(1, n, ⟨#[]⟩)] k vt vl vo → Calls Tryd.prog 15 #[vt, vo] W fun e w' => ∃ a' c', e = .returned (.tuple #[.slice a' 0 c', errV (ad 6)]) ∧ Three w w' [(1, n, ⟨#[]⟩)] k vt vl vo) := fun W vt vl vo h => by
    refine (zAdd _ _ vt vo (ad 6) W (HE.out W h.1).over (by simp) (in_one (by decide)) (in_one (by unfold inI; simp; omega)) (isZ_one _ _ (by decide)).1 (isZ_one _ _ (by omega)).1 h.2.1 h.2.2.2).mono ?_
    rintro e w' ⟨v, rfl, h1, h2⟩
    have hf : inI (9223372036854775807 + k) = false := by unfold inI; simp; omega
    have e1 : okZ ([([(1, n, (⟨#[]⟩ : ByteArray))], (9223372036854775807 : Int))] ++ [([(1, n, ⟨#[]⟩)], k)]) = false := by rw [List.singleton_append, okZ_two]; exact hf
    have e2 : mkZ ([([(1, n, (⟨#[]⟩ : ByteArray))], (9223372036854775807 : Int))] ++ [([(1, n, ⟨#[]⟩)], k)]) = [] := by rw [List.singleton_append, mkZ_two, hf]; rfl
    rw [e2] at h1
    obtain ⟨a', c', rfl⟩ := nil_form h1
    exact ⟨a', c', by rw [e1]; rfl, h.on h2⟩
  have qb : Hid (∀ W vt vl vo, Three w W [(1, n, ⟨#[]⟩)] k vt vl vo → Calls Tryd.prog 17 #[vl, vo] W fun e w' => ∃ a' c', e = .returned (.tuple #[.slice a' 0 c', errV (ad 6)]) ∧ Three w w' [(1, n, ⟨#[]⟩)] k vt vl vo) := fun W vt vl vo h => by
    refine (zSub _ _ vl vo (ad 6) W (HE.out W h.1).over (by simp) (in_one (by decide)) (in_one (by unfold inI; simp; omega)) (isZ_one _ _ (by decide)).1 (isZ_one _ _ (by omega)).1 h.2.2.1 h.2.2.2).mono ?_
    rintro e w' ⟨v, rfl, h1, h2⟩
    have hf : inI (-9223372036854775808 + -k) = false := by unfold inI; simp; omega
    have e0 : ([([(1, n, (⟨#[]⟩ : ByteArray))], (-9223372036854775808 : Int))] ++ [([(1, n, (⟨#[]⟩ : ByteArray))], k)].map ngE) = [([(1, n, ⟨#[]⟩)], -9223372036854775808), ([(1, n, ⟨#[]⟩)], -k)] := rfl
    rw [e0] at h1 ⊢
    rw [mkZ_two, hf] at h1
    obtain ⟨a', c', rfl⟩ := nil_form h1
    exact ⟨a', c', by rw [okZ_two, hf]; rfl, h.on h2⟩
  have qc : Hid (∀ W vt vl vo, Three w W [(1, n, ⟨#[]⟩)] k vt vl vo → Calls Tryd.prog 19 #[vl] W fun e w' => ∃ a' c', e = .returned (.tuple #[.slice a' 0 c', errV (ad 6)]) ∧ Three w w' [(1, n, ⟨#[]⟩)] k vt vl vo) := fun W vt vl vo h => by
    refine (zNeg _ vl (ad 6) W (HE.out W h.1).over (by simp) (in_one (by decide)) (isZ_one _ _ (by decide)) h.2.2.1).mono ?_
    rintro e w' ⟨v, rfl, h1, h2⟩
    rw [ngZ_one] at h1
    obtain ⟨a', c', rfl⟩ := nil_form h1
    exact ⟨a', c', by rw [ng_one]; rfl, h.on h2⟩
  have qd : Hid (∀ W vt vl vo, Three w W [(1, n, ⟨#[]⟩)] k vt vl vo → Calls Tryd.prog 19 #[vt] W fun e w' => ∃ b o c', e = .returned (.tuple #[.slice (some ⟨b, o, none⟩) 1 c', .nilIface]) ∧ w'.cell? ⟨b, o + 1, none⟩ = some (.int .i64 (-9223372036854775807)) ∧ Three w w' [(1, n, ⟨#[]⟩)] k vt vl vo) := fun W vt vl vo h => by
    refine (zNeg _ vt (ad 6) W (HE.out W h.1).over (by simp) (in_one (by decide)) (isZ_one _ _ (by decide)) h.2.1).mono ?_
    rintro e w' ⟨v, rfl, h1, h2⟩
    rw [ngZ_one] at h1
    obtain ⟨b, o, c', rfl, hc⟩ := one_form h1
    exact ⟨b, o, c', by rw [ng_one]; rfl, hc, h.on h2⟩
  have qe : Hid (∀ W vt vl vo, Three w W [(1, n, ⟨#[]⟩)] k vt vl vo → Calls Tryd.prog 15 #[vt, vl] W fun e w' => ∃ b o c', e = .returned (.tuple #[.slice (some ⟨b, o, none⟩) 1 c', .nilIface]) ∧ w'.cell? ⟨b, o + 1, none⟩ = some (.int .i64 (-1)) ∧ Three w w' [(1, n, ⟨#[]⟩)] k vt vl vo ∧ Below W.heap.size W w') := fun W vt vl vo h => by
    refine (zAdd _ _ vt vl (ad 6) W (HE.out W h.1).over (by simp) (in_one (by decide)) (in_one (by decide)) (isZ_one _ _ (by decide)).1 (isZ_one _ _ (by decide)).1 h.2.1 h.2.2.1).mono ?_
    rintro e w' ⟨v, rfl, h1, h2⟩
    rw [List.singleton_append] at h1 ⊢
    rw [mkZ_two] at h1
    obtain ⟨b, o, c', rfl, hc⟩ := one_form h1
    exact ⟨b, o, c', by rw [okZ_two]; rfl, hc, h.on h2, h2⟩
  have qg : Hid (∀ W vt vl vo, Three w W [(1, n, ⟨#[]⟩)] k vt vl vo → Calls Tryd.prog 17 #[vt, vl] W fun e w' => ∃ a' c', e = .returned (.tuple #[.slice a' 0 c', errV (ad 6)]) ∧ Below w.heap.size w w' ∧ Below W.heap.size W w') := fun W vt vl vo h => by
    refine (zSub _ _ vt vl (ad 6) W (HE.out W h.1).over (by simp) (in_one (by decide)) (in_one (by decide)) (isZ_one _ _ (by decide)).1 (isZ_one _ _ (by decide)).1 h.2.1 h.2.2.1).mono ?_
    rintro e w' ⟨v, rfl, h1, h2⟩
    have e0 : ([([(1, n, (⟨#[]⟩ : ByteArray))], (9223372036854775807 : Int))] ++ [([(1, n, (⟨#[]⟩ : ByteArray))], -9223372036854775808)].map ngE) = [([(1, n, ⟨#[]⟩)], 9223372036854775807), ([(1, n, ⟨#[]⟩)], 9223372036854775808)] := rfl
    rw [e0] at h1 ⊢
    rw [mkZ_two] at h1
    obtain ⟨a', c', rfl⟩ := nil_form h1
    exact ⟨a', c', by rw [okZ_two]; rfl, h.1.trans (h2.mono h.1.size), h2⟩
  have q0 : Hid (∀ W, Below w.heap.size w W → Three w ((((W.alloc (.cells #[.int .i64 1, .int .i64 n, .string ⟨#[]⟩] 48)).alloc (.cells #[.slice (some ⟨W.heap.size, 0, none⟩) 1 1, .int .i64 9223372036854775807] 50)).alloc (.cells #[.slice (some ⟨W.heap.size, 0, none⟩) 1 1, .int .i64 (-9223372036854775808)] 50)).alloc (.cells #[.slice (some ⟨W.heap.size, 0, none⟩) 1 1, .int .i64 k] 50)) [(1, n, ⟨#[]⟩)] k (.slice (some ⟨W.heap.size + 1, 0, none⟩) 1 1) (.slice (some ⟨W.heap.size + 1 + 1, 0, none⟩) 1 1) (.slice (some ⟨W.heap.size + 1 + 1 + 1, 0, none⟩) 1 1)) := fun W hW => by
    have r1 := row_new W 1 n ⟨#[]⟩
    have t1 := ents_one r1 9223372036854775807
    have t2 := ents_one (r1.on (w' := (W.alloc (.cells #[.int .i64 1, .int .i64 n, .string ⟨#[]⟩] 48)).alloc (.cells #[.slice (some ⟨W.heap.size, 0, none⟩) 1 1, .int .i64 9223372036854775807] 50)) one_box) (-9223372036854775808)
    have t3 := ents_one ((r1.on (w' := (W.alloc (.cells #[.int .i64 1, .int .i64 n, .string ⟨#[]⟩] 48)).alloc (.cells #[.slice (some ⟨W.heap.size, 0, none⟩) 1 1, .int .i64 9223372036854775807] 50)) one_box).on (w' := ((W.alloc (.cells #[.int .i64 1, .int .i64 n, .string ⟨#[]⟩] 48)).alloc (.cells #[.slice (some ⟨W.heap.size, 0, none⟩) 1 1, .int .i64 9223372036854775807] 50)).alloc (.cells #[.slice (some ⟨W.heap.size, 0, none⟩) 1 1, .int .i64 (-9223372036854775808)] 50)) one_box) k
    have hz := hW.size
    refine ⟨((((hW.alloc hz _).alloc (by simp; omega) _).alloc (by simp; omega) _).alloc (by simp; omega) _), ?_, ?_, ?_⟩
    · have := (t1.on (w' := ((W.alloc (.cells #[.int .i64 1, .int .i64 n, .string ⟨#[]⟩] 48)).alloc (.cells #[.slice (some ⟨W.heap.size, 0, none⟩) 1 1, .int .i64 9223372036854775807] 50)).alloc (.cells #[.slice (some ⟨W.heap.size, 0, none⟩) 1 1, .int .i64 (-9223372036854775808)] 50)) one_box)
      simpa using this.on one_box
    · simpa using t2.on one_box
    · simpa using t3
  have qi : Hid (∀ W, Below w.heap.size w W → Calls Tryd.prog 14 #[errV (ad 6), .int .i64 107] W fun e w' => e = .returned (.bool true) ∧ Below w.heap.size w w' ∧ Below W.heap.size W w') := fun W hW =>
    (seeIs ad (some 6) 107 W (HE.out W hW)).mono fun e w' ⟨h1, h2⟩ => ⟨h1, hW.trans (h2.mono hW.size), h2⟩
  clear he HE
  by_cases hneg : wv < 0
  · have hk2 : Hid (wrap64 (-(wv + 1).tmod 1000 + 1) = k) := by
      have := hkw.2 hneg
      rw [Int.neg_tmod] at this
      show _ = _
      rw [this]; unfold wrap64; omega
    go_enter Tryd.func6, Tryd.ntmps6
    go_wp2_with fail
    refine qf.mono ?_
    rintro e w1 ⟨rfl, hb1⟩
    have T0 := q0.out w1 hb1
    clear qf q0 hb1 hkw
    go_wp2_with fail
    rw [hk2.out]
    refine (qa.out _ _ _ _ T0).mono ?_
    rintro e w2 ⟨a2, c2, rfl, T2⟩
    clear T0 qa hk2
    go_wp2_with fail
    refine (qb.out _ _ _ _ T2).mono ?_
    rintro e w3 ⟨a3, c3, rfl, T3⟩
    clear T2 qb
    go_wp2_with fail
    refine (qc.out _ _ _ _ T3).mono ?_
    rintro e w4 ⟨a4, c4, rfl, T4⟩
    clear T3 qc
    go_wp2_with fail
    refine (qd.out _ _ _ _ T4).mono ?_
    rintro e w5 ⟨b5, o5, c5, rfl, x5, T5⟩
    clear T4 qd
    go_wp2_with fail
    refine (qe.out _ _ _ _ T5).mono ?_
    rintro e w6 ⟨b6, o6, c6, rfl, x6, T6, B6⟩
    have x5' := cell_on x5 B6
    clear T5 qe x5 B6
    go_wp2_with fail
    refine (qg.out _ _ _ _ T6).mono ?_
    rintro e w7 ⟨a7, c7, rfl, B7, C7⟩
    have y5 := cell_on x5' C7
    have y6 := cell_on x6 C7
    clear T6 qg x5' x6 C7
    go_wp2_with fail
    refine (qi.out w7 B7).mono ?_
    rintro e w8 ⟨rfl, B8, C8⟩
    have y5 := cell_on y5 C8
    have y6 := cell_on y6 C8
    clear B7 C8
    go_wp2_with fail
    refine (qi.out w8 B8).mono ?_
    rintro e w9 ⟨rfl, B9, C9⟩
    have y5 := cell_on y5 C9
    have y6 := cell_on y6 C9
    clear B8 C9
    go_wp2_with fail
    refine (qi.out w9 B9).mono ?_
    rintro e w10 ⟨rfl, B10, C10⟩
    have y5 := cell_on y5 C10
    have y6 := cell_on y6 C10
    clear B9 C10
    go_wp2_with fail
    refine (qi.out w10 B10).mono ?_
    rintro e w11 ⟨rfl, B11, C11⟩
    have hb8 : Hid (Below w.heap.size w w11) := B11
    clear B10 C11 B11
    go_wp2_with fail
    go_ret
    exact ⟨rfl, hb8.out⟩
  · have hk2 : Hid (wv % 1000 + 1 = k) := by
      have := hkw.1 (by omega)
      rw [Int.tmod_eq_emod_of_nonneg (by omega)] at this
      exact this
    go_enter Tryd.func6, Tryd.ntmps6
    go_wp2_with fail
    refine qf.mono ?_
    rintro e w1 ⟨rfl, hb1⟩
    have T0 := q0.out w1 hb1
    clear qf q0 hb1 hkw
    go_wp2_with fail
    rw [hk2.out]
    refine (qa.out _ _ _ _ T0).mono ?_
    rintro e w2 ⟨a2, c2, rfl, T2⟩
    clear T0 qa hk2
    go_wp2_with fail
    refine (qb.out _ _ _ _ T2).mono ?_
    rintro e w3 ⟨a3, c3, rfl, T3⟩
    clear T2 qb
    go_wp2_with fail
    refine (qc.out _ _ _ _ T3).mono ?_
    rintro e w4 ⟨a4, c4, rfl, T4⟩
    clear T3 qc
    go_wp2_with fail
    refine (qd.out _ _ _ _ T4).mono ?_
    rintro e w5 ⟨b5, o5, c5, rfl, x5, T5⟩
    clear T4 qd
    go_wp2_with fail
    refine (qe.out _ _ _ _ T5).mono ?_
    rintro e w6 ⟨b6, o6, c6, rfl, x6, T6, B6⟩
    have x5' := cell_on x5 B6
    clear T5 qe x5 B6
    go_wp2_with fail
    refine (qg.out _ _ _ _ T6).mono ?_
    rintro e w7 ⟨a7, c7, rfl, B7, C7⟩
    have y5 := cell_on x5' C7
    have y6 := cell_on x6 C7
    clear T6 qg x5' x6 C7
    go_wp2_with fail
    refine (qi.out w7 B7).mono ?_
    rintro e w8 ⟨rfl, B8, C8⟩
    have y5 := cell_on y5 C8
    have y6 := cell_on y6 C8
    clear B7 C8
    go_wp2_with fail
    refine (qi.out w8 B8).mono ?_
    rintro e w9 ⟨rfl, B9, C9⟩
    have y5 := cell_on y5 C9
    have y6 := cell_on y6 C9
    clear B8 C9
    go_wp2_with fail
    refine (qi.out w9 B9).mono ?_
    rintro e w10 ⟨rfl, B10, C10⟩
    have y5 := cell_on y5 C10
    have y6 := cell_on y6 C10
    clear B9 C10
    go_wp2_with fail
    refine (qi.out w10 B10).mono ?_
    rintro e w11 ⟨rfl, B11, C11⟩
    have hb8 : Hid (Below w.heap.size w w11) := B11
    clear B10 C11 B11
    go_wp2_with fail
    go_ret
    exact ⟨rfl, hb8.out⟩

/-- ZsetBounds; the eleven errors are asked of the world besides. -/
theorem zsetBounds_walk (n : Int) (_ : (Lit.int .i64 n).wf = true) (wv : Int) (hw : (Lit.int .i64 wv).wf = true) (w : World) (he : ∃ ad, ErrsAt ad w) :
    Calls Tryd.prog 6 #[.int .i64 n, .int .i64 wv] w fun e w' => e = .returned (.bool true) ∧ Below w.heap.size w w' := by
  obtain ⟨ad, he⟩ := he
  have hb : -9223372036854775808 ≤ wv ∧ wv ≤ 9223372036854775807 := by simpa [Lit.wf, IntKind.min, IntKind.max, IntKind.signed, IntKind.bits] using hw
  by_cases h : wv < 0
  · have h1 := Int.tmod_lt_of_pos (-(wv + 1)) (by decide : (0 : Int) < 1000)
    have h2 := Int.tmod_nonneg 1000 (show 0 ≤ -(wv + 1) by omega)
    exact zbounds_main n wv _ ⟨by omega, by omega⟩ hb ⟨fun h' => absurd h (by omega), fun _ => rfl⟩ ad w he
  · have h1 := Int.tmod_lt_of_pos wv (by decide : (0 : Int) < 1000)
    have h2 := Int.tmod_nonneg 1000 (show 0 ≤ wv by omega)
    exact zbounds_main n wv _ ⟨by omega, by omega⟩ hb ⟨fun _ => rfl, fun h' => absurd h' h⟩ ad w he
end Go.Proofs.YtkamnepbgbficaaDoor
