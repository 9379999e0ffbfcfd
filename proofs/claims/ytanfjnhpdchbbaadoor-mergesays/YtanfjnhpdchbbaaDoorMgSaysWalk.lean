/- The walk of the law that All and Two are what the chapter says. -/
import Derived.Test.YtanfjnhpdchbbaaDoorMgLaw
namespace Go.Proofs.YtanfjnhpdchbbaaDoor
open Go.RowKit Go.Sort
set_option maxRecDepth 100000
theorem ovC_eq (b : Bool) : ovC b = if b then 0 else 107 := rfl
theorem two_first {X : List QEnt} (h : 1 < X.length) : flat (X.take 2) = X[0].2 ++ X[1].2 ∧ X[0].2.length + X[1].2.length ≤ (flat X).length := by
  cases X with
  | nil => simp at h
  | cons x X =>
    cases X with
    | nil => simp at h
    | cons y X => exact ⟨by simp [flat], by simp [flat]⟩
set_option maxHeartbeats 8000000 in
theorem mergeSays_walk (a : Option Addr) (len cap : Nat) (zs : List Int) (wide : Bool) (w : World) (he : ∃ ad, ErrsAt ad w) (ha : IsRow .i64 w a len cap zs) :
    Calls Tryd.prog 6 #[.slice a len cap, .bool wide] w fun e w' => e = .returned (.bool true) ∧ Below w.heap.size w w' := by
  obtain ⟨ad, hE⟩ := he
  have q0 := lawFirst5 (ad 6) w hE.over
  have HE : Hid (ErrsAt ad w) := hE
  have HA : Hid (IsRow .i64 w a len cap zs) := ha
  clear hE ha
  go_enter Tryd.func6, Tryd.ntmps6
  go_wp2_with fail
  refine q0.mono ?_
  rintro e w1 ⟨rfl, hb1⟩
  have B1 : Hid (Below w.heap.size w w1) := hb1
  clear q0 hb1
  by_cases hl : 200 < len
  · have I1 : (200 : Int) < (len : Int) := by omega
    go_wp2_with fail
    go_ret
    exact ⟨rfl, B1.out⟩
  · have I1 : ¬ (200 : Int) < (len : Int) := by omega
    have q1 := lawSets wide w1.heap.size a len cap zs _ (SeqAt.make (HA.out.below B1.out) 27)
    go_wp2_with fail
    refine q1.mono ?_
    rintro e w2 ⟨v, X, rfl, hX, hB2⟩
    have B2 : Hid (Below w.heap.size w w2) := (B1.out.trans (one_box.mono B1.out.size)).trans (hB2.below (B1.out.size) (by have := B1.out.size; simp; omega))
    obtain ⟨hLs, hN⟩ := hX.ls
    have hXL := hX.2.2
    obtain ⟨aX, cX, rfl⟩ := hLs.form
    have HL : Hid (LsIs w2 (.slice aX X.length cX) X) := hLs
    have q2 := mgAll X _ (ad 6) w2 (HE.out.on B2.out).over hLs (by omega)
    clear q1 hX hB2 hLs
    generalize hok : okZ (flat X) = ok at q2
    have HOK : Hid (ovC ok = if okZ (flat X) then 0 else 107) := by show _ = _; rw [hok]; rfl
    clear hok
    generalize hov : ovE (ad 6) ok = ev at q2
    have QI : Hid (∀ W, Below w2.heap.size w2 W → Calls Tryd.prog 23 #[ev, .int .i64 (ovC ok)] W fun e w' => e = .returned (.bool true) ∧ Below W.heap.size W w') := fun W hW => by
      rw [← hov]
      exact isOver ad ok W ((HE.out.on B2.out).on hW)
    clear hov
    go_wp2_with fail
    refine q2.mono ?_
    rintro e w3 ⟨vx, rfl, hx, hb3⟩
    have B3 : Hid (Below w2.heap.size w2 w3) := hb3
    have X3 : Hid (EntsIs w3 vx (mkZ (flat X))) := hx.ents
    have q3 := refAll X _ w2 w3 HL.out hb3 (by omega) (ovC ok) HOK.out
    obtain ⟨ax, cx, hvx⟩ := hx.ents.form
    clear q2 hx hb3
    generalize (mkZ (flat X)).length = nx at *
    subst hvx
    go_wp2_with fail
    refine q3.mono ?_
    rintro e w4 ⟨vy, rfl, hy, hb4⟩
    have B4 : Hid (Below w2.heap.size w2 w4) := B3.out.trans (hb4.mono B3.out.size)
    have QS : Hid (∀ W, Below w4.heap.size w4 W → Calls Tryd.prog 15 #[.slice ax nx cx, vy] W fun e w' => e = .returned (.bool true) ∧ Below W.heap.size W w') := fun W hW =>
      sameEnts (mkZ (flat X)) _ _ W ((X3.out.on hb4).on hW) ((hy.ents B4.out).on hW)
    obtain ⟨ay, ny, cy, hvy⟩ : ∃ ay ny cy, vy = .slice ay ny cy := by obtain ⟨ay, cy, h⟩ := (hy.ents B4.out).form; exact ⟨ay, _, cy, h⟩
    clear q3 hy hb4 X3
    subst hvy
    have q4 := QS.out w4 (Below.refl _ _)
    go_wp2_with fail
    refine q4.mono ?_
    rintro e w5 ⟨rfl, hb5⟩
    have B5 : Hid (Below w4.heap.size w4 w5) := hb5
    have q5 := QI.out w5 (B4.out.trans (hb5.mono B4.out.size))
    clear q4 hb5
    generalize ovC ok = c at *
    go_wp2_with fail
    refine q5.mono ?_
    rintro e w6 ⟨rfl, hb6⟩
    have B6 : Hid (Below w4.heap.size w4 w6) := B5.out.trans (hb6.mono B5.out.size)
    clear q5 hb6
    by_cases h2 : X.length < 2
    · have I2 : (X.length : Int) < 2 := by omega
      have q6 := QS.out w6 B6.out
      go_wp2_with fail
      refine q6.mono ?_
      rintro e w7 ⟨rfl, hb7⟩
      have B7 : Hid (Below w4.heap.size w4 w7) := B6.out.trans (hb7.mono B6.out.size)
      have q7 := QI.out w7 (B4.out.trans (B7.out.mono B4.out.size))
      clear q6 hb7
      go_wp2_with fail
      refine q7.mono ?_
      rintro e w8 ⟨rfl, hb8⟩
      have B8 : Hid (Below w.heap.size w w8) := (B2.out.trans (B4.out.mono B2.out.size)).trans ((B7.out.trans (hb8.mono B7.out.size)).mono (Nat.le_trans B2.out.size B4.out.size))
      clear q7 hb8
      go_wp2_with fail
      go_ret
      exact ⟨rfl, B8.out⟩
    · have I2 : ¬ (X.length : Int) < 2 := by omega
      have J0 : (0 : Int) < (X.length : Int) := by omega
      have J1 : (1 : Int) < (X.length : Int) := by omega
      obtain ⟨b, o, a0, c0, rfl, y0, e0⟩ := HL.out.at 0 (by omega)
      obtain ⟨b', o', a1, c1, eb, y1, e1⟩ := HL.out.at 1 (by omega)
      cases eb
      have hcap := HL.out.cap
      have hk0 := HL.out.2.1 X[0] (List.getElem_mem _)
      have hk1 := HL.out.2.1 X[1] (List.getElem_mem _)
      have hBB : Below w2.heap.size w2 w6 := B4.out.trans (B6.out.mono B4.out.size)
      have z0 := cell_on y0 hBB
      have z1 := cell_on y1 hBB
      rw [Nat.add_zero] at z0
      have hT : LsIs w2 (.slice (some ⟨b, o, none⟩) 2 cX) (X.take 2) := HL.out.take 2 (by omega)
      obtain ⟨hfl, hlen'⟩ := two_first (X := X) (by omega)
      have hlen : X[0].2.length + X[1].2.length ≤ 65536 := by omega
      clear hlen'
      have q6 : Hid (∀ W, Below w6.heap.size w6 W → Calls Tryd.prog 24 #[.slice a0 X[0].2.length c0, .slice a1 X[1].2.length c1] W fun e w' => ∃ v, e = .returned (.tuple #[v, ovE (ad 6) (okZ (flat (X.take 2)))]) ∧ EntsIs w' v (mkZ (flat (X.take 2))) ∧ Below w6.heap.size w6 w') := fun W hW => by
        have hBW := hBB.trans (hW.mono hBB.size)
        have := mgTwo X[0] X[1] (ad 6) W ((HE.out.on B2.out).on hBW).over (hk0.on hBW) (hk1.on hBW) hlen
        rw [e0, e1] at this
        rw [hfl]
        exact this.mono fun e w' ⟨v, g1, g2, g3⟩ => ⟨v, g1, g2.ents, hW.trans (g3.mono hW.size)⟩
      have q7 : Hid (∀ W, Below w2.heap.size w2 W → Calls Tryd.prog 17 #[.slice (some ⟨b, o, none⟩) 2 cX] W fun e w' => ∃ v, e = .returned (.tuple #[v, .int .i64 (ovC (okZ (flat (X.take 2))))]) ∧ EntsIs w' v (mkZ (flat (X.take 2))) ∧ Below W.heap.size W w') := fun W hW =>
        (refAll (X.take 2) _ w2 W hT hW (by rw [hfl]; simpa using hlen) _ rfl).mono fun e w' ⟨v, g1, g2, g3⟩ => ⟨v, g1, g2.ents (hW.trans (g3.mono hW.size)), g3⟩
      have QJ : Hid (∀ W, Below w2.heap.size w2 W → Calls Tryd.prog 23 #[ovE (ad 6) (okZ (flat (X.take 2))), .int .i64 (ovC (okZ (flat (X.take 2))))] W fun e w' => e = .returned (.bool true) ∧ Below W.heap.size W w') := fun W hW => isOver ad _ W ((HE.out.on B2.out).on hW)
      have Z2 : Hid (Below w2.heap.size w2 w6) := hBB
      generalize mkZ (flat (X.take 2)) = Z at *
      generalize ovC (okZ (flat (X.take 2))) = c2 at *
      generalize ovE (ad 6) (okZ (flat (X.take 2))) = ev2 at *
      generalize X[0].2.length = n0 at *
      generalize X[1].2.length = n1 at *
      clear hfl hT hk0 hk1 hBB y0 y1 e0 e1 QS QI hlen HL HOK
      go_wp2_with fail
      go_region_with (go_at_call 24; refine (q6.out _ ((Below.refl _ _).drew)).mono ?_; rintro e w7 ⟨v7, rfl, g1, g2⟩; have G1 : Hid (EntsIs w7 v7 Z) := g1; have G2 : Hid (Below w6.heap.size w6 w7) := g2; clear g1 g2)
      all_goals (
        obtain ⟨a7, n7, c7, hv7⟩ : ∃ a7 n7 c7, v7 = .slice a7 n7 c7 := by obtain ⟨x, y, h⟩ := G1.out.form; exact ⟨x, _, y, h⟩
        subst hv7
        have B7 : Hid (Below w2.heap.size w2 w7) := Z2.out.trans (G2.out.mono Z2.out.size)
        have q8 := q7.out w7 B7.out
        clear q6 q7 z0 z1
        go_wp2_with fail
        refine q8.mono ?_
        rintro e w8 ⟨v8, rfl, g3, g4⟩
        obtain ⟨a8, n8, c8, hv8⟩ : ∃ a8 n8 c8, v8 = .slice a8 n8 c8 := by obtain ⟨x, y, h⟩ := g3.form; exact ⟨x, _, y, h⟩
        subst hv8
        have B8 : Hid (Below w2.heap.size w2 w8) := B7.out.trans (g4.mono B7.out.size)
        have q9 := sameEnts Z _ _ w8 (G1.out.on g4) g3
        clear q8 g3 g4
        go_wp2_with fail
        refine q9.mono ?_
        rintro e w9 ⟨rfl, hb9⟩
        have B9 : Hid (Below w2.heap.size w2 w9) := B8.out.trans (hb9.mono B8.out.size)
        have q10 := QJ.out w9 B9.out
        clear q9 hb9
        go_wp2_with fail
        refine q10.mono ?_
        rintro e w10 ⟨rfl, hb10⟩
        have B10 : Hid (Below w.heap.size w w10) := B2.out.trans ((B9.out.trans (hb10.mono B9.out.size)).mono B2.out.size)
        clear q10 hb10
        go_wp2_with fail
        go_ret
        exact ⟨rfl, B10.out⟩)
end Go.Proofs.YtanfjnhpdchbbaaDoor
