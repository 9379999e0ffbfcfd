/- The walk of the law that there are just so many, taken one by one. -/
import Derived.Test.YtcppeoecoijgfaaDoorQuFirst
import Derived.Test.YtcppeoecoijgfaaDoorLaidErrs
namespace Go.Proofs.YtcppeoecoijgfaaDoor
open Go.RowKit Go.Sort
set_option maxRecDepth 100000
theorem full_of {W : World} (t : List UInt8) (r : List (String × DataW Unit)) (h : laidMet Tryd.prog (sentL [("belvedere/api.ErrFull", t)] ++ r) W) : ∃ ad, FullAt ad W := by
  obtain ⟨ps, hv, hnd, hrows⟩ := h
  obtain ⟨l, h1, h2, h3, h4⟩ := sents [("belvedere/api.ErrFull", t)] r ps hv hnd hrows (by
    intro x hx
    simp only [List.mem_cons, List.not_mem_nil, or_false] at hx
    rcases hx with rfl
    exact ⟨0, by kernel_rfl, by kernel_rfl⟩)
  have hl : l.length = 1 := h1
  refine ⟨l[0], ?_⟩
  have := World.var?_cell (show Tryd.prog.globalNamed "belvedere/api.ErrFull" = some 0 by kernel_rfl) (h4 0 (by simp) (by omega)) 0
  have t : W.cell? ⟨0, 0, none⟩ = some (errV l[0]) := by simpa using this
  exact t
/-- Behind i of the takings: how many were taken. -/
def StTo (b : Nat) (m : Int) (w : World) (i : Nat) (n : Int) (wr : World) : Prop := n = (if (i : Int) ≤ m then (i : Int) else m) ∧ QuAt b m n wr ∧ Below w.heap.size w wr
set_option maxHeartbeats 4000000 in
theorem quotaSteps_walk (n0 : Int) (_ : (Lit.int .i64 n0).wf = true) (n1 : Int) (_ : (Lit.int .i64 n1).wf = true) (w : World) (he : ∃ ad, FullAt ad w) :
    Calls Tryd.prog 3 #[.int .i64 n0, .int .i64 n1] w fun e w' => e = .returned (.bool true) ∧ Below w.heap.size w w' := by
  obtain ⟨ad, hE⟩ := he
  have q0 := lawFirst8 ad w hE
  have HE : Hid (∀ w', Below w.heap.size w w' → FullAt ad w') := fun w' h => hE.on h
  clear hE
  go_enter Tryd.func3, Tryd.ntmps3
  go_wp2_with fail
  refine q0.mono ?_
  rintro e w1 ⟨rfl, hb1⟩
  have B1 : Hid (Below w.heap.size w w1) := hb1
  clear q0 hb1
  go_wp2_with fail
  refine (number n0 200 (by omega) (by omega) w1).mono ?_
  rintro e w1' ⟨rfl, rfl⟩
  obtain ⟨m0, m1⟩ := nm_bd n0 200 (by omega)
  generalize nm n0 200 = m at *
  go_wp2_with fail
  refine (number n1 400 (by omega) (by omega) w1').mono ?_
  rintro e w1 ⟨rfl, rfl⟩
  obtain ⟨a0, a1⟩ := nm_bd n1 400 (by omega)
  generalize nm n1 400 = a at *
  have hmm : (if m < 0 then 0 else m) = m := if_neg (by omega)
  have q1 := quNew m w1
  have hq0 := quota_new m (by omega) w1 36
  rw [hmm] at q1 hq0
  clear hmm
  go_wp2_with fail
  refine q1.mono ?_
  rintro e w2 ⟨rfl, hw2⟩
  have hq : QuAt w1.heap.size m 0 w2 := by rw [hw2]; exact hq0
  have b2 : Below w.heap.size w w2 := B1.out.trans (by rw [hw2]; exact one_box.mono B1.out.size)
  have HB : Hid (∀ u v, Below w.heap.size w u → But w1.heap.size u v → Below w.heap.size w v) := fun u v h k => h.trans (k.below B1.out.size h.size)
  have H0 : Hid (StTo w1.heap.size m w 0 0 w2) := ⟨by rw [if_pos (by omega)]; rfl, hq, b2⟩
  clear hw2 hq hq0 b2 q1
  go_wp2_with fail
  go_loopw [7, 8] (fun s7 s8 wr => ∃ (i : Nat) (n : Int), i ≤ 300 ∧ s8 = .int .i64 i ∧ s7 = .int .i64 n ∧ Hid (StTo w1.heap.size m w i n wr)) (fun _ s _ => 300 - (intOf s).toNat)
  case atStart => exact ⟨0, 0, by omega, rfl, rfl, H0⟩
  case round =>
    obtain ⟨i, n, hi, rfl, rfl, HS⟩ := hrel
    clear H0
    by_cases hi3 : i < 300
    · have I1 : (i : Int) < 300 := by omega
      obtain ⟨e1, hq, hb⟩ := HS.out
      by_cases him : (i : Int) < m
      · rw [if_pos (by omega)] at e1
        subst e1
        have q := quMoveMore _ m i 1 (i + 1) ad wr hq (HE.out _ hb) (by omega) (by omega) (by omega) rfl
        have B : Hid (Below w.heap.size w wr) := hb
        clear hq hb HS
        go_wp2_with fail
        refine q.mono ?_
        rintro e w3 ⟨rfl, hq, hb⟩
        have K : Hid (StTo w1.heap.size m w (i + 1) (i + 1) w3) := ⟨by rw [if_pos (by omega)]; omega, hq, HB.out _ _ B.out hb⟩
        clear hq hb q
        go_wp2_with fail
        go_roundw
        case rel => exact ⟨i + 1, i + 1, by omega, by simp, by simp, K⟩
        case measure => simp [intOf]; omega
      · have e2 : n = m := by rw [e1]; split <;> omega
        subst e2
        have q := quMoveFull _ n n 1 ad wr hq (HE.out _ hb) (by omega) (by omega)
        have B : Hid (Below w.heap.size w wr) := hb
        clear hq hb HS e1
        unfold errV at q
        go_wp2_with fail
        refine q.mono ?_
        rintro e w3 ⟨rfl, hq, hb⟩
        have K : Hid (StTo w1.heap.size n w (i + 1) n w3) := ⟨by split <;> omega, hq, HB.out _ _ B.out hb⟩
        clear hq hb q
        go_wp2_with fail
        go_roundw
        case rel => exact ⟨i + 1, n, by omega, by simp, rfl, K⟩
        case measure => simp [intOf]; omega
    · obtain rfl : i = 300 := by omega
      obtain ⟨e1, hq, hb⟩ := HS.out
      rw [if_neg (by omega)] at e1
      subst e1
      clear HS
      have q3 := quUsed _ n n wr hq
      have q4 := quLeft _ n n wr hq
      have en : n - n = 0 := by omega
      rw [en] at q4
      have B : Hid (Below w.heap.size w wr) := hb
      have HQ : Hid (QuAt w1.heap.size n n wr) := hq
      clear hb hq en
      go_wp2_with fail
      refine q3.mono ?_
      rintro e w3 ⟨rfl, rfl⟩
      go_wp2_with fail
      refine q4.mono ?_
      rintro e w4 ⟨rfl, hb⟩
      have b4 := B.out.trans (hb.mono B.out.size)
      have q5 := quMoveMore _ n n 0 n ad w4 (HQ.out.on hb) (HE.out _ b4) (by omega) (by omega) (by omega) (by omega)
      have B4 : Hid (Below w.heap.size w w4) := b4
      clear hb b4 q3 q4 HQ B
      go_wp2_with fail
      refine q5.mono ?_
      rintro e w5 ⟨rfl, hq, hb⟩
      have b5 := HB.out _ _ B4.out hb
      by_cases han : n < a
      · have q6 := quMoveLess _ n n (-a) ad w5 hq (HE.out _ b5) (by omega) (by omega) (by omega)
        have B5 : Hid (Below w.heap.size w w5) := b5
        clear hq hb b5 q5
        go_wp2_with fail
        refine q6.mono ?_
        rintro e w6 ⟨rfl, hq, hb⟩
        have b6 := HB.out _ _ B5.out hb
        have q7 := quLeft _ n 0 w6 hq
        have el : n - 0 = n := by omega
        rw [el] at q7
        have B6 : Hid (Below w.heap.size w w6) := b6
        have HQ : Hid (QuAt w1.heap.size n 0 w6) := hq
        clear hq hb b6 q6 el
        go_wp2_with fail
        refine q7.mono ?_
        rintro e w7 ⟨rfl, hb⟩
        have q8 := quUsed _ n 0 w7 (HQ.out.on hb)
        have B7 : Hid (Below w.heap.size w w7) := B6.out.trans (hb.mono B6.out.size)
        clear hb q7 HQ
        go_wp2_with fail
        refine q8.mono ?_
        rintro e w8 ⟨rfl, rfl⟩
        go_wp2_with fail
        refine (quNew (-5) w8).mono ?_
        rintro e w9 ⟨rfl, hw9⟩
        have hq : QuAt w8.heap.size 0 0 w9 := by rw [hw9]; exact quota_new (-5) (by omega) w8 _
        have q9 := quLeft _ 0 0 w9 hq
        have B9 : Hid (Below w.heap.size w w9) := B7.out.trans (by rw [hw9]; exact one_box.mono B7.out.size)
        clear hw9 hq q8
        go_wp2_with fail
        refine q9.mono ?_
        rintro e w10 ⟨rfl, hb⟩
        have B10 : Hid (Below w.heap.size w w10) := B9.out.trans (hb.mono B9.out.size)
        clear hb q9
        go_wp2_with fail
        go_ret
        exact ⟨rfl, B10.out⟩
      · have q6 := quMoveMore _ n n (-a) (n - a) ad w5 hq (HE.out _ b5) (by omega) (by omega) (by omega) (by omega)
        have B5 : Hid (Below w.heap.size w w5) := b5
        clear hq hb b5 q5
        go_wp2_with fail
        refine q6.mono ?_
        rintro e w6 ⟨rfl, hq, hb⟩
        have b6 := HB.out _ _ B5.out hb
        have q7 := quLeft _ n (n - a) w6 hq
        have el : n - (n - a) = a := by omega
        rw [el] at q7
        have B6 : Hid (Below w.heap.size w w6) := b6
        have HQ : Hid (QuAt w1.heap.size n (n - a) w6) := hq
        clear hq hb b6 q6 el
        go_wp2_with fail
        refine q7.mono ?_
        rintro e w7 ⟨rfl, hb⟩
        have q8 := quUsed _ n (n - a) w7 (HQ.out.on hb)
        have B7 : Hid (Below w.heap.size w w7) := B6.out.trans (hb.mono B6.out.size)
        clear hb q7 HQ
        go_wp2_with fail
        refine q8.mono ?_
        rintro e w8 ⟨rfl, rfl⟩
        go_wp2_with fail
        refine (quNew (-5) w8).mono ?_
        rintro e w9 ⟨rfl, hw9⟩
        have hq : QuAt w8.heap.size 0 0 w9 := by rw [hw9]; exact quota_new (-5) (by omega) w8 _
        have q9 := quLeft _ 0 0 w9 hq
        have B9 : Hid (Below w.heap.size w w9) := B7.out.trans (by rw [hw9]; exact one_box.mono B7.out.size)
        clear hw9 hq q8
        go_wp2_with fail
        refine q9.mono ?_
        rintro e w10 ⟨rfl, hb⟩
        have B10 : Hid (Below w.heap.size w w10) := B9.out.trans (hb.mono B9.out.size)
        clear hb q9
        go_wp2_with fail
        go_ret
        exact ⟨rfl, B10.out⟩
end Go.Proofs.YtcppeoecoijgfaaDoor
