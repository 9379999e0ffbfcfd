/- The walk of the law that all that there is room for can be taken, and no more. -/
import Derived.Test.YtcppeoecoijgfaaDoorQuFirst
import Derived.Test.YtcppeoecoijgfaaDoorLaidErrs
namespace Go.Proofs.YtcppeoecoijgfaaDoor
open Go.RowKit Go.Sort
set_option maxRecDepth 100000
theorem ErrsAt.full {ad : Fin 11 → Addr} {w : World} (h : ErrsAt ad w) : FullAt (ad 7) w := by
  obtain ⟨_, _, c0, c1, c2, c3, c4, c5, c6, c7, _⟩ := h; exact c7
theorem isFull (ad : Fin 11 → Addr) (w : World) (h : ErrsAt ad w) :
    Calls Tryd.prog 12 #[.iface 53 (.pointer (some (ad 7))), .int .i64 108] w fun e w' => e = .returned (.bool true) ∧ Below w.heap.size w w' := seeIs ad (some 7) 108 w h
set_option maxHeartbeats 4000000 in
theorem quotaWhole_walk (n0 : Int) (_ : (Lit.int .i64 n0).wf = true) (n1 : Int) (_ : (Lit.int .i64 n1).wf = true) (n2 : Int) (_ : (Lit.int .i64 n2).wf = true) (w : World) (he : ∃ ad, ErrsAt ad w) :
    Calls Tryd.prog 5 #[.int .i64 n0, .int .i64 n1, .int .i64 n2] w fun e w' => e = .returned (.bool true) ∧ Below w.heap.size w w' := by
  obtain ⟨ad, hE⟩ := he
  have q0 := lawFirst8 (ad 7) w hE.full
  have HE : Hid (∀ w', Below w.heap.size w w' → ErrsAt ad w') := fun w' h => hE.on h
  clear hE
  go_enter Tryd.func5, Tryd.ntmps5
  go_wp2_with fail
  refine q0.mono ?_
  rintro e w1 ⟨rfl, hb1⟩
  have B1 : Hid (Below w.heap.size w w1) := hb1
  clear q0 hb1
  go_wp2_with fail
  refine (number n0 100000 (by omega) (by omega) w1).mono ?_
  rintro e w1' ⟨rfl, rfl⟩
  obtain ⟨m0, m1⟩ := nm_bd n0 100000 (by omega)
  generalize nm n0 100000 = m at *
  go_wp2_with fail
  refine (number n1 (m + 1) (by omega) (by omega) w1').mono ?_
  rintro e w1 ⟨rfl, rfl⟩
  obtain ⟨a0, a1⟩ := nm_bd n1 (m + 1) (by omega)
  generalize nm n1 (m + 1) = a at *
  go_wp2_with fail
  refine (number n2 (a + 1) (by omega) (by omega) w1).mono ?_
  rintro e w1' ⟨rfl, rfl⟩
  obtain ⟨c0, c1⟩ := nm_bd n2 (a + 1) (by omega)
  generalize nm n2 (a + 1) = c at *
  go_wp2_with fail
  have hmm : (if m < 0 then 0 else m) = m := if_neg (by omega)
  have q1 := quNew m w1'
  have hq0 := quota_new m (by omega) w1' 36
  rw [hmm] at q1 hq0
  clear hmm
  refine q1.mono ?_
  rintro e w2 ⟨rfl, hw2⟩
  have hq : QuAt w1'.heap.size m 0 w2 := by rw [hw2]; exact hq0
  have b2 : Below w.heap.size w w2 := B1.out.trans (by rw [hw2]; exact one_box.mono B1.out.size)
  have HB : Hid (∀ u v, Below w.heap.size w u → But w1'.heap.size u v → Below w.heap.size w v) := fun u v h k => h.trans (k.below B1.out.size h.size)
  have q2 := quMoveMore _ m 0 a a (ad 7) w2 hq (HE.out _ b2).full (by omega) (by omega) (by omega) (by omega)
  have B2 : Hid (Below w.heap.size w w2) := b2
  clear hw2 hq hq0 b2 q1
  go_wp2_with fail
  refine q2.mono ?_
  rintro e w3 ⟨rfl, hq, hb⟩
  have b3 := HB.out _ _ B2.out hb
  have q3 := quMoveFull _ m a (m - a + 1) (ad 7) w3 hq (HE.out _ b3).full (by omega) (by omega)
  have B3 : Hid (Below w.heap.size w w3) := b3
  clear hq hb b3 q2
  go_wp2_with fail
  refine q3.mono ?_
  rintro e w4 ⟨rfl, hq, hb⟩
  have b4 := HB.out _ _ B3.out hb
  have q4 := quMoveMore _ m a (-c) (a - c) (ad 7) w4 hq (HE.out _ b4).full (by omega) (by omega) (by omega) (by omega)
  have B4 : Hid (Below w.heap.size w w4) := b4
  clear hq hb b4 q3
  go_wp2_with fail
  refine q4.mono ?_
  rintro e w5 ⟨rfl, hq, hb⟩
  have b5 := HB.out _ _ B4.out hb
  have q5 := quMoveMore _ m (a - c) (m - a + c) m (ad 7) w5 hq (HE.out _ b5).full (by omega) (by omega) (by omega) (by omega)
  have B5 : Hid (Below w.heap.size w w5) := b5
  clear hq hb b5 q4
  go_wp2_with fail
  refine q5.mono ?_
  rintro e w6 ⟨rfl, hq, hb⟩
  have b6 := HB.out _ _ B5.out hb
  have q6 := quMoveFull _ m m 1 (ad 7) w6 hq (HE.out _ b6).full (by omega) (by omega)
  have B6 : Hid (Below w.heap.size w w6) := b6
  clear hq hb b6 q5
  go_wp2_with fail
  refine q6.mono ?_
  rintro e w7 ⟨rfl, hq, hb⟩
  have b7 := HB.out _ _ B6.out hb
  have q7 := quMoveLess _ m m (-4611686018427387904) (ad 7) w7 hq (HE.out _ b7).full (by omega) (by omega) (by omega)
  have B7 : Hid (Below w.heap.size w w7) := b7
  clear hq hb b7 q6
  go_wp2_with fail
  refine q7.mono ?_
  rintro e w8 ⟨rfl, hq, hb⟩
  have b8 := HB.out _ _ B7.out hb
  have q8 := isFull ad w8 (HE.out _ b8)
  have B8 : Hid (Below w.heap.size w w8) := b8
  have HQ : Hid (QuAt w1'.heap.size m 0 w8) := hq
  clear hq hb b8 q7
  unfold errV
  go_wp2_with fail
  refine q8.mono ?_
  rintro e w9 ⟨rfl, hb⟩
  have b9 := B8.out.trans (hb.mono B8.out.size)
  have q9 := isFull ad w9 (HE.out _ b9)
  have B9 : Hid (Below w.heap.size w w9) := b9
  have HQ9 : Hid (QuAt w1'.heap.size m 0 w9) := HQ.out.on hb
  clear hb b9 q8 HQ
  go_wp2_with fail
  refine q9.mono ?_
  rintro e w10 ⟨rfl, hb⟩
  have b10 := B9.out.trans (hb.mono B9.out.size)
  have hq := HQ9.out.on hb
  have q10 := quUsed _ m 0 w10 hq
  have q11 := quLeft _ m 0 w10 hq
  have B10 : Hid (Below w.heap.size w w10) := b10
  have em : m - 0 = m := by omega
  rw [em] at q11
  clear hb b10 q9 HQ9 hq em
  go_wp2_with fail
  refine q10.mono ?_
  rintro e w11 ⟨rfl, rfl⟩
  go_wp2_with fail
  refine q11.mono ?_
  rintro e w12 ⟨rfl, hb⟩
  have B12 : Hid (Below w.heap.size w w12) := B10.out.trans (hb.mono B10.out.size)
  clear hb q11
  go_wp2_with fail
  go_ret
  exact ⟨rfl, B12.out⟩
end Go.Proofs.YtcppeoecoijgfaaDoor
