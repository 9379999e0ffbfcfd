/- The walk of the law that whatever is moved, how much is used, is left, or that it may not be, is what the chapter says. -/
import Derived.Test.YtcppeoecoijgfaaDoorQuWholeWalk
namespace Go.Proofs.YtcppeoecoijgfaaDoor
open Go.RowKit Go.Sort
set_option maxRecDepth 100000
theorem isFine (ad : Fin 11 → Addr) (w : World) (h : ErrsAt ad w) :
    Calls Tryd.prog 12 #[.nilIface, .int .i64 0] w fun e w' => e = .returned (.bool true) ∧ Below w.heap.size w w' := seeIs ad none 0 w h
/-- Behind some of the moves: what is used, and the moves as they came in. -/
def PlTo8 (b : Nat) (m : Int) (w : World) (a : Option Addr) (len cap : Nat) (zs : List Int) (u : Int) (wr : World) : Prop := QuAt b m u wr ∧ Below w.heap.size w wr ∧ IsRow .i64 wr a len cap zs
set_option maxHeartbeats 8000000 in
theorem quotaPlays_walk (n0 : Int) (wf0 : (Lit.int .i64 n0).wf = true) (a : Option Addr) (len cap : Nat) (zs : List Int) (w : World) (he : ∃ ad, ErrsAt ad w) (ha : IsRow .i64 w a len cap zs) :
    Calls Tryd.prog 4 #[.int .i64 n0, .slice a len cap] w fun e w' => e = .returned (.bool true) ∧ Below w.heap.size w w' := by
  obtain ⟨ad, hE⟩ := he
  have q0 := lawFirst8 (ad 7) w hE.full
  have HE : Hid (∀ w', Below w.heap.size w w' → ErrsAt ad w') := fun w' h => hE.on h
  have HA : Hid (IsRow .i64 w a len cap zs) := ha
  obtain ⟨hn1, hn2⟩ : -9223372036854775808 ≤ n0 ∧ n0 ≤ 9223372036854775807 := by simpa [Lit.wf, IntKind.min, IntKind.max, IntKind.signed, IntKind.bits] using wf0
  clear hE ha
  go_enter Tryd.func4, Tryd.ntmps4
  go_wp2_with fail
  refine q0.mono ?_
  rintro e w1 ⟨rfl, hb1⟩
  have B1 : Hid (Below w.heap.size w w1) := hb1
  clear q0 hb1
  by_cases hl : 60 < len
  · have I1 : (60 : Int) < (len : Int) := by omega
    go_wp2_with fail
    go_ret
    exact ⟨rfl, B1.out⟩
  · have I1 : ¬ (60 : Int) < (len : Int) := by omega
    have q1 := quNew n0 w1
    have hq0 := quota_new n0 (by omega) w1 36
    by_cases h0 : n0 < 0
    · have hmm : (if n0 < 0 then 0 else n0) = 0 := if_pos h0
      rw [hmm] at q1 hq0
      clear hmm
      go_wp2_with fail
      refine q1.mono ?_
      rintro e w2 ⟨rfl, hw2⟩
      have hq : QuAt w1.heap.size 0 0 w2 := by rw [hw2]; exact hq0
      have b2 : Below w.heap.size w w2 := B1.out.trans (by rw [hw2]; exact one_box.mono B1.out.size)
      have HB : Hid (∀ u v, Below w.heap.size w u → But w1.heap.size u v → Below w.heap.size w v) := fun u v h k => h.trans (k.below B1.out.size h.size)
      have HS1 : Hid (∀ x, a = some x → 0 < cap → x.block < w1.heap.size) := (HA.out.below B1.out).lt
      have H0 : Hid (PlTo8 w1.heap.size 0 w a len cap zs 0 w2) := ⟨hq, b2, HA.out.below b2⟩
      clear hw2 hq hq0 b2 q1
      go_wp2_with fail
      go_loopw [8, 9] (fun s8 s9 wr => ∃ (i : Nat) (u : Int), i ≤ len ∧ s9 = .int .i64 i ∧ s8 = .int .i64 u ∧ Hid (PlTo8 w1.heap.size 0 w a len cap zs u wr)) (fun _ s _ => len - (intOf s).toNat)
      case atStart => exact ⟨0, 0, by omega, rfl, rfl, H0⟩
      case round =>
        obtain ⟨i, u, hi, rfl, rfl, HS⟩ := hrel
        clear H0
        by_cases hil : i < len
        · have I2 : (i : Int) < (len : Int) := by omega
          obtain ⟨hq, hb, hrow⟩ := HS.out
          have u0 := hq.2.2.2.1
          have u1 := hq.2.2.2.2.1
          clear hq
          have HQ : Hid (QuAt w1.heap.size 0 u wr) := HS.out.1
          have B : Hid (Below w.heap.size w wr) := hb
          have HR : Hid (IsRow .i64 wr a len cap zs) := hrow
          clear hb HS
          rcases hrow with ⟨_, rfl, _, _⟩ | ⟨x, rfl, hl2, hm, hz, hc, hwf⟩
          · omega
          · obtain ⟨bk, off, spot⟩ := x
            have hcp := hc i (by omega)
            have hspot : spot = none := by simpa [Addr.add] using World.cell?_spot (hc 0 (by omega))
            subst hspot
            rw [add_plain] at hcp
            obtain ⟨z1, z2⟩ : -9223372036854775808 ≤ zs.getD i 0 ∧ zs.getD i 0 ≤ 9223372036854775807 := by
              have hm : zs.getD i 0 ∈ zs := by rw [List.getD_eq_getElem?_getD, List.getElem?_eq_getElem (by omega)]; exact List.getElem_mem _
              have := hwf _ hm
              simpa [Lit.wf, IntKind.min, IntKind.max, IntKind.signed, IntKind.bits] using this
            clear hc hwf
            generalize hzz : zs.getD i 0 = z at *
            clear hzz
            by_cases hA : 0 - u < z
            · have hA0 : 0 < z := by omega
              have q2 := quMoveFull _ 0 u z (ad 7) wr HQ.out (HE.out _ B.out).full (by omega) hA
              go_wp2_with fail
              refine q2.mono ?_
              rintro e w3 ⟨rfl, hq, hb⟩
              have b3 := HB.out _ _ B.out hb
              have hr3 := HR.out.on HS1.out HQ.out.lt hb
              have q3 := isFull ad w3 (HE.out _ b3)
              have B3 : Hid (Below w.heap.size w w3) := b3
              have HQ3 : Hid (QuAt w1.heap.size 0 u w3) := hq
              have HR3 : Hid (IsRow .i64 w3 (some ⟨bk, off, none⟩) len cap zs) := hr3
              clear q2 hq hb b3 hr3
              unfold errV
              go_wp2_with fail
              refine q3.mono ?_
              rintro e w4 ⟨rfl, hb⟩
              have hq4 := HQ3.out.on hb
              have q4 := quUsed _ 0 u w4 hq4
              have q5 := quLeft _ 0 u w4 hq4
              have B4 : Hid (Below w.heap.size w w4) := B3.out.trans (hb.mono B3.out.size)
              have HQ4 : Hid (QuAt w1.heap.size 0 u w4) := hq4
              have HR4 : Hid (IsRow .i64 w4 (some ⟨bk, off, none⟩) len cap zs) := HR3.out.below hb
              clear hq4 hb q3 HQ3 HR3
              go_wp2_with fail
              refine q4.mono ?_
              rintro e w5 ⟨rfl, rfl⟩
              go_wp2_with fail
              refine q5.mono ?_
              rintro e w6 ⟨rfl, hb⟩
              have K : Hid (PlTo8 w1.heap.size 0 w (some ⟨bk, off, none⟩) len cap zs u w6) := ⟨HQ4.out.on hb, B4.out.trans (hb.mono B4.out.size), HR4.out.below hb⟩
              clear hb q4 q5 HQ4 HR4
              go_wp2_with fail
              go_roundw
              case rel => exact ⟨i + 1, u, by omega, by simp, by simp, K⟩
              case measure => simp [intOf]; omega
            · by_cases hB : u + z < 0
              · have hB0 : z < 0 := by omega
                have q2 := quMoveLess _ 0 u z (ad 7) wr HQ.out (HE.out _ B.out).full (by omega) (by omega) hB
                go_wp2_with fail
                refine q2.mono ?_
                rintro e w3 ⟨rfl, hq, hb⟩
                have b3 := HB.out _ _ B.out hb
                have hr3 := HR.out.on HS1.out HQ.out.lt hb
                have q3 := isFine ad w3 (HE.out _ b3)
                have B3 : Hid (Below w.heap.size w w3) := b3
                have HQ3 : Hid (QuAt w1.heap.size 0 0 w3) := hq
                have HR3 : Hid (IsRow .i64 w3 (some ⟨bk, off, none⟩) len cap zs) := hr3
                clear q2 hq hb b3 hr3
                go_wp2_with fail
                refine q3.mono ?_
                rintro e w4 ⟨rfl, hb⟩
                have hq4 := HQ3.out.on hb
                have q4 := quUsed _ 0 0 w4 hq4
                have q5 := quLeft _ 0 0 w4 hq4
                have B4 : Hid (Below w.heap.size w w4) := B3.out.trans (hb.mono B3.out.size)
                have HQ4 : Hid (QuAt w1.heap.size 0 0 w4) := hq4
                have HR4 : Hid (IsRow .i64 w4 (some ⟨bk, off, none⟩) len cap zs) := HR3.out.below hb
                clear hq4 hb q3 HQ3 HR3
                go_wp2_with fail
                refine q4.mono ?_
                rintro e w5 ⟨rfl, rfl⟩
                go_wp2_with fail
                refine q5.mono ?_
                rintro e w6 ⟨rfl, hb⟩
                have K : Hid (PlTo8 w1.heap.size 0 w (some ⟨bk, off, none⟩) len cap zs 0 w6) := ⟨HQ4.out.on hb, B4.out.trans (hb.mono B4.out.size), HR4.out.below hb⟩
                clear hb q4 q5 HQ4 HR4
                go_wp2_with fail
                go_roundw
                case rel => exact ⟨i + 1, 0, by omega, by simp, by simp, K⟩
                case measure => simp [intOf]; omega
              · by_cases hC : 0 < z
                · exfalso; omega
                · by_cases hD : z < 0
                  · exfalso; omega
                  · obtain rfl : z = 0 := by omega
                    have q2 := quMoveMore _ 0 u 0 u (ad 7) wr HQ.out (HE.out _ B.out).full (by omega) (by omega) (by omega) (by omega)
                    go_wp2_with fail
                    refine q2.mono ?_
                    rintro e w3 ⟨rfl, hq, hb⟩
                    have b3 := HB.out _ _ B.out hb
                    have hr3 := HR.out.on HS1.out HQ.out.lt hb
                    have q3 := isFine ad w3 (HE.out _ b3)
                    have B3 : Hid (Below w.heap.size w w3) := b3
                    have HQ3 : Hid (QuAt w1.heap.size 0 u w3) := hq
                    have HR3 : Hid (IsRow .i64 w3 (some ⟨bk, off, none⟩) len cap zs) := hr3
                    clear q2 hq hb b3 hr3
                    go_wp2_with fail
                    refine q3.mono ?_
                    rintro e w4 ⟨rfl, hb⟩
                    have hq4 := HQ3.out.on hb
                    have q4 := quUsed _ 0 u w4 hq4
                    have q5 := quLeft _ 0 u w4 hq4
                    have B4 : Hid (Below w.heap.size w w4) := B3.out.trans (hb.mono B3.out.size)
                    have HQ4 : Hid (QuAt w1.heap.size 0 u w4) := hq4
                    have HR4 : Hid (IsRow .i64 w4 (some ⟨bk, off, none⟩) len cap zs) := HR3.out.below hb
                    clear hq4 hb q3 HQ3 HR3
                    go_wp2_with fail
                    refine q4.mono ?_
                    rintro e w5 ⟨rfl, rfl⟩
                    go_wp2_with fail
                    refine q5.mono ?_
                    rintro e w6 ⟨rfl, hb⟩
                    have K : Hid (PlTo8 w1.heap.size 0 w (some ⟨bk, off, none⟩) len cap zs u w6) := ⟨HQ4.out.on hb, B4.out.trans (hb.mono B4.out.size), HR4.out.below hb⟩
                    clear hb q4 q5 HQ4 HR4
                    go_wp2_with fail
                    go_roundw
                    case rel => exact ⟨i + 1, u, by omega, by simp, by simp, K⟩
                    case measure => simp [intOf]; omega
        · obtain rfl : i = len := by omega
          obtain ⟨hq, hb, hrow⟩ := HS.out
          have B : Hid (Below w.heap.size w wr) := hb
          clear HS hq hb hrow
          go_wp2_with fail
          go_ret
          exact ⟨rfl, B.out⟩
    · have hmm : (if n0 < 0 then 0 else n0) = n0 := if_neg h0
      rw [hmm] at q1 hq0
      clear hmm
      go_wp2_with fail
      refine q1.mono ?_
      rintro e w2 ⟨rfl, hw2⟩
      have hq : QuAt w1.heap.size n0 0 w2 := by rw [hw2]; exact hq0
      have b2 : Below w.heap.size w w2 := B1.out.trans (by rw [hw2]; exact one_box.mono B1.out.size)
      have HB : Hid (∀ u v, Below w.heap.size w u → But w1.heap.size u v → Below w.heap.size w v) := fun u v h k => h.trans (k.below B1.out.size h.size)
      have HS1 : Hid (∀ x, a = some x → 0 < cap → x.block < w1.heap.size) := (HA.out.below B1.out).lt
      have H0 : Hid (PlTo8 w1.heap.size n0 w a len cap zs 0 w2) := ⟨hq, b2, HA.out.below b2⟩
      clear hw2 hq hq0 b2 q1
      go_wp2_with fail
      go_loopw [8, 9] (fun s8 s9 wr => ∃ (i : Nat) (u : Int), i ≤ len ∧ s9 = .int .i64 i ∧ s8 = .int .i64 u ∧ Hid (PlTo8 w1.heap.size n0 w a len cap zs u wr)) (fun _ s _ => len - (intOf s).toNat)
      case atStart => exact ⟨0, 0, by omega, rfl, rfl, H0⟩
      case round =>
        obtain ⟨i, u, hi, rfl, rfl, HS⟩ := hrel
        clear H0
        by_cases hil : i < len
        · have I2 : (i : Int) < (len : Int) := by omega
          obtain ⟨hq, hb, hrow⟩ := HS.out
          have u0 := hq.2.2.2.1
          have u1 := hq.2.2.2.2.1
          clear hq
          have HQ : Hid (QuAt w1.heap.size n0 u wr) := HS.out.1
          have B : Hid (Below w.heap.size w wr) := hb
          have HR : Hid (IsRow .i64 wr a len cap zs) := hrow
          clear hb HS
          rcases hrow with ⟨_, rfl, _, _⟩ | ⟨x, rfl, hl2, hm, hz, hc, hwf⟩
          · omega
          · obtain ⟨bk, off, spot⟩ := x
            have hcp := hc i (by omega)
            have hspot : spot = none := by simpa [Addr.add] using World.cell?_spot (hc 0 (by omega))
            subst hspot
            rw [add_plain] at hcp
            obtain ⟨z1, z2⟩ : -9223372036854775808 ≤ zs.getD i 0 ∧ zs.getD i 0 ≤ 9223372036854775807 := by
              have hm : zs.getD i 0 ∈ zs := by rw [List.getD_eq_getElem?_getD, List.getElem?_eq_getElem (by omega)]; exact List.getElem_mem _
              have := hwf _ hm
              simpa [Lit.wf, IntKind.min, IntKind.max, IntKind.signed, IntKind.bits] using this
            clear hc hwf
            generalize hzz : zs.getD i 0 = z at *
            clear hzz
            by_cases hA : n0 - u < z
            · have hA0 : 0 < z := by omega
              have q2 := quMoveFull _ n0 u z (ad 7) wr HQ.out (HE.out _ B.out).full (by omega) hA
              go_wp2_with fail
              refine q2.mono ?_
              rintro e w3 ⟨rfl, hq, hb⟩
              have b3 := HB.out _ _ B.out hb
              have hr3 := HR.out.on HS1.out HQ.out.lt hb
              have q3 := isFull ad w3 (HE.out _ b3)
              have B3 : Hid (Below w.heap.size w w3) := b3
              have HQ3 : Hid (QuAt w1.heap.size n0 u w3) := hq
              have HR3 : Hid (IsRow .i64 w3 (some ⟨bk, off, none⟩) len cap zs) := hr3
              clear q2 hq hb b3 hr3
              unfold errV
              go_wp2_with fail
              refine q3.mono ?_
              rintro e w4 ⟨rfl, hb⟩
              have hq4 := HQ3.out.on hb
              have q4 := quUsed _ n0 u w4 hq4
              have q5 := quLeft _ n0 u w4 hq4
              have B4 : Hid (Below w.heap.size w w4) := B3.out.trans (hb.mono B3.out.size)
              have HQ4 : Hid (QuAt w1.heap.size n0 u w4) := hq4
              have HR4 : Hid (IsRow .i64 w4 (some ⟨bk, off, none⟩) len cap zs) := HR3.out.below hb
              clear hq4 hb q3 HQ3 HR3
              go_wp2_with fail
              refine q4.mono ?_
              rintro e w5 ⟨rfl, rfl⟩
              go_wp2_with fail
              refine q5.mono ?_
              rintro e w6 ⟨rfl, hb⟩
              have K : Hid (PlTo8 w1.heap.size n0 w (some ⟨bk, off, none⟩) len cap zs u w6) := ⟨HQ4.out.on hb, B4.out.trans (hb.mono B4.out.size), HR4.out.below hb⟩
              clear hb q4 q5 HQ4 HR4
              go_wp2_with fail
              go_roundw
              case rel => exact ⟨i + 1, u, by omega, by simp, by simp, K⟩
              case measure => simp [intOf]; omega
            · by_cases hB : u + z < 0
              · have hB0 : z < 0 := by omega
                have q2 := quMoveLess _ n0 u z (ad 7) wr HQ.out (HE.out _ B.out).full (by omega) (by omega) hB
                go_wp2_with fail
                refine q2.mono ?_
                rintro e w3 ⟨rfl, hq, hb⟩
                have b3 := HB.out _ _ B.out hb
                have hr3 := HR.out.on HS1.out HQ.out.lt hb
                have q3 := isFine ad w3 (HE.out _ b3)
                have B3 : Hid (Below w.heap.size w w3) := b3
                have HQ3 : Hid (QuAt w1.heap.size n0 0 w3) := hq
                have HR3 : Hid (IsRow .i64 w3 (some ⟨bk, off, none⟩) len cap zs) := hr3
                clear q2 hq hb b3 hr3
                go_wp2_with fail
                refine q3.mono ?_
                rintro e w4 ⟨rfl, hb⟩
                have hq4 := HQ3.out.on hb
                have q4 := quUsed _ n0 0 w4 hq4
                have q5 := quLeft _ n0 0 w4 hq4
                have B4 : Hid (Below w.heap.size w w4) := B3.out.trans (hb.mono B3.out.size)
                have HQ4 : Hid (QuAt w1.heap.size n0 0 w4) := hq4
                have HR4 : Hid (IsRow .i64 w4 (some ⟨bk, off, none⟩) len cap zs) := HR3.out.below hb
                clear hq4 hb q3 HQ3 HR3
                go_wp2_with fail
                refine q4.mono ?_
                rintro e w5 ⟨rfl, rfl⟩
                go_wp2_with fail
                refine q5.mono ?_
                rintro e w6 ⟨rfl, hb⟩
                have K : Hid (PlTo8 w1.heap.size n0 w (some ⟨bk, off, none⟩) len cap zs 0 w6) := ⟨HQ4.out.on hb, B4.out.trans (hb.mono B4.out.size), HR4.out.below hb⟩
                clear hb q4 q5 HQ4 HR4
                go_wp2_with fail
                go_roundw
                case rel => exact ⟨i + 1, 0, by omega, by simp, by simp, K⟩
                case measure => simp [intOf]; omega
              · by_cases hC : 0 < z
                · have q2 := quMoveMore _ n0 u z (u + z) (ad 7) wr HQ.out (HE.out _ B.out).full (by omega) (by omega) (by omega) rfl
                  go_wp2_with fail
                  refine q2.mono ?_
                  rintro e w3 ⟨rfl, hq, hb⟩
                  have b3 := HB.out _ _ B.out hb
                  have hr3 := HR.out.on HS1.out HQ.out.lt hb
                  have q3 := isFine ad w3 (HE.out _ b3)
                  have B3 : Hid (Below w.heap.size w w3) := b3
                  have HQ3 : Hid (QuAt w1.heap.size n0 (u + z) w3) := hq
                  have HR3 : Hid (IsRow .i64 w3 (some ⟨bk, off, none⟩) len cap zs) := hr3
                  clear q2 hq hb b3 hr3
                  go_wp2_with fail
                  refine q3.mono ?_
                  rintro e w4 ⟨rfl, hb⟩
                  have hq4 := HQ3.out.on hb
                  have q4 := quUsed _ n0 (u + z) w4 hq4
                  have q5 := quLeft _ n0 (u + z) w4 hq4
                  have B4 : Hid (Below w.heap.size w w4) := B3.out.trans (hb.mono B3.out.size)
                  have HQ4 : Hid (QuAt w1.heap.size n0 (u + z) w4) := hq4
                  have HR4 : Hid (IsRow .i64 w4 (some ⟨bk, off, none⟩) len cap zs) := HR3.out.below hb
                  clear hq4 hb q3 HQ3 HR3
                  go_wp2_with fail
                  refine q4.mono ?_
                  rintro e w5 ⟨rfl, rfl⟩
                  go_wp2_with fail
                  refine q5.mono ?_
                  rintro e w6 ⟨rfl, hb⟩
                  have K : Hid (PlTo8 w1.heap.size n0 w (some ⟨bk, off, none⟩) len cap zs (u + z) w6) := ⟨HQ4.out.on hb, B4.out.trans (hb.mono B4.out.size), HR4.out.below hb⟩
                  clear hb q4 q5 HQ4 HR4
                  go_wp2_with fail
                  go_roundw
                  case rel => exact ⟨i + 1, (u + z), by omega, by simp, by simp, K⟩
                  case measure => simp [intOf]; omega
                · by_cases hD : z < 0
                  · have q2 := quMoveMore _ n0 u z (u + z) (ad 7) wr HQ.out (HE.out _ B.out).full (by omega) (by omega) (by omega) rfl
                    go_wp2_with fail
                    refine q2.mono ?_
                    rintro e w3 ⟨rfl, hq, hb⟩
                    have b3 := HB.out _ _ B.out hb
                    have hr3 := HR.out.on HS1.out HQ.out.lt hb
                    have q3 := isFine ad w3 (HE.out _ b3)
                    have B3 : Hid (Below w.heap.size w w3) := b3
                    have HQ3 : Hid (QuAt w1.heap.size n0 (u + z) w3) := hq
                    have HR3 : Hid (IsRow .i64 w3 (some ⟨bk, off, none⟩) len cap zs) := hr3
                    clear q2 hq hb b3 hr3
                    go_wp2_with fail
                    refine q3.mono ?_
                    rintro e w4 ⟨rfl, hb⟩
                    have hq4 := HQ3.out.on hb
                    have q4 := quUsed _ n0 (u + z) w4 hq4
                    have q5 := quLeft _ n0 (u + z) w4 hq4
                    have B4 : Hid (Below w.heap.size w w4) := B3.out.trans (hb.mono B3.out.size)
                    have HQ4 : Hid (QuAt w1.heap.size n0 (u + z) w4) := hq4
                    have HR4 : Hid (IsRow .i64 w4 (some ⟨bk, off, none⟩) len cap zs) := HR3.out.below hb
                    clear hq4 hb q3 HQ3 HR3
                    go_wp2_with fail
                    refine q4.mono ?_
                    rintro e w5 ⟨rfl, rfl⟩
                    go_wp2_with fail
                    refine q5.mono ?_
                    rintro e w6 ⟨rfl, hb⟩
                    have K : Hid (PlTo8 w1.heap.size n0 w (some ⟨bk, off, none⟩) len cap zs (u + z) w6) := ⟨HQ4.out.on hb, B4.out.trans (hb.mono B4.out.size), HR4.out.below hb⟩
                    clear hb q4 q5 HQ4 HR4
                    go_wp2_with fail
                    go_roundw
                    case rel => exact ⟨i + 1, (u + z), by omega, by simp, by simp, K⟩
                    case measure => simp [intOf]; omega
                  · obtain rfl : z = 0 := by omega
                    have q2 := quMoveMore _ n0 u 0 u (ad 7) wr HQ.out (HE.out _ B.out).full (by omega) (by omega) (by omega) (by omega)
                    go_wp2_with fail
                    refine q2.mono ?_
                    rintro e w3 ⟨rfl, hq, hb⟩
                    have b3 := HB.out _ _ B.out hb
                    have hr3 := HR.out.on HS1.out HQ.out.lt hb
                    have q3 := isFine ad w3 (HE.out _ b3)
                    have B3 : Hid (Below w.heap.size w w3) := b3
                    have HQ3 : Hid (QuAt w1.heap.size n0 u w3) := hq
                    have HR3 : Hid (IsRow .i64 w3 (some ⟨bk, off, none⟩) len cap zs) := hr3
                    clear q2 hq hb b3 hr3
                    go_wp2_with fail
                    refine q3.mono ?_
                    rintro e w4 ⟨rfl, hb⟩
                    have hq4 := HQ3.out.on hb
                    have q4 := quUsed _ n0 u w4 hq4
                    have q5 := quLeft _ n0 u w4 hq4
                    have B4 : Hid (Below w.heap.size w w4) := B3.out.trans (hb.mono B3.out.size)
                    have HQ4 : Hid (QuAt w1.heap.size n0 u w4) := hq4
                    have HR4 : Hid (IsRow .i64 w4 (some ⟨bk, off, none⟩) len cap zs) := HR3.out.below hb
                    clear hq4 hb q3 HQ3 HR3
                    go_wp2_with fail
                    refine q4.mono ?_
                    rintro e w5 ⟨rfl, rfl⟩
                    go_wp2_with fail
                    refine q5.mono ?_
                    rintro e w6 ⟨rfl, hb⟩
                    have K : Hid (PlTo8 w1.heap.size n0 w (some ⟨bk, off, none⟩) len cap zs u w6) := ⟨HQ4.out.on hb, B4.out.trans (hb.mono B4.out.size), HR4.out.below hb⟩
                    clear hb q4 q5 HQ4 HR4
                    go_wp2_with fail
                    go_roundw
                    case rel => exact ⟨i + 1, u, by omega, by simp, by simp, K⟩
                    case measure => simp [intOf]; omega
        · obtain rfl : i = len := by omega
          obtain ⟨hq, hb, hrow⟩ := HS.out
          have B : Hid (Below w.heap.size w wr) := hb
          clear HS hq hb hrow
          go_wp2_with fail
          go_ret
          exact ⟨rfl, B.out⟩
end Go.Proofs.YtcppeoecoijgfaaDoor
