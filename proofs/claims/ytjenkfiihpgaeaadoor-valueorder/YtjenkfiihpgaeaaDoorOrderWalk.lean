/- The law ValueOrder answers true at every argument, and writes nothing that was there: its walk. -/
import Derived.Test.YtjenkfiihpgaeaaDoorFirst
namespace Go.Proofs.YtjenkfiihpgaeaaDoor
open Go.RowKit

theorem bc {W w1 : World} {n : Nat} (hn : n ≤ W.heap.size) (hb : Below W.heap.size W w1) : ∀ b o, b < n → w1.cell? ⟨b, o, none⟩ = W.cell? ⟨b, o, none⟩ :=
  fun b o h => hb.cell (p := ⟨b, o, none⟩) (Nat.lt_of_lt_of_le h hn)
theorem three_boxes {w : World} {o p q : Obj} : Below w.heap.size w (((w.alloc o).alloc p).alloc q) :=
  (((Below.refl _ _).alloc (Nat.le_refl _) _).alloc (by simp) _).alloc (by simp; omega) _

set_option maxHeartbeats 2000000 in
theorem order_main (ka na : Int) (sa : ByteArray) (kb nb : Int) (sb : ByteArray) (kc nc : Int) (sc : ByteArray) (p p' q r : Int) (t : Bool) (w : World) (hr : Ready w)
    (ha : (sa.size : Int) ≤ 200) (hb : (sb.size : Int) ≤ 200) (hc : (sc.size : Int) ≤ 200)
    (hp : cV ka na sa kb nb sb = p) (hp' : cV kb nb sb ka na sa = p') (hq : cV kb nb sb kc nc sc = q) (hrr : cV ka na sa kc nc sc = r) (haa : cV ka na sa ka na sa = 0) (ht : sV ka na sa kb nb sb = t)
    (c1 : p = -1 ∧ p' = 1 ∧ t = false ∨ p = 0 ∧ p' = 0 ∧ t = true ∨ p = 1 ∧ p' = -1 ∧ t = false) (c2 : q = -1 ∨ q = 0 ∨ q = 1) (c3 : p ≤ 0 → q ≤ 0 → r ≤ 0) (c4 : 0 ≤ p → 0 ≤ q → 0 ≤ r) :
    Calls Tryd.prog 4 #[.agg #[.int .i64 ka, .int .i64 na, .string sa], .agg #[.int .i64 kb, .int .i64 nb, .string sb], .agg #[.int .i64 kc, .int .i64 nc, .string sc]] w fun e w' => e = .returned (.bool true) ∧ Below w.heap.size w w' := by
  have hr3 := fun o p q => hr.on (three_boxes (w := w) (o := o) (p := p) (q := q))
  have Hp : Hid (cV ka na sa kb nb sb = p) := hp
  have Hp' : Hid (cV kb nb sb ka na sa = p') := hp'
  have Hq : Hid (cV kb nb sb kc nc sc = q) := hq
  have Hr : Hid (cV ka na sa kc nc sc = r) := hrr
  have Ha : Hid (cV ka na sa ka na sa = 0) := haa
  have Ht : Hid (sV ka na sa kb nb sb = t) := ht
  have C1 : Hid (p = -1 ∧ p' = 1 ∧ t = false ∨ p = 0 ∧ p' = 0 ∧ t = true ∨ p = 1 ∧ p' = -1 ∧ t = false) := c1
  have C2 : Hid (q = -1 ∨ q = 0 ∨ q = 1) := c2
  clear hp hp' hq hrr haa ht c1 c2
  go_enter Tryd.func4, Tryd.ntmps4
  go_wp2_with fail
  refine (lawFirst _ (hr3 _ _ _)).mono ?_
  rintro e w1 ⟨rfl, hb1⟩
  have hc1 := bc (n := w.heap.size + 3) (by simp) hb1
  go_wp2_with fail
  refine (valueCompare ka na sa kb nb sb w1).mono ?_
  rintro e w2 ⟨rfl, hb2⟩
  rw [Hp.out]
  replace hb2 := hb1.trans (hb2.mono hb1.size)
  have hc2 := bc (n := w.heap.size + 3) (by simp) hb2
  clear hc1
  go_wp2_with fail
  refine (valueCompare kb nb sb kc nc sc w2).mono ?_
  rintro e w3 ⟨rfl, hb3⟩
  rw [Hq.out]
  replace hb3 := hb2.trans (hb3.mono hb2.size)
  have hc3 := bc (n := w.heap.size + 3) (by simp) hb3
  clear hc2
  go_wp2_with fail
  refine (valueCompare ka na sa kc nc sc w3).mono ?_
  rintro e w4 ⟨rfl, hb4⟩
  rw [Hr.out]
  replace hb4 := hb3.trans (hb4.mono hb3.size)
  have hc4 := bc (n := w.heap.size + 3) (by simp) hb4
  clear hc3
  go_wp2_with fail
  refine (valueCompare kb nb sb ka na sa w4).mono ?_
  rintro e w5 ⟨rfl, hb5⟩
  rw [Hp'.out]
  replace hb5 := hb4.trans (hb5.mono hb4.size)
  have hc5 := bc (n := w.heap.size + 3) (by simp) hb5
  clear hc4
  rcases C1.out with ⟨rfl, rfl, rfl⟩ | ⟨rfl, rfl, rfl⟩ | ⟨rfl, rfl, rfl⟩ <;> rcases C2.out with rfl | rfl | rfl
  all_goals
    go_wp2_with fail
    refine (sameValue ka na sa kb nb sb w5).mono ?_
    rintro e w6 ⟨rfl, hb6⟩
    rw [Ht.out]
    replace hb6 := hb5.trans (hb6.mono hb5.size)
    have hc6 := bc (n := w.heap.size + 3) (by simp) hb6
    clear hc5
    go_wp2_with fail
    refine (valueCompare ka na sa ka na sa w6).mono ?_
    rintro e w7 ⟨rfl, hb7⟩
    rw [Ha.out]
    replace hb7 := hb6.trans (hb7.mono hb6.size)
    clear hc6
    go_wp2_with fail
    go_ret
    exact ⟨rfl, three_boxes.trans (hb7.mono (by simp; omega))⟩

set_option maxHeartbeats 1000000 in
theorem order_long (ka na : Int) (sa : ByteArray) (kb nb : Int) (sb : ByteArray) (kc nc : Int) (sc : ByteArray) (w : World) (hr : Ready w)
    (h : 200 < (sa.size : Int) ∨ (sa.size : Int) ≤ 200 ∧ 200 < (sb.size : Int) ∨ (sa.size : Int) ≤ 200 ∧ (sb.size : Int) ≤ 200 ∧ 200 < (sc.size : Int)) :
    Calls Tryd.prog 4 #[.agg #[.int .i64 ka, .int .i64 na, .string sa], .agg #[.int .i64 kb, .int .i64 nb, .string sb], .agg #[.int .i64 kc, .int .i64 nc, .string sc]] w fun e w' => e = .returned (.bool true) ∧ Below w.heap.size w w' := by
  have hr3 := fun o p q => hr.on (three_boxes (w := w) (o := o) (p := p) (q := q))
  rcases h with h1 | ⟨h1, h2⟩ | ⟨h1, h2, h3⟩
  all_goals
    go_enter Tryd.func4, Tryd.ntmps4
    go_wp2_with fail
    refine (lawFirst _ (hr3 _ _ _)).mono ?_
    rintro e w1 ⟨rfl, hb1⟩
    have hc1 := bc (n := w.heap.size + 3) (by simp) hb1
    go_wp2_with fail
    go_ret
    exact ⟨rfl, three_boxes.trans (hb1.mono (by simp; omega))⟩

theorem valueOrder_walk (ka na : Int) (sa : ByteArray) (_ : (Lit.int .i64 ka).wf = true) (_ : (Lit.int .i64 na).wf = true) (_ : sa.size ≤ maxLen)
    (kb nb : Int) (sb : ByteArray) (_ : (Lit.int .i64 kb).wf = true) (_ : (Lit.int .i64 nb).wf = true) (_ : sb.size ≤ maxLen)
    (kc nc : Int) (sc : ByteArray) (_ : (Lit.int .i64 kc).wf = true) (_ : (Lit.int .i64 nc).wf = true) (_ : sc.size ≤ maxLen) (w : World) (hr : Ready w) :
    Calls Tryd.prog 4 #[.agg #[.int .i64 ka, .int .i64 na, .string sa], .agg #[.int .i64 kb, .int .i64 nb, .string sb], .agg #[.int .i64 kc, .int .i64 nc, .string sc]] w fun e w' => e = .returned (.bool true) ∧ Below w.heap.size w w' := by
  by_cases h : (sa.size : Int) ≤ 200 ∧ (sb.size : Int) ≤ 200 ∧ (sc.size : Int) ≤ 200
  · obtain ⟨h1, h2, h3⟩ := h
    have e1 := cV_anti ka na sa kb nb sb
    have e2 := cV_zero ka na sa kb nb sb
    have e3 := cV_sq ka na sa kb nb sb
    have e4 := cV_sq kb nb sb kc nc sc
    have e5 := cV_trans ka na sa kb nb sb kc nc sc
    have e6 := cV_trans kc nc sc kb nb sb ka na sa
    have e7 := cV_anti ka na sa kc nc sc
    have e8 := cV_anti kb nb sb kc nc sc
    have e9 := sV_iff ka na sa kb nb sb
    have ea : cV ka na sa ka na sa = 0 := (cV_zero _ _ _ _ _ _).2 ⟨rfl, rfl, rfl⟩
    rw [← e2] at e9
    refine order_main ka na sa kb nb sb kc nc sc _ _ _ _ _ w hr h1 h2 h3 rfl rfl rfl rfl ea rfl ?_ (by omega) (by omega) (by omega)
    generalize sV ka na sa kb nb sb = t at *
    cases t
    · have : ¬ cV ka na sa kb nb sb = 0 := by simpa using e9
      simp; omega
    · have : cV ka na sa kb nb sb = 0 := by simpa using e9
      simp; omega
  · exact order_long ka na sa kb nb sb kc nc sc w hr (by omega)
end Go.Proofs.YtjenkfiihpgaeaaDoor
