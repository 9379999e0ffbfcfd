/- When a product is beyond an int64, by what a machine's own division tells. -/
import Derived.Test.YtlafokjkpbhckaaDoorZDrop
namespace Go.Proofs.YtlafokjkpbhckaaDoor
open Go.RowKit Go.Sort
set_option maxRecDepth 100000
theorem tdiv_bd (p v : Int) (hp : -9223372036854775808 ≤ p ∧ p ≤ 9223372036854775807) (h : ¬ (v = -1 ∧ p = -9223372036854775808)) : -9223372036854775808 ≤ p.tdiv v ∧ p.tdiv v ≤ 9223372036854775807 := by
  by_cases hv : v = -1
  · subst hv
    have e : p.tdiv (-1) = -p := by rw [Int.tdiv_neg, Int.tdiv_one]
    rw [e]; omega
  · by_cases h1 : v = 1
    · subst h1; rw [Int.tdiv_one]; exact hp
    · have hn : (p.tdiv v).natAbs = p.natAbs / v.natAbs := Int.natAbs_tdiv p v
      by_cases h0 : v = 0
      · subst h0; simp
      · have h2 : 2 ≤ v.natAbs := by omega
        have h3 : p.natAbs / v.natAbs ≤ p.natAbs / 2 := Nat.div_le_div_left h2 (by decide)
        omega
/-- A product is beyond just where dividing it again does not give the other one back; two that the machine's own division hides beside. -/
theorem over_iff (w v : Int) (hw : inI w = true) (hv : inI v = true) (hv0 : v ≠ 0) :
    inI (w * v) = false ↔ (wrap64 ((wrap64 (w * v)).tdiv v) ≠ w ∨ (w = -1 ∧ v = -9223372036854775808) ∨ (v = -1 ∧ w = -9223372036854775808)) := by
  rw [inI_iff] at hw hv
  have hp : -9223372036854775808 ≤ wrap64 (w * v) ∧ wrap64 (w * v) ≤ 9223372036854775807 := by unfold wrap64; omega
  have hk : ∃ k : Int, w * v = wrap64 (w * v) + 18446744073709551616 * k := ⟨(w * v + 9223372036854775808) / 18446744073709551616, by unfold wrap64; omega⟩
  constructor
  · intro h
    have h' : ¬ (-9223372036854775808 ≤ w * v ∧ w * v ≤ 9223372036854775807) := fun g => by rw [inI_iff.2 g] at h; cases h
    by_cases hs : (w = -1 ∧ v = -9223372036854775808) ∨ (v = -1 ∧ w = -9223372036854775808)
    · exact .inr hs
    · refine .inl fun e => h' ?_
      obtain ⟨k, hk⟩ := hk
      generalize wrap64 (w * v) = p at *
      by_cases hx : v = -1 ∧ p = -9223372036854775808
      · obtain ⟨rfl, rfl⟩ := hx
        have e2 : wrap64 (Int.tdiv (-9223372036854775808) (-1)) = -9223372036854775808 := by rw [Int.tdiv_neg, Int.tdiv_one]; unfold wrap64; omega
        rw [e2] at e
        exact absurd (.inr ⟨rfl, e.symm⟩) hs
      · have hb := tdiv_bd p v hp hx
        have e3 : wrap64 (p.tdiv v) = p.tdiv v := by unfold wrap64; omega
        rw [e3] at e
        have hd := Int.mul_tdiv_add_tmod p v
        rw [e, Int.mul_comm] at hd
        have hm : (p.tmod v).natAbs < v.natAbs := by
          rw [Int.natAbs_tmod]; exact Nat.mod_lt _ (by omega)
        omega
  · rintro (h | ⟨rfl, rfl⟩ | ⟨rfl, rfl⟩)
    · cases hh : inI (w * v) with
      | false => rfl
      | true =>
        rw [inI_iff] at hh
        have e1 : wrap64 (w * v) = w * v := by unfold wrap64; omega
        rw [e1, Int.mul_tdiv_cancel w hv0] at h
        exact absurd (by unfold wrap64; omega) h
    · rfl
    · rfl
end Go.Proofs.YtlafokjkpbhckaaDoor
