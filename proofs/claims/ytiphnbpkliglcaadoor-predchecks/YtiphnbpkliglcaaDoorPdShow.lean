/- A sign, a column as the program writes them. -/
import Derived.Test.YtiphnbpkliglcaaDoorPdText
import Derived.Test.YtiphnbpkliglcaaDoorShow
import Derived.Lib.ItoaLen
namespace Go.Proofs.YtiphnbpkliglcaaDoor
open Go.RowKit
set_option maxRecDepth 100000
set_option linter.unusedVariables false

set_option maxHeartbeats 1000000 in
theorem predSign (o : Int) (w : World) : Calls Tryd.prog 27 #[.int .i64 o] w fun e w' => e = .returned (.string ⟨(sgn o).toArray⟩) ∧ Below w.heap.size w w' := by
  by_cases h1 : o = 1
  · subst h1
    go_enter Tryd.func27, Tryd.ntmps27
    go_wp2_with fail
    go_ret
    exact ⟨rfl, Below.refl _ _⟩
  by_cases h2 : o = 2
  · subst h2
    go_enter Tryd.func27, Tryd.ntmps27
    go_wp2_with fail
    go_ret
    exact ⟨rfl, Below.refl _ _⟩
  by_cases h3 : o = 3
  · subst h3
    go_enter Tryd.func27, Tryd.ntmps27
    go_wp2_with fail
    go_ret
    exact ⟨rfl, Below.refl _ _⟩
  by_cases h4 : o = 4
  · subst h4
    go_enter Tryd.func27, Tryd.ntmps27
    go_wp2_with fail
    go_ret
    exact ⟨rfl, Below.refl _ _⟩
  by_cases h5 : o = 5
  · subst h5
    go_enter Tryd.func27, Tryd.ntmps27
    go_wp2_with fail
    go_ret
    exact ⟨rfl, Below.refl _ _⟩
  by_cases h6 : o = 6
  · subst h6
    go_enter Tryd.func27, Tryd.ntmps27
    go_wp2_with fail
    go_ret
    exact ⟨rfl, Below.refl _ _⟩
  · have e : sgn o = [] := by unfold sgn; simp [h1, h2, h3, h4, h5, h6]
    have E : Hid (sgn o = []) := e
    have b1 : (o == 1) = false := beq_false_of_ne h1
    have b2 : (o == 2) = false := beq_false_of_ne h2
    have b3 : (o == 3) = false := beq_false_of_ne h3
    have b4 : (o == 4) = false := beq_false_of_ne h4
    have b5 : (o == 5) = false := beq_false_of_ne h5
    have b6 : (o == 6) = false := beq_false_of_ne h6
    clear e h1 h2 h3 h4 h5 h6
    go_enter Tryd.func27, Tryd.ntmps27
    go_wp2_with fail
    go_ret
    exact ⟨by rw [E.out]; rfl, Below.refl _ _⟩
theorem itoaC (n : Int) (h0 : -9223372036854775808 ≤ n) (h1 : n ≤ 9223372036854775807) (w : World) (hr : Ready w) :
    Calls Tryd.prog 45 #[.int .i64 n] w fun e w' => e = .returned (.string ⟨(Lib.itoa n).toArray⟩) ∧ Below w.heap.size w w' := by
  refine (Tryd.strconv_Itoa n h0 h1 w hr.1).mono ?_
  rintro e w' ⟨rfl, k, os, rfl⟩
  exact ⟨rfl, Lib.below_grow _ _ (Nat.le_refl _) _ _⟩
theorem join35 (l : List UInt8) : (⟨#[35]⟩ : ByteArray) ++ ⟨l.toArray⟩ = ⟨(35 :: l).toArray⟩ := by
  apply ByteArray.ext
  simp [ByteArray.data_append]
set_option maxHeartbeats 1000000 in
theorem predName (c : Int) (h0 : 0 ≤ c) (h1 : c ≤ 1000000) (w : World) (hr : Ready w) :
    Calls Tryd.prog 35 #[.int .i64 c] w fun e w' => e = .returned (.string ⟨(nmC c).toArray⟩) ∧ Below w.heap.size w w' := by
  have q := itoaC c (by omega) (by omega) w hr
  have hl : (Lib.itoa c).length ≤ 21 := Lib.itoa_length_le c (by omega) (by omega)
  unfold nmC
  clear hr
  generalize Lib.itoa c = l at *
  go_enter Tryd.func35, Tryd.ntmps35
  go_wp2_with fail
  refine q.mono ?_
  rintro e w1 ⟨rfl, hb⟩
  clear q
  go_wp2_with fail
  rw [join35]
  go_ret
  exact ⟨rfl, hb⟩
end Go.Proofs.YtiphnbpkliglcaaDoor
