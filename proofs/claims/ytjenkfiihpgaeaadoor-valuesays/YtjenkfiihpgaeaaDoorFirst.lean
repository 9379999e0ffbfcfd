/- The first lines of each law of the first layer hold: the chapter's examples. -/
import Derived.Test.YtjenkfiihpgaeaaDoorShow
namespace Go.Proofs.YtjenkfiihpgaeaaDoor
open Go.RowKit

theorem sh1 : shV 1 (-1) ⟨#[]⟩ = [45, 49] := by decide +kernel
theorem ck1 : ckV 3 (bN true) ⟨#[]⟩ = true := by decide +kernel

set_option maxHeartbeats 1000000 in
theorem lawFirst (w : World) (hr : Ready w) :
    Calls Tryd.prog 8 #[] w fun e w' => e = .returned (.bool true) ∧ Below w.heap.size w w' := by
  go_enter Tryd.func8, Tryd.ntmps8
  go_wp2_with fail
  refine (valueOf (-1) _).mono ?_
  rintro e w1 ⟨rfl, hb1⟩
  go_wp2_with fail
  refine (valueShow 1 (-1) ⟨#[]⟩ (by decide) (by decide) (by decide) w1 (hr.on hb1)).mono ?_
  rintro e w2 ⟨rfl, hb2⟩
  rw [sh1]
  go_wp2_with fail
  refine (valueIs true _).mono ?_
  rintro e w3 ⟨rfl, hb3⟩
  go_wp2_with fail
  refine (valueCheck 3 (bN true) ⟨#[]⟩ _).mono ?_
  rintro e w4 ⟨rfl, hb4⟩
  rw [ck1]
  go_wp2_with fail
  go_ret
  exact ⟨rfl, ((hb1.trans (hb2.mono hb1.size)).trans (hb3.mono (Nat.le_trans hb1.size hb2.size))).trans (hb4.mono (Nat.le_trans hb1.size (Nat.le_trans hb2.size hb3.size)))⟩
end Go.Proofs.YtjenkfiihpgaeaaDoor
