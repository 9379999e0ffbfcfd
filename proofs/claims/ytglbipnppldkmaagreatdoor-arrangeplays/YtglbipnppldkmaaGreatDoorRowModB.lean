/- A remainder brought up to a place: what the laws of rows reckon with their numbers. -/
import Derived.Test.YtglbipnppldkmaaGreatDoorSeqB
namespace Go.Proofs.YtglbipnppldkmaaGreatDoor
open Go.RowKit
set_option maxRecDepth 100000

theorem mod_pos (t : Int) (n : Int) (hn : 0 < n) (hb : n ≤ 16) : ∃ k : Nat, (k : Int) < n ∧ (wrap64 (t.tmod n + n)).tmod n = (k : Int) := by
  have h1 := Int.tmod_lt_of_pos t hn
  have h2 : -n < t.tmod n := Int.neg_lt_of_neg_lt (by have := Int.tmod_lt_of_pos (-t) hn; rw [Int.neg_tmod] at this; omega)
  have e : wrap64 (t.tmod n + n) = t.tmod n + n := by unfold wrap64; omega
  have h3 : 0 ≤ (t.tmod n + n).tmod n := Int.tmod_nonneg n (by omega)
  have h4 := Int.tmod_lt_of_pos (t.tmod n + n) hn
  exact ⟨((t.tmod n + n).tmod n).toNat, by omega, by rw [e]; omega⟩

end Go.Proofs.YtglbipnppldkmaaGreatDoor
