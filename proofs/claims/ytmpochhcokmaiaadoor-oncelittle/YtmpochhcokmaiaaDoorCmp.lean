/- What value.Compare, the document's CompareValues and SameValue answer, in whatever world: contracts for the laws of values. -/
import Derived.Test.YtmpochhcokmaiaaDoorChecked
import Derived.WalkKit
import Derived.ProofKit
import Derived.WalkLawsBesides
import Derived.WalkSpells
import Derived.Outline
import Derived.Below
import Derived.Test.YtmpochhcokmaiaaDoorPlain
namespace Go.Proofs.YtmpochhcokmaiaaDoor
open Go.RowKit

theorem retI {a b : Int} (h : a = b) : Ending.returned (.int .i64 a) = .returned (.int .i64 b) := by rw [h]
theorem retB {a b : Bool} (h : a = b) : Ending.returned (.bool a) = .returned (.bool b) := by rw [h]
theorem bcell {W w1 : World} (hb : Below W.heap.size W w1) : (∀ b o, b < W.heap.size → w1.cell? ⟨b, o, none⟩ = W.cell? ⟨b, o, none⟩) ∧ (∀ b o, b < W.heap.size → w1.frozen? ⟨b, o, none⟩ = W.frozen? ⟨b, o, none⟩) :=
  ⟨fun b o h => hb.cell (p := ⟨b, o, none⟩) h, fun b o h => hb.frozen (p := ⟨b, o, none⟩) h⟩

set_option maxHeartbeats 400000 in
theorem cmpInt (a b : Int) (w : World) : Calls Tryd.prog 65 #[.int .i64 a, .int .i64 b] w fun e w' => e = .returned (.int .i64 (cI a b)) ∧ w' = w := by
  unfold cI
  go_enter Tryd.func65, Tryd.ntmps65
  go_wp2
  all_goals go_ret
  all_goals exact ⟨rfl, rfl⟩

set_option maxHeartbeats 400000 in
theorem cmpInt64 (a b : Int) (w : World) : Calls Tryd.prog 66 #[.int .i64 a, .int .i64 b] w fun e w' => e = .returned (.int .i64 (cI a b)) ∧ w' = w := by
  unfold cI
  go_enter Tryd.func66, Tryd.ntmps66
  go_wp2
  all_goals go_ret
  all_goals exact ⟨rfl, rfl⟩

set_option maxHeartbeats 400000 in
theorem cmpStr (a b : ByteArray) (w : World) : Calls Tryd.prog 67 #[.string a, .string b] w fun e w' => e = .returned (.int .i64 (cS a b)) ∧ w' = w := by
  unfold cS
  by_cases h1 : Op.bytesLess a.toList b.toList = true
  · go_enter Tryd.func67, Tryd.ntmps67
    go_wp2
    all_goals go_ret
    all_goals exact ⟨rfl, rfl⟩
  · by_cases h2 : a.toList = b.toList
    · have h3 : (a.toList == b.toList) = true := by simp [h2]
      have h4 : Op.bytesLess a.toList b.toList = false := by simpa using h1
      go_enter Tryd.func67, Tryd.ntmps67
      go_wp2
      all_goals go_ret
      all_goals exact ⟨rfl, rfl⟩
    · have h3 : (a.toList == b.toList) = false := by simp [h2]
      have h4 : Op.bytesLess a.toList b.toList = false := by simpa using h1
      go_enter Tryd.func67, Tryd.ntmps67
      go_wp2
      all_goals go_ret
      all_goals exact ⟨rfl, rfl⟩

theorem two_boxes {w : World} {o p : Obj} : Below w.heap.size w ((w.alloc o).alloc p) :=
  ((Below.refl _ _).alloc (Nat.le_refl _) _).alloc (by simp) _
theorem one_box {w : World} {o : Obj} : Below w.heap.size w (w.alloc o) := (Below.refl _ _).alloc (Nat.le_refl _) _

set_option maxHeartbeats 1000000 in
theorem valueCompare (k n : Int) (s : ByteArray) (k' n' : Int) (s' : ByteArray) (w : World) :
    Calls Tryd.prog 61 #[.agg #[.int .i64 k, .int .i64 n, .string s], .agg #[.int .i64 k', .int .i64 n', .string s']] w fun e w' => e = .returned (.int .i64 (cV k n s k' n' s')) ∧ Below w.heap.size w w' := by
  unfold cV
  by_cases h1 : cI k k' = 0
  · have b1 : (cI k k' == 0) = true := by simp [h1]
    by_cases h2 : cI n n' = 0
    · have b2 : (cI n n' == 0) = true := by simp [h2]
      go_enter Tryd.func61, Tryd.ntmps61
      go_wp2_with (first | (go_at_call 65; refine (cmpInt _ _ _).mono ?_; rintro e w' ⟨rfl, rfl⟩) | (go_at_call 66; refine (cmpInt64 _ _ _).mono ?_; rintro e w' ⟨rfl, rfl⟩) | (go_at_call 67; refine (cmpStr _ _ _).mono ?_; rintro e w' ⟨rfl, rfl⟩))
      go_ret
      exact ⟨rfl, two_boxes⟩
    · have b2 : (cI n n' == 0) = false := by simp [h2]
      go_enter Tryd.func61, Tryd.ntmps61
      go_wp2_with (first | (go_at_call 65; refine (cmpInt _ _ _).mono ?_; rintro e w' ⟨rfl, rfl⟩) | (go_at_call 66; refine (cmpInt64 _ _ _).mono ?_; rintro e w' ⟨rfl, rfl⟩) | (go_at_call 67; refine (cmpStr _ _ _).mono ?_; rintro e w' ⟨rfl, rfl⟩))
      go_ret
      exact ⟨rfl, two_boxes⟩
  · have b1 : (cI k k' == 0) = false := by simp [h1]
    go_enter Tryd.func61, Tryd.ntmps61
    go_wp2_with (first | (go_at_call 65; refine (cmpInt _ _ _).mono ?_; rintro e w' ⟨rfl, rfl⟩) | (go_at_call 66; refine (cmpInt64 _ _ _).mono ?_; rintro e w' ⟨rfl, rfl⟩) | (go_at_call 67; refine (cmpStr _ _ _).mono ?_; rintro e w' ⟨rfl, rfl⟩))
    go_ret
    exact ⟨rfl, two_boxes⟩

/-- The two are one, as a Bool. -/
def sV (k n : Int) (s : ByteArray) (k' n' : Int) (s' : ByteArray) : Bool := k == k' && n == n' && s.toList == s'.toList
theorem sV_iff (k n : Int) (s : ByteArray) (k' n' : Int) (s' : ByteArray) : sV k n s k' n' s' = true ↔ k = k' ∧ n = n' ∧ s = s' := by
  unfold sV
  simp only [Bool.and_eq_true, beq_iff_eq, and_assoc]
  constructor
  · rintro ⟨a, b, c⟩; exact ⟨a, b, toList_inj c⟩
  · rintro ⟨rfl, rfl, rfl⟩; exact ⟨rfl, rfl, rfl⟩

set_option maxHeartbeats 1000000 in
theorem sameValue (k n : Int) (s : ByteArray) (k' n' : Int) (s' : ByteArray) (w : World) :
    Calls Tryd.prog 56 #[.agg #[.int .i64 k, .int .i64 n, .string s], .agg #[.int .i64 k', .int .i64 n', .string s']] w fun e w' => e = .returned (.bool (sV k n s k' n' s')) ∧ Below w.heap.size w w' := by
  unfold sV
  cases h1 : (k == k')
  · go_enter Tryd.func56, Tryd.ntmps56
    go_wp2
    go_ret
    exact ⟨rfl, two_boxes⟩
  · cases h2 : (n == n')
    · go_enter Tryd.func56, Tryd.ntmps56
      go_wp2
      go_ret
      exact ⟨rfl, two_boxes⟩
    · go_enter Tryd.func56, Tryd.ntmps56
      go_wp2
      go_ret
      exact ⟨rfl, two_boxes⟩
end Go.Proofs.YtmpochhcokmaiaaDoor
