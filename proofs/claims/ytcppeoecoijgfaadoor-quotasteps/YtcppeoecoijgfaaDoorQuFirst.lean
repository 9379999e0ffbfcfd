/- The chapter's examples of a quota hold: what the laws of layer 8 ask first. -/
import Derived.Test.YtcppeoecoijgfaaDoorQu
namespace Go.Proofs.YtcppeoecoijgfaaDoor
open Go.RowKit Go.Sort
set_option maxRecDepth 100000
theorem mv_full {ad : Addr} {m u k : Int} (h : m - u < k) : mvV ad m u k = errV ad ∧ mvN m u k = u := by unfold mvV mvN; rw [if_pos h, if_pos h]; exact ⟨rfl, rfl⟩
theorem mv_less {ad : Addr} {m u k : Int} (h : k ≤ m - u) (h2 : u + k < 0) : mvV ad m u k = .nilIface ∧ mvN m u k = 0 := by unfold mvV mvN; rw [if_neg (by omega), if_neg (by omega), if_pos h2]; exact ⟨rfl, rfl⟩
theorem mv_more {ad : Addr} {m u k : Int} (h : k ≤ m - u) (h2 : 0 ≤ u + k) : mvV ad m u k = .nilIface ∧ mvN m u k = u + k := by unfold mvV mvN; rw [if_neg (by omega), if_neg (by omega), if_neg (by omega)]; exact ⟨rfl, rfl⟩
theorem quMoveFull (b : Nat) (m u k : Int) (ad : Addr) (w : World) (h : QuAt b m u w) (hf : FullAt ad w) (hk : -9223372036854775808 ≤ k ∧ k ≤ 9223372036854775807) (h1 : m - u < k) :
    Calls Tryd.prog 9 #[.pointer (some ⟨b, 0, none⟩), .int .i64 k] w fun e w' => e = .returned (errV ad) ∧ QuAt b m u w' ∧ But b w w' := by
  have := quMove b m u k ad w h hf hk
  rw [(mv_full h1 : mvV ad m u k = errV ad ∧ _).1, (mv_full (ad := ad) h1).2] at this; exact this
theorem quMoveMore (b : Nat) (m u k v : Int) (ad : Addr) (w : World) (h : QuAt b m u w) (hf : FullAt ad w) (hk : -9223372036854775808 ≤ k ∧ k ≤ 9223372036854775807) (h1 : k ≤ m - u) (h2 : 0 ≤ u + k) (hv : u + k = v) :
    Calls Tryd.prog 9 #[.pointer (some ⟨b, 0, none⟩), .int .i64 k] w fun e w' => e = .returned .nilIface ∧ QuAt b m v w' ∧ But b w w' := by
  have := quMove b m u k ad w h hf hk
  rw [(mv_more (ad := ad) h1 h2).1, (mv_more (ad := ad) h1 h2).2, hv] at this; exact this
theorem quMoveLess (b : Nat) (m u k : Int) (ad : Addr) (w : World) (h : QuAt b m u w) (hf : FullAt ad w) (hk : -9223372036854775808 ≤ k ∧ k ≤ 9223372036854775807) (h1 : k ≤ m - u) (h2 : u + k < 0) :
    Calls Tryd.prog 9 #[.pointer (some ⟨b, 0, none⟩), .int .i64 k] w fun e w' => e = .returned .nilIface ∧ QuAt b m 0 w' ∧ But b w w' := by
  have := quMove b m u k ad w h hf hk
  rw [(mv_less (ad := ad) h1 h2).1, (mv_less (ad := ad) h1 h2).2] at this; exact this

set_option maxHeartbeats 1000000 in
theorem lawFirst8 (ad : Addr) (w : World) (hf : FullAt ad w) :
    Calls Tryd.prog 6 #[] w fun e w' => e = .returned (.bool true) ∧ Below w.heap.size w w' := by
  have HF : Hid (∀ w', Below w.heap.size w w' → FullAt ad w') := fun w' h => hf.on h
  clear hf
  go_enter Tryd.func6, Tryd.ntmps6
  go_wp2_with fail
  refine (quNew 1 w).mono ?_
  rintro e w1 ⟨rfl, hw1⟩
  have hq : QuAt w.heap.size 1 0 w1 := by rw [hw1]; exact quota_new 1 (by omega) w _
  have b1 : Below w.heap.size w w1 := by rw [hw1]; exact one_box
  have q2 := quMoveFull _ 1 0 2 ad w1 hq (HF.out _ b1) (by omega) (by omega)
  have B1 : Hid (Below w.heap.size w w1) := b1
  clear hw1 hq b1
  go_wp2_with fail
  refine q2.mono ?_
  rintro e w2 ⟨rfl, hq, hb⟩
  have b2 := B1.out.trans (hb.below (Nat.le_refl _) B1.out.size)
  have q3 := quMoveMore _ 1 0 1 1 ad w2 hq (HF.out _ b2) (by omega) (by omega) (by omega) rfl
  have B2 : Hid (Below w.heap.size w w2) := b2
  clear hq hb b2 q2
  unfold errV
  go_wp2_with fail
  refine q3.mono ?_
  rintro e w3 ⟨rfl, hq, hb⟩
  have b3 := B2.out.trans (hb.below (Nat.le_refl _) B2.out.size)
  have q4 := quLeft _ 1 1 w3 hq
  have B3 : Hid (Below w.heap.size w w3) := b3
  clear hq hb b3 q3
  go_wp2_with fail
  refine q4.mono ?_
  rintro e w4 ⟨rfl, hb⟩
  have B4 : Hid (Below w.heap.size w w4) := B3.out.trans (hb.mono B3.out.size)
  clear hb q4
  go_wp2_with fail
  go_ret
  exact ⟨rfl, B4.out⟩
end Go.Proofs.YtcppeoecoijgfaaDoor
