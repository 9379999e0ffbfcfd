/- What a quota's calls answer: New, Move, Used, Left. -/
import Derived.Test.YtcppeoecoijgfaaDoorErrs
namespace Go.Proofs.YtcppeoecoijgfaaDoor
open Go.RowKit Go.Sort
set_option maxRecDepth 100000

/-- A quota in block b: so many may be, so many are used. -/
def QuAt (b : Nat) (m u : Int) (w : World) : Prop :=
  w.cell? ⟨b, 0, none⟩ = some (.int .i64 m) ∧ w.cell? ⟨b, 1, none⟩ = some (.int .i64 u) ∧ w.frozen? ⟨b, 1, none⟩ = false ∧ 0 ≤ u ∧ u ≤ m ∧ m ≤ 9223372036854775807
theorem QuAt.lt {b : Nat} {m u : Int} {w : World} (h : QuAt b m u w) : b < w.heap.size := World.block_lt_of_cell? _ _ h.1
theorem QuAt.on {b : Nat} {m u : Int} {w w' : World} (h : QuAt b m u w) (hb : Below w.heap.size w w') : QuAt b m u w' := by
  have hl := h.lt
  obtain ⟨h1, h2, h3, h4⟩ := h
  exact ⟨by rw [hb.cell (p := ⟨b, 0, none⟩) hl]; exact h1, by rw [hb.cell (p := ⟨b, 1, none⟩) hl]; exact h2, by rw [hb.frozen (p := ⟨b, 1, none⟩) hl]; exact h3, h4⟩
theorem QuAt.set {b : Nat} {m u : Int} {w : World} (h : QuAt b m u w) (v : Int) (h0 : 0 ≤ v) (h1 : v ≤ m) : QuAt b m v (w.setCell ⟨b, 1, none⟩ (.int .i64 v)) := by
  obtain ⟨k1, k2, k3, k4, k5, k6⟩ := h
  refine ⟨?_, ?_, ?_, h0, h1, k6⟩
  · rw [World.cell?_setCell_other _ _ _ _ (fun e => by have := congrArg Addr.off e; simp at this)]; exact k1
  · exact World.cell?_setCell_same w ⟨b, 1, none⟩ (.int .i64 v) (u := .int .i64 u) k2
  · rw [World.frozen?_setCell]; exact k3
/-- The error of what is full: what its variable holds. -/
def FullAt (a : Addr) (w : World) : Prop := w.cell? ⟨0, 0, none⟩ = some (errV a)
theorem FullAt.on {a : Addr} {w w' : World} (h : FullAt a w) (hb : Below w.heap.size w w') : FullAt a w' := cell_on h hb
theorem FullAt.lt {a : Addr} {w : World} (h : FullAt a w) : 0 < w.heap.size := World.block_lt_of_cell? _ _ h
theorem FullAt.but {a : Addr} {S : Nat} {w w' : World} (h : FullAt a w) (hb : But S w w') (hS : 0 ≠ S) : FullAt a w' := by
  unfold FullAt; rw [hb.cell (p := ⟨0, 0, none⟩) hS h.lt]; exact h

theorem quota_new (n : Int) (hn : n ≤ 9223372036854775807) (w : World) (t : TypeId) : QuAt w.heap.size (if n < 0 then 0 else n) 0 (w.alloc (.cells #[.int .i64 (if n < 0 then 0 else n), .int .i64 0] t)) :=
  ⟨by rw [World.cell?_alloc_at _ _ _ _ rfl]; rfl, by rw [World.cell?_alloc_at _ _ _ _ rfl]; rfl, by simp [go_sem], Int.le_refl _, by split <;> omega, by split <;> omega⟩

set_option maxHeartbeats 400000 in
theorem quNew (n : Int) (w : World) :
    Calls Tryd.prog 8 #[.int .i64 n] w fun e w' => e = .returned (.pointer (some ⟨w.heap.size, 0, none⟩)) ∧ w' = w.alloc (.cells #[.int .i64 (if n < 0 then 0 else n), .int .i64 0] 36) := by
  by_cases h : n < 0
  · rw [if_pos h]
    go_enter Tryd.func8, Tryd.ntmps8
    go_wp2
    go_ret
    exact ⟨rfl, rfl⟩
  · rw [if_neg h]
    go_enter Tryd.func8, Tryd.ntmps8
    go_wp2
    go_ret
    exact ⟨rfl, rfl⟩

set_option maxHeartbeats 400000 in
theorem quUsed (b : Nat) (m u : Int) (w : World) (h : QuAt b m u w) :
    Calls Tryd.prog 10 #[.pointer (some ⟨b, 0, none⟩)] w fun e w' => e = .returned (.int .i64 u) ∧ w' = w := by
  obtain ⟨h1, h2, h3, h4, h5, h6⟩ := h
  go_enter Tryd.func10, Tryd.ntmps10
  go_wp2
  go_ret
  exact ⟨rfl, rfl⟩

set_option maxHeartbeats 400000 in
theorem quLeft (b : Nat) (m u : Int) (w : World) (h : QuAt b m u w) :
    Calls Tryd.prog 11 #[.pointer (some ⟨b, 0, none⟩)] w fun e w' => e = .returned (.int .i64 (m - u)) ∧ Below w.heap.size w w' := by
  obtain ⟨h1, h2, h3, h4, h5, h6⟩ := h
  go_enter Tryd.func11, Tryd.ntmps11
  go_wp2
  go_quiet (fail)
  go_wp2
  go_ret
  exact ⟨rfl, ⟨rfl, rfl, rfl, Nat.le_refl _, fun _ _ => rfl⟩⟩

/-- How many are used behind a move. -/
def mvN (m u k : Int) : Int := if m - u < k then u else if u + k < 0 then 0 else u + k
/-- What a move answers. -/
def mvV (ad : Addr) (m u k : Int) : Value := if m - u < k then errV ad else .nilIface
theorem mvN_bd {m u k : Int} (h : 0 ≤ u ∧ u ≤ m) : 0 ≤ mvN m u k ∧ mvN m u k ≤ m := by unfold mvN; repeat' split <;> omega
set_option maxHeartbeats 1000000 in
theorem quMove (b : Nat) (m u k : Int) (ad : Addr) (w : World) (h : QuAt b m u w) (hf : FullAt ad w) (hk : -9223372036854775808 ≤ k ∧ k ≤ 9223372036854775807) :
    Calls Tryd.prog 9 #[.pointer (some ⟨b, 0, none⟩), .int .i64 k] w fun e w' => e = .returned (mvV ad m u k) ∧ QuAt b m (mvN m u k) w' ∧ But b w w' := by
  have H : Hid (QuAt b m u w) := h
  have HF : Hid (FullAt ad w) := hf
  have q := quLeft b m u w h
  obtain ⟨_, _, _, g4, g5, g6⟩ := h
  unfold mvV mvN
  by_cases h1 : m - u < k
  · rw [if_pos h1, if_pos h1]
    go_enter Tryd.func9, Tryd.ntmps9
    go_wp2_with fail
    refine q.mono ?_
    rintro e w1 ⟨rfl, hb1⟩
    have hf1 := HF.out.on hb1
    unfold FullAt errV at hf1
    go_wp2_with fail
    go_ret
    exact ⟨rfl, H.out.on hb1, But.of_below hb1⟩
  · rw [if_neg h1, if_neg h1]
    by_cases h2 : u + k < 0
    · rw [if_pos h2]
      go_enter Tryd.func9, Tryd.ntmps9
      go_wp2_with fail
      refine q.mono ?_
      rintro e w1 ⟨rfl, hb1⟩
      obtain ⟨f1, f2, f3, _, _, _⟩ := H.out.on hb1
      go_wp2_with fail
      go_ret
      exact ⟨rfl, (H.out.on hb1).set 0 (by omega) (by omega), (But.of_below hb1).trans (But.set 1 _)⟩
    · rw [if_neg h2]
      go_enter Tryd.func9, Tryd.ntmps9
      go_wp2_with fail
      refine q.mono ?_
      rintro e w1 ⟨rfl, hb1⟩
      obtain ⟨f1, f2, f3, _, _, _⟩ := H.out.on hb1
      go_wp2_with fail
      go_ret
      exact ⟨rfl, (H.out.on hb1).set _ (by omega) (by omega), (But.of_below hb1).trans (But.set 1 _)⟩
end Go.Proofs.YtcppeoecoijgfaaDoor
