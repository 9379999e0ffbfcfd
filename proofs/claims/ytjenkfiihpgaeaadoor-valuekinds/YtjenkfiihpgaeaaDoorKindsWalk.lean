/- The law ValueKinds answers true at every argument, and writes nothing that was there: its walk. -/
import Derived.Test.YtjenkfiihpgaeaaDoorFirst
import Derived.Lib.QuietBelow
namespace Go.Proofs.YtjenkfiihpgaeaaDoor
open Go.RowKit Go.Sort

theorem cV_lt (k n : Int) (s : ByteArray) (k' n' : Int) (s' : ByteArray) (h : k < k') : cV k n s k' n' s' = -1 := by
  have h1 : cI k k' = -1 := by unfold cI; rw [if_pos h]
  unfold cV; rw [h1]; simp
theorem cV_gt (k n : Int) (s : ByteArray) (k' n' : Int) (s' : ByteArray) (h : k' < k) : cV k n s k' n' s' = 1 := by
  rw [cV_anti k' n' s' k n s, cV_lt _ _ _ _ _ _ h]; rfl
/-- The comparison, in every world that a drawn region may have come to. -/
theorem cmpGrown (k n : Int) (s : ByteArray) (k' n' : Int) (s' : ByteArray) (c : Int) (hc : cV k n s k' n' s' = c) (w : World) (d : Nat) (os : Array Obj) :
    Calls Tryd.prog 12 #[.agg #[.int .i64 k, .int .i64 n, .string s], .agg #[.int .i64 k', .int .i64 n', .string s']] (grow (redrawn w d) os) fun e w'' => e = .returned (.int .i64 c) ∧ ∃ p : Regrown, w'' = grow (redrawn w p.d) p.os := by
  subst hc; exact Calls.regrown_of (valueCompare _ _ _ _ _ _ _)

theorem lt_num (n m : Int) : (cV 1 n ⟨#[]⟩ 1 m ⟨#[]⟩ < 0 ∧ n < m) ∨ (0 ≤ cV 1 n ⟨#[]⟩ 1 m ⟨#[]⟩ ∧ m ≤ n) := by
  have h1 : cI 1 1 = 0 := rfl
  have h2 : cS ⟨#[]⟩ ⟨#[]⟩ = 0 := (cS_zero _ _).2 rfl
  have h3 := cI_neg n m; have h4 := cI_zero n m
  unfold cV; rw [if_pos h1]
  split <;> omega
theorem cB : cV 3 (bN false) ⟨#[]⟩ 3 (bN true) ⟨#[]⟩ = -1 := by decide +kernel
theorem s0 : sV 0 0 ⟨#[]⟩ 0 0 ⟨#[]⟩ = true := by decide +kernel
/-- The four values' cells in a block. -/
def Four (B : Nat) (n : Int) (s : ByteArray) (c : Int) (w : World) : Prop :=
  w.cell? ⟨B, 0, none⟩ = some (.int .i64 0) ∧ w.cell? ⟨B, 1, none⟩ = some (.int .i64 0) ∧ w.cell? ⟨B, 2, none⟩ = some (.string ⟨#[]⟩) ∧
  w.cell? ⟨B, 3, none⟩ = some (.int .i64 1) ∧ w.cell? ⟨B, 4, none⟩ = some (.int .i64 n) ∧ w.cell? ⟨B, 5, none⟩ = some (.string ⟨#[]⟩) ∧
  w.cell? ⟨B, 6, none⟩ = some (.int .i64 2) ∧ w.cell? ⟨B, 7, none⟩ = some (.int .i64 0) ∧ w.cell? ⟨B, 8, none⟩ = some (.string s) ∧
  w.cell? ⟨B, 9, none⟩ = some (.int .i64 3) ∧ w.cell? ⟨B, 10, none⟩ = some (.int .i64 c) ∧ w.cell? ⟨B, 11, none⟩ = some (.string ⟨#[]⟩)
theorem Four.on {B : Nat} {n : Int} {s : ByteArray} {c : Int} {w w' : World} (h : Four B n s c w) (hB : B < w.heap.size) (hb : Below w.heap.size w w') : Four B n s c w' := by
  have e := fun o => hb.cell (p := ⟨B, o, none⟩) hB
  unfold Four at h ⊢
  simp only [e]
  exact h

set_option maxHeartbeats 4000000 in
theorem kinds_main (n m : Int) (s : ByteArray) (b : Bool) (hs : (s.size : Int) ≤ 60) (w : World) (hr : Ready w) :
    Calls Tryd.prog 6 #[.int .i64 n, .int .i64 m, .string s, .bool b] w fun e w' => e = .returned (.bool true) ∧ Below w.heap.size w w' := by
  go_enter Tryd.func6, Tryd.ntmps6
  go_wp2_with fail
  refine (lawFirst _ hr).mono ?_
  rintro e w1 ⟨rfl, hb1⟩
  go_wp2_with fail
  refine (valueOf n _).mono ?_
  rintro e w2 ⟨rfl, hb2⟩
  replace hb2 := hb1.trans (hb2.mono hb1.size); clear hb1
  go_wp2_with fail
  refine (valueStr s _).mono ?_
  rintro e w3 ⟨rfl, hb3⟩
  replace hb3 := hb2.trans (hb3.mono hb2.size); clear hb2
  go_wp2_with fail
  refine (valueIs b _).mono ?_
  rintro e w4 ⟨rfl, hb4⟩
  replace hb4 := hb3.trans (hb4.mono hb3.size); clear hb3
  have hck0 : ckV 0 0 ⟨#[]⟩ = true := by decide +kernel
  have hck1 : ckV 1 n ⟨#[]⟩ = true := by simp [ckV]
  have hck2 : ckV 2 0 s = true := by simp [ckV]; omega
  have hck3 : ckV 3 (bN b) ⟨#[]⟩ = true := by cases b <;> decide +kernel
  have HC : Hid (ckV 0 0 ⟨#[]⟩ = true ∧ ckV 1 n ⟨#[]⟩ = true ∧ ckV 2 0 s = true ∧ ckV 3 (bN b) ⟨#[]⟩ = true) := ⟨hck0, hck1, hck2, hck3⟩
  clear hck0 hck1 hck2 hck3
  go_wp2_with fail
  obtain ⟨W, hW⟩ : ∃ W, W = w4.alloc (Obj.cells #[Value.int IntKind.i64 0, Value.int IntKind.i64 0, Value.string { data := #[] }, Value.int IntKind.i64 1, Value.int IntKind.i64 n, Value.string { data := #[] }, Value.int IntKind.i64 2, Value.int IntKind.i64 0, Value.string s, Value.int IntKind.i64 3, Value.int IntKind.i64 (bN b), Value.string { data := #[] }] 23) := ⟨_, rfl⟩
  rw [← hW]
  have hsz : w4.heap.size < W.heap.size := by rw [hW]; simp
  have F0 : Hid (Four w4.heap.size n s (bN b) W) := by
    show Four _ _ _ _ _
    rw [hW]
    refine ⟨?_, ?_, ?_, ?_, ?_, ?_, ?_, ?_, ?_, ?_, ?_, ?_⟩ <;> rw [World.cell?_alloc_at _ _ _ _ rfl] <;> rfl
  have BW : Below w.heap.size w W := by rw [hW]; exact hb4.alloc hb4.size _
  clear hW
  generalize w4.heap.size = B4 at *
  go_loopw [11] (fun i wr => ∃ j : Nat, j ≤ 4 ∧ i = .int .i64 j ∧ Below W.heap.size W wr) (fun i _ => 4 - (intOf i).toNat)
  case atStart => exact ⟨0, by omega, rfl, Below.refl _ _⟩
  case round =>
    obtain ⟨j, hj, rfl, hB⟩ := hrel
    have F := F0.out.on hsz hB
    obtain ⟨c0, c1, c2, c3, c4, c5, c6, c7, c8, c9, c10, c11⟩ := F
    obtain rfl | rfl | rfl | rfl | rfl : j = 0 ∨ j = 1 ∨ j = 2 ∨ j = 3 ∨ j = 4 := by omega
    · go_wp2_with fail
      refine (valueCheck 0 0 ⟨#[]⟩ _).mono ?_
      rintro e w5 ⟨rfl, hb5⟩
      rw [HC.out.1]
      replace hb5 := hB.trans (hb5.mono hB.size)
      clear c0 c1 c2 c3 c4 c5 c6 c7 c8 c9 c10 c11 hB
      obtain ⟨c0, c1, c2, c3, c4, c5, c6, c7, c8, c9, c10, c11⟩ := F0.out.on hsz hb5
      go_wp2_with fail
      go_loopw [12] (fun k wr => ∃ l : Nat, l ≤ 0 ∧ k = .int .i64 l ∧ Below W.heap.size W wr) (fun k _ => 0 - (intOf k).toNat)
      case atStart => exact ⟨0, by omega, rfl, hb5⟩
      case round =>
        clear c0 c1 c2 c3 c4 c5 c6 c7 c8 c9 c10 c11 hb5
        obtain ⟨l, hl, rfl, hB⟩ := hrel
        obtain ⟨c0, c1, c2, c3, c4, c5, c6, c7, c8, c9, c10, c11⟩ := F0.out.on hsz hB
        obtain rfl : l = 0 := by omega
        go_wp2_with fail
        go_roundw
        case rel => exact ⟨1, by omega, rfl, hB⟩
        case measure => simp [intOf]
    · go_wp2_with fail
      refine (valueCheck 1 n ⟨#[]⟩ _).mono ?_
      rintro e w5 ⟨rfl, hb5⟩
      rw [HC.out.2.1]
      replace hb5 := hB.trans (hb5.mono hB.size)
      clear c0 c1 c2 c3 c4 c5 c6 c7 c8 c9 c10 c11 hB
      obtain ⟨c0, c1, c2, c3, c4, c5, c6, c7, c8, c9, c10, c11⟩ := F0.out.on hsz hb5
      go_wp2_with fail
      go_loopw [12] (fun k wr => ∃ l : Nat, l ≤ 1 ∧ k = .int .i64 l ∧ Below W.heap.size W wr) (fun k _ => 1 - (intOf k).toNat)
      case atStart => exact ⟨0, by omega, rfl, hb5⟩
      case round =>
        clear c0 c1 c2 c3 c4 c5 c6 c7 c8 c9 c10 c11 hb5
        obtain ⟨l, hl, rfl, hB⟩ := hrel
        obtain ⟨c0, c1, c2, c3, c4, c5, c6, c7, c8, c9, c10, c11⟩ := F0.out.on hsz hB
        obtain rfl | rfl : l = 0 ∨ l = 1 := by omega
        · have a1 := cmpGrown 0 0 ⟨#[]⟩ 1 n ⟨#[]⟩ (-1) (cV_lt _ _ _ _ _ _ (by decide)) wr
          have a2 := cmpGrown 1 n ⟨#[]⟩ 0 0 ⟨#[]⟩ 1 (cV_gt _ _ _ _ _ _ (by decide)) wr
          have g := fun d os => F0.out.on hsz (hB.trans ((below_regrown wr d os).mono hB.size))
          unfold Four at g
          clear c0 c1 c2 c3 c4 c5 c6 c7 c8 c9 c10 c11
          go_wp2_with fail
          refine wp_region_quiet_below (by kernel_rfl) (by kernel_rfl) ?_
          iterate 19 (quiet_step (exact a1 _ _))
          iterate 3 (quiet_step (exact a2 _ _))
          refine wpQuiet_nil ?_
          intro w6 hw6
          obtain ⟨p, hw6⟩ := hw6
          have hb6 : Below W.heap.size W w6 := by rw [hw6]; exact hB.trans ((below_regrown wr _ _).mono hB.size)
          clear hw6 a1 a2 g hB
          go_wp2_with fail
          go_roundw
          case rel => exact ⟨1, by omega, rfl, hb6⟩
          case measure => simp [intOf]
        · go_wp2_with fail
          go_roundw
          case rel => exact ⟨2, by omega, rfl, hB⟩
          case measure => simp [intOf]
    · go_wp2_with fail
      refine (valueCheck 2 0 s _).mono ?_
      rintro e w5 ⟨rfl, hb5⟩
      rw [HC.out.2.2.1]
      replace hb5 := hB.trans (hb5.mono hB.size)
      clear c0 c1 c2 c3 c4 c5 c6 c7 c8 c9 c10 c11 hB
      obtain ⟨c0, c1, c2, c3, c4, c5, c6, c7, c8, c9, c10, c11⟩ := F0.out.on hsz hb5
      go_wp2_with fail
      go_loopw [12] (fun k wr => ∃ l : Nat, l ≤ 2 ∧ k = .int .i64 l ∧ Below W.heap.size W wr) (fun k _ => 2 - (intOf k).toNat)
      case atStart => exact ⟨0, by omega, rfl, hb5⟩
      case round =>
        clear c0 c1 c2 c3 c4 c5 c6 c7 c8 c9 c10 c11 hb5
        obtain ⟨l, hl, rfl, hB⟩ := hrel
        obtain ⟨c0, c1, c2, c3, c4, c5, c6, c7, c8, c9, c10, c11⟩ := F0.out.on hsz hB
        obtain rfl | rfl | rfl : l = 0 ∨ l = 1 ∨ l = 2 := by omega
        · have a1 := cmpGrown 0 0 ⟨#[]⟩ 2 0 s (-1) (cV_lt _ _ _ _ _ _ (by decide)) wr
          have a2 := cmpGrown 2 0 s 0 0 ⟨#[]⟩ 1 (cV_gt _ _ _ _ _ _ (by decide)) wr
          have g := fun d os => F0.out.on hsz (hB.trans ((below_regrown wr d os).mono hB.size))
          unfold Four at g
          clear c0 c1 c2 c3 c4 c5 c6 c7 c8 c9 c10 c11
          go_wp2_with fail
          refine wp_region_quiet_below (by kernel_rfl) (by kernel_rfl) ?_
          iterate 19 (quiet_step (exact a1 _ _))
          iterate 3 (quiet_step (exact a2 _ _))
          refine wpQuiet_nil ?_
          intro w6 hw6
          obtain ⟨p, hw6⟩ := hw6
          have hb6 : Below W.heap.size W w6 := by rw [hw6]; exact hB.trans ((below_regrown wr _ _).mono hB.size)
          clear hw6 a1 a2 g hB
          go_wp2_with fail
          go_roundw
          case rel => exact ⟨1, by omega, rfl, hb6⟩
          case measure => simp [intOf]
        · have a1 := cmpGrown 1 n ⟨#[]⟩ 2 0 s (-1) (cV_lt _ _ _ _ _ _ (by decide)) wr
          have a2 := cmpGrown 2 0 s 1 n ⟨#[]⟩ 1 (cV_gt _ _ _ _ _ _ (by decide)) wr
          have g := fun d os => F0.out.on hsz (hB.trans ((below_regrown wr d os).mono hB.size))
          unfold Four at g
          clear c0 c1 c2 c3 c4 c5 c6 c7 c8 c9 c10 c11
          go_wp2_with fail
          refine wp_region_quiet_below (by kernel_rfl) (by kernel_rfl) ?_
          iterate 19 (quiet_step (exact a1 _ _))
          iterate 3 (quiet_step (exact a2 _ _))
          refine wpQuiet_nil ?_
          intro w6 hw6
          obtain ⟨p, hw6⟩ := hw6
          have hb6 : Below W.heap.size W w6 := by rw [hw6]; exact hB.trans ((below_regrown wr _ _).mono hB.size)
          clear hw6 a1 a2 g hB
          go_wp2_with fail
          go_roundw
          case rel => exact ⟨2, by omega, rfl, hb6⟩
          case measure => simp [intOf]
        · go_wp2_with fail
          go_roundw
          case rel => exact ⟨3, by omega, rfl, hB⟩
          case measure => simp [intOf]
    · go_wp2_with fail
      refine (valueCheck 3 (bN b) ⟨#[]⟩ _).mono ?_
      rintro e w5 ⟨rfl, hb5⟩
      rw [HC.out.2.2.2]
      replace hb5 := hB.trans (hb5.mono hB.size)
      clear c0 c1 c2 c3 c4 c5 c6 c7 c8 c9 c10 c11 hB
      obtain ⟨c0, c1, c2, c3, c4, c5, c6, c7, c8, c9, c10, c11⟩ := F0.out.on hsz hb5
      go_wp2_with fail
      go_loopw [12] (fun k wr => ∃ l : Nat, l ≤ 3 ∧ k = .int .i64 l ∧ Below W.heap.size W wr) (fun k _ => 3 - (intOf k).toNat)
      case atStart => exact ⟨0, by omega, rfl, hb5⟩
      case round =>
        clear c0 c1 c2 c3 c4 c5 c6 c7 c8 c9 c10 c11 hb5
        obtain ⟨l, hl, rfl, hB⟩ := hrel
        obtain ⟨c0, c1, c2, c3, c4, c5, c6, c7, c8, c9, c10, c11⟩ := F0.out.on hsz hB
        obtain rfl | rfl | rfl | rfl : l = 0 ∨ l = 1 ∨ l = 2 ∨ l = 3 := by omega
        · have a1 := cmpGrown 0 0 ⟨#[]⟩ 3 (bN b) ⟨#[]⟩ (-1) (cV_lt _ _ _ _ _ _ (by decide)) wr
          have a2 := cmpGrown 3 (bN b) ⟨#[]⟩ 0 0 ⟨#[]⟩ 1 (cV_gt _ _ _ _ _ _ (by decide)) wr
          have g := fun d os => F0.out.on hsz (hB.trans ((below_regrown wr d os).mono hB.size))
          unfold Four at g
          clear c0 c1 c2 c3 c4 c5 c6 c7 c8 c9 c10 c11
          go_wp2_with fail
          refine wp_region_quiet_below (by kernel_rfl) (by kernel_rfl) ?_
          iterate 19 (quiet_step (exact a1 _ _))
          iterate 3 (quiet_step (exact a2 _ _))
          refine wpQuiet_nil ?_
          intro w6 hw6
          obtain ⟨p, hw6⟩ := hw6
          have hb6 : Below W.heap.size W w6 := by rw [hw6]; exact hB.trans ((below_regrown wr _ _).mono hB.size)
          clear hw6 a1 a2 g hB
          go_wp2_with fail
          go_roundw
          case rel => exact ⟨1, by omega, rfl, hb6⟩
          case measure => simp [intOf]
        · have a1 := cmpGrown 1 n ⟨#[]⟩ 3 (bN b) ⟨#[]⟩ (-1) (cV_lt _ _ _ _ _ _ (by decide)) wr
          have a2 := cmpGrown 3 (bN b) ⟨#[]⟩ 1 n ⟨#[]⟩ 1 (cV_gt _ _ _ _ _ _ (by decide)) wr
          have g := fun d os => F0.out.on hsz (hB.trans ((below_regrown wr d os).mono hB.size))
          unfold Four at g
          clear c0 c1 c2 c3 c4 c5 c6 c7 c8 c9 c10 c11
          go_wp2_with fail
          refine wp_region_quiet_below (by kernel_rfl) (by kernel_rfl) ?_
          iterate 19 (quiet_step (exact a1 _ _))
          iterate 3 (quiet_step (exact a2 _ _))
          refine wpQuiet_nil ?_
          intro w6 hw6
          obtain ⟨p, hw6⟩ := hw6
          have hb6 : Below W.heap.size W w6 := by rw [hw6]; exact hB.trans ((below_regrown wr _ _).mono hB.size)
          clear hw6 a1 a2 g hB
          go_wp2_with fail
          go_roundw
          case rel => exact ⟨2, by omega, rfl, hb6⟩
          case measure => simp [intOf]
        · have a1 := cmpGrown 2 0 s 3 (bN b) ⟨#[]⟩ (-1) (cV_lt _ _ _ _ _ _ (by decide)) wr
          have a2 := cmpGrown 3 (bN b) ⟨#[]⟩ 2 0 s 1 (cV_gt _ _ _ _ _ _ (by decide)) wr
          have g := fun d os => F0.out.on hsz (hB.trans ((below_regrown wr d os).mono hB.size))
          unfold Four at g
          clear c0 c1 c2 c3 c4 c5 c6 c7 c8 c9 c10 c11
          go_wp2_with fail
          refine wp_region_quiet_below (by kernel_rfl) (by kernel_rfl) ?_
          iterate 19 (quiet_step (exact a1 _ _))
          iterate 3 (quiet_step (exact a2 _ _))
          refine wpQuiet_nil ?_
          intro w6 hw6
          obtain ⟨p, hw6⟩ := hw6
          have hb6 : Below W.heap.size W w6 := by rw [hw6]; exact hB.trans ((below_regrown wr _ _).mono hB.size)
          clear hw6 a1 a2 g hB
          go_wp2_with fail
          go_roundw
          case rel => exact ⟨3, by omega, rfl, hb6⟩
          case measure => simp [intOf]
        · go_wp2_with fail
          go_roundw
          case rel => exact ⟨4, by omega, rfl, hB⟩
          case measure => simp [intOf]
    · go_wp2_with fail
      clear c3 c4 c5 c6 c7 c8 c9 c10 c11
      refine (valueOf n _).mono ?_
      rintro e w5 ⟨rfl, hb5⟩
      replace hb5 := hB.trans (hb5.mono hB.size)
      go_wp2_with fail
      refine (valueOf m _).mono ?_
      rintro e w6 ⟨rfl, hb6⟩
      replace hb6 := hb5.trans (hb6.mono hb5.size)
      clear hb5
      go_wp2_with fail
      refine (valueCompare 1 n ⟨#[]⟩ 1 m ⟨#[]⟩ _).mono ?_
      rintro e w7 ⟨rfl, hb7⟩
      replace hb7 := hb6.trans (hb7.mono hb6.size)
      clear hb6
      have hnm : (cV 1 n ⟨#[]⟩ 1 m ⟨#[]⟩ < 0 ∧ n < m) ∨ (0 ≤ cV 1 n ⟨#[]⟩ 1 m ⟨#[]⟩ ∧ m ≤ n) := lt_num n m
      generalize cV 1 n ⟨#[]⟩ 1 m ⟨#[]⟩ = c at *
      rcases hnm with ⟨n1, n2⟩ | ⟨n1, n2⟩
      all_goals
        go_wp2_with fail
        refine (valueIs false _).mono ?_
        rintro e w8 ⟨rfl, hb8⟩
        replace hb8 := hb7.trans (hb8.mono hb7.size)
        clear hb7
        go_wp2_with fail
        refine (valueIs true _).mono ?_
        rintro e w9 ⟨rfl, hb9⟩
        replace hb9 := hb8.trans (hb9.mono hb8.size)
        clear hb8
        go_wp2_with fail
        refine (valueCompare 3 (bN false) ⟨#[]⟩ 3 (bN true) ⟨#[]⟩ _).mono ?_
        rintro e w10 ⟨rfl, hb10⟩
        replace hb10 := hb9.trans (hb10.mono hb9.size)
        clear hb9
        rw [cB]
        have F := F0.out.on hsz hb10
        obtain ⟨c0, c1, c2, _⟩ := F
        go_wp2_with fail
        refine (sameValue 0 0 ⟨#[]⟩ 0 0 ⟨#[]⟩ _).mono ?_
        rintro e w11 ⟨rfl, hb11⟩
        replace hb11 := hb10.trans (hb11.mono hb10.size)
        clear hb10
        rw [s0]
        go_wp2_with fail
        go_ret
        exact ⟨rfl, BW.trans (hb11.mono BW.size)⟩

set_option maxHeartbeats 400000 in
theorem kinds_long (n m : Int) (s : ByteArray) (b : Bool) (hs : 60 < (s.size : Int)) (w : World) (hr : Ready w) :
    Calls Tryd.prog 6 #[.int .i64 n, .int .i64 m, .string s, .bool b] w fun e w' => e = .returned (.bool true) ∧ Below w.heap.size w w' := by
  go_enter Tryd.func6, Tryd.ntmps6
  go_wp2_with fail
  refine (lawFirst _ hr).mono ?_
  rintro e w1 ⟨rfl, hb1⟩
  go_wp2_with fail
  go_ret
  exact ⟨rfl, hb1⟩

theorem valueKinds_walk (n : Int) (_ : (Lit.int .i64 n).wf = true) (m : Int) (_ : (Lit.int .i64 m).wf = true) (s : ByteArray) (_ : s.size ≤ maxLen) (b : Bool) (w : World) (hr : Ready w) :
    Calls Tryd.prog 6 #[.int .i64 n, .int .i64 m, .string s, .bool b] w fun e w' => e = .returned (.bool true) ∧ Below w.heap.size w w' := by
  by_cases h : (s.size : Int) ≤ 60
  · exact kinds_main n m s b h w hr
  · exact kinds_long n m s b (by omega) w hr
end Go.Proofs.YtjenkfiihpgaeaaDoor
