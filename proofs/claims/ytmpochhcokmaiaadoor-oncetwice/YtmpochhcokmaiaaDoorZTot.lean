/- What the program's own sums of weights answer: two words, as two's complement. -/
import Derived.Test.YtmpochhcokmaiaaDoorZWide
import Derived.Test.YtmpochhcokmaiaaDoorSeq
import Derived.Deep.RegionWith
import Derived.Test.YtmpochhcokmaiaaDoorZRef
namespace Go.Proofs
open Go.Shelf
def Tryd.bits_ren2 : Go.Shelf.Ren := ⟨fun | 26 => 53 | n => n, fun | 22 => 52 | n => n, fun | n => n⟩
theorem Tryd.bits26 : Go.Proofs.Lays7.n26 Tryd.prog Tryd.bits_ren2 := {
  mixed := by kernel_rfl
  f26 := Tryd.func53.trans (congrArg some (by kernel_rfl))
  t22 := Tryd.underlying52
  a22 := Tryd.isAgg52
  z22 := Tryd.sizeOf52
  v22 := Tryd.zeroValue52
  i22 := by kernel_rfl }
end Go.Proofs
namespace Go.Proofs.YtmpochhcokmaiaaDoor
open Go.RowKit Go.Sort
set_option maxRecDepth 100000

/-- The upper word of a number; the sign of an int64. -/
def tHi (n : Int) : Int := n / 18446744073709551616
def sg (k : Int) : Int := if k < 0 then -1 else 0
/-- A sum stands in block B. -/
def TotAt (B : Nat) (n : Int) (w : World) : Prop :=
  w.cell? ⟨B, 0, none⟩ = some (.int .i64 (tHi n)) ∧ w.cell? ⟨B, 1, none⟩ = some (.int .u64 (wLo n)) ∧ w.frozen? ⟨B, 0, none⟩ = false ∧ w.frozen? ⟨B, 1, none⟩ = false ∧ B < w.heap.size
theorem TotAt.on {B : Nat} {n : Int} {w w' : World} (h : TotAt B n w) (hb : Below w.heap.size w w') : TotAt B n w' := by
  obtain ⟨h1, h2, h3, h4, h5⟩ := h
  exact ⟨by rw [hb.cell (p := ⟨B, 0, none⟩) h5]; exact h1, by rw [hb.cell (p := ⟨B, 1, none⟩) h5]; exact h2, by rw [hb.frozen (p := ⟨B, 0, none⟩) h5]; exact h3, by rw [hb.frozen (p := ⟨B, 1, none⟩) h5]; exact h4, Nat.lt_of_lt_of_le h5 hb.size⟩
theorem signOf (k : Int) (h : -9223372036854775808 ≤ k ∧ k ≤ 9223372036854775807) (w : World) :
    Calls Tryd.prog 52 #[.int .i64 k] w fun e w' => e = .returned (.int .i64 (sg k)) ∧ w' = w := by
  go_enter Tryd.func52, Tryd.ntmps52
  go_wp2
  go_ret
  exact ⟨retI (by unfold sg; split <;> omega), rfl⟩
theorem wLo_eq (k : Int) : IntKind.u64.wrap k = ((wLo k : Nat) : Int) := by unfold wLo; simp [IntKind.wrap, IntKind.bits, IntKind.signed]; omega
theorem hi_add (n k : Int) (hk : -9223372036854775808 ≤ k ∧ k ≤ 9223372036854775807) : tHi n + (sg k + (wC n k : Int)) = tHi (n + k) := by unfold tHi sg wC wLo; split <;> omega
theorem TotAt.set {B : Nat} {n m : Int} {w : World} (h : TotAt B n w) : TotAt B m ((w.setCell ⟨B, 1, none⟩ (.int .u64 (wLo m))).setCell ⟨B, 0, none⟩ (.int .i64 (tHi m))).drew ∧ But B w ((w.setCell ⟨B, 1, none⟩ (.int .u64 (wLo m))).setCell ⟨B, 0, none⟩ (.int .i64 (tHi m))).drew := by
  obtain ⟨h1, h2, h3, h4, h5⟩ := h
  have hb : But B w ((w.setCell ⟨B, 1, none⟩ (.int .u64 (wLo m))).setCell ⟨B, 0, none⟩ (.int .i64 (tHi m))).drew := ((But.set 1 _).trans (But.set 0 _)).trans (But.drewN 1)
  have ne : ∀ a b : Nat, a ≠ b → (⟨B, a, none⟩ : Addr) ≠ ⟨B, b, none⟩ := fun a b h e => h (by have := congrArg Addr.off e; exact this)
  have x0 : (w.setCell ⟨B, 1, none⟩ (.int .u64 (wLo m))).cell? ⟨B, 0, none⟩ = some (.int .i64 (tHi n)) := by
    rw [World.cell?_setCell_other _ _ _ _ (ne _ _ (by decide))]; exact h1
  refine ⟨⟨?_, ?_, ?_, ?_, Nat.lt_of_lt_of_le h5 hb.size⟩, hb⟩
  · show ((w.setCell ⟨B, 1, none⟩ (.int .u64 (wLo m))).setCell ⟨B, 0, none⟩ (.int .i64 (tHi m))).cell? ⟨B, 0, none⟩ = _
    rw [World.cell?_setCell_same _ _ _ x0]
  · show ((w.setCell ⟨B, 1, none⟩ (.int .u64 (wLo m))).setCell ⟨B, 0, none⟩ (.int .i64 (tHi m))).cell? ⟨B, 1, none⟩ = _
    rw [World.cell?_setCell_other _ _ _ _ (ne _ _ (by decide)), World.cell?_setCell_same w _ _ h2]
  · show ((w.setCell ⟨B, 1, none⟩ (.int .u64 (wLo m))).setCell ⟨B, 0, none⟩ (.int .i64 (tHi m))).frozen? ⟨B, 0, none⟩ = _
    rw [World.frozen?_setCell, World.frozen?_setCell]; exact h3
  · show ((w.setCell ⟨B, 1, none⟩ (.int .u64 (wLo m))).setCell ⟨B, 0, none⟩ (.int .i64 (tHi m))).frozen? ⟨B, 1, none⟩ = _
    rw [World.frozen?_setCell, World.frozen?_setCell]; exact h4
theorem wrap_small (x : Int) (h : -9223372036854775808 ≤ x ∧ x ≤ 9223372036854775807) : IntKind.i64.wrap x = x := by
  simp [IntKind.wrap, IntKind.bits, IntKind.signed]; omega
set_option maxHeartbeats 1000000 in
theorem totAdd (B : Nat) (n k : Int) (hn : -604462909807314587353088 ≤ n ∧ n ≤ 604462909807314587353088) (hk : -9223372036854775808 ≤ k ∧ k ≤ 9223372036854775807) (w : World) (h : TotAt B n w) :
    Calls Tryd.prog 37 #[.pointer (some ⟨B, 0, none⟩), .int .i64 k] w fun e w' => e = .returned (.tuple #[]) ∧ TotAt B (n + k) w' ∧ But B w w' := by
  have h1 : ∀ w, (callFunc 41 #[.int .u64 (wLo n), .int .u64 (IntKind.u64.wrap k), .int .u64 0]).run Tryd.prog w = .ok (.value (.tuple #[.int .u64 (wLo (n + k)), .int .u64 (wC n k)])) w := fun w => by
    have := Any7.bits_Add64 Tryd.bits25 (wLo n) (wLo k) 0 (by omega) w
    rw [add_lo, ← wLo_eq k] at this; exact this
  have q := fun w => signOf k hk w
  have HE : Hid (TotAt B (n + k) ((w.setCell ⟨B, 1, none⟩ (.int .u64 (wLo (n + k)))).setCell ⟨B, 0, none⟩ (.int .i64 (tHi (n + k)))).drew ∧ But B w ((w.setCell ⟨B, 1, none⟩ (.int .u64 (wLo (n + k)))).setCell ⟨B, 0, none⟩ (.int .i64 (tHi (n + k)))).drew) := h.set
  obtain ⟨c1, c2, f1, f2, hB⟩ := h
  have hC := wC_le n k
  have t1 : -65536 ≤ tHi n ∧ tHi n ≤ 65536 := by unfold tHi; omega
  have t2 : -1 ≤ sg k ∧ sg k ≤ 0 := by unfold sg; split <;> omega
  have E : Hid (IntKind.i64.wrap (tHi n + IntKind.i64.wrap (sg k + IntKind.i64.wrap (wC n k : Int))) = tHi (n + k)) := by
    show _ = _
    rw [wrap_small (wC n k : Int) (by omega), wrap_small (sg k + (wC n k : Int)) (by omega), wrap_small _ (by omega)]; exact hi_add n k hk
  clear hn hk t1 t2 hC
  generalize wC n k = c at *
  generalize sg k = s at *
  generalize wLo (n + k) = lo at *
  generalize tHi (n + k) = hi at *
  generalize tHi n = hi0 at *
  go_enter Tryd.func37, Tryd.ntmps37
  go_wp2_with fail
  go_region_with (go_at_call 52; refine (q _).mono ?_; rintro e w1 ⟨rfl, rfl⟩)
  all_goals (rw [E.out]; go_end0; exact ⟨rfl, HE.out⟩)
def sB (n k : Int) : Nat := if wLo n < wLo k + 0 then 1 else 0
theorem hi_sub (n k : Int) (hk : -9223372036854775808 ≤ k ∧ k ≤ 9223372036854775807) : tHi n - (sg k + (sB n k : Int)) = tHi (n - k) := by
  have e1 : (sg k : Int) = if k < 0 then -1 else 0 := rfl
  have e2 : (sB n k : Int) = if wLo n < wLo k + 0 then 1 else 0 := by unfold sB; split <;> rfl
  rw [e1, e2]; unfold tHi wLo; split <;> split <;> omega
theorem sub_lo (n k : Int) : (wLo n + 18446744073709551616 - wLo k - 0) % 18446744073709551616 = wLo (n - k) := by unfold wLo; omega
set_option maxHeartbeats 1000000 in
theorem totSub (B : Nat) (n k : Int) (hn : -604462909807314587353088 ≤ n ∧ n ≤ 604462909807314587353088) (hk : -9223372036854775808 ≤ k ∧ k ≤ 9223372036854775807) (w : World) (h : TotAt B n w) :
    Calls Tryd.prog 38 #[.pointer (some ⟨B, 0, none⟩), .int .i64 k] w fun e w' => e = .returned (.tuple #[]) ∧ TotAt B (n - k) w' ∧ But B w w' := by
  have h1 : ∀ w, (callFunc 53 #[.int .u64 (wLo n), .int .u64 (IntKind.u64.wrap k), .int .u64 0]).run Tryd.prog w = .ok (.value (.tuple #[.int .u64 (wLo (n - k)), .int .u64 (sB n k)])) w := fun w => by
    have := Any7.bits_Sub64 Tryd.bits26 (wLo n) (wLo k) 0 (by omega) w
    rw [sub_lo, ← wLo_eq k] at this; exact this
  have q := fun w => signOf k hk w
  have HE : Hid (TotAt B (n - k) ((w.setCell ⟨B, 1, none⟩ (.int .u64 (wLo (n - k)))).setCell ⟨B, 0, none⟩ (.int .i64 (tHi (n - k)))).drew ∧ But B w ((w.setCell ⟨B, 1, none⟩ (.int .u64 (wLo (n - k)))).setCell ⟨B, 0, none⟩ (.int .i64 (tHi (n - k)))).drew) := h.set
  obtain ⟨c1, c2, f1, f2, hB⟩ := h
  have hC : sB n k ≤ 1 := by unfold sB; split <;> omega
  have t1 : -65536 ≤ tHi n ∧ tHi n ≤ 65536 := by unfold tHi; omega
  have t2 : -1 ≤ sg k ∧ sg k ≤ 0 := by unfold sg; split <;> omega
  have E : Hid (IntKind.i64.wrap (tHi n - IntKind.i64.wrap (sg k + IntKind.i64.wrap (sB n k : Int))) = tHi (n - k)) := by
    show _ = _
    rw [wrap_small (sB n k : Int) (by omega), wrap_small (sg k + (sB n k : Int)) (by omega), wrap_small _ (by omega)]; exact hi_sub n k hk
  clear hn hk t1 t2 hC
  generalize sB n k = c at *
  generalize sg k = s at *
  generalize wLo (n - k) = lo at *
  generalize tHi (n - k) = hi at *
  generalize tHi n = hi0 at *
  go_enter Tryd.func38, Tryd.ntmps38
  go_wp2_with fail
  go_region_with (go_at_call 52; refine (q _).mono ?_; rintro e w1 ⟨rfl, rfl⟩)
  all_goals (rw [E.out]; go_end0; exact ⟨rfl, HE.out⟩)
set_option maxHeartbeats 1000000 in
/-- The sum as a weight. -/
theorem totWeight (B : Nat) (n : Int) (hn : -604462909807314587353088 ≤ n ∧ n ≤ 604462909807314587353088) (r : Int) (ok : Bool) (h1 : (-9223372036854775808 ≤ n ∧ n ≤ 9223372036854775807) → r = n ∧ ok = true) (h2 : ¬ (-9223372036854775808 ≤ n ∧ n ≤ 9223372036854775807) → r = 0 ∧ ok = false) (w : World) (h : TotAt B n w) :
    Calls Tryd.prog 62 #[.pointer (some ⟨B, 0, none⟩)] w fun e w' => e = .returned (.tuple #[.int .i64 r, .bool ok]) ∧ Below w.heap.size w w' := by
  obtain ⟨k, hk, hk1⟩ : ∃ k, wrap64 (wLo n : Int) = k ∧ (-9223372036854775808 ≤ k ∧ k ≤ 9223372036854775807) := ⟨_, rfl, by unfold wrap64; omega⟩
  have hs : (tHi n = sg k) ↔ (-9223372036854775808 ≤ n ∧ n ≤ 9223372036854775807) := by
    rw [← hk]; unfold wrap64 tHi sg wLo; split <;> omega
  have hkn : (-9223372036854775808 ≤ n ∧ n ≤ 9223372036854775807) → k = n := by
    intro h; rw [← hk]; unfold wrap64 wLo; omega
  have q : Hid (∀ d os, Calls Tryd.prog 52 #[.int .i64 k] (grow (redrawn w d) os) fun e w'' => e = .returned (.int .i64 (sg k)) ∧ ∃ p : Regrown, w'' = grow (redrawn w p.d) p.os) :=
    fun d os => Calls.regrown_of ((signOf k hk1 _).mono fun e w' ⟨a, b⟩ => ⟨a, by rw [b]; exact Below.refl _ _⟩)
  obtain ⟨c1, c2, f1, f2, hB⟩ := h
  have g1 := fun d os => cell_regrown c1 d os
  have HK : Hid (wrap64 (wLo n : Int) = k) := hk
  by_cases hi : -9223372036854775808 ≤ n ∧ n ≤ 9223372036854775807
  · obtain ⟨rfl, rfl⟩ := h1 hi
    have e1 := hs.2 hi
    have e2 := hkn hi
    subst e2
    clear h1 h2 hs hkn hk hn hi c1
    rw [e1] at g1
    clear e1
    generalize sg k = s at *
    generalize wLo k = lo at *
    go_enter Tryd.func62, Tryd.ntmps62
    go_wp2_with fail
    rw [HK.out]
    refine wp_region_quiet_below (by kernel_rfl) (by kernel_rfl) ?_
    iterate 7 (quiet_step (exact q.out _ _))
    refine wpQuiet_nil ?_
    intro w6 hw6
    obtain ⟨p6, hw6⟩ := hw6
    have hb6 : Hid (Below w.heap.size w w6) := by rw [hw6]; exact below_regrown w _ _
    clear hw6 g1 q
    go_wp2_with fail
    go_ret2
    exact ⟨rfl, hb6.out⟩
  · obtain ⟨rfl, rfl⟩ := h2 hi
    have e1 : (tHi n == sg k) = false := by simpa using fun e => hi (hs.1 e)
    clear h1 h2 hs hkn hk hn hi c1
    generalize sg k = s at *
    generalize wLo n = lo at *
    generalize tHi n = h0 at *
    go_enter Tryd.func62, Tryd.ntmps62
    go_wp2_with fail
    rw [HK.out]
    refine wp_region_quiet_below (by kernel_rfl) (by kernel_rfl) ?_
    iterate 7 (quiet_step (exact q.out _ _))
    refine wpQuiet_nil ?_
    intro w6 hw6
    obtain ⟨p6, hw6⟩ := hw6
    have hb6 : Hid (Below w.heap.size w w6) := by rw [hw6]; exact below_regrown w _ _
    clear hw6 g1 q
    go_wp2_with fail
    go_ret2
    exact ⟨rfl, hb6.out⟩
end Go.Proofs.YtmpochhcokmaiaaDoor
