/- What join's sums of products answer: three words, as two's complement. -/
import Derived.Test.YtlafokjkpbhckaaGreatDoorZWide
import Derived.Test.YtlafokjkpbhckaaGreatDoorSeq
import Derived.Test.YtlafokjkpbhckaaGreatDoorZRef
import Derived.Deep.RegionWith
import Derived.Test.YtlafokjkpbhckaaGreatDoorOrd
namespace Go.Proofs.YtlafokjkpbhckaaGreatDoor
open Go.RowKit Go.Sort
set_option maxRecDepth 100000
set_option linter.unusedVariables false

def inW2 (n : Int) : Prop := -5575186299632655785383929568162090376495104 ≤ n ∧ n ≤ 5575186299632655785383929568162090376495104
/-- A sum of products stands in block B. -/
def TotW (B : Nat) (n : Int) (w : World) : Prop :=
  w.cell? ⟨B, 0, none⟩ = some (.int .u64 (wHi n)) ∧ w.cell? ⟨B, 1, none⟩ = some (.int .u64 (wMid n)) ∧ w.cell? ⟨B, 2, none⟩ = some (.int .u64 (wLo n)) ∧ w.frozen? ⟨B, 0, none⟩ = false ∧ w.frozen? ⟨B, 1, none⟩ = false ∧ w.frozen? ⟨B, 2, none⟩ = false ∧ B < w.heap.size
theorem TotW.on {B : Nat} {n : Int} {w w' : World} (h : TotW B n w) (hb : Below w.heap.size w w') : TotW B n w' := by
  obtain ⟨h1, h2, h3, f1, f2, f3, h5⟩ := h
  exact ⟨by rw [hb.cell (p := ⟨B, 0, none⟩) h5]; exact h1, by rw [hb.cell (p := ⟨B, 1, none⟩) h5]; exact h2, by rw [hb.cell (p := ⟨B, 2, none⟩) h5]; exact h3, by rw [hb.frozen (p := ⟨B, 0, none⟩) h5]; exact f1, by rw [hb.frozen (p := ⟨B, 1, none⟩) h5]; exact f2, by rw [hb.frozen (p := ⟨B, 2, none⟩) h5]; exact f3, Nat.lt_of_lt_of_le h5 hb.size⟩
/-- The world with a sum put there. -/
def putT (w : World) (B : Nat) (m : Int) : World := ((w.setCell ⟨B, 2, none⟩ (.int .u64 (wLo m))).setCell ⟨B, 1, none⟩ (.int .u64 (wMid m))).setCell ⟨B, 0, none⟩ (.int .u64 (wHi m))
theorem TotW.set {B : Nat} {n m : Int} {w : World} (h : TotW B n w) : TotW B m (putT w B m).drew ∧ But B w (putT w B m).drew := by
  obtain ⟨h1, h2, h3, f1, f2, f3, h5⟩ := h
  have hb : But B w (putT w B m).drew := (((But.set 2 _).trans (But.set 1 _)).trans (But.set 0 _)).trans (But.drewN 1)
  have ne : ∀ a b : Nat, a ≠ b → (⟨B, a, none⟩ : Addr) ≠ ⟨B, b, none⟩ := fun a b h e => h (by have := congrArg Addr.off e; exact this)
  have x1 : (w.setCell ⟨B, 2, none⟩ (.int .u64 (wLo m))).cell? ⟨B, 1, none⟩ = some (.int .u64 (wMid n)) := by rw [World.cell?_setCell_other _ _ _ _ (ne _ _ (by decide))]; exact h2
  have x0 : ((w.setCell ⟨B, 2, none⟩ (.int .u64 (wLo m))).setCell ⟨B, 1, none⟩ (.int .u64 (wMid m))).cell? ⟨B, 0, none⟩ = some (.int .u64 (wHi n)) := by
    rw [World.cell?_setCell_other _ _ _ _ (ne _ _ (by decide)), World.cell?_setCell_other _ _ _ _ (ne _ _ (by decide))]; exact h1
  refine ⟨⟨?_, ?_, ?_, ?_, ?_, ?_, Nat.lt_of_lt_of_le h5 hb.size⟩, hb⟩
  · show (putT w B m).cell? ⟨B, 0, none⟩ = _
    unfold putT; rw [World.cell?_setCell_same _ _ _ x0]
  · show (putT w B m).cell? ⟨B, 1, none⟩ = _
    unfold putT; rw [World.cell?_setCell_other _ _ _ _ (ne _ _ (by decide)), World.cell?_setCell_same _ _ _ x1]
  · show (putT w B m).cell? ⟨B, 2, none⟩ = _
    unfold putT; rw [World.cell?_setCell_other _ _ _ _ (ne _ _ (by decide)), World.cell?_setCell_other _ _ _ _ (ne _ _ (by decide)), World.cell?_setCell_same w _ _ h3]
  · show (putT w B m).frozen? ⟨B, 0, none⟩ = _
    unfold putT; rw [World.frozen?_setCell, World.frozen?_setCell, World.frozen?_setCell]; exact f1
  · show (putT w B m).frozen? ⟨B, 1, none⟩ = _
    unfold putT; rw [World.frozen?_setCell, World.frozen?_setCell, World.frozen?_setCell]; exact f2
  · show (putT w B m).frozen? ⟨B, 2, none⟩ = _
    unfold putT; rw [World.frozen?_setCell, World.frozen?_setCell, World.frozen?_setCell]; exact f3
theorem wLo_eq (k : Int) : IntKind.u64.wrap k = ((wLo k : Nat) : Int) := by unfold wLo; simp [IntKind.wrap, IntKind.bits, IntKind.signed]; omega
/-- The sign's word. -/
def sgW (n : Nat) : Nat := if n < 9223372036854775808 then 0 else 18446744073709551615
theorem jtSign (n : Nat) (h : n < 18446744073709551616) (w : World) :
    Calls Tryz.prog 45 #[.int .u64 n] w fun e w' => e = .returned (.int .u64 (sgW n)) ∧ w' = w := by
  have E : Hid (IntKind.u64.wrap (wrap64 (n : Int) / 9223372036854775808) = ((sgW n : Nat) : Int)) := by
    show _ = _
    rw [IntKind.wrap_u64]
    unfold sgW wrap64
    split <;> omega
  go_enter Tryz.func45, Tryz.ntmps45
  go_wp2_with fail
  rw [E.out]
  go_ret
  exact ⟨rfl, rfl⟩
theorem mul_lo (v u : Int) : wLo v * wLo u % 18446744073709551616 = wLo (v * u) := by
  have h : (((wLo v * wLo u % 18446744073709551616 : Nat)) : Int) = (v * u) % 18446744073709551616 := by
    have e1 : ((wLo v : Nat) : Int) = v % 18446744073709551616 := by unfold wLo; omega
    have e2 : ((wLo u : Nat) : Int) = u % 18446744073709551616 := by unfold wLo; omega
    rw [Int.natCast_emod, Int.natCast_mul, e1, e2]
    exact (Int.mul_emod v u _).symm
  have h2 : ((wLo (v * u) : Nat) : Int) = (v * u) % 18446744073709551616 := by unfold wLo; omega
  omega
theorem mul_hi (v u : Int) (hv : -9223372036854775808 ≤ v ∧ v ≤ 9223372036854775807) (hu : -9223372036854775808 ≤ u ∧ u ≤ 9223372036854775807) :
    (((wLo v * wLo u / 18446744073709551616 : Nat)) : Int) = v * u / 18446744073709551616 + (if v < 0 then u else 0) + (if u < 0 then v else 0) + (if v < 0 ∧ u < 0 then 18446744073709551616 else 0) := by
  rw [Int.natCast_ediv, Int.natCast_mul]
  have e1 : ((wLo v : Nat) : Int) = v + 18446744073709551616 * (if v < 0 then 1 else 0) := by unfold wLo; split <;> omega
  have e2 : ((wLo u : Nat) : Int) = u + 18446744073709551616 * (if u < 0 then 1 else 0) := by unfold wLo; split <;> omega
  rw [e1, e2]
  by_cases a : v < 0
  · by_cases b : u < 0
    · simp only [if_pos a, if_pos b, if_pos (And.intro a b)]
      have : (v + 18446744073709551616 * 1) * (u + 18446744073709551616 * 1) = v * u + 18446744073709551616 * (u + v + 18446744073709551616) := by
        rw [Int.add_mul, Int.mul_add, Int.mul_one, Int.mul_add]; omega
      rw [this, show ((18446744073709551616 : Nat) : Int) = 18446744073709551616 by rfl, Int.add_mul_ediv_left _ _ (by decide)]; omega
    · simp only [if_pos a, if_neg b, if_neg (fun h : v < 0 ∧ u < 0 => b h.2)]
      have : (v + 18446744073709551616 * 1) * (u + 18446744073709551616 * 0) = v * u + 18446744073709551616 * u := by
        rw [Int.mul_one, Int.mul_zero, Int.add_zero, Int.add_mul]
      rw [this, show ((18446744073709551616 : Nat) : Int) = 18446744073709551616 by rfl, Int.add_mul_ediv_left _ _ (by decide)]; omega
  · by_cases b : u < 0
    · simp only [if_neg a, if_pos b, if_neg (fun h : v < 0 ∧ u < 0 => a h.1)]
      have : (v + 18446744073709551616 * 0) * (u + 18446744073709551616 * 1) = v * u + 18446744073709551616 * v := by
        rw [Int.mul_one, Int.mul_zero, Int.add_zero, Int.mul_add, Int.mul_comm v 18446744073709551616]
      rw [this, show ((18446744073709551616 : Nat) : Int) = 18446744073709551616 by rfl, Int.add_mul_ediv_left _ _ (by decide)]; omega
    · simp only [if_neg a, if_neg b, if_neg (fun h : v < 0 ∧ u < 0 => a h.1)]
      have : (v + 18446744073709551616 * 0) * (u + 18446744073709551616 * 0) = v * u := by rw [Int.mul_zero, Int.add_zero, Int.add_zero]
      rw [this, show ((18446744073709551616 : Nat) : Int) = 18446744073709551616 by rfl]; omega
theorem mul_two (v u : Int) (hv : -9223372036854775808 ≤ v ∧ v ≤ 9223372036854775807) (hu : -9223372036854775808 ≤ u ∧ u ≤ 9223372036854775807) : -85070591730234615865843651857942052864 ≤ v * u ∧ v * u ≤ 85070591730234615865843651857942052864 := by
  have h1 : v.natAbs ≤ 9223372036854775808 := by omega
  have h2 : u.natAbs ≤ 9223372036854775808 := by omega
  have h3 := Nat.mul_le_mul h1 h2
  rw [← Int.natAbs_mul] at h3
  omega
theorem sg_hi (k : Int) (h : -85070591730234615865843651857942052864 ≤ k ∧ k ≤ 85070591730234615865843651857942052864) : sgW (wMid k) = wHi k := by
  unfold sgW wMid wHi; split <;> omega
set_option maxHeartbeats 4000000 in
theorem jtAdd (B : Nat) (n v u : Int) (hn : inW2 n) (hv : -9223372036854775808 ≤ v ∧ v ≤ 9223372036854775807) (hu : -9223372036854775808 ≤ u ∧ u ≤ 9223372036854775807) (w : World) (h : TotW B n w) :
    Calls Tryz.prog 43 #[.pointer (some ⟨B, 0, none⟩), .int .i64 v, .int .i64 u] w fun e w' => e = .returned (.tuple #[]) ∧ TotW B (n + v * u) w' ∧ But B w w' := by
  obtain ⟨mh, hmh⟩ : ∃ m : Int, m = (((wLo v * wLo u / 18446744073709551616 : Nat)) : Int) := ⟨_, rfl⟩
  obtain ⟨k, hk⟩ : ∃ k, k = v * u := ⟨_, rfl⟩
  have hkb := mul_two v u hv hu
  have hM : Hid (∀ w, Calls Tryz.prog 47 #[.int .u64 (IntKind.u64.wrap v), .int .u64 (IntKind.u64.wrap u)] w fun e w' => e = .returned (.tuple #[.int .u64 mh, .int .u64 ((wLo k : Nat) : Int)]) ∧ w' = w) := fun w => by
    have := Any.bits_Mul64 Tryz.bits264 (wLo v) (wLo u) (wLo_lt v) (wLo_lt u) w
    rw [mul_lo, ← hmh, ← hk] at this
    rw [wLo_eq v, wLo_eq u]
    exact this
  have hX := mul_hi v u hv hu
  rw [← hmh, ← hk] at hX
  rw [← hk] at hkb ⊢
  have EM : Hid (IntKind.u64.wrap (k / 18446744073709551616) = ((wMid k : Nat) : Int)) := by show _ = _; rw [IntKind.wrap_u64]; unfold wMid; omega
  have h1 : Hid (∀ w, (callFunc 67 #[.int .u64 (wLo n), .int .u64 (wLo k), .int .u64 0]).run Tryz.prog w = .ok (.value (.tuple #[.int .u64 (wLo (n + k)), .int .u64 (wC n k)])) w) := fun w => by
    have := Any7.bits_Add64 Tryz.bits25 (wLo n) (wLo k) 0 (by omega) w
    rw [add_lo] at this; exact this
  have h2 : Hid (∀ w, (callFunc 67 #[.int .u64 (wMid n), .int .u64 (wMid k), .int .u64 (wC n k)]).run Tryz.prog w = .ok (.value (.tuple #[.int .u64 (wMid (n + k)), .int .u64 (wD n k)])) w) := fun w => by
    have := Any7.bits_Add64 Tryz.bits25 (wMid n) (wMid k) (wC n k) (wC_le n k) w
    have e : (wMid n + wMid k + wC n k) % 18446744073709551616 = wMid (n + k) := add_mid n k
    rw [e] at this; exact this
  have q : Hid (∀ w, Calls Tryz.prog 45 #[.int .u64 (wMid k)] w fun e w' => e = .returned (.int .u64 (wHi k)) ∧ w' = w) := fun w => by have := jtSign (wMid k) (wMid_lt k) w; rwa [sg_hi k hkb] at this
  have EH : Hid (IntKind.u64.wrap ((wHi n : Int) + IntKind.u64.wrap ((wHi k : Int) + (wD n k : Int))) = ((wHi (n + k) : Nat) : Int)) := by
    show _ = _
    have : (wHi n + wHi k + wD n k) % 18446744073709551616 = wHi (n + k) := add_hi n k
    rw [IntKind.wrap_u64, IntKind.wrap_u64, ← this]; omega
  have HE : Hid (TotW B (n + k) (putT w B (n + k)).drew ∧ But B w (putT w B (n + k)).drew) := h.set
  obtain ⟨c1, c2, c3, f1, f2, f3, hB⟩ := h
  unfold putT at HE
  clear hn hmh
  obtain ⟨V, hV⟩ : ∃ V : Int, V = k / 18446744073709551616 := ⟨_, rfl⟩
  have HV : Hid (0 ≤ v → 0 ≤ u → 0 ≤ V ∧ V < 18446744073709551616) := fun a b => by
    have : 0 ≤ k := by rw [hk]; exact Int.mul_nonneg a b
    omega
  rw [← hV] at EM hX
  clear hV hk hkb
  have W0 : ∀ x y : Int, IntKind.u64.wrap (x + y - IntKind.u64.wrap y) = IntKind.u64.wrap x := fun x y => by simp only [IntKind.wrap_u64]; omega
  have W1 : ∀ x y z : Int, IntKind.u64.wrap (IntKind.u64.wrap (x + y + z + 18446744073709551616 - IntKind.u64.wrap y) - IntKind.u64.wrap z) = IntKind.u64.wrap x := fun x y z => by simp only [IntKind.wrap_u64]; omega
  have HW0 : Hid (∀ x y : Int, IntKind.u64.wrap (x + y - IntKind.u64.wrap y) = IntKind.u64.wrap x) := W0
  have HW1 : Hid (∀ x y z : Int, IntKind.u64.wrap (IntKind.u64.wrap (x + y + z + 18446744073709551616 - IntKind.u64.wrap y) - IntKind.u64.wrap z) = IntKind.u64.wrap x) := W1
  clear W0 W1
  go_enter Tryz.func43, Tryz.ntmps43
  go_wp2_with fail
  refine (hM.out _).mono ?_
  rintro e w1 ⟨rfl, rfl⟩
  clear hM
  by_cases k1 : v < 0
  · by_cases k2 : u < 0
    · have E : Hid (IntKind.u64.wrap (IntKind.u64.wrap (mh - IntKind.u64.wrap u) - IntKind.u64.wrap v) = ((wMid k : Nat) : Int)) := by
        show _ = _
        rw [hX, if_pos k1, if_pos k2, if_pos ⟨k1, k2⟩, HW1.out]; exact EM.out
      clear hX
      clear HW0 HW1 EM HV
      go_wp2_with fail
      rw [E.out, h1.out]
      have h2 := h2.out
      go_wp2_with fail
      go_region_with (go_at_call 45; refine (q.out _).mono ?_; rintro e w1 ⟨rfl, rfl⟩)
      all_goals (rw [EH.out]; go_end0; exact ⟨rfl, HE.out⟩)
    · have E : Hid (IntKind.u64.wrap (mh - u) = ((wMid k : Nat) : Int)) := by
        show _ = _
        rw [hX, if_pos k1, if_neg k2, if_neg (fun h => k2 h.2), Int.add_zero, Int.add_zero, Int.add_sub_cancel]; exact EM.out
      clear hX
      clear HW0 HW1 EM HV
      go_wp2_with fail
      rw [E.out, h1.out]
      have h2 := h2.out
      go_wp2_with fail
      go_region_with (go_at_call 45; refine (q.out _).mono ?_; rintro e w1 ⟨rfl, rfl⟩)
      all_goals (rw [EH.out]; go_end0; exact ⟨rfl, HE.out⟩)
  · by_cases k2 : u < 0
    · have E : Hid (IntKind.u64.wrap (mh - v) = ((wMid k : Nat) : Int)) := by
        show _ = _
        rw [hX, if_neg k1, if_pos k2, if_neg (fun h => k1 h.1), Int.add_zero, Int.add_zero, Int.add_sub_cancel]; exact EM.out
      clear hX
      clear HW0 HW1 EM HV
      go_wp2_with fail
      rw [E.out, h1.out]
      have h2 := h2.out
      go_wp2_with fail
      go_region_with (go_at_call 45; refine (q.out _).mono ?_; rintro e w1 ⟨rfl, rfl⟩)
      all_goals (rw [EH.out]; go_end0; exact ⟨rfl, HE.out⟩)
    · have E : Hid (mh = ((wMid k : Nat) : Int)) := by
        show _ = _
        rw [← EM.out, hX, if_neg k1, if_neg k2, if_neg (fun h => k1 h.1), Int.add_zero, Int.add_zero, Int.add_zero]
        have hx := HV.out (by omega) (by omega)
        rw [IntKind.wrap_u64]; omega
      clear hX
      clear HW0 HW1 EM HV
      go_wp2_with fail
      rw [E.out, h1.out]
      have h2 := h2.out
      go_wp2_with fail
      go_region_with (go_at_call 45; refine (q.out _).mono ?_; rintro e w1 ⟨rfl, rfl⟩)
      all_goals (rw [EH.out]; go_end0; exact ⟨rfl, HE.out⟩)
theorem wt_words (n : Int) (hn : inW2 n) : ((-9223372036854775808 ≤ n ∧ n ≤ 9223372036854775807) ↔ (wMid n = sgW (wLo n) ∧ wHi n = sgW (wLo n))) ∧ ((-9223372036854775808 ≤ n ∧ n ≤ 9223372036854775807) → wrap64 (wLo n : Int) = n) := by
  unfold inW2 at hn
  have h1 : wLo n < 18446744073709551616 := wLo_lt n
  refine ⟨?_, fun h => by unfold wrap64 wLo; omega⟩
  unfold sgW
  by_cases h : wLo n < 9223372036854775808
  · rw [if_pos h]; unfold wLo at *; unfold wMid wHi; omega
  · rw [if_neg h]; unfold wLo at *; unfold wMid wHi; omega
set_option maxHeartbeats 2000000 in
/-- The sum as a weight. -/
theorem jtWeight (n : Int) (hn : inW2 n) (r : Int) (ok : Bool) (h1 : (-9223372036854775808 ≤ n ∧ n ≤ 9223372036854775807) → r = n ∧ ok = true) (h2 : ¬ (-9223372036854775808 ≤ n ∧ n ≤ 9223372036854775807) → r = 0 ∧ ok = false) (w : World) :
    Calls Tryz.prog 21 #[wV n] w fun e w' => e = .returned (.tuple #[.int .i64 r, .bool ok]) ∧ Below w.heap.size w w' := by
  obtain ⟨hw1, hw2⟩ := wt_words n hn
  have q : Hid (∀ w, Calls Tryz.prog 45 #[.int .u64 (wLo n)] w fun e w' => e = .returned (.int .u64 (sgW (wLo n))) ∧ w' = w) := fun w => jtSign (wLo n) (wLo_lt n) w
  unfold wV
  by_cases hi : -9223372036854775808 ≤ n ∧ n ≤ 9223372036854775807
  · obtain ⟨rfl, rfl⟩ := h1 hi
    obtain ⟨e1, e2⟩ := hw1.1 hi
    have e3 := hw2 hi
    rw [e1, e2]
    have E3 : Hid (wrap64 (wLo r : Int) = r) := e3
    clear h1 h2 hw1 hw2 hn hi e1 e2 e3
    generalize sgW (wLo r) = s at *
    generalize wLo r = lo at *
    go_enter Tryz.func21, Tryz.ntmps21
    go_wp2_with fail
    refine (q.out _).mono ?_
    rintro e w1 ⟨rfl, rfl⟩
    clear q
    go_wp2_with fail
    rw [E3.out]
    go_ret2
    exact ⟨rfl, one_box⟩
  · obtain ⟨rfl, rfl⟩ := h2 hi
    have e0 := fun h => hi (hw1.2 h)
    clear h1 h2 hw1 hw2 hn hi
    generalize sgW (wLo n) = s at *
    generalize wLo n = lo at *
    generalize wMid n = mi at *
    generalize wHi n = hi at *
    by_cases hm : mi = s
    · have hh : hi ≠ s := fun h => e0 ⟨hm, h⟩
      have bh : ((hi : Int) == (s : Int)) = false := by simp; omega
      subst hm
      clear e0 hh
      go_enter Tryz.func21, Tryz.ntmps21
      go_wp2_with fail
      refine (q.out _).mono ?_
      rintro e w1 ⟨rfl, rfl⟩
      clear q
      go_wp2_with fail
      go_ret2
      exact ⟨rfl, one_box⟩
    · have bm : ((mi : Int) == (s : Int)) = false := by simp; omega
      clear e0 hm
      go_enter Tryz.func21, Tryz.ntmps21
      go_wp2_with fail
      refine (q.out _).mono ?_
      rintro e w1 ⟨rfl, rfl⟩
      clear q
      go_wp2_with fail
      go_ret2
      exact ⟨rfl, one_box⟩
end Go.Proofs.YtlafokjkpbhckaaGreatDoor
