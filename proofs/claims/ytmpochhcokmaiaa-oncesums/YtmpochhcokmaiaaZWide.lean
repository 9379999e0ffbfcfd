/- The document's own wide numbers: three words, of a number modulo 2 to the 192. -/
import Derived.Test.YtmpochhcokmaiaaCmp
import Derived.Shelf.Spec.BitsCarry
import Derived.Shelf.Bits.Mul64
import Derived.Laws.Bits64
namespace Go.Proofs
open Go.Shelf
def Try.bits_ren : Go.Shelf.Ren := ⟨fun | 25 => 27 | 264 => 24 | n => n, fun | 22 => 50 | 46 => 67 | 53 => 50 | n => n, fun | n => n⟩
theorem Try.bits25 : Go.Proofs.Lays7.n25 Try.prog Try.bits_ren := {
  mixed := by kernel_rfl
  f25 := Try.func27.trans (congrArg some (by kernel_rfl))
  t22 := Try.underlying50
  a22 := Try.isAgg50
  z22 := Try.sizeOf50
  v22 := Try.zeroValue50
  i22 := by kernel_rfl }
theorem Try.bits264 : Go.Proofs.Lays.n264 Try.prog Try.bits_ren := {
  mixed := by kernel_rfl
  f264 := Try.func24.trans (congrArg some (by kernel_rfl))
  t46 := Try.underlying67
  a46 := Try.isAgg67
  z46 := Try.sizeOf67
  v46 := Try.zeroValue67
  t53 := Try.underlying50
  a53 := Try.isAgg50
  z53 := Try.sizeOf50
  v53 := Try.zeroValue50 }
end Go.Proofs
namespace Go.Proofs.Ytmpochhcokmaiaa
open Go.RowKit
set_option maxRecDepth 100000

/-- The words of a number. -/
def wLo (n : Int) : Nat := (n % 18446744073709551616).toNat
def wMid (n : Int) : Nat := (n / 18446744073709551616 % 18446744073709551616).toNat
def wHi (n : Int) : Nat := (n / 18446744073709551616 / 18446744073709551616 % 18446744073709551616).toNat
def wV (n : Int) : Value := .agg #[.int .u64 (wHi n), .int .u64 (wMid n), .int .u64 (wLo n)]
theorem add_lo (a b : Int) : (wLo a + wLo b + 0) % 18446744073709551616 = wLo (a + b) := by unfold wLo; omega
theorem add_mid (a b : Int) : (wMid a + wMid b + (wLo a + wLo b + 0) / 18446744073709551616) % 18446744073709551616 = wMid (a + b) := by unfold wLo wMid; omega
theorem add_hi (a b : Int) : (wHi a + wHi b + (wMid a + wMid b + (wLo a + wLo b + 0) / 18446744073709551616) / 18446744073709551616) % 18446744073709551616 = wHi (a + b) := by unfold wLo wMid wHi; omega
def wC (a b : Int) : Nat := (wLo a + wLo b + 0) / 18446744073709551616
def wD (a b : Int) : Nat := (wMid a + wMid b + wC a b) / 18446744073709551616
def wE (a b : Int) : Nat := (wHi a + wHi b + wD a b) / 18446744073709551616
theorem wLo_lt (a : Int) : wLo a < 18446744073709551616 := by unfold wLo; omega
theorem wMid_lt (a : Int) : wMid a < 18446744073709551616 := by unfold wMid; omega
theorem wC_le (a b : Int) : wC a b ≤ 1 := by have := wLo_lt a; have := wLo_lt b; unfold wC; omega
theorem wD_le (a b : Int) : wD a b ≤ 1 := by have := wMid_lt a; have := wMid_lt b; have := wC_le a b; unfold wD; omega

theorem below2 {w : World} {x y : Obj} : Below w.heap.size w ((w.alloc x).alloc y) := ((Below.refl _ _).alloc (Nat.le_refl _) _).alloc (by simp) _
theorem below3 {w : World} {x y z : Obj} : Below w.heap.size w (((w.alloc x).alloc y).alloc z) := below2.alloc (by simp; omega) _
set_option maxHeartbeats 1000000 in
theorem refPlus (a b : Int) (w : World) :
    Calls Try.prog 23 #[wV a, wV b] w fun e w' => e = .returned (wV (a + b)) ∧ Below w.heap.size w w' := by
  unfold wV
  have h1 : ∀ w, (callFunc 27 #[.int .u64 (wLo a), .int .u64 (wLo b), .int .u64 0]).run Try.prog w = .ok (.value (.tuple #[.int .u64 (wLo (a + b)), .int .u64 (wC a b)])) w := fun w => by
    have := Any7.bits_Add64 Try.bits25 (wLo a) (wLo b) 0 (by omega) w
    rw [add_lo] at this; exact this
  have h2 : ∀ w, (callFunc 27 #[.int .u64 (wMid a), .int .u64 (wMid b), .int .u64 (wC a b)]).run Try.prog w = .ok (.value (.tuple #[.int .u64 (wMid (a + b)), .int .u64 (wD a b)])) w := fun w => by
    have := Any7.bits_Add64 Try.bits25 (wMid a) (wMid b) (wC a b) (wC_le a b) w
    rw [show (wMid a + wMid b + wC a b) % 18446744073709551616 = wMid (a + b) from add_mid a b] at this; exact this
  have h3 : ∀ w, (callFunc 27 #[.int .u64 (wHi a), .int .u64 (wHi b), .int .u64 (wD a b)]).run Try.prog w = .ok (.value (.tuple #[(.int .u64 (wHi (a + b))), .int .u64 (wE a b)])) w := fun w => by
    have := Any7.bits_Add64 Try.bits25 (wHi a) (wHi b) (wD a b) (wD_le a b) w
    rw [show (wHi a + wHi b + wD a b) % 18446744073709551616 = wHi (a + b) from add_hi a b] at this; exact this
  go_enter Try.func23, Try.ntmps23
  go_wp2
  exact bodyPost_ret (v := .agg #[.int .u64 (wHi (a + b)), .int .u64 (wMid (a + b)), .int .u64 (wLo (a + b))]) (by simp [results, Try.results23, go_sem]) rfl ⟨rfl, below3⟩
theorem not64 (x : Nat) (h : x < 18446744073709551616) : bits .xor .u64 IntKind.u64.max (x : Int) = ((18446744073709551615 - x : Nat) : Int) := by
  have e : IntKind.u64.max = ((18446744073709551615 : Nat) : Int) := rfl
  rw [e, bits_xor_u64_nat _ _ (by omega) h]
  have h1 : (BitVec.allOnes 64 ^^^ BitVec.ofNat 64 x).toNat = 18446744073709551615 - x := by
    rw [BitVec.allOnes_xor, BitVec.toNat_not, BitVec.toNat_ofNat, Nat.mod_eq_of_lt (by omega)]
  have h2 : (BitVec.allOnes 64 ^^^ BitVec.ofNat 64 x).toNat = 18446744073709551615 ^^^ x := by
    rw [BitVec.toNat_xor, BitVec.toNat_allOnes, BitVec.toNat_ofNat, Nat.mod_eq_of_lt (show x < 2 ^ 64 by omega)]
  rw [← h2, h1]
theorem wHi_lt (a : Int) : wHi a < 18446744073709551616 := by unfold wHi; omega
theorem not_lo (a : Int) : 18446744073709551615 - wLo a = wLo (-a - 1) := by unfold wLo; omega
theorem not_mid (a : Int) : 18446744073709551615 - wMid a = wMid (-a - 1) := by unfold wMid; omega
theorem not_hi (a : Int) : 18446744073709551615 - wHi a = wHi (-a - 1) := by unfold wHi; omega
set_option maxHeartbeats 1000000 in
theorem refMinus (a : Int) (w : World) :
    Calls Try.prog 26 #[wV a] w fun e w' => e = .returned (wV (-a)) ∧ Below w.heap.size w w' := by
  have q := fun w => refPlus (-a - 1) 1 w
  rw [show -a - 1 + 1 = -a by omega] at q
  unfold wV at q ⊢
  generalize wHi (-a) = h' at *
  generalize wMid (-a) = m' at *
  generalize wLo (-a) = l' at *
  go_enter Try.func26, Try.ntmps26
  go_wp2_with fail
  rw [not64 _ (wHi_lt a), not64 _ (wMid_lt a), not64 _ (wLo_lt a), not_lo, not_mid, not_hi]
  refine (q _).mono ?_
  rintro e w1 ⟨rfl, hb1⟩
  have hB : Hid (Below w.heap.size w w1) := below2.trans (hb1.mono (by simp; omega))
  have cc := fun o => hb1.cell (p := ⟨w.heap.size + 1, o, none⟩) (by simp)
  have ff := fun o => hb1.frozen (p := ⟨w.heap.size + 1, o, none⟩) (by simp)
  clear hb1 q
  go_wp2
  exact bodyPost_ret (v := .agg #[.int .u64 h', .int .u64 m', .int .u64 l']) (by simp [results, Try.results26, go_sem, cc]) rfl ⟨rfl, ((hB.out.setCell (p := ⟨w.heap.size + 1, 0, none⟩) (by simp) _).setCell (p := ⟨w.heap.size + 1, 1, none⟩) (by simp) _).setCell (p := ⟨w.heap.size + 1, 2, none⟩) (by simp) _⟩
set_option maxHeartbeats 1000000 in
theorem refSize (n : Int) (h0 : -9223372036854775808 ≤ n) (h1 : n ≤ 9223372036854775807) (w : World) :
    Calls Try.prog 25 #[.int .i64 n] w fun e w' => e = .returned (.int .u64 (n.natAbs : Nat)) ∧ w' = w := by
  by_cases h : n < 0
  · have E : Hid ((-(n + 1) + 1 : Int) = (n.natAbs : Nat)) := by show _ = _; omega
    go_enter Try.func25, Try.ntmps25
    go_wp2
    rw [E.out]
    go_ret
    exact ⟨rfl, rfl⟩
  · have E : Hid ((n : Int) = (n.natAbs : Nat)) := by show _ = _; omega
    go_enter Try.func25, Try.ntmps25
    go_wp2
    go_ret
    exact ⟨by show Ending.returned (.int .u64 n) = _; rw [← E.out], rfl⟩
theorem mul_words (p : Nat) (h : p < 340282366920938463463374607431768211456) : wV (p : Int) = .agg #[.int .u64 0, .int .u64 ((p / 18446744073709551616 : Nat) : Int), .int .u64 ((p % 18446744073709551616 : Nat) : Int)] := by
  have e1 : wHi (p : Int) = 0 := by unfold wHi; omega
  have e2 : wMid (p : Int) = p / 18446744073709551616 := by unfold wMid; omega
  have e3 : wLo (p : Int) = p % 18446744073709551616 := by unfold wLo; omega
  unfold wV; rw [e1, e2, e3]; rfl
theorem abs_mul_lt (a b : Int) (ha : -9223372036854775808 ≤ a ∧ a ≤ 9223372036854775807) (hb : -9223372036854775808 ≤ b ∧ b ≤ 9223372036854775807) : a.natAbs * b.natAbs < 340282366920938463463374607431768211456 := by
  have h1 : a.natAbs ≤ 9223372036854775808 := by omega
  have h2 : b.natAbs ≤ 9223372036854775808 := by omega
  exact Nat.lt_of_le_of_lt (Nat.mul_le_mul h1 h2) (by decide)
theorem abs_same (a b : Int) (h : decide (a < 0) = decide (b < 0)) : ((a.natAbs * b.natAbs : Nat) : Int) = a * b := by
  rw [Int.natCast_mul]
  by_cases ha : a < 0
  · have hb : b < 0 := by simpa [ha] using h.symm
    rw [show (a.natAbs : Int) = -a by omega, show (b.natAbs : Int) = -b by omega, Int.neg_mul_neg]
  · have hb : ¬ b < 0 := by simpa [ha] using h.symm
    rw [show (a.natAbs : Int) = a by omega, show (b.natAbs : Int) = b by omega]
theorem abs_other (a b : Int) (h : decide (a < 0) ≠ decide (b < 0)) : -((a.natAbs * b.natAbs : Nat) : Int) = a * b := by
  rw [Int.natCast_mul]
  by_cases ha : a < 0
  · have hb : ¬ b < 0 := by intro hb; simp [ha, hb] at h
    rw [show (a.natAbs : Int) = -a by omega, show (b.natAbs : Int) = b by omega, Int.neg_mul, Int.neg_neg]
  · have hb : b < 0 := by
      by_cases hb : b < 0
      · exact hb
      · simp [ha, hb] at h
    rw [show (a.natAbs : Int) = a by omega, show (b.natAbs : Int) = -b by omega, Int.mul_neg, Int.neg_neg]
set_option maxHeartbeats 1000000 in
theorem refTimes (a b : Int) (ha : -9223372036854775808 ≤ a ∧ a ≤ 9223372036854775807) (hb : -9223372036854775808 ≤ b ∧ b ≤ 9223372036854775807) (w : World) :
    Calls Try.prog 22 #[.int .i64 a, .int .i64 b] w fun e w' => e = .returned (wV (a * b)) ∧ Below w.heap.size w w' := by
  have q1 := fun w => refSize a ha.1 ha.2 w
  have q2 := fun w => refSize b hb.1 hb.2 w
  have q3 := fun w => Any.bits_Mul64 Try.bits264 a.natAbs b.natAbs (by omega) (by omega) w
  have hm := mul_words (a.natAbs * b.natAbs) (abs_mul_lt a b ha hb)
  have q4 := fun w => refMinus ((a.natAbs * b.natAbs : Nat) : Int) w
  by_cases hs : decide (a < 0) = decide (b < 0)
  · have E := abs_same a b hs
    rw [E] at hm
    have HM : Hid (wV (a * b) = .agg #[.int .u64 0, .int .u64 ((a.natAbs * b.natAbs / 18446744073709551616 : Nat) : Int), .int .u64 ((a.natAbs * b.natAbs % 18446744073709551616 : Nat) : Int)]) := hm
    clear q4 hm E
    generalize a * b = p at *
    generalize a.natAbs * b.natAbs / 18446744073709551616 = hi at *
    generalize a.natAbs * b.natAbs % 18446744073709551616 = lo at *
    go_enter Try.func22, Try.ntmps22
    go_wp2_with fail
    refine (q1 _).mono ?_
    rintro e w1 ⟨rfl, rfl⟩
    go_wp2_with fail
    refine (q2 _).mono ?_
    rintro e w1 ⟨rfl, rfl⟩
    go_wp2_with fail
    refine (q3 _).mono ?_
    rintro e w1 ⟨rfl, rfl⟩
    go_wp2_with fail
    rw [HM.out]
    exact bodyPost_ret (v := .agg #[.int .u64 0, .int .u64 hi, .int .u64 lo]) (by simp [results, Try.results22, go_sem]) rfl ⟨rfl, below2⟩
  · have E := abs_other a b hs
    rw [hm, E] at q4
    have hx : (!(decide (a < 0) == decide (b < 0))) = true := by simpa using hs
    have HV : Hid (wV (a * b) = .agg #[.int .u64 (wHi (a * b)), .int .u64 (wMid (a * b)), .int .u64 (wLo (a * b))]) := rfl
    clear hm E hs
    generalize wV (a * b) = v at *
    generalize wHi (a * b) = h' at *
    generalize wMid (a * b) = m' at *
    generalize wLo (a * b) = l' at *
    have hv := HV.out
    clear HV
    subst hv
    generalize a.natAbs * b.natAbs / 18446744073709551616 = hi at *
    generalize a.natAbs * b.natAbs % 18446744073709551616 = lo at *
    go_enter Try.func22, Try.ntmps22
    go_wp2_with fail
    refine (q1 _).mono ?_
    rintro e w1 ⟨rfl, rfl⟩
    go_wp2_with fail
    refine (q2 _).mono ?_
    rintro e w1 ⟨rfl, rfl⟩
    go_wp2_with fail
    refine (q3 _).mono ?_
    rintro e w1 ⟨rfl, rfl⟩
    go_wp2_with fail
    refine (q4 _).mono ?_
    rintro e w1 ⟨rfl, hb1⟩
    have hB : Hid (Below w.heap.size w w1) := below2.trans (hb1.mono (by simp; omega))
    have cc := fun o => hb1.cell (p := ⟨w.heap.size, o, none⟩) (by simp; omega)
    have ff := fun o => hb1.frozen (p := ⟨w.heap.size, o, none⟩) (by simp; omega)
    clear hb1 q1 q2 q3 q4
    go_wp2
    exact bodyPost_ret (v := .agg #[.int .u64 h', .int .u64 m', .int .u64 l']) (by simp [results, Try.results22, go_sem, cc]) rfl ⟨rfl, ((hB.out.setCell (p := ⟨w.heap.size, 0, none⟩) (by simp) _).setCell (p := ⟨w.heap.size, 1, none⟩) (by simp) _).setCell (p := ⟨w.heap.size, 2, none⟩) (by simp) _⟩
/-- A wide number as an int64. -/
theorem wide_cases (n : Int) (h0 : -3138550867693340381917894711603833208051177722232017256448 ≤ n) (h1 : n < 3138550867693340381917894711603833208051177722232017256448) :
    (0 ≤ n ∧ n ≤ 9223372036854775807 ∧ (wHi n : Int) = 0 ∧ (wMid n : Int) = 0 ∧ (wLo n : Int) = n) ∨ (-9223372036854775808 ≤ n ∧ n < 0 ∧ (wHi n : Int) = 18446744073709551615 ∧ (wMid n : Int) = 18446744073709551615 ∧ (wLo n : Int) = n + 18446744073709551616) ∨
    ((n < -9223372036854775808 ∨ 9223372036854775807 < n) ∧ (((wHi n : Int) ≠ 0 ∧ (wHi n : Int) ≠ 18446744073709551615) ∨ ((wHi n : Int) = 0 ∧ (wMid n : Int) ≠ 0) ∨ ((wHi n : Int) = 0 ∧ (wMid n : Int) = 0 ∧ 9223372036854775808 ≤ (wLo n : Int)) ∨ ((wHi n : Int) = 18446744073709551615 ∧ (wMid n : Int) ≠ 18446744073709551615) ∨ ((wHi n : Int) = 18446744073709551615 ∧ (wMid n : Int) = 18446744073709551615 ∧ (wLo n : Int) < 9223372036854775808))) := by
  unfold wHi wMid wLo; omega
set_option maxHeartbeats 1000000 in
theorem narrow_of (n hi mid lo : Int) (D : (0 ≤ n ∧ n ≤ 9223372036854775807 ∧ hi = 0 ∧ mid = 0 ∧ lo = n) ∨ (-9223372036854775808 ≤ n ∧ n < 0 ∧ hi = 18446744073709551615 ∧ mid = 18446744073709551615 ∧ lo = n + 18446744073709551616) ∨
    ((n < -9223372036854775808 ∨ 9223372036854775807 < n) ∧ ((hi ≠ 0 ∧ hi ≠ 18446744073709551615) ∨ (hi = 0 ∧ mid ≠ 0) ∨ (hi = 0 ∧ mid = 0 ∧ 9223372036854775808 ≤ lo) ∨ (hi = 18446744073709551615 ∧ mid ≠ 18446744073709551615) ∨ (hi = 18446744073709551615 ∧ mid = 18446744073709551615 ∧ lo < 9223372036854775808)))) (r : Int) (is : Bool)
    (hr : -9223372036854775808 ≤ n ∧ n ≤ 9223372036854775807 → r = n ∧ is = true) (hr' : ¬ (-9223372036854775808 ≤ n ∧ n ≤ 9223372036854775807) → r = 0 ∧ is = false) (w : World) :
    Calls Try.prog 18 #[.agg #[.int .u64 hi, .int .u64 mid, .int .u64 lo]] w fun e w' => e = .returned (.tuple #[.int .i64 r, .bool is]) ∧ Below w.heap.size w w' := by
  rcases D with ⟨d1, d2, rfl, rfl, rfl⟩ | ⟨d1, d2, rfl, rfl, rfl⟩ | ⟨d0, d⟩
  · obtain ⟨rfl, rfl⟩ := hr (by omega)
    have l1 : r < 9223372036854775808 := by omega
    clear hr hr'
    go_enter Try.func18, Try.ntmps18
    go_wp2
    go_ret2
    exact ⟨rfl, one_box⟩
  · obtain ⟨rfl, rfl⟩ := hr (by omega)
    have l1 : 9223372036854775808 ≤ r + 18446744073709551616 := by omega
    clear hr hr'
    go_enter Try.func18, Try.ntmps18
    have ew : Hid (wrap64 (r + 18446744073709551616) = r) := by show _ = _; unfold wrap64; omega
    go_wp2
    rw [ew.out]
    go_ret2
    exact ⟨rfl, one_box⟩
  · obtain ⟨rfl, rfl⟩ := hr' (by omega)
    clear hr hr' d0
    rcases d with ⟨e1, e2⟩ | ⟨rfl, e2⟩ | ⟨rfl, rfl, e3⟩ | ⟨rfl, e2⟩ | ⟨rfl, rfl, e3⟩
    · have b1 : (hi == 0) = false := by simp [e1]
      have b2 : (hi == 18446744073709551615) = false := by simp [e2]
      go_enter Try.func18, Try.ntmps18
      go_wp2
      go_ret2
      exact ⟨rfl, one_box⟩
    · have b1 : (mid == 0) = false := by simp [e2]
      go_enter Try.func18, Try.ntmps18
      go_wp2
      go_ret2
      exact ⟨rfl, one_box⟩
    · go_enter Try.func18, Try.ntmps18
      go_wp2
      go_ret2
      exact ⟨rfl, one_box⟩
    · have b1 : (mid == 18446744073709551615) = false := by simp [e2]
      go_enter Try.func18, Try.ntmps18
      go_wp2
      go_ret2
      exact ⟨rfl, one_box⟩
    · go_enter Try.func18, Try.ntmps18
      go_wp2
      go_ret2
      exact ⟨rfl, one_box⟩
theorem refNarrow (n : Int) (h0 : -3138550867693340381917894711603833208051177722232017256448 ≤ n) (h1 : n < 3138550867693340381917894711603833208051177722232017256448) (r : Int) (is : Bool)
    (hr : -9223372036854775808 ≤ n ∧ n ≤ 9223372036854775807 → r = n ∧ is = true) (hr' : ¬ (-9223372036854775808 ≤ n ∧ n ≤ 9223372036854775807) → r = 0 ∧ is = false) (w : World) :
    Calls Try.prog 18 #[wV n] w fun e w' => e = .returned (.tuple #[.int .i64 r, .bool is]) ∧ Below w.heap.size w w' :=
  narrow_of n _ _ _ (wide_cases n h0 h1) r is hr hr' w
end Go.Proofs.Ytmpochhcokmaiaa
