/- Plain facts on the order of numbers, of texts and of values, without the program. -/
import GoSem.Op.String
import Derived.Lib.Strings
namespace Go.Proofs.Ytmpochhcokmaiaa

def cI (a b : Int) : Int := if a < b then -1 else if b < a then 1 else 0
def cS (a b : ByteArray) : Int := if Op.bytesLess a.toList b.toList = true then -1 else if a.toList = b.toList then 0 else 1
/-- A value's order: by kind, then by number, then by text. -/
def cV (k n : Int) (s : ByteArray) (k' n' : Int) (s' : ByteArray) : Int := if cI k k' = 0 then (if cI n n' = 0 then cS s s' else cI n n') else cI k k'

theorem bl_irrefl : ∀ a : List UInt8, Op.bytesLess a a = false
  | [] => rfl
  | a :: x => by simp [Op.bytesLess, bl_irrefl x]
theorem bl_trans : ∀ a b c : List UInt8, Op.bytesLess a b = true → Op.bytesLess b c = true → Op.bytesLess a c = true
  | _, [], _, h, _ => by simp [Op.bytesLess] at h
  | _, _ :: _, [], _, h => by simp [Op.bytesLess] at h
  | [], _ :: _, _ :: _, _, _ => by simp [Op.bytesLess]
  | a :: x, b :: y, c :: z, h, k => by
    simp only [Op.bytesLess, Bool.or_eq_true, decide_eq_true_eq, Bool.and_eq_true, beq_iff_eq] at h k ⊢
    rcases h with h | ⟨rfl, h⟩
    · rcases k with k | ⟨rfl, k⟩
      · exact Or.inl (UInt8.lt_trans h k)
      · exact Or.inl h
    · rcases k with k | ⟨rfl, k⟩
      · exact Or.inl k
      · exact Or.inr ⟨rfl, bl_trans x y z h k⟩
theorem bl_total : ∀ a b : List UInt8, Op.bytesLess a b = false → Op.bytesLess b a = false → a = b
  | [], [], _, _ => rfl
  | [], _ :: _, h, _ => by simp [Op.bytesLess] at h
  | _ :: _, [], _, h => by simp [Op.bytesLess] at h
  | a :: x, b :: y, h, k => by
    simp only [Op.bytesLess, Bool.or_eq_false_iff, decide_eq_false_iff_not, Bool.and_eq_false_iff, beq_eq_false_iff_ne] at h k
    have e : a = b := by
      have h1 := h.1; have k1 := k.1
      rw [UInt8.lt_iff_toNat_lt] at h1 k1
      exact UInt8.toNat_inj.1 (by omega)
    subst e
    have := bl_total x y (by simpa using h.2) (by simpa using k.2)
    rw [this]
theorem bl_asymm {a b : List UInt8} (h : Op.bytesLess a b = true) : Op.bytesLess b a = false := by
  cases k : Op.bytesLess b a
  · rfl
  · have := bl_trans a b a h k
    rw [bl_irrefl] at this; cases this
theorem bl_ne {a b : List UInt8} (h : Op.bytesLess a b = true) : a ≠ b := by
  rintro rfl; rw [bl_irrefl] at h; cases h
theorem toList_inj {a b : ByteArray} (h : a.toList = b.toList) : a = b := by
  rw [Lib.toList_data, Lib.toList_data] at h
  cases a; cases b
  simp only [ByteArray.mk.injEq]
  exact Array.toList_inj.1 h

theorem cI_anti (a b : Int) : cI b a = - cI a b := by unfold cI; repeat' split <;> omega
theorem cI_zero (a b : Int) : cI a b = 0 ↔ a = b := by unfold cI; repeat' split <;> omega
theorem cI_sq (a b : Int) : -1 ≤ cI a b ∧ cI a b ≤ 1 := by unfold cI; repeat' split <;> omega

theorem cS_anti (a b : ByteArray) : cS b a = - cS a b := by
  unfold cS
  by_cases h : Op.bytesLess a.toList b.toList = true
  · have h1 := bl_asymm h; have h2 := bl_ne h; have h3 : ¬ b.toList = a.toList := fun e => h2 e.symm
    simp [h, h1, h3]
  · have h' : Op.bytesLess a.toList b.toList = false := by simpa using h
    by_cases e : a.toList = b.toList
    · simp [e, bl_irrefl]
    · have h1 : Op.bytesLess b.toList a.toList = true := by
        cases k : Op.bytesLess b.toList a.toList
        · exact absurd (bl_total _ _ h' k) e
        · rfl
      simp [h', e, h1]
theorem cS_zero (a b : ByteArray) : cS a b = 0 ↔ a = b := by
  unfold cS
  constructor
  · intro h
    split at h
    · omega
    · split at h
      · exact toList_inj ‹_›
      · omega
  · rintro rfl; simp [bl_irrefl]
theorem cS_sq (a b : ByteArray) : -1 ≤ cS a b ∧ cS a b ≤ 1 := by unfold cS; repeat' split <;> omega
/-- At most: it goes on. -/
theorem cS_trans (a b c : ByteArray) (h : cS a b ≤ 0) (k : cS b c ≤ 0) : cS a c ≤ 0 := by
  by_cases e1 : a = b
  · subst e1; exact k
  by_cases e2 : b = c
  · subst e2; exact h
  have n1 : cS a b ≠ 0 := fun h => e1 ((cS_zero _ _).1 h)
  have n2 : cS b c ≠ 0 := fun h => e2 ((cS_zero _ _).1 h)
  have l1 : Op.bytesLess a.toList b.toList = true := by
    unfold cS at h n1; split at h
    · assumption
    · split at h <;> simp_all
  have l2 : Op.bytesLess b.toList c.toList = true := by
    unfold cS at k n2; split at k
    · assumption
    · split at k <;> simp_all
  simp [cS, bl_trans _ _ _ l1 l2]

theorem cV_anti (k n : Int) (s : ByteArray) (k' n' : Int) (s' : ByteArray) : cV k' n' s' k n s = - cV k n s k' n' s' := by
  unfold cV
  rw [cI_anti k k', cI_anti n n', cS_anti s s']
  repeat' split <;> omega
theorem cV_zero (k n : Int) (s : ByteArray) (k' n' : Int) (s' : ByteArray) : cV k n s k' n' s' = 0 ↔ k = k' ∧ n = n' ∧ s = s' := by
  unfold cV
  rw [← cI_zero k k', ← cI_zero n n', ← cS_zero s s']
  by_cases h1 : cI k k' = 0 <;> by_cases h2 : cI n n' = 0 <;> simp [h1, h2]
theorem cV_sq (k n : Int) (s : ByteArray) (k' n' : Int) (s' : ByteArray) : -1 ≤ cV k n s k' n' s' ∧ cV k n s k' n' s' ≤ 1 := by
  have h1 := cI_sq k k'; have h2 := cI_sq n n'; have h3 := cS_sq s s'
  unfold cV
  repeat' split <;> omega
theorem cI_neg (a b : Int) : cI a b < 0 ↔ a < b := by unfold cI; repeat' split <;> omega
theorem cV_le (k n : Int) (s : ByteArray) (k' n' : Int) (s' : ByteArray) : cV k n s k' n' s' ≤ 0 ↔ k < k' ∨ (k = k' ∧ (n < n' ∨ (n = n' ∧ cS s s' ≤ 0))) := by
  have h1 := cI_neg k k'; have h2 := cI_neg n n'; have h3 := cI_zero k k'; have h4 := cI_zero n n'
  unfold cV
  split
  · split <;> omega
  · omega
theorem cV_trans (k n : Int) (s : ByteArray) (k' n' : Int) (s' : ByteArray) (k'' n'' : Int) (s'' : ByteArray) (h : cV k n s k' n' s' ≤ 0) (g : cV k' n' s' k'' n'' s'' ≤ 0) : cV k n s k'' n'' s'' ≤ 0 := by
  have t := cS_trans s s' s''
  rw [cV_le] at h g ⊢
  omega
end Go.Proofs.Ytmpochhcokmaiaa
