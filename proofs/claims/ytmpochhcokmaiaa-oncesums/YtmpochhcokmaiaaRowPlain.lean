/- Plain facts on the order of rows, without the program. -/
import Derived.Test.YtmpochhcokmaiaaPlain
namespace Go.Proofs.Ytmpochhcokmaiaa

/-- A value: its kind, its number, its text. -/
abbrev Val := Int × Int × ByteArray
def cVal (a b : Val) : Int := cV a.1 a.2.1 a.2.2 b.1 b.2.1 b.2.2
theorem cVal_anti (a b : Val) : cVal b a = - cVal a b := cV_anti _ _ _ _ _ _
theorem cVal_zero (a b : Val) : cVal a b = 0 ↔ a = b := by
  unfold cVal
  rw [cV_zero]
  obtain ⟨a1, a2, a3⟩ := a; obtain ⟨b1, b2, b3⟩ := b
  simp
theorem cVal_sq (a b : Val) : -1 ≤ cVal a b ∧ cVal a b ≤ 1 := cV_sq _ _ _ _ _ _
theorem cVal_trans (a b c : Val) (h : cVal a b ≤ 0) (g : cVal b c ≤ 0) : cVal a c ≤ 0 := cV_trans _ _ _ _ _ _ _ _ _ h g
theorem cVal_lt_trans (a b c : Val) (h : cVal a b < 0) (g : cVal b c ≤ 0) : cVal a c < 0 := by
  have h1 := cVal_trans a b c (by omega) g
  have h2 := cVal_zero a c
  by_cases e : cVal a c = 0
  · have := h2.1 e; subst this
    have := cVal_anti a b; omega
  · omega
theorem cVal_lt_trans' (a b c : Val) (h : cVal a b ≤ 0) (g : cVal b c < 0) : cVal a c < 0 := by
  have h1 := cVal_trans a b c h (by omega)
  have h2 := cVal_zero a c
  by_cases e : cVal a c = 0
  · have := h2.1 e; subst this
    have := cVal_anti a b; omega
  · omega

/-- Rows' order: value by value; a row that has no more is less. -/
def cR : List Val → List Val → Int
  | [], [] => 0
  | [], _ :: _ => -1
  | _ :: _, [] => 1
  | a :: l, b :: m => if cVal a b = 0 then cR l m else cVal a b
theorem cR_self : ∀ l, cR l l = 0
  | [] => rfl
  | a :: l => by rw [cR, if_pos ((cVal_zero a a).2 rfl), cR_self l]
theorem cR_anti : ∀ l m, cR m l = - cR l m
  | [], [] => rfl
  | [], _ :: _ => rfl
  | _ :: _, [] => rfl
  | a :: l, b :: m => by
    have h := cVal_anti a b
    simp only [cR]
    rw [cR_anti l m, h]
    by_cases e : cVal a b = 0
    · simp [e]
    · rw [if_neg (by omega), if_neg e]
theorem cR_zero : ∀ l m, cR l m = 0 ↔ l = m
  | [], [] => by simp [cR]
  | [], _ :: _ => by simp [cR]
  | _ :: _, [] => by simp [cR]
  | a :: l, b :: m => by
    have h := cVal_zero a b
    simp only [cR]
    by_cases e : cVal a b = 0
    · rw [if_pos e, cR_zero l m, h.1 e]; simp
    · rw [if_neg e]
      constructor
      · intro h; exact absurd h e
      · intro h'; exact absurd (h.2 (List.cons.inj h').1) e
theorem cR_sq : ∀ l m, -1 ≤ cR l m ∧ cR l m ≤ 1
  | [], [] => by simp [cR]
  | [], _ :: _ => by simp [cR]
  | _ :: _, [] => by simp [cR]
  | a :: l, b :: m => by
    have h := cVal_sq a b; have h' := cR_sq l m
    simp only [cR]; split <;> omega
theorem cR_trans : ∀ l m n, cR l m ≤ 0 → cR m n ≤ 0 → cR l n ≤ 0
  | [], [], n, _, h => h
  | [], _ :: _, [], _, h => by simp [cR] at h
  | [], _ :: _, _ :: _, _, _ => by simp [cR]
  | _ :: _, [], _, h, _ => by simp [cR] at h
  | _ :: _, _ :: _, [], _, h => by simp [cR] at h
  | a :: l, b :: m, c :: n, h, g => by
    have t := cR_trans l m n
    have z1 := cVal_zero a b; have z2 := cVal_zero b c; have z3 := cVal_zero a c
    have t1 := cVal_lt_trans a b c; have t2 := cVal_lt_trans' a b c
    simp only [cR] at h g ⊢
    by_cases e1 : cVal a b = 0
    · rw [if_pos e1] at h
      have ab := z1.1 e1; subst ab
      by_cases e2 : cVal a c = 0
      · rw [if_pos e2] at g ⊢; exact t h g
      · rw [if_neg e2] at g ⊢; exact g
    · rw [if_neg e1] at h
      by_cases e2 : cVal b c = 0
      · have bc := z2.1 e2; subst bc
        rw [if_neg e1]; exact h
      · rw [if_neg e2] at g
        have := t1 (by omega) (by omega)
        rw [if_neg (by omega)]; omega
/-- What a row begins with is less than it. -/
theorem cR_prefix : ∀ l x m, cR l (l ++ x :: m) = -1
  | [], _, _ => rfl
  | a :: l, x, m => by
    simp only [List.cons_append, cR]; rw [if_pos ((cVal_zero a a).2 rfl), cR_prefix l x m]
/-- Rows that are alike so far go on. -/
theorem cR_step {l m : List Val} {i : Nat} (h1 : i < l.length) (h2 : i < m.length) : cR (l.drop i) (m.drop i) = if cVal l[i] m[i] = 0 then cR (l.drop (i + 1)) (m.drop (i + 1)) else cVal l[i] m[i] := by
  rw [List.drop_eq_getElem_cons h1, List.drop_eq_getElem_cons h2]; rfl
theorem cR_end {l m : List Val} {i : Nat} (h : l.length ≤ i ∨ m.length ≤ i) (h1 : i ≤ l.length) (h2 : i ≤ m.length) : cR (l.drop i) (m.drop i) = if l.length < m.length then -1 else if m.length < l.length then 1 else 0 := by
  by_cases e1 : l.length = i
  · rw [List.drop_of_length_le (Nat.le_of_eq e1)]
    by_cases e2 : m.length = i
    · rw [List.drop_of_length_le (Nat.le_of_eq e2)]; simp [cR]; omega
    · rw [List.drop_eq_getElem_cons (by omega), if_pos (by omega)]; rfl
  · have e2 : m.length = i := by omega
    rw [List.drop_of_length_le (l := m) (Nat.le_of_eq e2), List.drop_eq_getElem_cons (by omega), if_neg (by omega), if_pos (by omega)]; rfl
end Go.Proofs.Ytmpochhcokmaiaa
