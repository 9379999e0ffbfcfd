/- Plainly: the words of a text, as chapter 9 has them, over lists of bytes; without the program. -/
import Derived.Test.YtlbgfkkalalkaaaDoorDq
import Derived.Lib.ParseIntB
namespace Go.Proofs.YtlbgfkkalalkaaaDoor
open Go.Lib

def wBlank (c : UInt8) : Bool := c == 32 || c == 9 || c == 10 || c == 13
def wLow (c : UInt8) : Bool := decide (97 ≤ c.toNat) && decide (c.toNat ≤ 122)
def wDig (c : UInt8) : Bool := decide (48 ≤ c.toNat) && decide (c.toNat ≤ 57)
def wIn (c : UInt8) : Bool := wLow c || wDig c || c == 95
/-- How many bytes a text begins with that are so. -/
def rn (p : UInt8 → Bool) (l : List UInt8) : Nat := (l.takeWhile p).length
/-- A word: what it is, what stands there (of a String what it says), what it comes to, how many bytes it takes. -/
structure Wd where
  k : Int
  t : List UInt8
  n : Int
  z : Nat
/-- The words that are reserved. -/
def wKeys : List (List UInt8) := [[102, 105, 108, 116, 101, 114], [112, 114, 111, 106, 101, 99, 116], [106, 111, 105, 110], [117, 110, 105, 111, 110], [100, 105, 115, 116, 105, 110, 99, 116], [103, 114, 111, 117, 112], [99, 111, 117, 110, 116], [115, 117, 109], [109, 105, 110], [109, 97, 120], [97, 110, 100], [111, 114], [110, 111, 116], [105, 115], [110, 117, 108, 108], [116, 114, 117, 101], [102, 97, 108, 115, 101], [116, 97, 98, 108, 101], [100, 114, 111, 112], [117, 112, 100, 97, 116, 101], [99, 114, 101, 97, 116, 101], [97, 108, 116, 101, 114], [115, 116, 101, 112], [97, 98, 111, 114, 116], [114, 101, 97, 100], [97, 115], [105, 110, 116], [116, 101, 120, 116], [98, 111, 111, 108]]
def resv (l : List UInt8) : Bool := wKeys.contains l
def fstName (l : List UInt8) : Option Wd :=
  if rn wIn l = 0 ∨ 24 < rn wIn l ∨ wLow (l.headD 0) = false then none
  else some ⟨if resv (l.take (rn wIn l)) then 5 else 1, l.take (rn wIn l), 0, rn wIn l⟩
def fstNum (l : List UInt8) : Option Wd :=
  match parseIntB 64 (l.take (1 + rn wDig (l.drop 1))) with
  | .ok v => some ⟨2, l.take (1 + rn wDig (l.drop 1)), v, 1 + rn wDig (l.drop 1)⟩
  | _ => none
/-- Behind how many bytes the sign ' stands that ends a text; its length, if there is none. -/
def clN : List UInt8 → Nat
  | [] => 0
  | [c] => if c = 39 then 0 else 1
  | c :: d :: l => if c = 39 then (if d = 39 then 2 + clN l else 0) else 1 + clN (d :: l)
def fstStr (l : List UInt8) : Option Wd :=
  if clN (l.drop 1) = (l.drop 1).length then none
  else if 64 < (replaceAll ((l.drop 1).take (clN (l.drop 1))) [39, 39] [39]).length then none
  else some ⟨3, replaceAll ((l.drop 1).take (clN (l.drop 1))) [39, 39] [39], 0, clN (l.drop 1) + 2⟩
def mkOne (c : UInt8) : Bool := [40, 41, 91, 93, 44, 35, 61, 60, 62, 43, 45].contains c
def mkTwo (l : List UInt8) : Bool := [[33, 61], [60, 61], [62, 61]].contains (l.take 2)
def mkSize (l : List UInt8) : Nat := if mkTwo l then 2 else if mkOne (l.headD 0) then 1 else 0
def fstMark (l : List UInt8) : Option Wd := if mkSize l = 0 then none else some ⟨4, l.take (mkSize l), 0, mkSize l⟩
/-- The word that a text, which is not empty, begins with. -/
def fstW (l : List UInt8) : Option Wd :=
  if wLow (l.headD 0) then fstName l
  else if wDig (l.headD 0) || (l.headD 0 == 45 && decide (0 < rn wDig (l.drop 1))) then fstNum l
  else if l.headD 0 == 39 then fstStr l
  else fstMark l
/-- Words, each behind its place; or where none begins. -/
abbrev Wds := List (Nat × Wd) ⊕ Nat
def preW (x : List (Nat × Wd)) : Wds → Wds
  | .inl l => .inl (x ++ l)
  | .inr q => .inr q
def splF : Nat → Nat → List UInt8 → Wds
  | 0, _, _ => .inl []
  | f + 1, p, l =>
    match l.drop (rn wBlank l) with
    | [] => .inl []
    | c :: m =>
      match fstW (c :: m) with
      | none => .inr (p + rn wBlank l)
      | some x => preW [(p + rn wBlank l, x)] (splF f (p + rn wBlank l + x.z) (m.drop (x.z - 1)))
/-- The words of a text that begins at a place. -/
def spl (p : Nat) (l : List UInt8) : Wds := splF l.length p l

theorem preW_preW (x y : List (Nat × Wd)) (a : Wds) : preW x (preW y a) = preW (x ++ y) a := by cases a <;> simp [preW]
theorem preW_nil (a : Wds) : preW [] a = a := by cases a <;> simp [preW]
/-- So much as there is to read is enough. -/
theorem splF_more : ∀ (f g p : Nat) (l : List UInt8), l.length ≤ f → l.length ≤ g → splF f p l = splF g p l
  | 0, 0, _, _, _, _ => rfl
  | 0, g + 1, p, l, h, _ => by
    have e : l = [] := List.length_eq_zero_iff.1 (Nat.le_zero.1 h)
    subst e; rfl
  | f + 1, 0, p, l, _, h => by
    have e : l = [] := List.length_eq_zero_iff.1 (Nat.le_zero.1 h)
    subst e; rfl
  | f + 1, g + 1, p, l, h, k => by
    unfold splF
    cases hd : l.drop (rn wBlank l) with
    | nil => rfl
    | cons c m =>
      have hl := congrArg List.length hd
      rw [List.length_drop, List.length_cons] at hl
      cases hf : fstW (c :: m) with
      | none => simp only [hf]
      | some x =>
        simp only [hf]
        rw [splF_more f g _ (m.drop (x.z - 1)) (by rw [List.length_drop]; omega) (by rw [List.length_drop]; omega)]

theorem rn_le (p : UInt8 → Bool) (l : List UInt8) : rn p l ≤ l.length := by
  unfold rn
  induction l with
  | nil => simp
  | cons c l ih => simp only [List.takeWhile]; split <;> simp <;> omega
theorem rn_nil (p : UInt8 → Bool) : rn p [] = 0 := rfl
theorem rn_cons (p : UInt8 → Bool) (c : UInt8) (l : List UInt8) : rn p (c :: l) = if p c then rn p l + 1 else 0 := by
  unfold rn
  simp only [List.takeWhile]
  cases p c <;> simp
/-- So many, if all of them are so and the next one is not. -/
theorem rn_app (p : UInt8 → Bool) : ∀ (a b : List UInt8), (∀ c ∈ a, p c = true) → (∀ c, b.head? = some c → p c = false) → rn p (a ++ b) = a.length
  | [], [], _, _ => rfl
  | [], c :: b, _, h => by rw [List.nil_append, rn_cons, h c rfl]; rfl
  | c :: a, b, h, g => by
    rw [List.cons_append, rn_cons, h c (by simp), rn_app p a b (fun d hd => h d (by simp [hd])) g]; rfl
/-- As far as k, and k is not: so it is k. -/
theorem rn_at (p : UInt8 → Bool) : ∀ (l : List UInt8) (k : Nat), k ≤ l.length → (∀ i (h : i < l.length), i < k → p l[i] = true) → (∀ h : k < l.length, p l[k] = false) → rn p l = k
  | [], k, h, _, _ => by simp at h; subst h; rfl
  | c :: l, 0, _, _, h => by
    have e : p c = false := h (by simp)
    rw [rn_cons, e]; rfl
  | c :: l, k + 1, h, g, f => by
    have e : p c = true := g 0 (by simp) (by omega)
    rw [rn_cons, e, rn_at p l k (by simpa using h) (fun i hi hk => g (i + 1) (by simpa using hi) (by omega)) (fun hk => f (by simpa using hk))]; rfl
theorem rn_lt (p : UInt8 → Bool) : ∀ (l : List UInt8) (i : Nat) (h : i < l.length), i < rn p l → p l[i] = true
  | [], i, h, _ => by simp at h
  | c :: l, i, h, g => by
    rw [rn_cons] at g
    split at g
    · cases i with
      | zero => assumption
      | succ i => exact rn_lt p l i (by simpa using h) (by omega)
    · omega
theorem rn_stop (p : UInt8 → Bool) : ∀ (l : List UInt8) (h : rn p l < l.length), p l[rn p l] = false
  | [], h => by simp at h
  | c :: l, h => by
    cases hc : p c with
    | false => simp [rn_cons, hc]
    | true =>
      have := rn_stop p l (by simp [rn_cons, hc] at h; omega)
      simpa [rn_cons, hc] using this
theorem rn_rest (p : UInt8 → Bool) (l : List UInt8) : rn p (l.drop (rn p l)) = 0 := by
  by_cases h : rn p l < l.length
  · rw [List.drop_eq_getElem_cons h, rn_cons, rn_stop p l h]; rfl
  · rw [List.drop_of_length_le (by omega)]; rfl

theorem spl_end (p : Nat) (l : List UInt8) (h : l.drop (rn wBlank l) = []) : spl p l = .inl [] := by
  unfold spl
  cases hl : l.length with
  | zero => rfl
  | succ f => unfold splF; rw [h]
theorem spl_bad (p : Nat) (l : List UInt8) (h : l.drop (rn wBlank l) ≠ []) (hf : fstW (l.drop (rn wBlank l)) = none) : spl p l = .inr (p + rn wBlank l) := by
  obtain ⟨c, m, e⟩ := List.exists_cons_of_ne_nil h
  unfold spl
  cases hl : l.length with
  | zero => rw [List.length_eq_zero_iff.1 hl] at h; exact absurd rfl h
  | succ f =>
    rw [e] at hf
    unfold splF
    rw [e]
    simp only [hf]
theorem spl_some (p : Nat) (l : List UInt8) (x : Wd) (h : l.drop (rn wBlank l) ≠ []) (hf : fstW (l.drop (rn wBlank l)) = some x) :
    spl p l = preW [(p + rn wBlank l, x)] (spl (p + rn wBlank l + x.z) ((l.drop (rn wBlank l)).tail.drop (x.z - 1))) := by
  obtain ⟨c, m, e⟩ := List.exists_cons_of_ne_nil h
  have hl2 := congrArg List.length e
  rw [List.length_drop, List.length_cons] at hl2
  unfold spl
  cases hl : l.length with
  | zero => rw [List.length_eq_zero_iff.1 hl] at h; exact absurd rfl h
  | succ f =>
    rw [e] at hf
    rw [splF, e]
    simp only [hf]
    rw [List.tail_cons, splF_more f _ _ (m.drop (x.z - 1)) (by rw [List.length_drop]; omega) (Nat.le_refl _)]
theorem spl_one (p : Nat) (l : List UInt8) (x : Wd) (h : l.drop (rn wBlank l) ≠ []) (hf : fstW (l.drop (rn wBlank l)) = some x) (hz : 0 < x.z) :
    spl p l = preW [(p + rn wBlank l, x)] (spl (p + rn wBlank l + x.z) ((l.drop (rn wBlank l)).drop x.z)) := by
  rw [spl_some p l x h hf]
  obtain ⟨c, m, e⟩ := List.exists_cons_of_ne_nil h
  obtain ⟨k, hk⟩ : ∃ k, x.z = k + 1 := ⟨x.z - 1, by omega⟩
  rw [e, hk]; simp
/-- Blanks ahead: the words are those behind them. -/
theorem spl_skip (p : Nat) (l : List UInt8) : spl (p + rn wBlank l) (l.drop (rn wBlank l)) = spl p l := by
  have h0 := rn_rest wBlank l
  by_cases he : l.drop (rn wBlank l) = []
  · rw [spl_end p l he, he, spl_end _ _ (by simp)]
  · cases hf : fstW (l.drop (rn wBlank l)) with
    | none => rw [spl_bad p l he hf, spl_bad _ _ (by rw [h0]; simpa using he) (by rw [h0]; simpa using hf), h0]; rfl
    | some x => rw [spl_some p l x he hf, spl_some _ _ x (by rw [h0]; simpa using he) (by rw [h0]; simpa using hf), h0]; rfl
end Go.Proofs.YtlbgfkkalalkaaaDoor
