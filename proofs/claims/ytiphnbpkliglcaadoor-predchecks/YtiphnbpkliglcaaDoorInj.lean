/- Plain facts: values that may be are written alike only if they are the same. -/
import Derived.Test.YtiphnbpkliglcaaDoorShow
namespace Go.Proofs.YtiphnbpkliglcaaDoor
open Go.Lib

/-- What a numeral's digits come to. -/
def dval (l : List UInt8) : Nat := l.foldl (fun a c => a * 10 + (c.toNat - 48)) 0
theorem dval_snoc (l : List UInt8) (c : UInt8) : dval (l ++ [c]) = dval l * 10 + (c.toNat - 48) := by simp [dval]
theorem of_small (d : Nat) (h : d < 10) : (UInt8.ofNat (48 + d)).toNat = 48 + d := by
  rw [UInt8.toNat_ofNat']; omega
theorem dval_dec (u : Nat) : dval (decDigits u) = u := by
  induction u using Nat.strongRecOn with
  | _ u ih =>
    rw [decDigits]
    split
    · rename_i h; simp only [dval, List.foldl_cons, List.foldl_nil]; rw [of_small u h]; omega
    · rename_i h
      rw [dval_snoc, ih (u / 10) (by omega), of_small _ (by omega)]; omega
theorem dec_head (u : Nat) : ∃ c l, decDigits u = c :: l ∧ 48 ≤ c.toNat ∧ c.toNat ≤ 57 := by
  induction u using Nat.strongRecOn with
  | _ u ih =>
    rw [decDigits]
    split
    · rename_i h; exact ⟨_, _, rfl, by rw [of_small u h]; omega, by rw [of_small u h]; omega⟩
    · rename_i h
      obtain ⟨c, l, e, h1, h2⟩ := ih (u / 10) (by omega)
      exact ⟨c, l ++ [UInt8.ofNat (48 + u % 10)], by rw [e]; rfl, h1, h2⟩
theorem itoa_inj {a b : Int} (h : itoa a = itoa b) : a = b := by
  unfold itoa at h
  obtain ⟨c, l, e, h1, h2⟩ := dec_head a.toNat
  obtain ⟨c', l', e', h1', h2'⟩ := dec_head b.toNat
  split at h <;> split at h
  · have := congrArg dval (List.cons.inj h).2
    rw [dval_dec, dval_dec] at this; omega
  · rw [e'] at h
    have : (45 : UInt8) = c' := (List.cons.inj h).1
    rw [← this] at h1'; simp at h1'
  · rw [e] at h
    have : c = 45 := (List.cons.inj h).1
    rw [this] at h1; simp at h1
  · have := congrArg dval h
    rw [dval_dec, dval_dec] at this; omega
theorem itoa_head (n : Int) : ∃ c l, itoa n = c :: l ∧ c.toNat ≤ 57 ∧ c.toNat ≠ 39 := by
  unfold itoa
  split
  · exact ⟨45, _, rfl, by decide, by decide⟩
  · obtain ⟨c, l, e, h1, h2⟩ := dec_head n.toNat
    exact ⟨c, l, e, h2, by omega⟩
theorem dq_inj : ∀ {a b : List UInt8}, dq a = dq b → a = b
  | [], [], _ => rfl
  | [], c :: l, h => by unfold dq at h; split at h <;> simp at h
  | c :: l, [], h => by unfold dq at h; split at h <;> simp at h
  | c :: l, c' :: l', h => by
    simp only [dq] at h
    split at h <;> split at h
    · rename_i e e'; rw [e, e']
      have := dq_inj (a := l) (b := l') (by simpa using h)
      rw [this]
    · rename_i e e'; exact absurd (List.cons.inj h).1.symm e'
    · rename_i e e'; exact absurd (List.cons.inj h).1 e
    · have h1 := (List.cons.inj h).1
      have := dq_inj (List.cons.inj h).2
      rw [h1, this]
theorem text_inj {a b : List UInt8} (h : (39 :: (dq a ++ [39]) : List UInt8) = 39 :: (dq b ++ [39])) : a = b :=
  dq_inj (List.append_cancel_right (List.cons.inj h).2)

theorem ck_cases {k n : Int} {s : ByteArray} (h : ckV k n s = true) : (k = 0 ∧ n = 0 ∧ s.toList = []) ∨ (k = 1 ∧ s.toList = []) ∨ (k = 2 ∧ n = 0) ∨ (k = 3 ∧ (n = 0 ∨ n = 1) ∧ s.toList = []) := by
  unfold ckV at h
  split at h
  · rename_i e; simp at h; exact .inl ⟨e, h.1, h.2⟩
  · split at h
    · rename_i e; simp at h; exact .inr (.inl ⟨e, h⟩)
    · split at h
      · rename_i e; simp at h; exact .inr (.inr (.inl ⟨e, h.1⟩))
      · split at h
        · rename_i e; simp at h; exact .inr (.inr (.inr ⟨e, h.1, h.2⟩))
        · cases h
theorem nil_of {s : ByteArray} (h : s.toList = []) : s = ⟨#[]⟩ := toList_inj (by rw [h, Lib.toList_data])
theorem tf : formatBool (0 != (0 : Int)) = [102, 97, 108, 115, 101] ∧ formatBool (1 != (0 : Int)) = [116, 114, 117, 101] := by decide +kernel

theorem show_head {k n : Int} {s : ByteArray} (h : ckV k n s = true) : ∃ c l, shV k n s = c :: l ∧ ((k = 0 ∧ c.toNat = 110) ∨ (k = 1 ∧ c.toNat ≤ 57 ∧ c.toNat ≠ 39) ∨ (k = 2 ∧ c.toNat = 39) ∨ (k = 3 ∧ 100 ≤ c.toNat ∧ c.toNat ≠ 110)) := by
  rcases ck_cases h with ⟨rfl, rfl, hs⟩ | ⟨rfl, hs⟩ | ⟨rfl, rfl⟩ | ⟨rfl, hn, hs⟩
  · exact ⟨110, _, rfl, .inl ⟨rfl, rfl⟩⟩
  · obtain ⟨c, l, e, h1, h2⟩ := itoa_head n
    exact ⟨c, l, e, .inr (.inl ⟨rfl, h1, h2⟩)⟩
  · exact ⟨39, _, rfl, .inr (.inr (.inl ⟨rfl, rfl⟩))⟩
  · rcases hn with rfl | rfl
    · exact ⟨102, [97, 108, 115, 101], tf.1, .inr (.inr (.inr ⟨rfl, by decide, by decide⟩))⟩
    · exact ⟨116, [114, 117, 101], tf.2, .inr (.inr (.inr ⟨rfl, by decide, by decide⟩))⟩
theorem show_inj {k n : Int} {s : ByteArray} {k' n' : Int} {s' : ByteArray} (h : ckV k n s = true) (h' : ckV k' n' s' = true) (e : shV k n s = shV k' n' s') : k = k' ∧ n = n' ∧ s = s' := by
  obtain ⟨c, l, i1, i2⟩ := show_head h
  obtain ⟨c', l', j1, j2⟩ := show_head h'
  have ec : c = c' := by rw [i1, j1] at e; exact (List.cons.inj e).1
  have ek : k = k' := by rw [ec] at i2; omega
  subst ek
  clear i1 i2 j1 j2 ec
  refine ⟨rfl, ?_⟩
  rcases ck_cases h with ⟨rfl, rfl, hs⟩ | ⟨rfl, hs⟩ | ⟨rfl, rfl⟩ | ⟨rfl, hn, hs⟩ <;> rcases ck_cases h' with ⟨h0, hn', hs'⟩ | ⟨h0, hs'⟩ | ⟨h0, hn'⟩ | ⟨h0, hn', hs'⟩ <;> try omega
  · exact ⟨hn'.symm, by rw [nil_of hs, nil_of hs']⟩
  · exact ⟨itoa_inj e, by rw [nil_of hs, nil_of hs']⟩
  · refine ⟨hn'.symm, ?_⟩
    have e' : (39 :: (dq s.data.toList ++ [39]) : List UInt8) = 39 :: (dq s'.data.toList ++ [39]) := e
    have := text_inj e'
    exact toList_inj (by rw [Lib.toList_data, Lib.toList_data]; exact this)
  · refine ⟨?_, by rw [nil_of hs, nil_of hs']⟩
    have e' : formatBool (n != 0) = formatBool (n' != 0) := e
    rcases hn with rfl | rfl <;> rcases hn' with rfl | rfl
    · rfl
    · rw [tf.1, tf.2] at e'; simp at e'
    · rw [tf.1, tf.2] at e'; simp at e'
    · rfl
end Go.Proofs.YtiphnbpkliglcaaDoor
