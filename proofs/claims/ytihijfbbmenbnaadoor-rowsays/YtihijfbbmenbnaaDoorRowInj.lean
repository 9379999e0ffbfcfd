/- Plain facts: rows whose values may be are written alike only if they are the same. -/
import Derived.Test.YtihijfbbmenbnaaDoorRefRowText
namespace Go.Proofs.YtihijfbbmenbnaaDoor
open Go.Lib

/-- What follows a value in a row's text: a comma or the closing bracket, so neither a digit nor the sign '. -/
def ends (r : List UInt8) : Prop := ∃ c t, r = c :: t ∧ (c = 44 ∨ c = 41)
def isDig (c : UInt8) : Bool := decide (48 ≤ c.toNat) && decide (c.toNat ≤ 57)
theorem dec_digits (u : Nat) : ∀ c ∈ decDigits u, isDig c = true := by
  induction u using Nat.strongRecOn with
  | _ u ih =>
    rw [decDigits]
    split
    · rename_i h
      intro c hc
      simp only [List.mem_singleton] at hc; subst hc
      unfold isDig; rw [of_small u h]; simp; omega
    · rename_i h
      intro c hc
      rcases List.mem_append.1 hc with hc | hc
      · exact ih (u / 10) (by omega) c hc
      · simp only [List.mem_singleton] at hc; subst hc
        unfold isDig; rw [of_small _ (by omega)]; simp; omega
theorem ends_not {r : List UInt8} (h : ends r) : ∃ c t, r = c :: t ∧ isDig c = false ∧ c ≠ 39 := by
  obtain ⟨c, t, rfl, rfl | rfl⟩ := h
  · exact ⟨44, t, rfl, by decide, by decide⟩
  · exact ⟨41, t, rfl, by decide, by decide⟩
theorem digs_part : ∀ (a b r r' : List UInt8), (∀ c ∈ a, isDig c = true) → (∀ c ∈ b, isDig c = true) → ends r → ends r' → a ++ r = b ++ r' → a = b ∧ r = r'
  | [], [], _, _, _, _, _, _, h => ⟨rfl, h⟩
  | [], d :: b, r, r', _, hb, hr, _, h => by
    obtain ⟨c, t, rfl, hc, _⟩ := ends_not hr
    have e : c = d := (List.cons.inj h).1
    have := hb d (by simp); rw [← e, hc] at this; cases this
  | d :: a, [], r, r', ha, _, _, hr', h => by
    obtain ⟨c, t, rfl, hc, _⟩ := ends_not hr'
    have e : d = c := (List.cons.inj h).1
    have := ha d (by simp); rw [e, hc] at this; cases this
  | c :: a, d :: b, r, r', ha, hb, hr, hr', h => by
    obtain ⟨h1, h2⟩ := List.cons.inj h
    obtain ⟨h3, h4⟩ := digs_part a b r r' (fun x hx => ha x (by simp [hx])) (fun x hx => hb x (by simp [hx])) hr hr' h2
    exact ⟨by rw [h1, h3], h4⟩
theorem itoa_part {n m : Int} {r r' : List UInt8} (hr : ends r) (hr' : ends r') (h : itoa n ++ r = itoa m ++ r') : n = m ∧ r = r' := by
  have key : itoa n = itoa m ∧ r = r' := by
    unfold itoa at h ⊢
    split at h <;> split at h
    · rename_i h1 h2
      obtain ⟨e1, e2⟩ := digs_part _ _ r r' (dec_digits _) (dec_digits _) hr hr' (List.cons.inj h).2
      exact ⟨by rw [if_pos h1, if_pos h2, e1], e2⟩
    · obtain ⟨c, l, e, g1, g2⟩ := dec_head m.toNat
      rw [e] at h
      have : (45 : UInt8) = c := (List.cons.inj h).1
      rw [← this] at g1; simp at g1
    · obtain ⟨c, l, e, g1, g2⟩ := dec_head n.toNat
      rw [e] at h
      have : c = 45 := (List.cons.inj h).1
      rw [this] at g1; simp at g1
    · rename_i h1 h2
      obtain ⟨e1, e2⟩ := digs_part _ _ r r' (dec_digits _) (dec_digits _) hr hr' h
      exact ⟨by rw [if_neg h1, if_neg h2, e1], e2⟩
  exact ⟨itoa_inj key.1, key.2⟩
theorem dq_part : ∀ (a b r r' : List UInt8), ends r → ends r' → dq a ++ 39 :: r = dq b ++ 39 :: r' → a = b ∧ r = r'
  | [], [], _, _, _, _, h => ⟨rfl, (List.cons.inj h).2⟩
  | [], c :: b, r, r', hr, _, h => by
    obtain ⟨d, t, rfl, _, hd⟩ := ends_not hr
    simp only [dq, List.nil_append] at h
    split at h
    · have := (List.cons.inj (List.cons.inj h).2).1; exact absurd this hd
    · rename_i e; exact absurd (List.cons.inj h).1.symm e
  | c :: a, [], r, r', _, hr', h => by
    obtain ⟨d, t, rfl, _, hd⟩ := ends_not hr'
    simp only [dq, List.nil_append] at h
    split at h
    · have := (List.cons.inj (List.cons.inj h).2).1; exact absurd this.symm hd
    · rename_i e; exact absurd (List.cons.inj h).1 e
  | c :: a, d :: b, r, r', hr, hr', h => by
    simp only [dq] at h
    split at h <;> split at h
    · rename_i e e'
      obtain ⟨h1, h2⟩ := dq_part a b r r' hr hr' (List.cons.inj (List.cons.inj h).2).2
      exact ⟨by rw [e, e', h1], h2⟩
    · rename_i e e'; exact absurd (List.cons.inj h).1.symm e'
    · rename_i e e'; exact absurd (List.cons.inj h).1 e
    · obtain ⟨h1, h2⟩ := List.cons.inj h
      obtain ⟨h3, h4⟩ := dq_part a b r r' hr hr' h2
      exact ⟨by rw [h1, h3], h4⟩
/-- A value's text, whatever follows: which value it was, and what follows. -/
theorem shv_part {a b : Val} {r r' : List UInt8} (ha : okv a) (hb : okv b) (hr : ends r) (hr' : ends r') (h : shv a ++ r = shv b ++ r') : a = b ∧ r = r' := by
  obtain ⟨k, n, s⟩ := a
  obtain ⟨k', n', s'⟩ := b
  have h1 := ha.1; have h1' := hb.1
  simp only at h1 h1'
  have h0 : shV k n s ++ r = shV k' n' s' ++ r' := h
  obtain ⟨c, l, i1, i2⟩ := show_head h1
  obtain ⟨c', l', j1, j2⟩ := show_head h1'
  have ec : c = c' := by rw [i1, j1] at h0; exact (List.cons.inj h0).1
  have ek : k = k' := by rw [ec] at i2; omega
  subst ek
  clear i1 i2 j1 j2 ec h
  rcases ck_cases h1 with ⟨rfl, rfl, hs⟩ | ⟨rfl, hs⟩ | ⟨rfl, rfl⟩ | ⟨rfl, hn, hs⟩ <;> rcases ck_cases h1' with ⟨g0, hn', hs'⟩ | ⟨g0, hs'⟩ | ⟨g0, hn'⟩ | ⟨g0, hn', hs'⟩ <;> try omega
  · subst hn'; rw [nil_of hs, nil_of hs'] at *
    exact ⟨rfl, List.append_cancel_left h0⟩
  · obtain ⟨e1, e2⟩ := itoa_part hr hr' (show itoa n ++ r = itoa n' ++ r' from h0)
    rw [nil_of hs, nil_of hs', e1]; exact ⟨rfl, e2⟩
  · subst hn'
    have e : dq s.data.toList ++ 39 :: r = dq s'.data.toList ++ 39 :: r' := by
      have h2 : (39 :: (dq s.data.toList ++ [39])) ++ r = (39 :: (dq s'.data.toList ++ [39])) ++ r' := h0
      simpa using h2
    obtain ⟨e1, e2⟩ := dq_part _ _ r r' hr hr' e
    have : s = s' := toList_inj (by rw [Lib.toList_data, Lib.toList_data]; exact e1)
    rw [this]; exact ⟨rfl, e2⟩
  · have e : formatBool (n != 0) ++ r = formatBool (n' != 0) ++ r' := h0
    rw [nil_of hs, nil_of hs'] at *
    rcases hn with rfl | rfl <;> rcases hn' with rfl | rfl
    · exact ⟨rfl, List.append_cancel_left e⟩
    · rw [tf.1, tf.2] at e; simp at e
    · rw [tf.1, tf.2] at e; simp at e
    · exact ⟨rfl, List.append_cancel_left e⟩
theorem shB_part : ∀ (l m : List Val), l.length = m.length → (∀ v ∈ l, okv v) → (∀ v ∈ m, okv v) → shB l ++ [41] = shB m ++ [41] → l = m
  | [], [], _, _, _, _ => rfl
  | [], _ :: _, h, _, _, _ => by simp at h
  | _ :: _, [], h, _, _, _ => by simp at h
  | [a], [b], _, hl, hm, h => by
    have := shv_part (hl a (by simp)) (hm b (by simp)) ⟨41, [], rfl, .inr rfl⟩ ⟨41, [], rfl, .inr rfl⟩ (show shv a ++ [41] = shv b ++ [41] from h)
    rw [this.1]
  | [_], _ :: _ :: _, h, _, _, _ => by simp at h
  | _ :: _ :: _, [_], h, _, _, _ => by simp at h
  | a :: a' :: l, b :: b' :: m, h, hl, hm, e => by
    have e' : shv a ++ 44 :: (32 :: (shB (a' :: l) ++ [41])) = shv b ++ 44 :: (32 :: (shB (b' :: m) ++ [41])) := by
      have e0 : (shv a ++ 44 :: 32 :: shB (a' :: l)) ++ [41] = (shv b ++ 44 :: 32 :: shB (b' :: m)) ++ [41] := e
      simpa using e0
    obtain ⟨e1, e2⟩ := shv_part (hl a (by simp)) (hm b (by simp)) ⟨44, _, rfl, .inl rfl⟩ ⟨44, _, rfl, .inl rfl⟩ e'
    have e3 := (List.cons.inj (List.cons.inj e2).2).2
    have := shB_part (a' :: l) (b' :: m) (by simpa using h) (fun v hv => hl v (by simp at hv ⊢; exact .inr hv)) (fun v hv => hm v (by simp at hv ⊢; exact .inr hv)) e3
    rw [e1, this]
theorem shR_inj {l m : List Val} (hn : l.length = m.length) (hl : ∀ v ∈ l, okv v) (hm : ∀ v ∈ m, okv v) (h : shR l = shR m) : l = m :=
  shB_part l m hn hl hm (List.cons.inj h).2
end Go.Proofs.YtihijfbbmenbnaaDoor
