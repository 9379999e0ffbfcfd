/- How predicates are written; those that are made are written alike only if they are the same. -/
import Derived.Test.YtiphnbpkliglcaaDoorInj
import Derived.Test.YtiphnbpkliglcaaDoorPdPlain
namespace Go.Proofs.YtiphnbpkliglcaaDoor
open Go.Lib
set_option linter.unusedVariables false

/-- A sign, a column as it is written; parts in brackets, and what stands between them. -/
def sgn (o : Int) : List UInt8 := if o = 1 then [61] else if o = 2 then [33, 61] else if o = 3 then [60] else if o = 4 then [60, 61] else if o = 5 then [62] else if o = 6 then [62, 61] else []
def nmC (c : Int) : List UInt8 := 35 :: itoa c
def brk (t : List UInt8) : List UInt8 := 40 :: (t ++ [41])
def restP (b : List UInt8) (ts : List (List UInt8)) : List UInt8 := ts.flatMap fun u => b ++ brk u
def joinP (b : List UInt8) : List (List UInt8) → List UInt8
  | [] => [40, 41]
  | t :: ts => brk t ++ restP b ts
def andB : List UInt8 := [32, 97, 110, 100, 32]
def orB : List UInt8 := [32, 111, 114, 32]
def shVal (v : Val) : List UInt8 := shV v.1 v.2.1 v.2.2
/-- A predicate as it is written. -/
def shP : Pd → List UInt8
  | ⟨k, c, o, d, v, l⟩ =>
    if k = 1 then nmC c ++ [32] ++ sgn o ++ [32] ++ shVal v
    else if k = 2 then nmC c ++ [32] ++ sgn o ++ [32] ++ nmC d
    else if k = 3 then nmC c ++ [32, 105, 115, 32, 110, 117, 108, 108]
    else if k = 4 then joinP andB (l.map fun q => shP q)
    else if k = 5 then joinP orB (l.map fun q => shP q)
    else if k = 6 then [110, 111, 116, 32] ++ joinP [] ((l.map fun q => shP q).take 1)
    else []
theorem shP_eq (p : Pd) : shP p = if p.k = 1 then nmC p.c ++ [32] ++ sgn p.o ++ [32] ++ shVal p.v else if p.k = 2 then nmC p.c ++ [32] ++ sgn p.o ++ [32] ++ nmC p.d else if p.k = 3 then nmC p.c ++ [32, 105, 115, 32, 110, 117, 108, 108] else if p.k = 4 then joinP andB (p.l.map fun q => shP q) else if p.k = 5 then joinP orB (p.l.map fun q => shP q) else if p.k = 6 then [110, 111, 116, 32] ++ joinP [] ((p.l.map fun q => shP q).take 1) else [] := by
  obtain ⟨k, c, o, d, v, l⟩ := p
  rw [shP]

/-- A run ends where what stands behind it is none of its own. -/
theorem run_end (P : UInt8 → Prop) : ∀ (l m x y : List UInt8), (∀ c ∈ l, P c) → (∀ c ∈ m, P c) → (∀ c, x.head? = some c → ¬ P c) → (∀ c, y.head? = some c → ¬ P c) → l ++ x = m ++ y → l = m ∧ x = y
  | [], [], x, y, _, _, _, _, e => ⟨rfl, e⟩
  | [], c :: m, x, y, _, hm, hx, _, e => by
    have e' : x = c :: (m ++ y) := e
    exact absurd (hm c (by simp)) (hx c (by rw [e']; rfl))
  | c :: l, [], x, y, hl, _, _, hy, e => by
    have e' : c :: (l ++ x) = y := e
    exact absurd (hl c (by simp)) (hy c (by rw [← e']; rfl))
  | c :: l, d :: m, x, y, hl, hm, hx, hy, e => by
    have e' : c :: (l ++ x) = d :: (m ++ y) := e
    obtain ⟨h1, h2⟩ := List.cons.inj e'
    obtain ⟨h3, h4⟩ := run_end P l m x y (fun a h => hl a (by simp [h])) (fun a h => hm a (by simp [h])) hx hy h2
    exact ⟨by rw [h1, h3], h4⟩
def numC (c : UInt8) : Prop := c = 45 ∨ (48 ≤ c.toNat ∧ c.toNat ≤ 57)
theorem dec_num (u : Nat) : ∀ c ∈ decDigits u, numC c := by
  induction u using Nat.strongRecOn with
  | _ u ih =>
    rw [decDigits]
    split
    · rename_i h
      intro c hc
      rw [List.mem_singleton] at hc
      rw [hc]; exact .inr (by rw [of_small u h]; omega)
    · rename_i h
      intro c hc
      rcases List.mem_append.1 hc with h1 | h1
      · exact ih (u / 10) (by omega) c h1
      · rw [List.mem_singleton] at h1
        rw [h1]; exact .inr (by rw [of_small _ (by omega)]; omega)
theorem itoa_num (n : Int) : ∀ c ∈ itoa n, numC c := by
  unfold itoa
  split
  · intro c hc
    rcases List.mem_cons.1 hc with h | h
    · exact .inl h
    · exact dec_num _ c h
  · exact dec_num _
theorem itoa_end {a b : Int} {u v : UInt8} {x y : List UInt8} (hu : ¬ numC u) (hv : ¬ numC v) (e : itoa a ++ u :: x = itoa b ++ v :: y) : a = b ∧ u = v ∧ x = y := by
  obtain ⟨h1, h2⟩ := run_end numC _ _ _ _ (itoa_num a) (itoa_num b) (fun c hc => by simp at hc; rw [← hc]; exact hu) (fun c hc => by simp at hc; rw [← hc]; exact hv) e
  exact ⟨itoa_inj h1, (List.cons.inj h2).1, (List.cons.inj h2).2⟩
theorem itoa_first (n : Int) : ∃ c l, itoa n = c :: l ∧ numC c := by
  obtain ⟨c, l, e, _, _⟩ := itoa_head n
  exact ⟨c, l, e, itoa_num n c (by rw [e]; simp)⟩
theorem not_num {c : UInt8} (h1 : c ≠ 45) (h2 : c.toNat < 48 ∨ 57 < c.toNat) : ¬ numC c := by
  rintro (h | h)
  · exact h1 h
  · omega
theorem dq_end : ∀ {a b x y : List UInt8}, (∀ c, x.head? = some c → c ≠ 39) → (∀ c, y.head? = some c → c ≠ 39) → dq a ++ 39 :: x = dq b ++ 39 :: y → a = b ∧ x = y
  | [], [], x, y, _, _, e => ⟨rfl, (List.cons.inj e).2⟩
  | [], c :: b, x, y, hx, _, e => by
    unfold dq at e
    split at e
    · have e' : (39 :: x : List UInt8) = 39 :: 39 :: (dq b ++ 39 :: y) := e
      have := (List.cons.inj e').2
      exact absurd rfl (hx 39 (by rw [this]; rfl))
    · rename_i h
      have e' : (39 :: x : List UInt8) = c :: (dq b ++ 39 :: y) := e
      exact absurd (List.cons.inj e').1.symm h
  | c :: a, [], x, y, _, hy, e => by
    unfold dq at e
    split at e
    · have e' : (39 :: 39 :: (dq a ++ 39 :: x) : List UInt8) = 39 :: y := e
      have := (List.cons.inj e').2
      exact absurd rfl (hy 39 (by rw [← this]; rfl))
    · rename_i h
      have e' : (c :: (dq a ++ 39 :: x) : List UInt8) = 39 :: y := e
      exact absurd (List.cons.inj e').1 h
  | c :: a, d :: b, x, y, hx, hy, e => by
    simp only [dq] at e
    split at e <;> split at e
    · rename_i h1 h2
      obtain ⟨h3, h4⟩ := dq_end (a := a) (b := b) hx hy (by simpa using e)
      exact ⟨by rw [h1, h2, h3], h4⟩
    · rename_i h1 h2
      exact absurd (List.cons.inj e).1.symm h2
    · rename_i h1 h2
      exact absurd (List.cons.inj e).1 h1
    · obtain ⟨h1, h2⟩ := List.cons.inj e
      obtain ⟨h3, h4⟩ := dq_end (a := a) (b := b) hx hy h2
      exact ⟨by rw [h1, h3], h4⟩
/-- May the value stand in a predicate? -/
def okC (v : Val) : Prop := ckV v.1 v.2.1 v.2.2 = true ∧ v.1 ≠ 0
theorem okC_cases {v : Val} (h : okC v) : (∃ n, v = (1, n, ⟨#[]⟩)) ∨ (∃ s, v = (2, 0, s)) ∨ v = (3, 0, ⟨#[]⟩) ∨ v = (3, 1, ⟨#[]⟩) := by
  obtain ⟨k, n, s⟩ := v
  obtain ⟨h1, h0⟩ := h
  rcases ck_cases h1 with ⟨e, _⟩ | ⟨e, hs⟩ | ⟨e, hn⟩ | ⟨e, hn, hs⟩
  · exact absurd e h0
  · simp only at e hs; subst e; exact .inl ⟨n, by rw [nil_of hs]⟩
  · simp only at e hn; subst e hn; exact .inr (.inl ⟨s, rfl⟩)
  · simp only at e hs hn; subst e
    rcases hn with rfl | rfl
    · exact .inr (.inr (.inl (by rw [nil_of hs])))
    · exact .inr (.inr (.inr (by rw [nil_of hs])))
theorem shVal_1 (n : Int) : shVal (1, n, ⟨#[]⟩) = itoa n := rfl
theorem shVal_2 (s : ByteArray) : shVal (2, 0, s) = 39 :: (dq s.data.toList ++ [39]) := rfl
theorem shVal_f : shVal (3, 0, ⟨#[]⟩) = [102, 97, 108, 115, 101] := tf.1
theorem shVal_t : shVal (3, 1, ⟨#[]⟩) = [116, 114, 117, 101] := tf.2
theorem shVal_first {v : Val} (h : okC v) : ∃ c l, shVal v = c :: l ∧ c ≠ 35 := by
  rcases okC_cases h with ⟨n, rfl⟩ | ⟨s, rfl⟩ | rfl | rfl
  · obtain ⟨c, l, e, hc⟩ := itoa_first n
    refine ⟨c, l, e, ?_⟩
    rintro rfl
    rcases hc with h | h
    · exact absurd h (by decide)
    · exact absurd h.1 (by decide)
  · exact ⟨39, _, rfl, by decide⟩
  · exact ⟨102, _, shVal_f, by decide⟩
  · exact ⟨116, _, shVal_t, by decide⟩
theorem data_inj {s t : ByteArray} (h : s.data.toList = t.data.toList) : s = t := toList_inj (by rw [Lib.toList_data, Lib.toList_data]; exact h)
theorem val_end {v v' : Val} (h : okC v) (h' : okC v') {x y : List UInt8} (e : shVal v ++ 41 :: x = shVal v' ++ 41 :: y) : v = v' ∧ x = y := by
  have n41 : ¬ numC 41 := not_num (by decide) (by decide)
  have nf : ∀ n : Int, ∀ c : UInt8, ∀ r z : List UInt8, ¬ numC c → itoa n ++ r = c :: z → False := by
    intro n c r z hc e
    obtain ⟨d, l, e1, hd⟩ := itoa_first n
    rw [e1] at e
    rw [(List.cons.inj e).1] at hd
    exact hc hd
  rcases okC_cases h with ⟨n, rfl⟩ | ⟨s, rfl⟩ | rfl | rfl <;> rcases okC_cases h' with ⟨n', rfl⟩ | ⟨s', rfl⟩ | rfl | rfl
  · rw [shVal_1, shVal_1] at e
    obtain ⟨h1, _, h2⟩ := itoa_end n41 n41 e
    exact ⟨by rw [h1], h2⟩
  · exact (nf n 39 _ _ (not_num (by decide) (by decide)) e).elim
  · rw [shVal_f] at e; exact (nf n 102 _ _ (not_num (by decide) (by decide)) e).elim
  · rw [shVal_t] at e; exact (nf n 116 _ _ (not_num (by decide) (by decide)) e).elim
  · exact (nf n' 39 _ _ (not_num (by decide) (by decide)) e.symm).elim
  · rw [shVal_2, shVal_2] at e
    have e' : dq s.data.toList ++ 39 :: (41 :: x) = dq s'.data.toList ++ 39 :: (41 :: y) := by simpa using e
    obtain ⟨h1, h2⟩ := dq_end (fun c hc => by simp at hc; rw [← hc]; decide) (fun c hc => by simp at hc; rw [← hc]; decide) e'
    exact ⟨by rw [data_inj h1], (List.cons.inj h2).2⟩
  · rw [shVal_f] at e; exact absurd (List.cons.inj e).1 (by decide)
  · rw [shVal_t] at e; exact absurd (List.cons.inj e).1 (by decide)
  · rw [shVal_f] at e; exact (nf n' 102 _ _ (not_num (by decide) (by decide)) e.symm).elim
  · rw [shVal_f] at e; exact absurd (List.cons.inj e).1 (by decide)
  · rw [shVal_f] at e; exact ⟨rfl, by simpa using e⟩
  · rw [shVal_f, shVal_t] at e; exact absurd (List.cons.inj e).1 (by decide)
  · rw [shVal_t] at e; exact (nf n' 116 _ _ (not_num (by decide) (by decide)) e.symm).elim
  · rw [shVal_t] at e; exact absurd (List.cons.inj e).1 (by decide)
  · rw [shVal_f, shVal_t] at e; exact absurd (List.cons.inj e).1 (by decide)
  · rw [shVal_t] at e; exact ⟨rfl, by simpa using e⟩
theorem sgn_end {o o' : Int} (h1 : 1 ≤ o) (h2 : o ≤ 6) (h1' : 1 ≤ o') (h2' : o' ≤ 6) {x y : List UInt8} (e : sgn o ++ 32 :: x = sgn o' ++ 32 :: y) : o = o' ∧ x = y := by
  obtain rfl | rfl | rfl | rfl | rfl | rfl : o = 1 ∨ o = 2 ∨ o = 3 ∨ o = 4 ∨ o = 5 ∨ o = 6 := by omega
  all_goals
    obtain rfl | rfl | rfl | rfl | rfl | rfl : o' = 1 ∨ o' = 2 ∨ o' = 3 ∨ o' = 4 ∨ o' = 5 ∨ o' = 6 := by omega
    all_goals simp [sgn] at e
    all_goals exact ⟨rfl, e⟩
theorem sgn_first {o : Int} (h1 : 1 ≤ o) (h2 : o ≤ 6) : ∃ c l, sgn o = c :: l ∧ c ≠ 105 := by
  obtain rfl | rfl | rfl | rfl | rfl | rfl : o = 1 ∨ o = 2 ∨ o = 3 ∨ o = 4 ∨ o = 5 ∨ o = 6 := by omega
  all_goals exact ⟨_, _, rfl, by decide⟩
/-- A leaf as it is written: a column, a blank, and what stands behind it. -/
def tailP (p : Pd) : List UInt8 := if p.k = 1 then sgn p.o ++ 32 :: shVal p.v else if p.k = 2 then sgn p.o ++ 32 :: nmC p.d else [105, 115, 32, 110, 117, 108, 108]
theorem leaf_text {ks : List Int} {p : Pd} (h : LeafP ks p) : shP p = 35 :: (itoa p.c ++ 32 :: tailP p) := by
  rcases h with ⟨i, o, v, hi, _, _, _, _, rfl⟩ | ⟨i, j, o, hi, hj, _, _, _, rfl⟩ | ⟨i, hi, rfl⟩
  · rw [shP_eq]; simp [tailP, nmC]
  · rw [shP_eq]; simp [tailP, nmC]
  · rw [shP_eq]; simp [tailP, nmC]
theorem leaf_end {ks : List Int} {p q : Pd} (hp : LeafP ks p) (hq : LeafP ks q) (kp : p.k = 1 → okC p.v) (kq : q.k = 1 → okC q.v) {x y : List UInt8} (e : shP p ++ 41 :: x = shP q ++ 41 :: y) : p = q ∧ x = y := by
  have n32 : ¬ numC 32 := not_num (by decide) (by decide)
  have n41 : ¬ numC 41 := not_num (by decide) (by decide)
  rw [leaf_text hp, leaf_text hq] at e
  have e1 : itoa p.c ++ 32 :: (tailP p ++ 41 :: x) = itoa q.c ++ 32 :: (tailP q ++ 41 :: y) := by simpa using e
  obtain ⟨hc, _, e2⟩ := itoa_end n32 n32 e1
  clear e e1
  rcases hp with ⟨i, o, v, hi, o1, o2, _, _, rfl⟩ | ⟨i, j, o, hi, hj, o1, o2, _, rfl⟩ | ⟨i, hi, rfl⟩ <;> rcases hq with ⟨i', o', v', hi', o1', o2', _, _, rfl⟩ | ⟨i', j', o', hi', hj', o1', o2', _, rfl⟩ | ⟨i', hi', rfl⟩
  · have e3 : sgn o ++ 32 :: (shVal v ++ 41 :: x) = sgn o' ++ 32 :: (shVal v' ++ 41 :: y) := by simpa [tailP] using e2
    obtain ⟨rfl, e4⟩ := sgn_end o1 o2 o1' o2' e3
    obtain ⟨rfl, e5⟩ := val_end (kp rfl) (kq rfl) e4
    simp only at hc
    exact ⟨by rw [hc], e5⟩
  · have e3 : sgn o ++ 32 :: (shVal v ++ 41 :: x) = sgn o' ++ 32 :: (nmC j' ++ 41 :: y) := by simpa [tailP] using e2
    obtain ⟨rfl, e4⟩ := sgn_end o1 o2 o1' o2' e3
    obtain ⟨c, l, e5, e6⟩ := shVal_first (kp rfl)
    simp only at e5
    rw [e5] at e4
    exact absurd (List.cons.inj e4).1 e6
  · have e3 : sgn o ++ 32 :: (shVal v ++ 41 :: x) = [105, 115, 32, 110, 117, 108, 108] ++ 41 :: y := by simpa [tailP] using e2
    obtain ⟨c, l, e5, e6⟩ := sgn_first o1 o2
    rw [e5] at e3
    exact absurd (List.cons.inj e3).1 e6
  · have e3 : sgn o ++ 32 :: (nmC j ++ 41 :: x) = sgn o' ++ 32 :: (shVal v' ++ 41 :: y) := by simpa [tailP] using e2
    obtain ⟨rfl, e4⟩ := sgn_end o1 o2 o1' o2' e3
    obtain ⟨c, l, e5, e6⟩ := shVal_first (kq rfl)
    simp only at e5
    rw [e5] at e4
    exact absurd (List.cons.inj e4).1.symm e6
  · have e3 : sgn o ++ 32 :: (35 :: (itoa j ++ 41 :: x)) = sgn o' ++ 32 :: (35 :: (itoa j' ++ 41 :: y)) := by simpa [tailP, nmC] using e2
    obtain ⟨rfl, e4⟩ := sgn_end o1 o2 o1' o2' e3
    obtain ⟨e5, _, e6⟩ := itoa_end n41 n41 (List.cons.inj e4).2
    simp only at hc
    exact ⟨by rw [hc, e5], e6⟩
  · have e3 : sgn o ++ 32 :: (nmC j ++ 41 :: x) = [105, 115, 32, 110, 117, 108, 108] ++ 41 :: y := by simpa [tailP] using e2
    obtain ⟨c, l, e5, e6⟩ := sgn_first o1 o2
    rw [e5] at e3
    exact absurd (List.cons.inj e3).1 e6
  · have e3 : [105, 115, 32, 110, 117, 108, 108] ++ 41 :: x = sgn o' ++ 32 :: (shVal v' ++ 41 :: y) := by simpa [tailP] using e2
    obtain ⟨c, l, e5, e6⟩ := sgn_first o1' o2'
    rw [e5] at e3
    exact absurd (List.cons.inj e3).1.symm e6
  · have e3 : [105, 115, 32, 110, 117, 108, 108] ++ 41 :: x = sgn o' ++ 32 :: (nmC j' ++ 41 :: y) := by simpa [tailP] using e2
    obtain ⟨c, l, e5, e6⟩ := sgn_first o1' o2'
    rw [e5] at e3
    exact absurd (List.cons.inj e3).1.symm e6
  · simp only at hc
    refine ⟨by rw [hc], ?_⟩
    simpa [tailP] using e2
theorem rest_end {b b' : List UInt8} (hb : b = andB ∨ b = orB) (hb' : b' = andB ∨ b' = orB) : ∀ (l m : List Pd) (x y : List UInt8), (∀ p ∈ l, ∀ q ∈ m, ∀ x y, shP p ++ 41 :: x = shP q ++ 41 :: y → p = q ∧ x = y) → restP b (l.map fun q => shP q) ++ 41 :: x = restP b' (m.map fun q => shP q) ++ 41 :: y → l = m ∧ x = y ∧ (l ≠ [] → b = b')
  | [], [], x, y, _, e => ⟨rfl, (List.cons.inj e).2, fun h => absurd rfl h⟩
  | [], q :: m, x, y, _, e => by
    rcases hb' with rfl | rfl <;> exact absurd (List.cons.inj e).1 (by decide)
  | p :: l, [], x, y, _, e => by
    rcases hb with rfl | rfl <;> exact absurd (List.cons.inj e).1 (by decide)
  | p :: l, q :: m, x, y, h, e => by
    have e1 : b ++ 40 :: (shP p ++ 41 :: (restP b (l.map fun q => shP q) ++ 41 :: x)) = b' ++ 40 :: (shP q ++ 41 :: (restP b' (m.map fun q => shP q) ++ 41 :: y)) := by simpa [restP, brk] using e
    have e2 : b = b' := by
      rcases hb with rfl | rfl <;> rcases hb' with rfl | rfl
      · rfl
      · exact absurd (List.cons.inj (List.cons.inj e1).2).1 (by decide)
      · exact absurd (List.cons.inj (List.cons.inj e1).2).1 (by decide)
      · rfl
    subst e2
    have e3 := (List.cons.inj (List.append_cancel_left e1)).2
    obtain ⟨rfl, e4⟩ := h p (by simp) q (by simp) _ _ e3
    obtain ⟨rfl, e5, _⟩ := rest_end hb hb' l m x y (fun p hp q hq => h p (by simp [hp]) q (by simp [hq])) e4
    exact ⟨rfl, e5, fun _ => rfl⟩
theorem shP_not (q : Pd) : shP ⟨6, 0, 0, 0, nul, [q]⟩ = 110 :: 111 :: 116 :: 32 :: 40 :: (shP q ++ [41]) := by
  rw [shP]; simp [joinP, brk, restP]
def btw (k : Int) : List UInt8 := if k = 4 then andB else orB
theorem shP_all {k : Int} (hk : k = 4 ∨ k = 5) (q : Pd) (l : List Pd) : shP ⟨k, 0, 0, 0, nul, q :: l⟩ = 40 :: (shP q ++ 41 :: restP (btw k) (l.map fun q => shP q)) := by
  rcases hk with rfl | rfl
  · rw [shP]; simp [joinP, brk, btw]
  · rw [shP]; simp [joinP, brk, btw]
theorem btw_or (k : Int) : btw k = andB ∨ btw k = orB := by unfold btw; split <;> simp
theorem leaf_first {ks : List Int} {p : Pd} (h : LeafP ks p) : ∃ l, shP p = 35 :: l := ⟨_, leaf_text h⟩
/-- Predicates that are made are written alike only if they are the same. -/
theorem text_end (ks : List Int) : ∀ (n : Nat) (p q : Pd) (x y : List UInt8), MkP okC ks n p → MkP okC ks n q → shP p ++ 41 :: x = shP q ++ 41 :: y → p = q ∧ x = y := by
  intro n
  induction n with
  | zero => exact fun p q x y hp hq e => leaf_end hp.1 hq.1 hp.2 hq.2 e
  | succ n ih =>
    intro p q x y hp hq e
    rcases hp with hp | ⟨p', rfl, hp⟩ | ⟨k, l, rfl, hk, l2, l3, hl⟩ <;> rcases hq with hq | ⟨q', rfl, hq⟩ | ⟨k', l', rfl, hk', l2', l3', hl'⟩
    · exact leaf_end hp.1 hq.1 hp.2 hq.2 e
    · obtain ⟨l, h⟩ := leaf_first hp.1
      rw [h, shP_not] at e
      exact absurd (List.cons.inj e).1 (by decide)
    · obtain ⟨l, h⟩ := leaf_first hp.1
      cases l' with
      | nil => simp at l2'
      | cons q' l' =>
        rw [h, shP_all hk'] at e
        exact absurd (List.cons.inj e).1 (by decide)
    · obtain ⟨l, h⟩ := leaf_first hq.1
      rw [h, shP_not] at e
      exact absurd (List.cons.inj e).1 (by decide)
    · rw [shP_not, shP_not] at e
      have e1 : shP p' ++ 41 :: (41 :: x) = shP q' ++ 41 :: (41 :: y) := by simpa using e
      obtain ⟨rfl, h⟩ := ih p' q' _ _ hp hq e1
      exact ⟨rfl, (List.cons.inj h).2⟩
    · cases l' with
      | nil => simp at l2'
      | cons q' l' =>
        rw [shP_not, shP_all hk'] at e
        exact absurd (List.cons.inj e).1 (by decide)
    · obtain ⟨m, h⟩ := leaf_first hq.1
      cases l with
      | nil => simp at l2
      | cons p' l =>
        rw [h, shP_all hk] at e
        exact absurd (List.cons.inj e).1 (by decide)
    · cases l with
      | nil => simp at l2
      | cons p' l =>
        rw [shP_not, shP_all hk] at e
        exact absurd (List.cons.inj e).1 (by decide)
    · cases l with
      | nil => simp at l2
      | cons p' l =>
        cases l' with
        | nil => simp at l2'
        | cons q' l' =>
          rw [shP_all hk, shP_all hk'] at e
          have e1 : shP p' ++ 41 :: (restP (btw k) (l.map fun q => shP q) ++ 41 :: x) = shP q' ++ 41 :: (restP (btw k') (l'.map fun q => shP q) ++ 41 :: y) := by simpa using e
          obtain ⟨rfl, e2⟩ := ih p' q' _ _ (hl p' (by simp)) (hl' q' (by simp)) e1
          obtain ⟨rfl, e3, e4⟩ := rest_end (btw_or k) (btw_or k') l l' x y (fun p hp q hq => fun x y e => ih p q x y (hl p (by simp [hp])) (hl' q (by simp [hq])) e) e2
          have hne : l ≠ [] := by rintro rfl; simp at l2
          have hkk : k = k' := by
            have := e4 hne
            rcases hk with rfl | rfl <;> rcases hk' with rfl | rfl
            · rfl
            · exact absurd this (by decide)
            · exact absurd this (by decide)
            · rfl
          subst hkk
          exact ⟨rfl, e3⟩
theorem text_same {ks : List Int} {n : Nat} {p q : Pd} (hp : MkP okC ks n p) (hq : MkP okC ks n q) (e : shP p = shP q) : p = q :=
  (text_end ks n p q [] [] hp hq (by rw [e])).1
end Go.Proofs.YtiphnbpkliglcaaDoor
