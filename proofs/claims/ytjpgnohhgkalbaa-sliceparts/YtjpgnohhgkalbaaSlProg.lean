/- What the program's own slice answers of entries in memory: After, Upto, Range, Count. -/
import Derived.Test.YtjpgnohhgkalbaaSlOwn
namespace Go.Proofs.Ytjpgnohhgkalbaa
open Go.RowKit Go.Sort
set_option maxRecDepth 100000
theorem ent_drop {w : World} {b o n cap : Nat} {l : List Ent} (h : EntsIs w (.slice (some ⟨b, o, none⟩) n cap) l) (k : Nat) (hk : k ≤ l.length) : EntsIs w (.slice (some ⟨b, o + k * 2, none⟩) (n - k) (cap - k)) (l.drop k) := by
  obtain ⟨vs, h1, h2⟩ := h
  have hkv : k ≤ vs.length := by rw [h2.1]; exact hk
  refine ⟨vs.drop k, ?_, by simp [h2.1], fun i h3 h4 => ?_⟩
  · rcases h1 with ⟨a, c, e, rfl⟩ | ⟨b', o', c, e, g1, g2, g3, g4⟩
    · simp only [Value.slice.injEq] at e
      obtain ⟨_, rfl, rfl⟩ := e
      exact .inl ⟨some ⟨b, o + k * 2, none⟩, cap - k, by simp, by simp⟩
    · simp only [Value.slice.injEq, Option.some.injEq, Addr.mk.injEq, and_true] at e
      obtain ⟨⟨rfl, rfl⟩, rfl, rfl⟩ := e
      refine .inr ⟨b, o + k * 2, cap - k, by simp, by simp; omega, by omega, g3, fun i hi => ?_⟩
      simp only [List.length_drop] at hi
      have := g4 (k + i) (by omega)
      rw [show o + (k + i) * 2 = o + k * 2 + i * 2 by omega] at this
      simpa using this
  · simp only [List.length_drop] at h3 h4
    simp only [List.getElem_drop]
    exact h2.2 (k + i) (by omega) (by omega)
theorem ent_take {w : World} {a : Option Addr} {n cap : Nat} {l : List Ent} (h : EntsIs w (.slice a n cap) l) (k : Nat) (hk : k ≤ l.length) : EntsIs w (.slice a k cap) (l.take k) := by
  obtain ⟨vs, h1, h2⟩ := h
  have hkv : k ≤ vs.length := by rw [h2.1]; exact hk
  refine ⟨vs.take k, ?_, h2.take k⟩
  rcases h1 with ⟨a, c, e, rfl⟩ | ⟨b', o', c, e, g1, g2, g3, g4⟩
  · simp only [Value.slice.injEq] at e
    obtain ⟨rfl, rfl, rfl⟩ := e
    simp at hkv
    subst hkv
    exact .inl ⟨_, _, rfl, rfl⟩
  · simp only [Value.slice.injEq] at e
    obtain ⟨rfl, rfl, rfl⟩ := e
    refine .inr ⟨b', o', cap, by simp [Nat.min_eq_left hkv], by simp; omega, g2, g3, fun i hi => ?_⟩
    simp only [List.length_take] at hi
    simpa using g4 i (by omega)
theorem ent_zero {w : World} {a : Option Addr} {l : List Ent} {n c : Nat} (h : l.length = 0) (hn : n = 0) : EntsIs w (.slice a n c) l := by
  obtain rfl := List.eq_nil_of_length_eq_zero h
  subst hn
  exact EntsIs.nil _ _ _
theorem ent_addr {w : World} {a : Option Addr} {n cap : Nat} {l : List Ent} (h : EntsIs w (.slice a n cap) l) (hl : l ≠ []) : (∃ b o, a = some ⟨b, o, none⟩) ∧ l.length ≤ cap ∧ cap ≤ maxLen := by
  obtain ⟨vs, h1, h2⟩ := h
  rcases h1 with ⟨a, c, e, rfl⟩ | ⟨b', o', c, e, g1, g2, g3, g4⟩
  · have := h2.1; exact absurd (List.eq_nil_of_length_eq_zero this.symm) hl
  · simp only [Value.slice.injEq] at e
    obtain ⟨rfl, rfl, rfl⟩ := e
    exact ⟨⟨b', o', rfl⟩, by rw [← h2.1]; exact g1, g2⟩
theorem ent_cap {w : World} {a : Option Addr} {n cap : Nat} {l : List Ent} (h : EntsIs w (.slice a n cap) l) : l.length ≤ cap := by
  by_cases hl : l = []
  · subst hl; exact Nat.zero_le _
  · exact (ent_addr h hl).2.1
/-- What is sliced off: the part of it from k on. -/
theorem drop_if {w : World} {b o n cap : Nat} {l : List Ent} (h : EntsIs w (.slice (some ⟨b, o, none⟩) n cap) l) (k : Nat) (hk : k ≤ l.length) (hc : n ≤ cap) : EntsIs w (.slice (if cap = k then some ⟨b, o, none⟩ else some ⟨b, o + k * 2, none⟩) (n - k) (cap - k)) (l.drop k) := by
  have hn : n = l.length := by obtain ⟨_, _, e⟩ := h.form; simp only [Value.slice.injEq] at e; exact e.2.1
  by_cases e : cap = k
  · rw [if_pos e]
    exact ent_zero (by rw [List.length_drop]; omega) (by omega)
  · rw [if_neg e]; exact ent_drop h k hk
theorem take_filter {l : List Ent} {P : Ent → Bool} {i k : Nat} (h1 : l.filter P = l.drop i) (h2 : l.filter (fun e => !P e) = l.take i) : (l.take k).filter P = (l.take k).drop i := by
  have hl : l.take k = (l.take i).take k ++ (l.drop i).take (k - min i l.length) := by
    conv => lhs; rw [← List.take_append_drop i l]
    rw [List.take_append, List.length_take]
  have a1 : ((l.take i).take k).filter P = [] := List.filter_eq_nil_iff.2 (fun x hx => by
    have := List.mem_of_mem_take hx
    rw [← h2] at this
    have := (List.mem_filter.1 this).2
    simpa using this)
  have a2 : ∀ m, ((l.drop i).take m).filter P = (l.drop i).take m := fun m => List.filter_eq_self.2 (fun x hx => by
    have := List.mem_of_mem_take hx
    rw [← h1] at this
    exact (List.mem_filter.1 this).2)
  rw [List.drop_take]
  rw [hl, List.filter_append, a1, a2, List.nil_append]
  by_cases hi : i ≤ l.length
  · rw [Nat.min_eq_left hi]
  · rw [List.drop_eq_nil_of_le (by omega)]; simp
set_option maxHeartbeats 1000000 in
theorem slCount (l : List Ent) (r : List Val) (va vb : Value) (any : Bool) (w : World) (hn : l.length ≤ 65536) (hl : IsZ l) (_ : EOk l) (ha : EntsIs w va l) (hb : RowIs w vb r) :
    Calls Try.prog 18 #[va, vb, .bool any] w fun e w' => e = .returned (.int .i64 (l.filter (afP any r)).length) ∧ Below w.heap.size w w' := by
  have q := slU l r va vb any w hn hl.1 ha hb
  obtain ⟨a0, cap, rfl⟩ := ha.form
  obtain ⟨b0, cap', rfl⟩ := hb.form
  clear ha hb
  go_enter Try.func18, Try.ntmps18
  go_wp2_with fail
  refine q.mono ?_
  rintro e w1 ⟨k, rfl, h1, h2, h3, h4⟩
  have H4 : Hid (Below w.heap.size w w1) := h4
  have E : Hid (((l.filter (afP any r)).length : Int) = (l.length : Int) - (k : Int)) := by show _ = _; rw [h2, List.length_drop]; omega
  clear q h2 h3 h4
  go_wp2_with fail
  go_ret
  exact ⟨retI E.out.symm, H4.out⟩
set_option maxHeartbeats 1000000 in
theorem slUpto (l : List Ent) (r : List Val) (va vb : Value) (any : Bool) (w : World) (hn : l.length ≤ 65536) (hl : IsZ l) (ho : EOk l) (ha : EntsIs w va l) (hb : RowIs w vb r) :
    Calls Try.prog 14 #[va, vb, .bool any] w fun e w' => ∃ v, e = .returned v ∧ ZHas w.heap.size (upto any r l) v w' ∧ Below w.heap.size w w' := by
  have q := slU l r va vb any w hn hl.1 ha hb
  obtain ⟨a0, cap, rfl⟩ := ha.form
  obtain ⟨b0, cap', rfl⟩ := hb.form
  have Ha : Hid (EntsIs w (.slice a0 l.length cap) l) := ha
  have Ho : Hid (EOk l) := ho
  have la : l.length ≤ cap := ent_cap ha
  clear ha hb ho
  go_enter Try.func14, Try.ntmps14
  go_wp2_with fail
  refine q.mono ?_
  rintro e w1 ⟨k, rfl, h1, h2, h3, h4⟩
  have HU : Hid (upto any r l = l.take k) := h3
  have H4 : Hid (Below w.heap.size w w1) := h4
  have qo : Hid (Calls Try.prog 28 #[.slice a0 k cap] w1 fun e w' => ∃ v, e = .returned v ∧ ZHas w1.heap.size (l.take k) v w' ∧ Below w1.heap.size w1 w') :=
    slOwn (l.take k) _ w1 (by rw [List.length_take]; omega) (fun e he => (Ho.out e (List.mem_of_mem_take he)).2) (ent_take (Ha.out.on H4.out) k h1)
  clear q h2 h3 h4
  go_wp2_with fail
  refine qo.out.mono ?_
  rintro e w2 ⟨v, rfl, h5, h6⟩
  have R : Hid (ZHas w.heap.size (upto any r l) v w2 ∧ Below w.heap.size w w2) := by
    obtain ⟨us, h7⟩ := h5
    exact ⟨⟨us, by rw [HU.out]; exact h7.mono H4.out.size⟩, H4.out.trans (h6.mono H4.out.size)⟩
  clear qo h5 h6
  go_wp2_with fail
  go_ret
  exact ⟨_, rfl, R.out.1, R.out.2⟩
set_option maxHeartbeats 1000000 in
theorem slRange (l : List Ent) (f t : List Val) (va vb vc : Value) (w : World) (hn : l.length ≤ 65536) (hl : IsZ l) (ho : EOk l) (ha : EntsIs w va l) (hb : RowIs w vb f) (hc : RowIs w vc t) :
    Calls Try.prog 16 #[va, vb, vc] w fun e w' => ∃ v, e = .returned v ∧ ZHas w.heap.size (range f t l) v w' ∧ Below w.heap.size w w' := by
  have q := slAhead l f va vb w hn hl.1 ha hb
  have q2 : Hid (∀ W, Below w.heap.size w W → Calls Try.prog 29 #[va, vc] W fun e w' => ∃ k : Nat, e = .returned (.int .i64 k) ∧ k ≤ l.length ∧ l.filter (fun e => decide (0 ≤ cR e.1 t)) = l.drop k ∧ l.filter (fun e => !decide (0 ≤ cR e.1 t)) = l.take k ∧ Below W.heap.size W w') := fun W hW => slAhead l t va vc W hn hl.1 (ha.on hW) (hc.on hW)
  obtain ⟨a0, cap, rfl⟩ := ha.form
  obtain ⟨b0, cap', rfl⟩ := hb.form
  obtain ⟨c0, cap'', rfl⟩ := hc.form
  have Ha : Hid (EntsIs w (.slice a0 l.length cap) l) := ha
  have Ho : Hid (EOk l) := ho
  have la : l.length ≤ cap := ent_cap ha
  clear ha hb hc ho
  go_enter Try.func16, Try.ntmps16
  go_wp2_with fail
  refine q.mono ?_
  rintro e w1 ⟨i, rfl, i1, i2, i3, i4⟩
  have I2 : Hid (∀ k, (l.take k).filter (fun e => decide (0 ≤ cR e.1 f)) = (l.take k).drop i) := fun k => take_filter i2 i3
  have I4 : Hid (Below w.heap.size w w1) := i4
  clear q i2 i3 i4
  go_wp2_with fail
  refine (q2.out _ I4.out).mono ?_
  rintro e w2 ⟨k, rfl, k1, k2, k3, k4⟩
  have B2 : Hid (Below w.heap.size w w2) := I4.out.trans (k4.mono I4.out.size)
  have ER : Hid (range f t l = (l.take k).drop i) := by
    show _ = _
    have e1 : range f t l = (l.filter (fun e => !decide (0 ≤ cR e.1 t))).filter (fun e => decide (0 ≤ cR e.1 f)) := by
      unfold range
      rw [List.filter_filter]
      congr 1; funext e
      unfold rgP
      congr 1
      rw [← decide_not]; congr 1; exact propext ⟨fun h => by omega, fun h => by omega⟩
    rw [e1, k3]
    exact I2.out k
  clear q2 k2 k3 k4 I2 I4
  by_cases hik : k ≤ i
  · have I5 : (k : Int) ≤ (i : Int) := by omega
    have E : Hid (range f t l = []) := by show _ = _; rw [ER.out]; apply List.drop_eq_nil_of_le; rw [List.length_take]; omega
    go_wp2_with fail
    go_ret
    exact ⟨_, rfl, by rw [E.out]; exact ⟨[], ZOwn.nil _ _⟩, B2.out⟩
  · have I5 : ¬ (k : Int) ≤ (i : Int) := by omega
    have hne : l ≠ [] := by rintro rfl; simp at k1; omega
    obtain ⟨⟨b, o, rfl⟩, hc1, hc2⟩ := ent_addr Ha.out hne
    unfold maxLen at hc2
    have hdt := ent_drop (ent_take (Ha.out.on B2.out) k k1) i (by rw [List.length_take]; omega)
    have qo : Hid (Calls Try.prog 28 #[.slice (some ⟨b, o + i * 2, none⟩) (k - i) (cap - i)] w2 fun e w' => ∃ v, e = .returned v ∧ ZHas w2.heap.size ((l.take k).drop i) v w' ∧ Below w2.heap.size w2 w') :=
      slOwn ((l.take k).drop i) _ w2 (by rw [List.length_drop, List.length_take]; omega) (fun e he => (Ho.out e (List.mem_of_mem_take (List.mem_of_mem_drop he))).2) hdt
    clear hdt hne
    go_wp2_with fail
    refine qo.out.mono ?_
    rintro e w3 ⟨v, rfl, h5, h6⟩
    have R : Hid (ZHas w.heap.size (range f t l) v w3 ∧ Below w.heap.size w w3) := by
      obtain ⟨us, h7⟩ := h5
      exact ⟨⟨us, by rw [ER.out]; exact h7.mono B2.out.size⟩, B2.out.trans (h6.mono B2.out.size)⟩
    clear qo h5 h6
    go_wp2_with fail
    go_ret
    exact ⟨_, rfl, R.out.1, R.out.2⟩
set_option maxHeartbeats 1000000 in
theorem slAfter (l : List Ent) (r : List Val) (va vb : Value) (any : Bool) (n : Int) (w : World) (hn : l.length ≤ 65536) (hl : IsZ l) (ho : EOk l) (ha : EntsIs w va l) (hb : RowIs w vb r) :
    Calls Try.prog 12 #[va, vb, .bool any, .int .i64 n] w fun e w' => ∃ v, e = .returned v ∧ ZHas w.heap.size (after any r l n) v w' ∧ Below w.heap.size w w' := by
  have q := slU l r va vb any w hn hl.1 ha hb
  obtain ⟨a0, cap, rfl⟩ := ha.form
  obtain ⟨b0, cap', rfl⟩ := hb.form
  have Ha : Hid (EntsIs w (.slice a0 l.length cap) l) := ha
  have Ho : Hid (EOk l) := ho
  have la : l.length ≤ cap := ent_cap ha
  clear ha hb ho
  go_enter Try.func12, Try.ntmps12
  go_wp2_with fail
  refine q.mono ?_
  rintro e w1 ⟨k, rfl, h1, h2, h3, h4⟩
  have HU : Hid (after any r l n = (l.drop k).take n.toNat) := by show _ = _; unfold after; rw [h2]
  have H4 : Hid (Below w.heap.size w w1) := h4
  clear q h2 h3 h4
  have QO : Hid (∀ v, EntsIs w1 v ((l.drop k).take n.toNat) → Calls Try.prog 28 #[v] w1 fun e w' => ∃ v, e = .returned v ∧ Hid (ZHas w.heap.size (after any r l n) v w' ∧ Below w.heap.size w w')) := fun v hv =>
    (slOwn _ v w1 (by rw [List.length_take, List.length_drop]; omega) (fun e he => (Ho.out e (List.mem_of_mem_drop (List.mem_of_mem_take he))).2) hv).mono fun e w' ⟨v, h5, h6, h7⟩ => ⟨v, h5, by
      obtain ⟨us, h8⟩ := h6
      exact ⟨⟨us, by rw [HU.out]; exact h8.mono H4.out.size⟩, H4.out.trans (h7.mono H4.out.size)⟩⟩
  by_cases hne : l.length = k
  · have HZ : Hid (∀ a c m, m = 0 → EntsIs w1 (.slice a m c) ((l.drop k).take n.toNat)) := fun a c m hm => ent_zero (by rw [List.length_take, List.length_drop]; omega) hm
    clear Ha HU H4 Ho
    go_wp2_with fail
    all_goals
      refine (QO.out _ (HZ.out _ _ _ (by first | rfl | omega))).mono ?_
      rintro e w3 ⟨v, rfl, R⟩
      clear QO HZ
      go_wp2_with fail
      go_ret
      exact ⟨_, rfl, R.out.1, R.out.2⟩
  · obtain ⟨⟨b, o, rfl⟩, hc1, hc2⟩ := ent_addr Ha.out (by rintro rfl; simp at h1 hne; omega)
    unfold maxLen at hc2
    have hck : ¬ cap = k := by omega
    have hEd := ent_drop (Ha.out.on H4.out) k h1
    have HE : Hid (∀ m, m = min n.toNat (l.length - k) → EntsIs w1 (.slice (some ⟨b, o + k * 2, none⟩) m (cap - k)) ((l.drop k).take n.toNat)) := fun m hm => by
      have h8 := ent_take hEd m (by rw [List.length_drop]; omega)
      have e : (l.drop k).take m = (l.drop k).take n.toNat := by
        apply List.ext_getElem?; intro i
        simp only [List.getElem?_take]
        by_cases h : i < n.toNat
        · by_cases h' : i < m
          · simp [h, h']
          · simp [h, h']; omega
        · simp [h, show ¬ i < m by omega]
      rw [e] at h8; exact h8
    clear Ha HU H4 Ho hEd
    go_wp2_with fail
    all_goals
      refine (QO.out _ (HE.out _ (by first | omega | (simp; omega)))).mono ?_
      rintro e w3 ⟨v, rfl, R⟩
      clear QO HE
      go_wp2_with fail
      go_ret
      exact ⟨_, rfl, R.out.1, R.out.2⟩
end Go.Proofs.Ytjpgnohhgkalbaa
