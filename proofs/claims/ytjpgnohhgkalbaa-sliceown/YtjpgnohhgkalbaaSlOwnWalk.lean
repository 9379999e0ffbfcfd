/- The law SliceOwn answers true at every argument. -/
import Derived.Test.YtjpgnohhgkalbaaSlSaysWalk
namespace Go.Proofs.Ytjpgnohhgkalbaa
open Go.RowKit Go.Sort
set_option maxRecDepth 100000

/-- A list of entries of the call's own, whatever stands in it. -/
def LOwn (base k : Nat) (v : Value) (W : World) : Prop := ∃ xs : List Value, W.ownsRow base 34 2 v k xs
theorem ZHas.list {base : Nat} {l : List Ent} {v : Value} {w : World} (h : ZHas base l v w) : LOwn base l.length v w := by
  obtain ⟨us, h1, h2⟩ := h
  exact ⟨es us, by rw [← h2.1]; exact h1⟩
theorem LOwn.form {base k : Nat} {v : Value} {w : World} (h : LOwn base k v w) : ∃ a cap, v = .slice a k cap := by obtain ⟨xs, h⟩ := h; exact own_form h
theorem LOwn.stored {base k : Nat} {a : Option Addr} {cap : Nat} {w : World} (h : LOwn base k (.slice a k cap) w) {i : Nat} (hi : i < k * 2) (u : Value) :
    ∃ g o, a = some ⟨g, 0, none⟩ ∧ base ≤ g ∧ w.cell? ⟨g, i, none⟩ = some o ∧ w.frozen? ⟨g, i, none⟩ = false ∧ LOwn base k (.slice a k cap) (w.setCell ⟨g, i, none⟩ u) := by
  obtain ⟨xs, h⟩ := h
  obtain ⟨g, cap', hv, hg⟩ : ∃ g cap', (Value.slice a k cap) = .slice (some ⟨g, 0, none⟩) k cap' ∧ base ≤ g := by
    rcases h.2 with ⟨_, e⟩ | ⟨g, cap', cur, hv, q1, _⟩
    · omega
    · exact ⟨g, cap', hv, q1⟩
  simp only [Value.slice.injEq, true_and] at hv
  obtain ⟨rfl, rfl⟩ := hv
  have hx : i < xs.length := by rw [h.1]; exact hi
  exact ⟨g, xs[i], rfl, hg, by rw [h.cellAt i hi, List.getElem?_eq_getElem hx], h.frozenAt _, _, (h.stored i u).1⟩
theorem after_every (z : List Ent) : after false [] z (z.length : Int) = z := by
  have h : z.filter (afP false []) = z := List.filter_eq_self.2 (fun e _ => by simp [afP])
  unfold after; rw [h]; simp
set_option maxHeartbeats 2000000 in
theorem slown_main (a : Option Addr) (len cap : Nat) (zs : List Int) (h1 : (len : Int) ≤ 120) (w : World) (ha : IsRow .i64 w a len cap zs) :
    Calls Try.prog 6 #[.slice a len cap] w fun e w' => e = .returned (.bool true) ∧ Below w.heap.size w w' := by
  obtain ⟨i0, hi, hz0, hz1, hz2⟩ := info_parts info_entry
  have Ha : Hid (IsRow .i64 w a len cap zs) := ha
  have qf := lawFirst4 w
  clear ha
  go_enter Try.func6, Try.ntmps6
  go_wp2_with fail
  refine qf.mono ?_
  rintro e w1 ⟨rfl, hb⟩
  have B1 : Hid (Below w.heap.size w w1) := hb
  clear hb qf
  go_wp2_with fail
  have M := seqCols (Ha.out.below B1.out) [1, 3] 26 3
  refine (makeSet w1.heap.size a len cap zs 0 (w1.heap.size + 1) 2 2 [1, 3] 10 _ M.1 (by decide) (by decide) M.2 (by omega) (by decide) (by simp) (by intro i h; match i, h with | 0, _ => simp | 1, _ => simp)).mono ?_
  clear M
  rintro e w2 ⟨vz, z, rfl, ⟨p, i1, i2, i3, i4, i5, i6, i7⟩, _⟩
  have B2 : Hid (Below w.heap.size w w2) := (B1.out.trans (below_two.mono B1.out.size)).trans (i7.below B1.out.size (by have := B1.out.size; simp; omega))
  have HE2 : Hid (EntsIs w2 vz z) := i4.ents
  have HZ : Hid (IsZ z ∧ EOk z) := ⟨i1, i2⟩
  obtain ⟨aZ, cZ, rfl⟩ := HE2.out.form
  clear i1 i2 i4 i5 i6 i7 Ha B1
  obtain ⟨vs, ea, er⟩ := HE2.out
  have q1 := refEntries vs z _ w2 (by omega) ea er
  have ER : Hid (Reads w2 vs z) := er
  clear ea er
  go_wp2_with fail
  refine q1.mono ?_
  rintro e w3 ⟨vy, rfl, y1, y2⟩
  have Y3 : Hid (EntsIs w3 vy z) := ⟨vs, EntsAt.of_own (by simpa using y1), ER.out.on y2⟩
  have E3 : Hid (EntsIs w3 (.slice aZ z.length cZ) z) := HE2.out.on y2
  have B3 : Hid (Below w.heap.size w w3) := B2.out.trans (y2.mono B2.out.size)
  obtain ⟨aY, cY, rfl⟩ := Y3.out.form
  clear y1 y2 q1 ER HE2 B2
  have q2 := slAfter z [] (.slice aZ z.length cZ) (.slice none 0 0) false (z.length : Int) w3 (by omega) HZ.out.1 HZ.out.2 E3.out (.inl ⟨none, 0, rfl, rfl⟩)
  rw [after_every] at q2
  go_wp2_with fail
  refine q2.mono ?_
  rintro e w4 ⟨va, rfl, a1, a2⟩
  have L4 : Hid (LOwn w3.heap.size z.length va w4) := a1.list
  have P4 : Hid (Below w3.heap.size w3 w4) := a2
  obtain ⟨aA, cA, rfl⟩ := L4.out.form
  clear a1 a2 q2
  go_wp2_with fail
  go_loopw [7] (fun i wr => ∃ j : Nat, j ≤ z.length ∧ i = .int .i64 j ∧ LOwn w3.heap.size z.length (.slice aA z.length cA) wr ∧ Below w3.heap.size w3 wr) (fun i _ => z.length - (intOf i).toNat)
  case atStart => exact ⟨0, by omega, rfl, L4.out, P4.out⟩
  case round =>
    obtain ⟨j, hj, rfl, c1, c2⟩ := hrel
    clear L4 P4
    by_cases k1 : j < z.length
    · have I1 : (j : Int) < (z.length : Int) := by omega
      obtain ⟨g, o, rfl, hg, x1, fz, c3⟩ := c1.stored (i := j * 2 + 1) (by omega) (.int .i64 7777)
      have F : Hid (LOwn w3.heap.size z.length (.slice (some ⟨g, 0, none⟩) z.length cA) (wr.setCell ⟨g, j * 2 + 1, none⟩ (.int .i64 7777)) ∧ Below w3.heap.size w3 (wr.setCell ⟨g, j * 2 + 1, none⟩ (.int .i64 7777))) := ⟨c3, c2.setCell (p := ⟨g, j * 2 + 1, none⟩) hg _⟩
      clear c1 c2 c3
      go_wp2_with fail
      go_roundw
      case rel => exact ⟨j + 1, by omega, by go_num, F.out⟩
      case measure => simp [intOf]; omega
    · have I1 : ¬ (j : Int) < (z.length : Int) := by omega
      obtain ⟨w5, hw5⟩ : ∃ w5, w5 = wr := ⟨wr, rfl⟩
      subst hw5
      have P5 : Hid (Below w3.heap.size w3 w5) := c2
      have hsz : w3.heap.size ≤ w5.heap.size := c2.size
      obtain ⟨xs, o5⟩ := c1
      have O5 : Hid (w5.ownsRow w3.heap.size 34 2 (.slice aA z.length cA) z.length xs) := o5
      clear c2 o5
      have FA : Hid (∀ v6 w6, w6.ownsRow w3.heap.size 34 2 v6 (z.length + 1) (xs ++ ec (.slice none 0 0, 5)) → (w5.alloc (.cells #[.slice none 0 0, .int .i64 5] 34)).grownBy w6 (Value.ownBlock (.slice aA z.length cA)) → (∃ aB cB, v6 = .slice aB (z.length + 1) cB) ∧ Below w3.heap.size w3 w6) := by
        intro v6 w6 g1 g2
        exact ⟨own_form g1, (P5.out.alloc (by omega) _).grown g2 (by simp; omega) (fun k e => (O5.out.lt k e).1)⟩
      go_wp2_with (first | (at_builtin; refine wpList_append_own _ rfl _ _ 27 rfl w3.heap.size 34 i0 (.agg #[.slice none 0 0, .int .i64 0]) 2 32 Try.underlying27 hi hz0 hz1 hz2 rfl (by decide) _ z.length xs rfl (own_on O5.out one_box) ⟨w5.heap.size, 0, none⟩ 1 1 (ec (.slice none 0 0, 5)) rfl rfl (cell_two_new _ _ _ _) (by simp [ec, Value.oneCell']) (by unfold maxLen; omega) (by omega) (by simp; omega) ?_; intro v6 w6 hown6 hg6 _; have hs6 := FA.out _ _ hown6 hg6; clear hown6 hg6 FA) | fail)
      obtain ⟨⟨aB, cB, rfl⟩, b6⟩ := hs6
      have P6 : Hid (Below w3.heap.size w3 w6) := b6
      clear b6 O5 P5
      have q3 : Hid (Calls Try.prog 14 #[.slice aZ z.length cZ, .slice (some ⟨w6.heap.size, 0, none⟩) 1 1, .bool true] (w6.alloc (.cells #[.int .i64 3, .int .i64 1, .string ⟨#[]⟩] 45)) fun e w' => ∃ v, e = .returned v ∧ ∃ k : Nat, LOwn w6.heap.size k v w' ∧ k ≤ 10 ∧ Below w6.heap.size w6 w') :=
        (slUpto z [(3, 1, ⟨#[]⟩)] _ _ true _ (by omega) HZ.out.1 HZ.out.2 ((E3.out.on P6.out).on one_box) (row_new w6 3 1 ⟨#[]⟩)).mono fun e w' ⟨v, p1, p2, p3⟩ => by
          obtain ⟨xs', p4⟩ := p2.list
          exact ⟨v, p1, _, ⟨xs', own_mono p4 (by simp)⟩, by have := List.length_filter_le (upP true [(3, 1, ⟨#[]⟩)]) z; unfold upto; omega, one_box.trans (p3.mono (by simp))⟩
      go_wp2_with fail
      refine q3.out.mono ?_
      rintro e w7 ⟨vb, rfl, k, b1, hk, b2⟩
      have L7 : Hid (LOwn w6.heap.size k vb w7) := b1
      have P7 : Hid (Below w6.heap.size w6 w7) := b2
      obtain ⟨aC, cC, rfl⟩ := L7.out.form
      clear b1 b2 q3
      go_wp2_with fail
      go_loopw [9] (fun i wr => ∃ j : Nat, j ≤ k ∧ i = .int .i64 j ∧ LOwn w6.heap.size k (.slice aC k cC) wr ∧ Below w6.heap.size w6 wr) (fun i _ => k - (intOf i).toNat)
      case atStart => exact ⟨0, by omega, rfl, L7.out, P7.out⟩
      case round =>
        obtain ⟨j', hj', rfl, c1, c2⟩ := hrel
        clear L7 P7
        by_cases k2 : j' < k
        · have I2 : (j' : Int) < (k : Int) := by omega
          obtain ⟨g, o, rfl, hg, x1, fz, c3⟩ := c1.stored (i := j' * 2) (by omega) (.slice none 0 0)
          have F : Hid (LOwn w6.heap.size k (.slice (some ⟨g, 0, none⟩) k cC) (wr.setCell ⟨g, j' * 2, none⟩ (.slice none 0 0)) ∧ Below w6.heap.size w6 (wr.setCell ⟨g, j' * 2, none⟩ (.slice none 0 0))) := ⟨c3, c2.setCell (p := ⟨g, j' * 2, none⟩) hg _⟩
          clear c1 c2 c3
          go_wp2_with fail
          go_roundw
          case rel => exact ⟨j' + 1, by omega, by go_num, F.out⟩
          case measure => simp [intOf]; omega
        · have I2 : ¬ (j' : Int) < (k : Int) := by omega
          have b8 : Below w3.heap.size w3 wr := P6.out.trans (c2.mono P6.out.size)
          have qs := same_ok (E3.out.on b8) (Y3.out.on b8)
          have B8 : Hid (Below w.heap.size w wr) := B3.out.trans (b8.mono B3.out.size)
          clear c1 c2 b8
          go_wp2_with fail
          refine qs.mono ?_
          rintro e w9 ⟨rfl, hb9⟩
          have B9 : Hid (Below w.heap.size w w9) := B8.out.trans (hb9.mono B8.out.size)
          clear hb9 qs
          go_wp2_with fail
          go_ret
          exact ⟨rfl, B9.out⟩
set_option maxHeartbeats 1000000 in
theorem slown_long (a : Option Addr) (len cap : Nat) (w : World) (h : 120 < (len : Int)) :
    Calls Try.prog 6 #[.slice a len cap] w fun e w' => e = .returned (.bool true) ∧ Below w.heap.size w w' := by
  go_enter Try.func6, Try.ntmps6
  go_wp2_with fail
  refine (lawFirst4 _).mono ?_
  rintro e w1 ⟨rfl, hb1⟩
  go_wp2_with fail
  go_ret
  exact ⟨rfl, hb1⟩
theorem sliceOwn_walk (a : Option Addr) (len cap : Nat) (zs : List Int) (w : World) (ha : IsRow .i64 w a len cap zs) :
    Calls Try.prog 6 #[.slice a len cap] w fun e w' => e = .returned (.bool true) ∧ Below w.heap.size w w' := by
  by_cases h : (len : Int) ≤ 120
  · exact slown_main a len cap zs h w ha
  · exact slown_long a len cap w (by omega)
end Go.Proofs.Ytjpgnohhgkalbaa
