/- What the document's own ShowRow answers of rows in memory whose values may be. -/
import Derived.Test.YtihijfbbmenbnaaDoorRowMem
import Derived.Test.YtihijfbbmenbnaaDoorRefShow
namespace Go.Proofs.YtihijfbbmenbnaaDoor
open Go.RowKit
set_option maxRecDepth 100000

/-- A value as it is written; a row's values with commas between; a row. -/
def shv (v : Val) : List UInt8 := shV v.1 v.2.1 v.2.2
def shB : List Val → List UInt8
  | [] => []
  | [v] => shv v
  | v :: u :: l => shv v ++ 44 :: 32 :: shB (u :: l)
def shR (l : List Val) : List UInt8 := 40 :: (shB l ++ [41])
theorem shB_snoc : ∀ (l : List Val) (v : Val), l ≠ [] → shB (l ++ [v]) = shB l ++ 44 :: 32 :: shv v
  | [], _, h => absurd rfl h
  | [a], v, _ => rfl
  | a :: b :: l, v, _ => by
    have ih := shB_snoc (b :: l) v (by simp)
    simp only [List.cons_append, shB] at ih ⊢
    rw [ih]; simp
theorem nDigits_le : ∀ (k u : Nat), u < 10 ^ (k + 1) → Lib.nDigits u ≤ k + 1
  | 0, u, h => by rw [Lib.nDigits_small (by simpa using h)]; omega
  | k + 1, u, h => by
    by_cases e : u < 10
    · rw [Lib.nDigits_small e]; omega
    · rw [Lib.nDigits_big e]
      have := nDigits_le k (u / 10) (by rw [Nat.pow_succ] at h; omega)
      omega
theorem itoa_len (n : Int) (h0 : -9223372036854775808 ≤ n) (h1 : n ≤ 9223372036854775807) : (Lib.itoa n).length ≤ 21 := by
  unfold Lib.itoa
  split
  · have := nDigits_le 19 n.natAbs (by omega)
    simp only [List.length_cons]; rw [Lib.decDigits_length]; omega
  · have := nDigits_le 19 n.toNat (by omega)
    rw [Lib.decDigits_length]; omega
/-- A value that may be, its number within its bounds. -/
def okv (v : Val) : Prop := ckV v.1 v.2.1 v.2.2 = true ∧ -9223372036854775808 ≤ v.2.1 ∧ v.2.1 ≤ 9223372036854775807 ∧ v.2.2.size ≤ 64
theorem shv_len {v : Val} (h : okv v) : (shv v).length ≤ 130 := by
  obtain ⟨k, n, s⟩ := v
  obtain ⟨h1, h2, h3, h4⟩ := h
  simp only at h1 h2 h3 h4
  show (shV k n s).length ≤ 130
  rcases ck_cases h1 with ⟨rfl, rfl, _⟩ | ⟨rfl, _⟩ | ⟨rfl, rfl⟩ | ⟨rfl, hn, _⟩
  · show ([110, 117, 108, 108] : List UInt8).length ≤ 130; decide
  · have := itoa_len n h2 h3; show (Lib.itoa n).length ≤ 130; omega
  · have := dq_len s.data.toList; have e := Lib.size_eq s
    show (39 :: (dq s.data.toList ++ [39])).length ≤ 130
    simp; omega
  · rcases hn with rfl | rfl
    · show (Lib.formatBool ((0 : Int) != 0)).length ≤ 130; rw [tf.1]; decide
    · show (Lib.formatBool ((1 : Int) != 0)).length ≤ 130; rw [tf.2]; decide
theorem shB_len : ∀ (l : List Val), (∀ v ∈ l, okv v) → (shB l).length ≤ 132 * l.length
  | [], _ => by simp [shB]
  | [v], h => by have := shv_len (h v (by simp)); simp [shB]; omega
  | v :: u :: l, h => by
    have h1 := shv_len (h v (by simp))
    have h2 := shB_len (u :: l) (fun x hx => h x (by simp at hx ⊢; exact .inr hx))
    simp only [shB, List.length_append, List.length_cons] at h2 ⊢; omega
theorem bjoin (x y : List UInt8) : (⟨x.toArray⟩ : ByteArray) ++ ⟨y.toArray⟩ = ⟨(x ++ y).toArray⟩ := by
  apply ByteArray.ext
  simp [ByteArray.data_append]

/-- What is written of the first values. -/
theorem shB_take {l : List Val} {j : Nat} (h : j < l.length) (h0 : j ≠ 0) : shB (l.take (j + 1)) = shB (l.take j) ++ 44 :: 32 :: shv l[j] := by
  rw [List.take_succ_eq_append_getElem h, shB_snoc _ _ (by intro e; have := congrArg List.length e; rw [List.length_take, List.length_nil] at this; omega)]
theorem shB_one {l : List Val} (h : 0 < l.length) : shB (l.take 1) = shv l[0] := by
  rw [List.take_succ_eq_append_getElem h]; rfl
theorem okv_take {l : List Val} (h : ∀ v ∈ l, okv v) (j : Nat) : (shB (l.take j)).length ≤ 132 * l.length := by
  have h1 := shB_len (l.take j) (fun v hv => h v (List.mem_of_mem_take hv))
  have h2 := List.length_take_le' j l
  omega

theorem size_mk (l : List UInt8) : (⟨l.toArray⟩ : ByteArray).size = l.length := by simp [ByteArray.size]
/-- The text so far. -/
def TextTo (l : List Val) (j : Nat) (T : ByteArray) : Prop := T = ⟨(40 :: shB (l.take j)).toArray⟩
theorem TextTo.one {l : List Val} {T Y : ByteArray} (h : TextTo l 0 T) (hl : 0 < l.length) (hy : Y = ⟨(shv l[0]).toArray⟩) : TextTo l 1 (T ++ Y) := by
  unfold TextTo at h ⊢
  rw [h, hy, shB_one hl, bjoin]; rfl
theorem TextTo.more {l : List Val} {j : Nat} {T Y : ByteArray} (h : TextTo l j T) (hl : j < l.length) (h0 : j ≠ 0) (hy : Y = ⟨(shv l[j]).toArray⟩) : TextTo l (j + 1) (T ++ ⟨#[44, 32]⟩ ++ Y) := by
  unfold TextTo at h ⊢
  rw [h, hy, shB_take hl h0]
  apply ByteArray.ext; simp [ByteArray.data_append]
theorem TextTo.all {l : List Val} {T : ByteArray} (h : TextTo l l.length T) : T ++ ⟨#[41]⟩ = ⟨(shR l).toArray⟩ := by
  unfold TextTo at h
  rw [h, List.take_length]
  apply ByteArray.ext; simp [ByteArray.data_append, shR]
theorem TextTo.size {l : List Val} {j : Nat} {T : ByteArray} (h : TextTo l j T) (hok : ∀ v ∈ l, okv v) : T.size ≤ 132 * l.length + 1 := by
  have := okv_take hok j
  unfold TextTo at h; rw [h, size_mk]; simp; omega

set_option maxHeartbeats 2000000 in
theorem refShowRow_some (l : List Val) (b o cap : Nat) (w : World) (hr : Ready w) (hn : l.length ≤ 65536) (hok : ∀ v ∈ l, okv v) (ha : RowIs w (.slice (some ⟨b, o, none⟩) l.length cap) l) :
    Calls Tryd.prog 18 #[.slice (some ⟨b, o, none⟩) l.length cap] w fun e w' => e = .returned (.string ⟨(shR l).toArray⟩) ∧ Below w.heap.size w w' := by
  have Ha : Hid (RowIs w (.slice (some ⟨b, o, none⟩) l.length cap) l) := ha
  have Hok : Hid (∀ v ∈ l, okv v) := hok
  clear ha hok
  go_enter Tryd.func18, Tryd.ntmps18
  go_wp2_with fail
  go_loopw [3, 4] (fun s i wr => ∃ (j : Nat) (T : ByteArray), j ≤ l.length ∧ i = .int .i64 j ∧ s = .string T ∧ TextTo l j T ∧ Below w.heap.size w wr) (fun _ i _ => l.length - (intOf i).toNat)
  case atStart => exact ⟨0, _, by omega, rfl, rfl, rfl, Below.refl _ _⟩
  case round =>
    obtain ⟨j, T, hj, rfl, rfl, hT, hB⟩ := hrel
    have hTl := hT.size Hok.out
    by_cases hlt : j < l.length
    · have X := (Ha.out.on hB).at' j hlt
      have I1 : (j : Int) < (l.length : Int) := by omega
      have hv := Hok.out l[j] (List.getElem_mem hlt)
      obtain ⟨Y, hY⟩ : ∃ Y : ByteArray, Y = ⟨(shv l[j]).toArray⟩ := ⟨_, rfl⟩
      have hYl : Y.size ≤ 130 := by rw [hY, size_mk]; exact shv_len hv
      have q : Hid (Calls Tryd.prog 33 #[.agg #[.int .i64 l[j].1, .int .i64 l[j].2.1, .string l[j].2.2]] wr fun e w'' => e = .returned (.string Y) ∧ Below wr.heap.size wr w'') := by
        rw [hY]; exact refShowValue l[j].1 l[j].2.1 l[j].2.2 hv.1 hv.2.1 hv.2.2.1 (by have := hv.2.2.2; omega) wr (hr.on hB)
      have HY : Hid (Y = ⟨(shv l[j]).toArray⟩) := hY
      have HT : Hid (TextTo l j T) := hT
      clear hv hY hT
      by_cases h0 : j = 0
      · subst h0
        have H1 : Hid (TextTo l 1 (T ++ Y)) := HT.out.one hlt HY.out
        clear HY HT
        generalize l[0] = x at *
        simp only [Nat.zero_mul, Nat.add_zero] at X
        obtain ⟨x1, x2, x3⟩ := X
        go_wp2_with fail
        refine q.out.mono ?_
        rintro e w1 ⟨rfl, hb1⟩
        have hB1 : Below w.heap.size w w1 := hB.trans (hb1.mono hB.size)
        clear hb1 x1 x2 x3
        go_wp2_with fail
        go_roundw
        case rel => exact ⟨1, _, by omega, rfl, rfl, H1.out, hB1⟩
        case measure => simp [intOf]; omega
      · have H1 : Hid (TextTo l (j + 1) (T ++ ⟨#[44, 32]⟩ ++ Y)) := HT.out.more hlt h0 HY.out
        have I0 : (0 : Int) < (j : Int) := by omega
        clear HY HT
        generalize l[j] = x at *
        obtain ⟨x1, x2, x3⟩ := X
        go_wp2_with fail
        refine q.out.mono ?_
        rintro e w1 ⟨rfl, hb1⟩
        have hB1 : Below w.heap.size w w1 := hB.trans (hb1.mono hB.size)
        clear hb1 x1 x2 x3
        go_wp2_with fail
        go_roundw
        case rel => exact ⟨j + 1, _, by omega, by go_num, rfl, H1.out, hB1⟩
        case measure => simp [intOf]; omega
    · obtain rfl : j = l.length := by omega
      have I1 : ¬ (l.length : Int) < (l.length : Int) := by omega
      have H1 := hT.all
      have HH : Hid (T ++ ⟨#[41]⟩ = ⟨(shR l).toArray⟩) := H1
      clear H1 hT
      go_wp2_with fail
      rw [HH.out]
      go_ret
      exact ⟨rfl, hB⟩

set_option maxHeartbeats 1000000 in
theorem refShowRow_none (a0 : Option Addr) (cap : Nat) (w : World) :
    Calls Tryd.prog 18 #[.slice a0 0 cap] w fun e w' => e = .returned (.string ⟨#[40, 41]⟩) ∧ w' = w := by
  go_enter Tryd.func18, Tryd.ntmps18
  go_wp2_with fail
  go_loopw [3, 4] (fun s i wr => s = .string ⟨#[40]⟩ ∧ i = .int .i64 0 ∧ wr = w) (fun _ _ _ => 0)
  case atStart => exact ⟨rfl, rfl, rfl⟩
  case round =>
    obtain ⟨rfl, rfl, rfl⟩ := hrel
    go_wp2_with fail
    go_ret
    exact ⟨rfl, rfl⟩

/-- How the document writes a row. -/
theorem refShowRow (l : List Val) (va : Value) (w : World) (hr : Ready w) (hn : l.length ≤ 65536) (hok : ∀ v ∈ l, okv v) (ha : RowIs w va l) :
    Calls Tryd.prog 18 #[va] w fun e w' => e = .returned (.string ⟨(shR l).toArray⟩) ∧ Below w.heap.size w w' := by
  by_cases hl : l = []
  · subst hl
    obtain ⟨a0, cap, rfl⟩ := ha.form
    refine (refShowRow_none a0 cap w).mono ?_
    rintro e w' ⟨rfl, rfl⟩
    exact ⟨rfl, Below.refl _ _⟩
  · obtain ⟨b, o, cap, rfl⟩ := ha.addr hl
    exact refShowRow_some l b o cap w hr hn hok ha
end Go.Proofs.YtihijfbbmenbnaaDoor
