/- The string that a text begins with. -/
import Derived.Test.YtlbgfkkalalkaaaDoorWdMark
namespace Go.Proofs.YtlbgfkkalalkaaaDoor
open Go.RowKit Go.Sort
set_option maxRecDepth 100000

/-- How far the end of a string is looked for: i bytes are behind it, and the end is as far from there as from the beginning. -/
theorem clN_le : ∀ l : List UInt8, clN l ≤ l.length
  | [] => Nat.le_refl _
  | [c] => by unfold clN; split <;> simp
  | c :: d :: l => by
    have h1 := clN_le l
    have h2 := clN_le (d :: l)
    unfold clN
    simp only [List.length_cons] at h2 ⊢
    repeat' split
    all_goals omega
theorem clN_other {c : UInt8} (h : c ≠ 39) (l : List UInt8) : clN (c :: l) = 1 + clN l := by
  cases l with
  | nil => unfold clN; rw [if_neg h]
  | cons d l => rw [clN, if_neg h]
theorem clN_end : clN [39] = 0 := rfl
theorem clN_stop {d : UInt8} (h : d ≠ 39) (l : List UInt8) : clN (39 :: d :: l) = 0 := by rw [clN, if_pos rfl, if_neg h]
theorem clN_two (l : List UInt8) : clN (39 :: 39 :: l) = 2 + clN l := by rw [clN, if_pos rfl, if_pos rfl]
theorem drop_at (s : ByteArray) (i : Nat) (h : i < s.size) : s.data.toList.drop i = s[i] :: s.data.toList.drop (i + 1) := by
  rw [List.drop_eq_getElem_cons (by rw [← Lib.size_eq]; exact h)]; rfl
set_option maxHeartbeats 2000000 in
theorem wClosing (s : ByteArray) (hp : 0 < s.size) (hs : s.size ≤ 65536) (w : World) :
    Calls Tryd.prog 29 #[.string s] w fun e w' => e = .returned (.int .i64 ((1 + clN (s.data.toList.drop 1) : Nat) : Int)) ∧ w' = w := by
  obtain ⟨T, hT⟩ : ∃ T, T = 1 + clN (s.data.toList.drop 1) := ⟨_, rfl⟩
  rw [← hT]
  have HT : Hid (T = 1 + clN (s.data.toList.drop 1)) := hT
  clear hT
  go_enter Tryd.func29, Tryd.ntmps29
  go_wp2_with fail
  go_loopw [3] (fun s3 wr => ∃ i : Nat, s3 = .int .i64 i ∧ 1 ≤ i ∧ i ≤ s.size ∧ Hid (T = i + clN (s.data.toList.drop i)) ∧ wr = w) (fun s3 _ => s.size - (intOf s3).toNat)
  case atStart => exact ⟨1, rfl, Nat.le_refl _, hp, HT, rfl⟩
  case round =>
    obtain ⟨i, rfl, h1, h2, hP, rfl⟩ := hrel
    clear HT
    by_cases hlt : i < s.size
    · have I1 : (i : Int) < (s.size : Int) := by omega
      have D1 : Hid (s.data.toList.drop i = s[i] :: s.data.toList.drop (i + 1)) := drop_at s i hlt
      have e39 := u8_eq s[i] 39
      rw [show ((39 : UInt8).toNat : Int) = 39 from rfl] at e39
      cases hc : (s[i] == 39)
      · rw [hc] at e39
        have P1 : Hid (T = (i + 1) + clN (s.data.toList.drop (i + 1))) := by
          show _ = _
          rw [hP.out, D1.out, clN_other (beq_eq_false_iff_ne.1 hc)]; omega
        clear hP D1 hc
        go_wp2_with fail
        go_roundw
        case rel => exact ⟨i + 1, by go_num, by omega, by omega, P1, trivial⟩
        case measure => simp only [intOf]; omega
      · rw [hc] at e39
        have es : s[i] = 39 := beq_iff_eq.1 hc
        by_cases hl : i + 1 < s.size
        · have I2 : ((i : Int) + 1 == (s.size : Int)) = false := by simp; omega
          have I3 : (i : Int) + 1 < (s.size : Int) := by omega
          have D2 : Hid (s.data.toList.drop (i + 1) = s[i + 1] :: s.data.toList.drop (i + 1 + 1)) := drop_at s (i + 1) hl
          have f39 := u8_eq s[i + 1] 39
          rw [show ((39 : UInt8).toNat : Int) = 39 from rfl] at f39
          cases hd : (s[i + 1] == 39)
          · rw [hd] at f39
            have P1 : Hid (T = i) := by
              show _ = _
              rw [hP.out, D1.out, D2.out, es, clN_stop (beq_eq_false_iff_ne.1 hd)]; rfl
            clear hP D1 D2 hc hd es
            go_wp2_with fail
            go_ret
            exact ⟨by rw [P1.out]; rfl, rfl⟩
          · rw [hd] at f39
            have et : s[i + 1] = 39 := beq_iff_eq.1 hd
            have P1 : Hid (T = (i + 2) + clN (s.data.toList.drop (i + 2))) := by
              show _ = _
              rw [hP.out, D1.out, D2.out, es, et, clN_two, show i + 1 + 1 = i + 2 from rfl]; omega
            clear hP D1 D2 hc hd es et
            go_wp2_with fail
            go_roundw
            case rel => exact ⟨i + 2, by go_num, by omega, by omega, P1, trivial⟩
            case measure => simp only [intOf]; omega
        · have I2 : ((i : Int) + 1 == (s.size : Int)) = true := by simp; omega
          have P1 : Hid (T = i) := by
            show _ = _
            rw [hP.out, D1.out, es, List.drop_of_length_le (by rw [← Lib.size_eq]; omega), clN_end]; rfl
          clear hP D1 hc es
          go_wp2_with fail
          go_ret
          exact ⟨by rw [P1.out]; rfl, rfl⟩
    · obtain rfl : i = s.size := by omega
      have P1 : Hid (T = s.size) := by
        show _ = _
        rw [hP.out, List.drop_of_length_le (by rw [← Lib.size_eq]; exact Nat.le_refl _)]; rfl
      have I0 : ¬ (s.size : Int) < (s.size : Int) := by omega
      clear hP hlt
      go_wp2_with fail
      go_ret
      exact ⟨by rw [P1.out]; rfl, rfl⟩
theorem ext_mid (s : ByteArray) (a b : Nat) : s.extract a b = ⟨((s.data.toList.drop a).take (b - a)).toArray⟩ := Lib.extract_eq s a b
set_option maxHeartbeats 2000000 in
theorem wFirstString (s : ByteArray) (hp : 0 < s.size) (hs : s.size ≤ 65536) (w : World) (hr : Ready w) :
    Calls Tryd.prog 20 #[.string s] w fun e w' => e = wdA (fstStr s.data.toList) ∧ Below w.heap.size w w' := by
  have I2 : (0 : Int) < (s.size : Int) := by omega
  have hk : clN (s.data.toList.drop 1) ≤ s.size - 1 := by
    have := clN_le (s.data.toList.drop 1)
    rw [List.length_drop, ← Lib.size_eq] at this; exact this
  have hl : (s.data.toList.drop 1).length = s.size - 1 := by rw [List.length_drop, ← Lib.size_eq]
  have q1 : Hid (∀ w, Calls Tryd.prog 29 #[.string s] w fun e w' => e = .returned (.int .i64 ((1 + clN (s.data.toList.drop 1) : Nat) : Int)) ∧ w' = w) := wClosing s hp hs
  have HQ : Hid (∀ k, k ≤ s.size - 1 → ∀ o, Calls Tryd.prog 30 #[.string (s.extract 1 (1 + k)), .string ⟨#[39, 39]⟩, .string ⟨#[39]⟩] (w.alloc o) fun e w' => e = .returned (.string ⟨(Lib.replaceAll ((s.data.toList.drop 1).take k) [39, 39] [39]).toArray⟩) ∧ Below (w.heap.size + 1) (w.alloc o) w') := by
    intro k hk o
    obtain ⟨_, m, hm⟩ := hr.on (one_box (w := w) (o := o))
    have hx : (s.extract 1 (1 + k)).size ≤ 65536 := by simp [ByteArray.size_extract]; omega
    have hc := Lib.countB_le ⟨#[39, 39]⟩ (by decide) _ (s.extract 1 (1 + k)) (Nat.le_refl _)
    have h := Tryd.strings_ReplaceAll (s.extract 1 (1 + k)) ⟨#[39, 39]⟩ ⟨#[39]⟩ m (w.alloc o) (by omega) hm (by decide) (by show _ + Lib.countB _ ⟨#[39, 39]⟩ * 1 ≤ _; omega)
    have e : (s.extract 1 (1 + k)).data.toList = (s.data.toList.drop 1).take k := by rw [ext_mid, show 1 + k - 1 = k by omega]
    rw [e] at h
    refine h.mono fun e w' ⟨h1, h2⟩ => ⟨h1, ?_⟩
    simpa using h2
  have HF : Hid (fstStr s.data.toList = fstStr s.data.toList) := rfl
  unfold fstStr
  rw [hl]
  generalize hkk : clN (s.data.toList.drop 1) = k at *
  clear hl HF hkk hr
  by_cases h1 : k = s.size - 1
  · rw [if_pos h1]
    have E1 : (((1 + k : Nat) : Int) == (s.size : Int)) = true := by simp; omega
    clear HQ
    go_enter Tryd.func20, Tryd.ntmps20
    go_wp2_with (go_at_call 29; refine (q1.out _).mono ?_; rintro e w' ⟨rfl, rfl⟩)
    exact bodyPost_ret (v := .tuple #[.agg #[.int .i64 0, .int .i64 0, .string ⟨#[]⟩, .int .i64 0], .int .i64 0]) (by simp [results, Tryd.results20, go_sem]) rfl ⟨rfl, one_box⟩
  rw [if_neg h1]
  have E1 : (((1 + k : Nat) : Int) == (s.size : Int)) = false := by simp; omega
  have HZ : Hid (∀ t, wdA (some ⟨3, t, 0, k + 2⟩) = .returned (.tuple #[.agg #[.int .i64 3, .int .i64 0, .string ⟨t.toArray⟩, .int .i64 0], .int .i64 (((1 + k : Nat) : Int) + 1)])) := fun t => by
    have e : (((1 + k : Nat) : Int) + 1) = ((k + 2 : Nat) : Int) := by omega
    rw [e]; rfl
  have q2 : Hid (∀ o, Calls Tryd.prog 30 #[.string (s.extract 1 (1 + k)), .string ⟨#[39, 39]⟩, .string ⟨#[39]⟩] (w.alloc o) fun e w' => e = .returned (.string ⟨(Lib.replaceAll ((s.data.toList.drop 1).take k) [39, 39] [39]).toArray⟩) ∧ Below (w.heap.size + 1) (w.alloc o) w') := HQ.out k hk
  clear HQ
  generalize Lib.replaceAll ((s.data.toList.drop 1).take k) [39, 39] [39] = t at *
  obtain ⟨m, hm⟩ : ∃ m, m = 1 + k := ⟨_, rfl⟩
  rw [← hm] at q1 q2 E1 HZ
  have I3 : (m : Int) ≤ (s.size : Int) := by omega
  have I4 : (1 : Int) ≤ (m : Int) := by omega
  clear hm hk h1
  by_cases h2 : 64 < t.length
  · rw [if_pos h2]
    have I5 : (64 : Int) < (t.length : Int) := by omega
    clear h2
    go_enter Tryd.func20, Tryd.ntmps20
    go_wp2_with (first | (go_at_call 29; refine (q1.out _).mono ?_; rintro e w' ⟨rfl, rfl⟩) | (go_at_call 30; refine (q2.out _).mono ?_; rintro e w1 ⟨rfl, hb1⟩; obtain ⟨c0, c1, c2, c3, f0, f1, f2, f3⟩ := wbox hb1; have B : Hid (∀ x0 x1 x2 x3, Below w.heap.size w ((((w1.setCell ⟨w.heap.size, 0, none⟩ x0).setCell ⟨w.heap.size, 1, none⟩ x1).setCell ⟨w.heap.size, 2, none⟩ x2).setCell ⟨w.heap.size, 3, none⟩ x3)) := wbox_put hb1; clear hb1))
    exact bodyPost_ret (v := .tuple #[.agg #[.int .i64 0, .int .i64 0, .string ⟨#[]⟩, .int .i64 0], .int .i64 0]) (by simp [results, Tryd.results20, go_sem, c0, c1, c2, c3]) rfl ⟨rfl, B.out _ _ _ _⟩
  · rw [if_neg h2]
    have I5 : ¬ (64 : Int) < (t.length : Int) := by omega
    clear h2
    go_enter Tryd.func20, Tryd.ntmps20
    go_wp2_with (first | (go_at_call 29; refine (q1.out _).mono ?_; rintro e w' ⟨rfl, rfl⟩) | (go_at_call 30; refine (q2.out _).mono ?_; rintro e w1 ⟨rfl, hb1⟩; obtain ⟨c0, c1, c2, c3, f0, f1, f2, f3⟩ := wbox hb1; have B : Hid (∀ x0 x1 x2 x3, Below w.heap.size w ((((w1.setCell ⟨w.heap.size, 0, none⟩ x0).setCell ⟨w.heap.size, 1, none⟩ x1).setCell ⟨w.heap.size, 2, none⟩ x2).setCell ⟨w.heap.size, 3, none⟩ x3)) := wbox_put hb1; clear hb1))
    exact bodyPost_ret (v := .tuple #[.agg #[.int .i64 3, .int .i64 0, .string ⟨t.toArray⟩, .int .i64 0], .int .i64 ((m : Int) + 1)]) (by simp [results, Tryd.results20, go_sem, c0, c1, c2, c3]) rfl ⟨(HZ.out t).symm, B.out _ _ _ _⟩
end Go.Proofs.YtlbgfkkalalkaaaDoor
