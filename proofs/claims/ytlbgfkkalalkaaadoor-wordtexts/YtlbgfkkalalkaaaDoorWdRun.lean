/- What package word asks of bytes, and how many bytes a text begins with that are so. -/
import Derived.Test.YtlbgfkkalalkaaaDoorSmall
import Derived.Test.YtlbgfkkalalkaaaDoorWdPlain
namespace Go.Proofs.YtlbgfkkalalkaaaDoor
open Go.RowKit
set_option maxRecDepth 100000

theorem u8_eq (c d : UInt8) : ((c.toNat : Int) == (d.toNat : Int)) = (c == d) := by
  by_cases h : c = d
  · subst h; rw [beq_self_eq_true, beq_self_eq_true]
  · rw [beq_eq_false_iff_ne.2 h, beq_eq_false_iff_ne.2 (fun e => h (UInt8.toNat_inj.1 (by omega)))]
theorem wLetter (c : UInt8) (w : World) :
    Calls Tryd.prog 17 #[.int .u8 (c.toNat : Int)] w fun e w' => e = .returned (.bool (wLow c)) ∧ w' = w := by
  unfold wLow
  generalize c.toNat = n
  have e1 : decide (97 ≤ n) = decide ((97 : Int) ≤ (n : Int)) := decide_eq_decide.2 (by omega)
  have e2 : decide (n ≤ 122) = decide ((n : Int) ≤ 122) := decide_eq_decide.2 (by omega)
  rw [e1, e2]
  clear e1 e2
  generalize (n : Int) = m
  by_cases h1 : 97 ≤ m <;> by_cases h2 : m ≤ 122
  all_goals
    go_enter Tryd.func17, Tryd.ntmps17
    go_wp2
    go_ret
    exact ⟨by simp [h1, h2], rfl⟩
theorem wDigit (c : UInt8) (w : World) :
    Calls Tryd.prog 18 #[.int .u8 (c.toNat : Int)] w fun e w' => e = .returned (.bool (wDig c)) ∧ w' = w := by
  unfold wDig
  generalize c.toNat = n
  have e1 : decide (48 ≤ n) = decide ((48 : Int) ≤ (n : Int)) := decide_eq_decide.2 (by omega)
  have e2 : decide (n ≤ 57) = decide ((n : Int) ≤ 57) := decide_eq_decide.2 (by omega)
  rw [e1, e2]
  clear e1 e2
  generalize (n : Int) = m
  by_cases h1 : 48 ≤ m <;> by_cases h2 : m ≤ 57
  all_goals
    go_enter Tryd.func18, Tryd.ntmps18
    go_wp2
    go_ret
    exact ⟨by simp [h1, h2], rfl⟩
theorem wInName (c : UInt8) (w : World) :
    Calls Tryd.prog 22 #[.int .u8 (c.toNat : Int)] w fun e w' => e = .returned (.bool (wIn c)) ∧ w' = w := by
  have q1 : Hid (∀ w, Calls Tryd.prog 17 #[.int .u8 (c.toNat : Int)] w fun e w' => e = .returned (.bool (wLow c)) ∧ w' = w) := wLetter c
  have q2 : Hid (∀ w, Calls Tryd.prog 18 #[.int .u8 (c.toNat : Int)] w fun e w' => e = .returned (.bool (wDig c)) ∧ w' = w) := wDigit c
  have e3 := u8_eq c 95
  unfold wIn
  rw [← e3]
  clear e3
  generalize (c.toNat : Int) = m at *
  generalize wLow c = x at *
  generalize wDig c = y at *
  have e4 : ((95 : UInt8).toNat : Int) = 95 := rfl
  rw [e4]
  clear e4
  cases hm : (m == 95) <;> cases x <;> cases y
  all_goals
    go_enter Tryd.func22, Tryd.ntmps22
    go_wp2_with (first | (go_at_call 17; refine (q1.out _).mono ?_; rintro e w' ⟨rfl, rfl⟩) | (go_at_call 18; refine (q2.out _).mono ?_; rintro e w' ⟨rfl, rfl⟩))
    go_ret
    exact ⟨rfl, rfl⟩
theorem wBlankC (c : UInt8) (w : World) :
    Calls Tryd.prog 13 #[.int .u8 (c.toNat : Int)] w fun e w' => e = .returned (.bool (wBlank c)) ∧ w' = w := by
  unfold wBlank
  have e1 := u8_eq c 32
  have e2 := u8_eq c 9
  have e3 := u8_eq c 10
  have e4 := u8_eq c 13
  rw [← e1, ← e2, ← e3, ← e4]
  clear e1 e2 e3 e4
  generalize (c.toNat : Int) = m
  have e1 : ((32 : UInt8).toNat : Int) = 32 := rfl
  have e2 : ((9 : UInt8).toNat : Int) = 9 := rfl
  have e3 : ((10 : UInt8).toNat : Int) = 10 := rfl
  have e4 : ((13 : UInt8).toNat : Int) = 13 := rfl
  rw [e1, e2, e3, e4]
  clear e1 e2 e3 e4
  cases h1 : (m == 32) <;> cases h2 : (m == 9) <;> cases h3 : (m == 10) <;> cases h4 : (m == 13)
  all_goals
    go_enter Tryd.func13, Tryd.ntmps13
    go_wp2
    go_ret
    exact ⟨rfl, rfl⟩
set_option maxHeartbeats 1000000 in
theorem wRun (g : Nat) (p : UInt8 → Bool) (s : ByteArray) (hs : s.size ≤ 65536) (w : World) (eg : ∀ args w, (callFunc g args).run Tryd.prog w = .ok (.enter g args) w)
    (hf : ∀ (c : UInt8) (w : World), Calls Tryd.prog g #[.int .u8 (c.toNat : Int)] w fun e w' => e = .returned (.bool (p c)) ∧ w' = w) :
    Calls Tryd.prog 12 #[.string s, .func (.func g) #[] #[]] w fun e w' => e = .returned (.int .i64 (rn p s.data.toList)) ∧ w' = w := by
  have HF : Hid (∀ (c : UInt8) (w : World), Calls Tryd.prog g #[.int .u8 (c.toNat : Int)] w fun e w' => e = .returned (.bool (p c)) ∧ w' = w) := hf
  clear hf
  go_enter Tryd.func12, Tryd.ntmps12
  go_wp2_with fail
  go_loopw [8] (fun s8 wr => ∃ i : Nat, s8 = .int .i64 i ∧ i ≤ s.size ∧ Hid (∀ k (h : k < s.size), k < i → p s[k] = true) ∧ wr = w) (fun s8 _ => s.size - (intOf s8).toNat)
  case atStart => exact ⟨0, rfl, Nat.zero_le _, fun k h1 h2 => by omega, rfl⟩
  case round =>
    obtain ⟨i, rfl, h1, hP, rfl⟩ := hrel
    by_cases hlt : i < s.size
    · have I1 : (i : Int) < (s.size : Int) := by omega
      have q : Hid (Calls Tryd.prog g #[.int .u8 (s[i].toNat : Int)] wr fun e w' => e = .returned (.bool (p s[i])) ∧ w' = wr) := HF.out s[i] wr
      have HR : Hid (s[i] = s.data.toList[i]'(by rw [← Lib.size_eq]; exact hlt)) := rfl
      have HT : Hid (p s[i] = true → ∀ k (h : k < s.size), k < i + 1 → p s[k] = true) := fun e k h hk => by
        rcases Nat.lt_or_eq_of_le (Nat.le_of_lt_succ hk) with h' | rfl
        · exact hP.out k h h'
        · exact e
      have HN : Hid (p s[i] = false → rn p s.data.toList = i) := fun e => rn_at p _ i (by rw [← Lib.size_eq]; exact h1) (fun k h hk => hP.out k (by rw [Lib.size_eq]; exact h) hk) (fun _ => e)
      clear hP HR
      generalize p s[i] = b at *
      go_wp2_with fail
      refine q.out.mono ?_
      rintro e w' ⟨rfl, rfl⟩
      cases b
      · have N0 : Hid (rn p s.data.toList = i) := HN.out rfl
        clear HN HT q
        go_wp2_with fail
        go_ret
        exact ⟨by rw [N0.out]; rfl, rfl⟩
      · have P0 : Hid (∀ k (h : k < s.size), k < i + 1 → p s[k] = true) := HT.out rfl
        clear HN HT q
        go_wp2_with fail
        go_roundw
        case rel => exact ⟨i + 1, by go_num, by omega, P0, trivial⟩
        case measure => simp only [intOf]; omega
    · obtain rfl : i = s.size := by omega
      have I0 : ¬ (s.size : Int) < (s.size : Int) := by omega
      have N0 : Hid (rn p s.data.toList = s.size) := rn_at p _ _ (by rw [← Lib.size_eq]; exact Nat.le_refl _) (fun k h hk => hP.out k (by rw [Lib.size_eq]; exact h) hk) (fun h => absurd h (by rw [← Lib.size_eq]; omega))
      clear hP hlt
      go_wp2_with fail
      go_ret
      exact ⟨by rw [N0.out]; rfl, rfl⟩
end Go.Proofs.YtlbgfkkalalkaaaDoor
