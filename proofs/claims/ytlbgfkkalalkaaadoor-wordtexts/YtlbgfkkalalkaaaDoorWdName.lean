/- The name, or the key, that a text begins with. -/
import Derived.Test.YtlbgfkkalalkaaaDoorWdEnv
namespace Go.Proofs.YtlbgfkkalalkaaaDoor
open Go.RowKit Go.Sort
set_option maxRecDepth 100000

theorem head_at (s : ByteArray) (h : 0 < s.size) : s[0] = s.data.toList.headD 0 := by
  have e : s.data.toList ≠ [] := fun e => by have := Lib.size_eq s; rw [e] at this; simp at this; rw [this] at h; exact absurd h (by decide)
  obtain ⟨c, l, hc⟩ := List.exists_cons_of_ne_nil e
  have h1 : s[0] = s.data.toList[0]'(by rw [← Lib.size_eq]; exact h) := rfl
  rw [h1]; simp only [hc]; rfl
set_option maxHeartbeats 2000000 in
theorem wFirstName (s : ByteArray) (hs : s.size ≤ 65536) (w : World) :
    Calls Tryd.prog 15 #[.string s] w fun e w' => e = wdA (fstName s.data.toList) ∧ Below w.heap.size w w' := by
  have eg : ∀ args w, (callFunc 22 args).run Tryd.prog w = .ok (.enter 22 args) w := fun _ _ => by kernel_rfl
  have q : Hid (∀ w, Calls Tryd.prog 12 #[.string s, .func (.func 22) #[] #[]] w fun e w' => e = .returned (.int .i64 (rn wIn s.data.toList)) ∧ w' = w) := fun w => wRun 22 wIn s hs w eg wInName
  have hk : rn wIn s.data.toList ≤ s.size := by rw [Lib.size_eq]; exact rn_le _ _
  have HF : Hid (fstName s.data.toList = fstName s.data.toList) := rfl
  unfold fstName
  generalize hz : rn wIn s.data.toList = z at *
  have HZ : Hid (rn wIn s.data.toList = z) := hz
  clear hz HF eg
  by_cases h0 : z = 0
  · subst h0
    rw [if_pos (.inl rfl)]
    go_enter Tryd.func15, Tryd.ntmps15
    go_wp2_with (go_at_call 12; refine (q.out _).mono ?_; rintro e w' ⟨rfl, rfl⟩)
    exact bodyPost_ret (v := .tuple #[.agg #[.int .i64 0, .int .i64 0, .string ⟨#[]⟩, .int .i64 0], .int .i64 0]) (by simp [results, Tryd.results15, go_sem]) rfl ⟨rfl, one_box⟩
  have I0 : ((z : Int) == 0) = false := by simp; exact h0
  by_cases h1 : 24 < z
  · rw [if_pos (.inr (.inl h1))]
    have I1 : (24 : Int) < (z : Int) := by omega
    go_enter Tryd.func15, Tryd.ntmps15
    go_wp2_with (go_at_call 12; refine (q.out _).mono ?_; rintro e w' ⟨rfl, rfl⟩)
    exact bodyPost_ret (v := .tuple #[.agg #[.int .i64 0, .int .i64 0, .string ⟨#[]⟩, .int .i64 0], .int .i64 0]) (by simp [results, Tryd.results15, go_sem]) rfl ⟨rfl, one_box⟩
  have I1 : ¬ (24 : Int) < (z : Int) := by omega
  have hp : 0 < s.size := by omega
  have q2 : Hid (∀ w, Calls Tryd.prog 17 #[.int .u8 (s[0].toNat : Int)] w fun e w' => e = .returned (.bool (wLow (s.data.toList.headD 0))) ∧ w' = w) := by
    rw [← head_at s hp]; exact wLetter s[0]
  have I2 : (0 : Int) < (s.size : Int) := by omega
  cases hl : wLow (s.data.toList.headD 0)
  · rw [if_pos (.inr (.inr rfl))]
    rw [hl] at q2
    clear hl
    go_enter Tryd.func15, Tryd.ntmps15
    go_wp2_with (first | (go_at_call 12; refine (q.out _).mono ?_; rintro e w' ⟨rfl, rfl⟩) | (go_at_call 17; refine (q2.out _).mono ?_; rintro e w' ⟨rfl, rfl⟩))
    exact bodyPost_ret (v := .tuple #[.agg #[.int .i64 0, .int .i64 0, .string ⟨#[]⟩, .int .i64 0], .int .i64 0]) (by simp [results, Tryd.results15, go_sem]) rfl ⟨rfl, one_box⟩
  rw [if_neg (by simp [h0, h1])]
  rw [hl] at q2
  have q3 : Hid (∀ w, Calls Tryd.prog 23 #[.string (s.extract 0 z)] w fun e w' => e = .returned (.bool (resv (s.data.toList.take z))) ∧ w' = w) := by
    rw [ext_take]; exact fun w => wReserved _ w
  have HX : Hid ((⟨(s.data.toList.take z).toArray⟩ : ByteArray) = s.extract 0 z) := (ext_take s z).symm
  have HA : Hid (∀ k : Int, wdA (some ⟨k, s.data.toList.take z, 0, z⟩) = .returned (.tuple #[.agg #[.int .i64 k, .int .i64 0, .string (s.extract 0 z), .int .i64 0], .int .i64 z])) := fun k => by rw [← HX.out]; rfl
  generalize resv (s.data.toList.take z) = b at *
  clear hl
  cases b
  · go_enter Tryd.func15, Tryd.ntmps15
    go_wp2_with (first | (go_at_call 12; refine (q.out _).mono ?_; rintro e w' ⟨rfl, rfl⟩) | (go_at_call 17; refine (q2.out _).mono ?_; rintro e w' ⟨rfl, rfl⟩) | (go_at_call 23; refine (q3.out _).mono ?_; rintro e w' ⟨rfl, rfl⟩))
    exact bodyPost_ret (v := .tuple #[.agg #[.int .i64 1, .int .i64 0, .string (s.extract 0 z), .int .i64 0], .int .i64 z]) (by simp [results, Tryd.results15, go_sem]) rfl ⟨(HA.out 1).symm, one_box⟩
  · go_enter Tryd.func15, Tryd.ntmps15
    go_wp2_with (first | (go_at_call 12; refine (q.out _).mono ?_; rintro e w' ⟨rfl, rfl⟩) | (go_at_call 17; refine (q2.out _).mono ?_; rintro e w' ⟨rfl, rfl⟩) | (go_at_call 23; refine (q3.out _).mono ?_; rintro e w' ⟨rfl, rfl⟩))
    exact bodyPost_ret (v := .tuple #[.agg #[.int .i64 5, .int .i64 0, .string (s.extract 0 z), .int .i64 0], .int .i64 z]) (by simp [results, Tryd.results15, go_sem]) rfl ⟨(HA.out 5).symm, one_box⟩
end Go.Proofs.YtlbgfkkalalkaaaDoor
