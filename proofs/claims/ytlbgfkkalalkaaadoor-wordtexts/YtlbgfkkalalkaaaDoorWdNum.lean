/- The number that a text begins with. -/
import Derived.Test.YtlbgfkkalalkaaaDoorWdStr
import Derived.Lib.AtoiErrMem
import Derived.Lib.ParseIntBCases
namespace Go.Proofs.YtlbgfkkalalkaaaDoor
open Go.RowKit Go.Sort
set_option maxRecDepth 100000

theorem errV_or (a : Addr) : errV a = .nilIface ∨ ∃ te pe, errV a = .iface te pe := .inr ⟨_, _, rfl⟩
theorem bytes_below {w w' : World} {t : TypeId} (h : w' = w ∨ ∃ s, w' = Lib.bytesWorld w t s) : Below w.heap.size w w' := by
  rcases h with rfl | ⟨s, rfl⟩
  · exact Below.refl _ _
  · exact Lib.bytesWorld_below _ _ _
theorem wParseOk (x : ByteArray) (hx : x.size ≤ 65536) (v : Int) (h : Lib.parseIntB 64 x.data.toList = .ok v) (w : World) :
    Calls Tryd.prog 28 #[.string x, .int .i64 10, .int .i64 64] w fun e w' => e = .returned (.tuple #[.int .i64 v, .nilIface]) ∧ Below w.heap.size w w' :=
  (Tryd.strconv_ParseInt_10_at64_ok x (by omega) v h w).mono fun _ _ ⟨h1, h2⟩ => ⟨h1, bytes_below h2⟩
theorem wParseBad (x : ByteArray) (hx : x.size ≤ 65536) (h : Lib.parseIntB 64 x.data.toList = .range) (w : World) (hw : WdW w) :
    Calls Tryd.prog 28 #[.string x, .int .i64 10, .int .i64 64] w fun e w' => ∃ n N, e = .returned (.tuple #[.int .i64 n, .iface 77 (.pointer (some ⟨N, 0, none⟩))]) ∧ Below w.heap.size w w' := by
  obtain ⟨_, b, hb⟩ := hw
  exact (Tryd.strconv_ParseInt_10_at64_range x (by omega) h _ w hb (errV_or b)).mono fun _ _ ⟨N, h1, _, _, h4⟩ => ⟨_, N, h1, h4⟩
/-- Digits come to a number, or are beyond. -/
theorem parseM_two : ∀ (l : List UInt8) (acc : Nat), (∀ c ∈ l, wDig c = true) → (∃ u, Lib.parseUintM 18446744073709551615 acc l = .ok u) ∨ Lib.parseUintM 18446744073709551615 acc l = .range
  | [], acc, _ => .inl ⟨acc, rfl⟩
  | c :: l, acc, hd => by
    have h1 : 48 ≤ c.toNat ∧ c.toNat ≤ 57 := by have := hd c (by simp); simpa [wDig] using this
    rw [Lib.parseUintM, if_pos h1]
    split
    · exact .inr rfl
    · split
      · exact .inr rfl
      · exact parseM_two l _ (fun d h => hd d (by simp [h]))
theorem parseU_two (l : List UInt8) (h0 : l ≠ []) (hd : ∀ c ∈ l, wDig c = true) : (∃ u, Lib.parseUintB 64 l = .ok u) ∨ Lib.parseUintB 64 l = .range := by
  unfold Lib.parseUintB
  rw [if_neg h0]
  exact parseM_two l 0 hd
theorem parseI_two (c : UInt8) (l : List UInt8) (hl : ∀ d ∈ l, wDig d = true) (hc : wDig c = true ∨ c = 45 ∧ l ≠ []) : (∃ v, Lib.parseIntB 64 (c :: l) = .ok v) ∨ Lib.parseIntB 64 (c :: l) = .range := by
  rcases hc with hc | ⟨rfl, h0⟩
  · have h1 : 48 ≤ c.toNat ∧ c.toNat ≤ 57 := by simpa [wDig] using hc
    rw [Lib.parseIntB_plain 64 c l (by omega) (by omega)]
    rcases parseU_two (c :: l) (by simp) (fun d h => by
      rcases List.mem_cons.1 h with rfl | h
      · exact hc
      · exact hl d h) with ⟨u, h⟩ | h
    · rw [h]
      by_cases hu : 2 ^ (64 - 1) ≤ u
      · exact .inr (if_pos hu)
      · exact .inl ⟨_, if_neg hu⟩
    · rw [h]; exact .inr rfl
  · rw [Lib.parseIntB_minus]
    rcases parseU_two l h0 hl with ⟨u, h⟩ | h
    · rw [h]
      by_cases hu : 2 ^ (64 - 1) < u
      · exact .inr (if_pos hu)
      · exact .inl ⟨_, if_neg hu⟩
    · rw [h]; exact .inr rfl
theorem take_rn (p : UInt8 → Bool) : ∀ l : List UInt8, ∀ d ∈ l.take (rn p l), p d = true
  | [], d, h => by simp at h
  | c :: l, d, h => by
    rw [rn_cons] at h
    split at h
    · rw [List.take_succ_cons] at h
      rcases List.mem_cons.1 h with rfl | h
      · assumption
      · exact take_rn p l d h
    · simp at h
/-- Where a number may begin. -/
def NumAt (l : List UInt8) : Prop := wDig (l.headD 0) = true ∨ (l.headD 0 = 45 ∧ 0 < rn wDig (l.drop 1))
theorem numAt_two {l : List UInt8} (hl : l ≠ []) (h : NumAt l) : (∃ v, Lib.parseIntB 64 (l.take (1 + rn wDig (l.drop 1))) = .ok v) ∨ Lib.parseIntB 64 (l.take (1 + rn wDig (l.drop 1))) = .range := by
  obtain ⟨c, t, rfl⟩ := List.exists_cons_of_ne_nil hl
  have e : (c :: t).take (1 + rn wDig ((c :: t).drop 1)) = c :: t.take (rn wDig t) := by
    rw [Nat.add_comm]; rfl
  rw [e]
  refine parseI_two c _ (take_rn wDig t) ?_
  rcases h with h | ⟨h, h0⟩
  · exact .inl h
  · refine .inr ⟨h, fun e => ?_⟩
    have e2 := congrArg List.length e
    have h0' : 0 < rn wDig t := h0
    have := rn_le wDig t
    rw [List.length_take] at e2
    simp at e2
    rcases e2 with e2 | e2
    · omega
    · rw [e2] at h0'; exact absurd h0' (by decide)
set_option maxHeartbeats 2000000 in
theorem wFirstNumber (s : ByteArray) (hp : 0 < s.size) (hs : s.size ≤ 65536) (hn : NumAt s.data.toList) (w : World) (hw : WdW w) :
    Calls Tryd.prog 19 #[.string s] w fun e w' => e = wdA (fstNum s.data.toList) ∧ Below w.heap.size w w' := by
  have I2 : (1 : Int) ≤ (s.size : Int) := by omega
  have eg : ∀ args w, (callFunc 18 args).run Tryd.prog w = .ok (.enter 18 args) w := fun _ _ => by kernel_rfl
  have ed : (s.extract 1 s.size).data.toList = s.data.toList.drop 1 := by rw [ext_drop]
  have q1 : Hid (∀ w, Calls Tryd.prog 12 #[.string (s.extract 1 s.size), .func (.func 18) #[] #[]] w fun e w' => e = .returned (.int .i64 (rn wDig (s.data.toList.drop 1))) ∧ w' = w) := by
    rw [← ed]
    exact fun w => wRun 18 wDig _ (by simp [ByteArray.size_extract]; omega) w eg wDigit
  have hk : rn wDig (s.data.toList.drop 1) ≤ s.size - 1 := by
    have := rn_le wDig (s.data.toList.drop 1)
    rw [List.length_drop, ← Lib.size_eq] at this; exact this
  have hne : s.data.toList ≠ [] := fun e => by have h1 := Lib.size_eq s; rw [e] at h1; have h2 : s.size = 0 := h1; omega
  have two := numAt_two hne hn
  clear hne hn
  unfold fstNum
  generalize rn wDig (s.data.toList.drop 1) = k at *
  clear eg ed
  obtain ⟨m, hm⟩ : ∃ m, m = 1 + k := ⟨_, rfl⟩
  have E1 : (1 : Int) + (k : Int) = (m : Int) := by omega
  have I3 : (m : Int) ≤ (s.size : Int) := by omega
  rw [← hm]
  have hx : (s.extract 0 m).size ≤ 65536 := by simp [ByteArray.size_extract]; omega
  have ex : (s.extract 0 m).data.toList = s.data.toList.take m := by rw [ext_take]
  have bad : Lib.parseIntB 64 (s.data.toList.take m) = .range → Calls Tryd.prog 19 #[.string s] w fun e w' => e = wdA none ∧ Below w.heap.size w w' := by
    intro hv
    have q2 : Hid (∀ w, WdW w → Calls Tryd.prog 28 #[.string (s.extract 0 m), .int .i64 10, .int .i64 64] w fun e w' => ∃ n N, e = .returned (.tuple #[.int .i64 n, .iface 77 (.pointer (some ⟨N, 0, none⟩))]) ∧ Below w.heap.size w w') := fun w hw => wParseBad _ hx (by rw [ex]; exact hv) w hw
    have q3 : Hid (∀ o, WdW (w.alloc o)) := fun o => hw.on one_box
    clear hv ex hx hm hk hw two
    go_enter Tryd.func19, Tryd.ntmps19
    go_wp2_with (first | (go_at_call 12; refine (q1.out _).mono ?_; rintro e w' ⟨rfl, rfl⟩) | (go_at_call 28; refine (q2.out _ (q3.out _)).mono ?_; rintro e w1 ⟨n, N, rfl, hb0⟩; have hb1 : Below (w.heap.size + 1) (w.alloc (.cells #[.int .i64 0, .int .i64 0, .string ⟨#[]⟩, .int .i64 0] 40)) w1 := by { simpa using hb0 }; clear hb0; obtain ⟨c0, c1, c2, c3, f0, f1, f2, f3⟩ := wbox hb1; have B : Hid (∀ x0 x1 x2 x3, Below w.heap.size w ((((w1.setCell ⟨w.heap.size, 0, none⟩ x0).setCell ⟨w.heap.size, 1, none⟩ x1).setCell ⟨w.heap.size, 2, none⟩ x2).setCell ⟨w.heap.size, 3, none⟩ x3)) := wbox_put hb1; clear hb1))
    exact bodyPost_ret (v := .tuple #[.agg #[.int .i64 0, .int .i64 0, .string ⟨#[]⟩, .int .i64 0], .int .i64 0]) (by simp [results, Tryd.results19, go_sem, c0, c1, c2, c3]) rfl ⟨rfl, B.out _ _ _ _⟩
  rw [← hm] at two
  rcases two with ⟨v, hv⟩ | hv
  · rw [hv]
    have q2 : Hid (∀ w, Calls Tryd.prog 28 #[.string (s.extract 0 m), .int .i64 10, .int .i64 64] w fun e w' => e = .returned (.tuple #[.int .i64 v, .nilIface]) ∧ Below w.heap.size w w') := fun w => wParseOk _ hx v (by rw [ex]; exact hv) w
    have HZ : Hid (wdA (some ⟨2, s.data.toList.take m, v, m⟩) = .returned (.tuple #[.agg #[.int .i64 2, .int .i64 0, .string (s.extract 0 m), .int .i64 v], .int .i64 (m : Int)])) := by rw [ext_take]; rfl
    clear hv ex hx hm hk bad
    show Calls _ _ _ _ fun e w' => e = wdA (some ⟨2, s.data.toList.take m, v, m⟩) ∧ Below w.heap.size w w'
    go_enter Tryd.func19, Tryd.ntmps19
    go_wp2_with (first | (go_at_call 12; refine (q1.out _).mono ?_; rintro e w' ⟨rfl, rfl⟩) | (go_at_call 28; refine (q2.out _).mono ?_; rintro e w1 ⟨rfl, hb0⟩; have hb1 : Below (w.heap.size + 1) (w.alloc (.cells #[.int .i64 0, .int .i64 0, .string ⟨#[]⟩, .int .i64 0] 40)) w1 := by { simpa using hb0 }; clear hb0; obtain ⟨c0, c1, c2, c3, f0, f1, f2, f3⟩ := wbox hb1; have B : Hid (∀ x0 x1 x2 x3, Below w.heap.size w ((((w1.setCell ⟨w.heap.size, 0, none⟩ x0).setCell ⟨w.heap.size, 1, none⟩ x1).setCell ⟨w.heap.size, 2, none⟩ x2).setCell ⟨w.heap.size, 3, none⟩ x3)) := wbox_put hb1; clear hb1))
    exact bodyPost_ret (v := .tuple #[.agg #[.int .i64 2, .int .i64 0, .string (s.extract 0 m), .int .i64 v], .int .i64 (m : Int)]) (by simp [results, Tryd.results19, go_sem, c0, c1, c2, c3]) rfl ⟨HZ.out.symm, B.out _ _ _ _⟩
  · rw [hv]; exact bad hv
end Go.Proofs.YtlbgfkkalalkaaaDoor
