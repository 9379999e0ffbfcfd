/- The mark that a text begins with. -/
import Derived.Test.YtlbgfkkalalkaaaDoorWdName
namespace Go.Proofs.YtlbgfkkalalkaaaDoor
open Go.RowKit Go.Sort
set_option maxRecDepth 100000

theorem mkOne_eq (c : UInt8) : mkOne c = (((c.toNat : Int) == 40) || (((c.toNat : Int) == 41) || (((c.toNat : Int) == 91) || (((c.toNat : Int) == 93) || (((c.toNat : Int) == 44) || (((c.toNat : Int) == 35) || (((c.toNat : Int) == 61) || (((c.toNat : Int) == 60) || (((c.toNat : Int) == 62) || (((c.toNat : Int) == 43) || ((c.toNat : Int) == 45))))))))))) := by
  have e := fun d : UInt8 => u8_eq c d
  have e1 := e 40; have e2 := e 41; have e3 := e 91; have e4 := e 93; have e5 := e 44; have e6 := e 35; have e7 := e 61; have e8 := e 60; have e9 := e 62; have e10 := e 43; have e11 := e 45
  rw [show ((40 : UInt8).toNat : Int) = 40 from rfl] at e1
  rw [show ((41 : UInt8).toNat : Int) = 41 from rfl] at e2
  rw [show ((91 : UInt8).toNat : Int) = 91 from rfl] at e3
  rw [show ((93 : UInt8).toNat : Int) = 93 from rfl] at e4
  rw [show ((44 : UInt8).toNat : Int) = 44 from rfl] at e5
  rw [show ((35 : UInt8).toNat : Int) = 35 from rfl] at e6
  rw [show ((61 : UInt8).toNat : Int) = 61 from rfl] at e7
  rw [show ((60 : UInt8).toNat : Int) = 60 from rfl] at e8
  rw [show ((62 : UInt8).toNat : Int) = 62 from rfl] at e9
  rw [show ((43 : UInt8).toNat : Int) = 43 from rfl] at e10
  rw [show ((45 : UInt8).toNat : Int) = 45 from rfl] at e11
  rw [e1, e2, e3, e4, e5, e6, e7, e8, e9, e10, e11]
  simp only [mkOne, List.contains_cons, List.contains_nil, Bool.or_false]
/-- How long a mark is, out of what the program asks. -/
theorem mkSize_eq (s x : ByteArray) (hp : 0 < s.size) (hx : x.toList = s.data.toList.take 2) :
    mkSize s.data.toList = if ((x.toList == [33, 61]) || ((x.toList == [60, 61]) || (x.toList == [62, 61]))) = true then 2 else if mkOne s[0] = true then 1 else 0 := by
  unfold mkSize mkTwo
  rw [← hx, head_at s hp]
  simp only [List.contains_cons, List.contains_nil, Bool.or_false]
theorem mark_x (s : ByteArray) : (s.extract 0 (min (s.size : Int) 2).toNat).toList = s.data.toList.take 2 := by
  have e := Lib.size_eq s
  rw [Lib.toList_data, ext_take]
  show s.data.toList.take _ = _
  rcases Nat.lt_or_ge s.size 2 with h | h
  · rw [List.take_of_length_le (by omega), List.take_of_length_le (by omega)]
  · rw [show (min (s.size : Int) 2).toNat = 2 by omega]
theorem mark_head (s : ByteArray) (hp : 0 < s.size) (k : UInt8) (r : List UInt8) (h : s.data.toList.take 2 = k :: r) : (s[0].toNat : Int) = k.toNat ∧ s.size = r.length + 1 ∨ 2 < s.size ∧ (s[0].toNat : Int) = k.toNat := by
  have e : s[0] = k := by
    rw [head_at s hp]
    cases hl : s.data.toList with
    | nil => rw [hl] at h; cases h
    | cons c l => rw [hl] at h; simp at h; simp [h.1]
  rw [e]
  have hl := congrArg List.length h
  rw [List.length_take, List.length_cons, ← Lib.size_eq] at hl
  omega
set_option maxHeartbeats 8000000 in
theorem wFirstMark (s : ByteArray) (hp : 0 < s.size) (hs : s.size ≤ 65536) (w : World) :
    Calls Tryd.prog 21 #[.string s] w fun e w' => e = wdA (fstMark s.data.toList) ∧ Below w.heap.size w w' := by
  have I2 : (0 : Int) < (s.size : Int) := by omega
  have HA : Hid (∀ z, mkSize s.data.toList = z → 0 < z → wdA (fstMark s.data.toList) = .returned (.tuple #[.agg #[.int .i64 4, .int .i64 0, .string (s.extract 0 z), .int .i64 0], .int .i64 z])) := by
    rintro z rfl h0
    unfold fstMark
    rw [if_neg (by omega), ext_take]; rfl
  have HN : Hid (mkSize s.data.toList = 0 → wdA (fstMark s.data.toList) = .returned (.tuple #[.agg #[.int .i64 0, .int .i64 0, .string ⟨#[]⟩, .int .i64 0], .int .i64 0])) := by
    intro h0
    unfold fstMark
    rw [if_pos h0]; rfl
  have HX : Hid ((s.extract 0 (min (s.size : Int) 2).toNat).toList = s.data.toList.take 2) := mark_x s
  have HM : Hid (∀ k : UInt8, ∀ r, s.data.toList.take 2 = k :: r → (s[0].toNat : Int) = k.toNat ∧ s.size = r.length + 1 ∨ 2 < s.size ∧ (s[0].toNat : Int) = k.toNat) := mark_head s hp
  have HS := mkSize_eq s (s.extract 0 (min (s.size : Int) 2).toNat) hp HX.out
  have HO := mkOne_eq s[0]
  cases x0 : ((s.extract 0 (min (s.size : Int) 2).toNat).toList == [33, 61])
  rotate_left
  · have xe : (s.extract 0 (min (s.size : Int) 2).toNat).toList = [33, 61] := beq_iff_eq.1 x0
    have ht := xe.symm.trans HX.out
    have I3 : (2 : Int) ≤ (s.size : Int) := by
      rcases HM.out _ _ ht.symm with ⟨_, h⟩ | ⟨h, _⟩
      · have h' : s.size = 2 := h
        omega
      · omega
    have hm : (s[0].toNat : Int) = 33 := by rcases HM.out _ _ ht.symm with ⟨h, _⟩ | ⟨_, h⟩ <;> exact h
    have Z0 : mkSize s.data.toList = 2 := by rw [HS, x0]; rfl
    have Z : Hid (_) := HA.out 2 Z0 (by decide)
    clear Z0 HA HN HX HM HS HO ht xe
    go_enter Tryd.func21, Tryd.ntmps21
    go_wp2
    exact bodyPost_ret (v := .tuple #[.agg #[.int .i64 4, .int .i64 0, .string (s.extract 0 2), .int .i64 0], .int .i64 2]) (by simp [results, Tryd.results21, go_sem]) rfl ⟨Z.out.symm, one_box⟩
  cases x1 : ((s.extract 0 (min (s.size : Int) 2).toNat).toList == [60, 61])
  rotate_left
  · have xe : (s.extract 0 (min (s.size : Int) 2).toNat).toList = [60, 61] := beq_iff_eq.1 x1
    have ht := xe.symm.trans HX.out
    have I3 : (2 : Int) ≤ (s.size : Int) := by
      rcases HM.out _ _ ht.symm with ⟨_, h⟩ | ⟨h, _⟩
      · have h' : s.size = 2 := h
        omega
      · omega
    have hm : (s[0].toNat : Int) = 60 := by rcases HM.out _ _ ht.symm with ⟨h, _⟩ | ⟨_, h⟩ <;> exact h
    have Z0 : mkSize s.data.toList = 2 := by rw [HS, x0, x1]; rfl
    have Z : Hid (_) := HA.out 2 Z0 (by decide)
    clear Z0 HA HN HX HM HS HO ht xe
    go_enter Tryd.func21, Tryd.ntmps21
    go_wp2
    exact bodyPost_ret (v := .tuple #[.agg #[.int .i64 4, .int .i64 0, .string (s.extract 0 2), .int .i64 0], .int .i64 2]) (by simp [results, Tryd.results21, go_sem]) rfl ⟨Z.out.symm, one_box⟩
  cases x2 : ((s.extract 0 (min (s.size : Int) 2).toNat).toList == [62, 61])
  rotate_left
  · have xe : (s.extract 0 (min (s.size : Int) 2).toNat).toList = [62, 61] := beq_iff_eq.1 x2
    have ht := xe.symm.trans HX.out
    have I3 : (2 : Int) ≤ (s.size : Int) := by
      rcases HM.out _ _ ht.symm with ⟨_, h⟩ | ⟨h, _⟩
      · have h' : s.size = 2 := h
        omega
      · omega
    have hm : (s[0].toNat : Int) = 62 := by rcases HM.out _ _ ht.symm with ⟨h, _⟩ | ⟨_, h⟩ <;> exact h
    have Z0 : mkSize s.data.toList = 2 := by rw [HS, x0, x1, x2]; rfl
    have Z : Hid (_) := HA.out 2 Z0 (by decide)
    clear Z0 HA HN HX HM HS HO ht xe
    go_enter Tryd.func21, Tryd.ntmps21
    go_wp2
    exact bodyPost_ret (v := .tuple #[.agg #[.int .i64 4, .int .i64 0, .string (s.extract 0 2), .int .i64 0], .int .i64 2]) (by simp [results, Tryd.results21, go_sem]) rfl ⟨Z.out.symm, one_box⟩
  rw [x0, x1, x2, if_neg (by decide)] at HS
  cases y0 : ((s[0].toNat : Int) == 40)
  rotate_left
  · have hm : (s[0].toNat : Int) = 40 := beq_iff_eq.1 y0
    have Z0 : mkSize s.data.toList = 1 := by rw [HS, HO, y0]; rfl
    have Z : Hid (_) := HA.out 1 Z0 (by decide)
    have I3 : (1 : Int) ≤ (s.size : Int) := by omega
    clear Z0 HA HN HX HM HS HO y0
    go_enter Tryd.func21, Tryd.ntmps21
    go_wp2
    exact bodyPost_ret (v := .tuple #[.agg #[.int .i64 4, .int .i64 0, .string (s.extract 0 1), .int .i64 0], .int .i64 1]) (by simp [results, Tryd.results21, go_sem]) rfl ⟨Z.out.symm, one_box⟩
  cases y1 : ((s[0].toNat : Int) == 41)
  rotate_left
  · have hm : (s[0].toNat : Int) = 41 := beq_iff_eq.1 y1
    have Z0 : mkSize s.data.toList = 1 := by rw [HS, HO, y0, y1]; rfl
    have Z : Hid (_) := HA.out 1 Z0 (by decide)
    have I3 : (1 : Int) ≤ (s.size : Int) := by omega
    clear Z0 HA HN HX HM HS HO y0 y1
    go_enter Tryd.func21, Tryd.ntmps21
    go_wp2
    exact bodyPost_ret (v := .tuple #[.agg #[.int .i64 4, .int .i64 0, .string (s.extract 0 1), .int .i64 0], .int .i64 1]) (by simp [results, Tryd.results21, go_sem]) rfl ⟨Z.out.symm, one_box⟩
  cases y2 : ((s[0].toNat : Int) == 91)
  rotate_left
  · have hm : (s[0].toNat : Int) = 91 := beq_iff_eq.1 y2
    have Z0 : mkSize s.data.toList = 1 := by rw [HS, HO, y0, y1, y2]; rfl
    have Z : Hid (_) := HA.out 1 Z0 (by decide)
    have I3 : (1 : Int) ≤ (s.size : Int) := by omega
    clear Z0 HA HN HX HM HS HO y0 y1 y2
    go_enter Tryd.func21, Tryd.ntmps21
    go_wp2
    exact bodyPost_ret (v := .tuple #[.agg #[.int .i64 4, .int .i64 0, .string (s.extract 0 1), .int .i64 0], .int .i64 1]) (by simp [results, Tryd.results21, go_sem]) rfl ⟨Z.out.symm, one_box⟩
  cases y3 : ((s[0].toNat : Int) == 93)
  rotate_left
  · have hm : (s[0].toNat : Int) = 93 := beq_iff_eq.1 y3
    have Z0 : mkSize s.data.toList = 1 := by rw [HS, HO, y0, y1, y2, y3]; rfl
    have Z : Hid (_) := HA.out 1 Z0 (by decide)
    have I3 : (1 : Int) ≤ (s.size : Int) := by omega
    clear Z0 HA HN HX HM HS HO y0 y1 y2 y3
    go_enter Tryd.func21, Tryd.ntmps21
    go_wp2
    exact bodyPost_ret (v := .tuple #[.agg #[.int .i64 4, .int .i64 0, .string (s.extract 0 1), .int .i64 0], .int .i64 1]) (by simp [results, Tryd.results21, go_sem]) rfl ⟨Z.out.symm, one_box⟩
  cases y4 : ((s[0].toNat : Int) == 44)
  rotate_left
  · have hm : (s[0].toNat : Int) = 44 := beq_iff_eq.1 y4
    have Z0 : mkSize s.data.toList = 1 := by rw [HS, HO, y0, y1, y2, y3, y4]; rfl
    have Z : Hid (_) := HA.out 1 Z0 (by decide)
    have I3 : (1 : Int) ≤ (s.size : Int) := by omega
    clear Z0 HA HN HX HM HS HO y0 y1 y2 y3 y4
    go_enter Tryd.func21, Tryd.ntmps21
    go_wp2
    exact bodyPost_ret (v := .tuple #[.agg #[.int .i64 4, .int .i64 0, .string (s.extract 0 1), .int .i64 0], .int .i64 1]) (by simp [results, Tryd.results21, go_sem]) rfl ⟨Z.out.symm, one_box⟩
  cases y5 : ((s[0].toNat : Int) == 35)
  rotate_left
  · have hm : (s[0].toNat : Int) = 35 := beq_iff_eq.1 y5
    have Z0 : mkSize s.data.toList = 1 := by rw [HS, HO, y0, y1, y2, y3, y4, y5]; rfl
    have Z : Hid (_) := HA.out 1 Z0 (by decide)
    have I3 : (1 : Int) ≤ (s.size : Int) := by omega
    clear Z0 HA HN HX HM HS HO y0 y1 y2 y3 y4 y5
    go_enter Tryd.func21, Tryd.ntmps21
    go_wp2
    exact bodyPost_ret (v := .tuple #[.agg #[.int .i64 4, .int .i64 0, .string (s.extract 0 1), .int .i64 0], .int .i64 1]) (by simp [results, Tryd.results21, go_sem]) rfl ⟨Z.out.symm, one_box⟩
  cases y6 : ((s[0].toNat : Int) == 61)
  rotate_left
  · have hm : (s[0].toNat : Int) = 61 := beq_iff_eq.1 y6
    have Z0 : mkSize s.data.toList = 1 := by rw [HS, HO, y0, y1, y2, y3, y4, y5, y6]; rfl
    have Z : Hid (_) := HA.out 1 Z0 (by decide)
    have I3 : (1 : Int) ≤ (s.size : Int) := by omega
    clear Z0 HA HN HX HM HS HO y0 y1 y2 y3 y4 y5 y6
    go_enter Tryd.func21, Tryd.ntmps21
    go_wp2
    exact bodyPost_ret (v := .tuple #[.agg #[.int .i64 4, .int .i64 0, .string (s.extract 0 1), .int .i64 0], .int .i64 1]) (by simp [results, Tryd.results21, go_sem]) rfl ⟨Z.out.symm, one_box⟩
  cases y7 : ((s[0].toNat : Int) == 60)
  rotate_left
  · have hm : (s[0].toNat : Int) = 60 := beq_iff_eq.1 y7
    have Z0 : mkSize s.data.toList = 1 := by rw [HS, HO, y0, y1, y2, y3, y4, y5, y6, y7]; rfl
    have Z : Hid (_) := HA.out 1 Z0 (by decide)
    have I3 : (1 : Int) ≤ (s.size : Int) := by omega
    clear Z0 HA HN HX HM HS HO y0 y1 y2 y3 y4 y5 y6 y7
    go_enter Tryd.func21, Tryd.ntmps21
    go_wp2
    exact bodyPost_ret (v := .tuple #[.agg #[.int .i64 4, .int .i64 0, .string (s.extract 0 1), .int .i64 0], .int .i64 1]) (by simp [results, Tryd.results21, go_sem]) rfl ⟨Z.out.symm, one_box⟩
  cases y8 : ((s[0].toNat : Int) == 62)
  rotate_left
  · have hm : (s[0].toNat : Int) = 62 := beq_iff_eq.1 y8
    have Z0 : mkSize s.data.toList = 1 := by rw [HS, HO, y0, y1, y2, y3, y4, y5, y6, y7, y8]; rfl
    have Z : Hid (_) := HA.out 1 Z0 (by decide)
    have I3 : (1 : Int) ≤ (s.size : Int) := by omega
    clear Z0 HA HN HX HM HS HO y0 y1 y2 y3 y4 y5 y6 y7 y8
    go_enter Tryd.func21, Tryd.ntmps21
    go_wp2
    exact bodyPost_ret (v := .tuple #[.agg #[.int .i64 4, .int .i64 0, .string (s.extract 0 1), .int .i64 0], .int .i64 1]) (by simp [results, Tryd.results21, go_sem]) rfl ⟨Z.out.symm, one_box⟩
  cases y9 : ((s[0].toNat : Int) == 43)
  rotate_left
  · have hm : (s[0].toNat : Int) = 43 := beq_iff_eq.1 y9
    have Z0 : mkSize s.data.toList = 1 := by rw [HS, HO, y0, y1, y2, y3, y4, y5, y6, y7, y8, y9]; rfl
    have Z : Hid (_) := HA.out 1 Z0 (by decide)
    have I3 : (1 : Int) ≤ (s.size : Int) := by omega
    clear Z0 HA HN HX HM HS HO y0 y1 y2 y3 y4 y5 y6 y7 y8 y9
    go_enter Tryd.func21, Tryd.ntmps21
    go_wp2
    exact bodyPost_ret (v := .tuple #[.agg #[.int .i64 4, .int .i64 0, .string (s.extract 0 1), .int .i64 0], .int .i64 1]) (by simp [results, Tryd.results21, go_sem]) rfl ⟨Z.out.symm, one_box⟩
  cases y10 : ((s[0].toNat : Int) == 45)
  rotate_left
  · have hm : (s[0].toNat : Int) = 45 := beq_iff_eq.1 y10
    have Z0 : mkSize s.data.toList = 1 := by rw [HS, HO, y0, y1, y2, y3, y4, y5, y6, y7, y8, y9, y10]; rfl
    have Z : Hid (_) := HA.out 1 Z0 (by decide)
    have I3 : (1 : Int) ≤ (s.size : Int) := by omega
    clear Z0 HA HN HX HM HS HO y0 y1 y2 y3 y4 y5 y6 y7 y8 y9 y10
    go_enter Tryd.func21, Tryd.ntmps21
    go_wp2
    exact bodyPost_ret (v := .tuple #[.agg #[.int .i64 4, .int .i64 0, .string (s.extract 0 1), .int .i64 0], .int .i64 1]) (by simp [results, Tryd.results21, go_sem]) rfl ⟨Z.out.symm, one_box⟩
  have Z0 : mkSize s.data.toList = 0 := by rw [HS, HO, y0, y1, y2, y3, y4, y5, y6, y7, y8, y9, y10]; rfl
  have Z : Hid (_) := HN.out Z0
  clear Z0 HA HN HX HM HS HO
  go_enter Tryd.func21, Tryd.ntmps21
  go_wp2
  exact bodyPost_ret (v := .tuple #[.agg #[.int .i64 0, .int .i64 0, .string ⟨#[]⟩, .int .i64 0], .int .i64 0]) (by simp [results, Tryd.results21, go_sem]) rfl ⟨Z.out.symm, one_box⟩
end Go.Proofs.YtlbgfkkalalkaaaDoor
