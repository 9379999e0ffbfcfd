/- The law RowTexts answers true at every argument, and writes nothing that was there: its walk. -/
import Derived.Test.YtihijfbbmenbnaaDoorRowOrderWalk
import Derived.Test.YtihijfbbmenbnaaDoorRowInj
import Derived.Test.YtihijfbbmenbnaaDoorWalks
namespace Go.Proofs.YtihijfbbmenbnaaDoor
open Go.RowKit Go.Sort
set_option maxRecDepth 100000

theorem okr_okv {ks : List Int} {l : List Val} (h : OkR ks l) (hl : l.length ≤ ks.length) : ∀ v ∈ l, okv v := by
  intro v hv
  obtain ⟨i, hi, rfl⟩ := List.getElem_of_mem hv
  have := h i hi (by omega)
  exact ⟨this.1, this.2.1, this.2.2.1, this.2.2.2.1⟩
theorem okv_null : okv (0, 0, ⟨#[]⟩) := ⟨by decide +kernel, by decide, by decide, by decide⟩
theorem shR_null : shR [(0, 0, ⟨#[]⟩)] = [40, 110, 117, 108, 108, 41] := rfl
theorem shB_more (l : List Val) (v : Val) (h : 0 < (shv v).length) : (shB l).length < (shB (l ++ [v])).length := by
  by_cases e : l = []
  · subst e; exact h
  · rw [shB_snoc l v e]; simp
theorem shR_more (l : List Val) : shR (l ++ [(0, 0, ⟨#[]⟩)]) ≠ shR l := by
  intro e
  have h1 := shB_more l (0, 0, ⟨#[]⟩) (by decide)
  have := congrArg List.length e
  simp only [shR, List.length_cons, List.length_append] at this
  omega
/-- How two rows are written, against whether they are one. -/
theorem row_same {l m : List Val} (hn : l.length = m.length) (hl : ∀ v ∈ l, okv v) (hm : ∀ v ∈ m, okv v) :
    ((⟨(shR l).toArray⟩ : ByteArray).toList == (⟨(shR m).toArray⟩ : ByteArray).toList) = sR l m := by
  rw [Bool.eq_iff_iff, sR_iff, beq_iff_eq, Lib.toList_data, Lib.toList_data]
  constructor
  · intro e; exact shR_inj hn hl hm (by simpa using e)
  · rintro rfl; rfl
theorem shR_size {l : List Val} (hl : ∀ v ∈ l, okv v) : (⟨(shR l).toArray⟩ : ByteArray).size ≤ 132 * l.length + 2 ∧ 2 ≤ (⟨(shR l).toArray⟩ : ByteArray).size := by
  have := shB_len l hl
  rw [size_mk]; unfold shR; simp; omega

theorem own_on {base : Nat} {w w' : World} {e : TypeId} {size : Nat} {v : Value} {n : Nat} {xs : List Value} (h : w.ownsRow base e size v n xs) (hb : Below w.heap.size w w') : w'.ownsRow base e size v n xs := by
  have hlt := h.lt
  obtain ⟨h1, h2 | ⟨g, cap, cur, hv, hg, hh, r⟩⟩ := h
  · exact ⟨h1, .inl h2⟩
  · exact ⟨h1, .inr ⟨g, cap, cur, hv, hg, by rw [hb.block g (hlt g (by rw [hv]; rfl)).2]; exact hh, r⟩⟩
theorem own_but' {S base : Nat} {w w' : World} {e : TypeId} {size : Nat} {v : Value} {n : Nat} {xs : List Value} (h : w.ownsRow base e size v n xs) (hb : But S w w') (hS : ∀ g, v.ownBlock = some g → g ≠ S) : w'.ownsRow base e size v n xs := by
  have hlt := h.lt
  obtain ⟨h1, h2 | ⟨g, cap, cur, hv, hg, hh, r⟩⟩ := h
  · exact ⟨h1, .inl h2⟩
  · exact ⟨h1, .inr ⟨g, cap, cur, hv, hg, by rw [hb.2.2.2.2 g (hS g (by rw [hv]; rfl)) (hlt g (by rw [hv]; rfl)).2]; exact hh, r⟩⟩
theorem shR_first (l : List Val) (A : ByteArray) (hA : A = ⟨(shR l).toArray⟩) (h : 0 < A.size) : A[0] = 40 := by
  subst hA; rfl
theorem shR_last (l : List Val) (A : ByteArray) (hA : A = ⟨(shR l).toArray⟩) (n : Nat) (hn : n + 1 = A.size) (h : n < A.size) : A[n] = 41 := by
  subst hA
  rw [size_mk] at hn
  have hl : (shR l).length = (shB l).length + 2 := by simp [shR]
  have e : n = (shB l).length + 1 := by omega
  subst e
  show (shR l).toArray[(shB l).length + 1] = 41
  simp [shR]
theorem index_first (A : ByteArray) (h : 0 < A.size) (h0 : ∀ h : 0 < A.size, A[0] = 40) (w : World) : (Instr.index 9 (.string A) (.int .i64 0)).run Tryd.prog w = .ok (.int .u8 40) w := by
  rw [run_index_string w 9 A .i64 0 Tryd.underlying9, dif_pos ⟨by decide, by omega⟩]
  have := h0 h
  simp [this]
theorem index_last (A : ByteArray) (h : 0 < A.size) (h0 : ∀ n, n + 1 = A.size → ∀ h : n < A.size, A[n] = 41) (w : World) : (Instr.index 9 (.string A) (.int .i64 ((A.size : Int) - 1))).run Tryd.prog w = .ok (.int .u8 41) w := by
  rw [run_index_string w 9 A .i64 _ Tryd.underlying9, dif_pos ⟨by omega, by omega⟩]
  have e : ((A.size : Int) - 1).toNat + 1 = A.size := by omega
  have := h0 _ e (by omega)
  rw [this]; rfl
/-- A row that was made, as the call's own. -/
theorem made_own {S : Nat} {a : Option Addr} {len cap : Nat} {zs : List Int} {p : Nat} {ks : List Int} {w : World} {n : Nat} {v : Value} {w' : World} (h : SoFar S a len cap zs p ks w n v w') :
    ∃ l : List Val, l.length = n ∧ OkR ks l ∧ w'.ownsRow w.heap.size 31 3 v n (rc l) ∧ But S w w' ∧ (mkR (sq zs len) p (ks.take n)).1 = l := by
  obtain ⟨l, p', h1, h2, h3, _, _, h6, h7⟩ := h
  exact ⟨l, h1, h2, h3, h6, by rw [h7]⟩
theorem own_row {base : Nat} {w : World} {v : Value} {n : Nat} {l : List Val} (h : w.ownsRow base 31 3 v n (rc l)) (hl : l.length = n) : RowIs w v l := by
  subst hl; exact RowIs.of_own h
set_option maxHeartbeats 4000000 in
theorem rowtexts_main (a : Option Addr) (len cap : Nat) (zs : List Int) (a' : Option Addr) (len' cap' : Nat) (zs' : List Int) (n : Int) (k : Nat) (hk : k < 4) (hN : (wrap64 (n.tmod 4 + 4)).tmod 4 = (k : Int))
    (h1 : (len : Int) ≤ 40) (h2 : (len' : Int) ≤ 40) (w : World) (hr : Ready w) (ha : IsRow .i64 w a len cap zs) (ha' : IsRow .i64 w a' len' cap' zs') :
    Calls Tryd.prog 7 #[.slice a len cap, .slice a' len' cap', .int .i64 n] w fun e w' => e = .returned (.bool true) ∧ Below w.heap.size w w' := by
  obtain ⟨i0, hi, hz0, hz1, hz2⟩ := info_parts info_value
  have Ha : Hid (IsRow .i64 w a len cap zs) := ha
  have Ha' : Hid (IsRow .i64 w a' len' cap' zs') := ha'
  have I4 : (k : Int) ≤ 4 := by omega
  have I0 : (0 : Int) ≤ (k : Int) := by omega
  clear ha ha'
  go_enter Tryd.func7, Tryd.ntmps7
  go_wp2_with fail
  refine (lawFirst2 _ hr).mono ?_
  rintro e w1 ⟨rfl, hb1⟩
  have B1 : Hid (Below w.heap.size w w1) := hb1
  clear hb1
  go_wp2_with fail
  have M := seq_cols (Ha.out.below B1.out) [1, 2, 0, 0] 29 3
  refine (makeRow w1.heap.size a len cap zs 0 (w1.heap.size + 1) k 4 [1, 2, 0, 0] _ M.1 (by omega) M.2 (by omega) (by simp; omega) (by intro i h; match i, h with | 0, _ => simp | 1, _ => simp | 2, _ => simp | 3, _ => simp)).mono ?_
  clear M
  rintro e w2 ⟨v1, rfl, hso⟩
  obtain ⟨l1, n1, ok1, O1, hb2, _⟩ := made_own hso
  have B2 : Hid (Below w.heap.size w w2) := (B1.out.trans (two_boxes.mono B1.out.size)).trans (hb2.below B1.out.size (by have := B1.out.size; simp; omega))
  have z2 := hb2.size
  simp only [World.size_alloc] at z2
  clear hso hb2
  go_wp2_with fail
  have M := seq_cols (Ha'.out.below B2.out) [1, 2, 0, 0] 29 3
  refine (makeRow w2.heap.size a' len' cap' zs' 0 (w2.heap.size + 1) k 4 [1, 2, 0, 0] _ M.1 (by omega) M.2 (by omega) (by simp; omega) (by intro i h; match i, h with | 0, _ => simp | 1, _ => simp | 2, _ => simp | 3, _ => simp)).mono ?_
  clear M
  rintro e w3 ⟨v2, rfl, hso⟩
  obtain ⟨l2, n2, ok2, O2, hb3, _⟩ := made_own hso
  have B3 : Hid (Below w.heap.size w w3) := (B2.out.trans (two_boxes.mono B2.out.size)).trans (hb3.below B2.out.size (by have := B2.out.size; simp; omega))
  have lt1 := O1.lt
  have O1' := own_but' (own_on O1 two_boxes) hb3 (fun g hg => by have := (lt1 g hg).2; omega)
  have v1l : ∀ v ∈ l1, okv v := okr_okv ok1 (by simp; omega)
  have v2l : ∀ v ∈ l2, okv v := okr_okv ok2 (by simp; omega)
  obtain ⟨A, hA⟩ : ∃ A : ByteArray, A = ⟨(shR l1).toArray⟩ := ⟨_, rfl⟩
  obtain ⟨A', hA'⟩ : ∃ A : ByteArray, A = ⟨(shR l2).toArray⟩ := ⟨_, rfl⟩
  have szA := shR_size v1l
  rw [← hA, n1] at szA
  have sA : A.size ≤ 4096 := by omega
  have sA2 : 2 ≤ A.size := szA.2
  clear szA
  have eqA : (A.toList == A'.toList) = sR l1 l2 := by rw [hA, hA']; exact row_same (by omega) v1l v2l
  have hx0 : ∀ w, (Instr.index 9 (.string A) (.int .i64 0)).run Tryd.prog w = .ok (.int .u8 40) w := fun w => index_first A (by omega) (shR_first l1 A hA) w
  have hxm : ∀ w, (Instr.index 9 (.string A) (.int .i64 ((A.size : Int) - 1))).run Tryd.prog w = .ok (.int .u8 41) w := fun w => index_last A (by omega) (shR_last l1 A hA) w
  have K1 : Hid (w3.ownsRow (w1.heap.size + 2) 31 3 v1 k (rc l1)) := by
    have e : w3.ownsRow (w1.heap.size + 2) 31 3 v1 k (rc l1) := by simpa using O1'
    exact e
  have K2 : Hid (RowIs w3 v2 l2) := own_row O2 n2
  have N1 : Hid (l1.length = k) := n1
  have V1 : Hid (∀ v ∈ l1, okv v) := v1l
  have V2 : Hid (∀ v ∈ l2, okv v) := v2l
  have HA : Hid (A = ⟨(shR l1).toArray⟩) := hA
  have HA' : Hid (A' = ⟨(shR l2).toArray⟩) := hA'
  have N2 : Hid (l2.length = k) := n2
  have EA : Hid (sR l1 l2 = (A.toList == A'.toList)) := eqA.symm
  have z3 := hb3.size
  simp only [World.size_alloc] at z3
  have z1 : w1.heap.size + 2 ≤ w3.heap.size := by omega
  clear hso hb3 O1 O1' O2 ok1 ok2 lt1 v1l v2l hA hA' eqA n1 n2
  go_wp2_with fail
  refine (rowShow l1 v1 w3 (hr.on B3.out) (by have := N1.out; omega) V1.out (own_row K1.out N1.out)).mono ?_
  rintro e w4 ⟨rfl, hb4⟩
  rw [← HA.out]
  go_wp2_with fail
  refine (rowShow l2 v2 w4 ((hr.on B3.out).on hb4) (by have := N2.out; omega) V2.out (K2.out.on hb4)).mono ?_
  rintro e w5 ⟨rfl, hb5⟩
  rw [← HA'.out]
  replace hb5 := hb4.trans (hb5.mono hb4.size)
  clear hb4
  go_wp2_with fail
  refine (sameRow l1 l2 v1 v2 w5 ((own_row K1.out N1.out).on hb5) (K2.out.on hb5)).mono ?_
  rintro e w6 ⟨rfl, hb6⟩
  rw [EA.out]
  replace hb6 := hb5.trans (hb6.mono hb5.size)
  clear hb5
  have I2 : (2 : Int) ≤ (A.size : Int) := by omega
  go_wp2_with fail
  refine (rowShow [(0, 0, ⟨#[]⟩)] _ _ ((((hr.on B3.out).on hb6)).on one_box) (by decide) (fun v hv => by simp only [List.mem_singleton] at hv; subst hv; exact okv_null) (one_null w6)).mono ?_
  rintro e w7 ⟨rfl, hb7⟩
  rw [shR_null]
  have hB7 : Below w3.heap.size w3 w7 := (hb6.trans (one_box.mono hb6.size)).trans (hb7.mono (by have := hb6.size; simp; omega))
  clear hb6 hb7
  have O7 := own_on K1.out hB7
  have z7 := hB7.size
  have F : Hid (∀ v2 w2, w2.ownsRow (w1.heap.size + 2) 31 3 v2 (k + 1) (rc l1 ++ vc (0, 0, ⟨#[]⟩)) → (w7.alloc (.cells #[.int .i64 0, .int .i64 0, .string ⟨#[]⟩] 31)).grownBy w2 (Value.ownBlock v1) → RowIs w2 v2 (l1 ++ [(0, 0, ⟨#[]⟩)]) ∧ Below w.heap.size w w2) := by
    intro v2 w2 g1 g2
    refine ⟨own_row (by rw [rc_snoc]; exact g1) (by simp [N1.out]), ?_⟩
    have hb := B3.out.trans (hB7.mono B3.out.size)
    have zz := B1.out.size
    exact (hb.alloc hb.size _).grown g2 (by have := hb.size; simp; omega) (fun g hg => by have := (O7.lt g hg).1; omega)
  go_wp2_with (first | (at_builtin; refine wpList_append_own_want _ rfl (.tmp 79) (.tmp 81) 25 rfl (w1.heap.size + 2) 31 i0 (.agg #[.int .i64 0, .int .i64 0, .string ⟨#[]⟩]) 3 32 Tryd.underlying25 hi hz0 hz1 hz2 rfl (by decide) _ k (rc l1) rfl (O7.alloc _) ⟨w7.heap.size, 0, none⟩ 1 1 (vc (0, 0, ⟨#[]⟩)) rfl rfl (cell_three_new _ _ _ _ _) (by simp [vc, Value.oneCell']) (by unfold maxLen; omega) (by omega) (by simp; omega) ?_; intro v3 w8 hown2 hg2 _; have hso2 := F.out _ _ hown2 hg2; clear hown2 hg2) | fail)
  obtain ⟨R8, B8⟩ := hso2
  have HR8 : Hid (RowIs w8 v3 (l1 ++ [(0, 0, ⟨#[]⟩)])) := R8
  have HB8 : Hid (Below w.heap.size w w8) := B8
  obtain ⟨A2, hA2⟩ : ∃ A : ByteArray, A = ⟨(shR (l1 ++ [(0, 0, ⟨#[]⟩)])).toArray⟩ := ⟨_, rfl⟩
  have ne : (A2.toList == A.toList) = false := by
    rw [beq_eq_false_iff_ne, hA2, HA.out, Lib.toList_data, Lib.toList_data]
    intro e; exact shR_more l1 (by simpa using e)
  have HA2 : Hid (A2 = ⟨(shR (l1 ++ [(0, 0, ⟨#[]⟩)])).toArray⟩) := hA2
  clear R8 B8 hA2 O7 F hB7 z7
  go_wp2_with fail
  refine (rowShow (l1 ++ [(0, 0, ⟨#[]⟩)]) v3 w8 (hr.on HB8.out) (by have := N1.out; simp; omega) (fun v hv => by rcases List.mem_append.1 hv with h | h; exact V1.out v h; simp only [List.mem_singleton] at h; subst h; exact okv_null) HR8.out).mono ?_
  rintro e w9 ⟨rfl, hb9⟩
  rw [← HA2.out]
  go_wp2_with fail
  go_ret
  exact ⟨rfl, HB8.out.trans (hb9.mono HB8.out.size)⟩
end Go.Proofs.YtihijfbbmenbnaaDoor
