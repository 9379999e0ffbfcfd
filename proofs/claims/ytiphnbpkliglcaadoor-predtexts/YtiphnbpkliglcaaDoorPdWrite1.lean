/- How the program writes a leaf. -/
import Derived.Test.YtiphnbpkliglcaaDoorPdShow
import Derived.Test.YtiphnbpkliglcaaDoorPdAsk
import Derived.Test.YtiphnbpkliglcaaDoorBld
import Derived.Test.YtiphnbpkliglcaaDoorOrd
namespace Go.Proofs.YtiphnbpkliglcaaDoor
open Go.RowKit Go.Sort
set_option maxRecDepth 100000
set_option linter.unusedVariables false

/-- What a call that writes leaves: the text behind what was there; boxes as they were. -/
def WrEnd (bs : List UInt8) (w w1 : World) (e : Ending) (w' : World) : Prop := e = .returned (.tuple #[]) ∧ Tryd.BldHas bs w w' ∧ (∀ k, k ≠ w.heap.size → Tryd.Kept k w1 w') ∧ Below w.heap.size w1 w'
theorem kept_below {w w' : World} (h : Below w.heap.size w w') (k : Nat) : Tryd.Kept k w w' := fun c t e _ => by
  rw [h.block k (Array.getElem?_eq_some_iff.1 e).1]; exact e
theorem kept_trans {k : Nat} {w w' w'' : World} (h : Tryd.Kept k w w') (h' : Tryd.Kept k w' w'') : Tryd.Kept k w w'' := fun c t e ht => h' c t (h c t e ht) ht
theorem size_mkW (l : List UInt8) : (⟨l.toArray⟩ : ByteArray).size = l.length := by simp [ByteArray.size]
theorem nmC_len {c : Int} (h0 : 0 ≤ c) (h1 : c ≤ 1000000) : (nmC c).length ≤ 22 := by
  have := Lib.itoa_length_le c (by omega) (by omega)
  unfold nmC; rw [List.length_cons]; omega
theorem sgn_len (o : Int) : (sgn o).length ≤ 2 := by
  unfold sgn
  (repeat' split) <;> simp
theorem shV_len {v : Val} (h : okM v) : (shV v.1 v.2.1 v.2.2).length ≤ 130 := by
  obtain ⟨k, n, s⟩ := v
  obtain ⟨h1, h0, h2, h3, h4⟩ := h
  simp only at h1 h0 h2 h3 h4 ⊢
  have hq := dq_len s.data.toList
  have hs := Lib.size_eq s
  have hi := Lib.itoa_length_le n h2 h3
  unfold shV
  split
  · simp
  · split
    · omega
    · split
      · simp; omega
      · split
        · unfold Lib.formatBool; split <;> decide
        · simp
theorem wr_ord1 : ordOk (regOf Tryd.f25.body 3) ((0, true) :: (1, true) :: (2, true) :: (5, true) :: (6, true) :: (10, true) :: (11, true) :: (3, false) :: (4, true) :: (7, false) :: (8, true) :: (9, true) :: (12, false) :: (13, true) :: (14, false) :: []) = true := by kernel_rfl
theorem wr_ord2 : ordOk (regOf Tryd.f25.body 5) ((0, true) :: (1, true) :: (2, true) :: (5, true) :: (6, true) :: (10, true) :: (11, true) :: (3, false) :: (4, true) :: (7, false) :: (8, true) :: (9, true) :: (12, false) :: (13, true) :: (14, false) :: []) = true := by kernel_rfl
theorem join_leaf (X Y Z : List UInt8) : (⟨X.toArray⟩ : ByteArray) ++ ⟨#[32]⟩ ++ ⟨Y.toArray⟩ ++ ⟨#[32]⟩ ++ ⟨Z.toArray⟩ = ⟨(X ++ [32] ++ Y ++ [32] ++ Z).toArray⟩ := by
  apply ByteArray.ext
  simp [ByteArray.data_append]
set_option maxHeartbeats 2000000 in
theorem write1 (c o d vk vn : Int) (vs : ByteArray) (s : Value) (bs : List UInt8) (w w1 : World) (hr : Ready w) (hb : Tryd.BldHas bs w w1) (hc0 : 0 ≤ c) (hc1 : c ≤ 1000000) (hv : okM (vk, vn, vs)) (hl : bs.length ≤ 1000000000000) :
    Calls Tryd.prog 25 #[.pointer (some ⟨w.heap.size, 0, none⟩), .agg #[.int .i64 1, .int .i64 c, .int .i64 o, .int .i64 d, .int .i64 vk, .int .i64 vn, .string vs, s]] w1 (WrEnd (bs ++ (nmC c ++ [32] ++ sgn o ++ [32] ++ shV vk vn vs)) w w1) := by
  have bx := PdBox.new w1 ⟨1, c, o, d, (vk, vn, vs), []⟩ s
  have HB : Hid (Tryd.BldHas bs w w1) := hb
  have HR : Hid (Ready w) := hr
  have H1 : Hid (∀ W, Ready W → Calls Tryd.prog 35 #[.int .i64 c] W fun e w' => e = .returned (.string ⟨(nmC c).toArray⟩) ∧ Below W.heap.size W w') := fun W hW => predName c hc0 hc1 W hW
  have H2 : Hid (∀ W, Calls Tryd.prog 27 #[.int .i64 o] W fun e w' => e = .returned (.string ⟨(sgn o).toArray⟩) ∧ Below W.heap.size W w') := fun W => predSign o W
  have H3 : Hid (∀ W, Ready W → Calls Tryd.prog 36 #[.agg #[.int .i64 vk, .int .i64 vn, .string vs]] W fun e w' => e = .returned (.string ⟨(shV vk vn vs).toArray⟩) ∧ Below W.heap.size W w') := fun W hW => valueShow vk vn vs hv.2.2.1 hv.2.2.2.1 (by have := hv.2.2.2.2; simp only at this; omega) W hW
  have l1 := nmC_len hc0 hc1
  have l2 := sgn_len o
  have l3 := shV_len hv
  try simp only at l3
  generalize nmC c = X at *
  generalize sgn o = Y at *
  generalize shV vk vn vs = Z at *
  have L1 : ¬ 9223372036854775807 < X.length + 1 := by omega
  have L2 : ¬ 9223372036854775807 < X.length + 1 + Y.length := by omega
  have L3 : ¬ 9223372036854775807 < X.length + 1 + Y.length + 1 := by omega
  have L4 : ¬ 9223372036854775807 < X.length + 1 + Y.length + 1 + Z.length := by omega
  have HL : Hid (bs.length + (⟨(X ++ [32] ++ Y ++ [32] ++ Z).toArray⟩ : ByteArray).size ≤ 140737488355328) := by
    show _ ≤ _
    rw [size_mkW]; simp only [List.length_append, List.length_cons, List.length_nil]; omega
  clear hb hr l1 l2 l3 hl
  go_enter Tryd.func25, Tryd.ntmps25
  go_wp2_with fail
  obtain ⟨W, hW⟩ : ∃ W, W = w1.alloc (.cells #[.int .i64 1, .int .i64 c, .int .i64 o, .int .i64 d, .int .i64 vk, .int .i64 vn, .string vs, s] 28) := ⟨_, rfl⟩
  have B1 : Hid (Below w1.heap.size w1 W) := by show Below _ _ _; rw [hW]; exact one_box
  have hx : W.heap[w1.heap.size]? = some (.cells #[.int .i64 1, .int .i64 c, .int .i64 o, .int .i64 d, .int .i64 vk, .int .i64 vn, .string vs, s] 28 (0, 0)) := by rw [hW]; exact heap_alloc_new _ _
  have HX : Hid (W.heap[w1.heap.size]? = some (.cells #[.int .i64 1, .int .i64 c, .int .i64 o, .int .i64 d, .int .i64 vk, .int .i64 vn, .string vs, s] 28 (0, 0))) := hx
  have HZ : Hid (w1.heap.size < W.heap.size) := by show _ < _; rw [hW]; simp
  have HN : Hid (w1.heap.size ≠ w.heap.size) := by show _ ≠ _; have := HB.out.1.elim (fun h => h.lt) (fun h => h.lt); omega
  have x0 : W.cell? ⟨w1.heap.size, 0, none⟩ = some (.int .i64 1) := by rw [Lib.cell_of_heap hx]; rfl
  rw [← hW]
  clear hW hx
  obtain ⟨K, hK⟩ : ∃ K : World → Prop, K = fun w' => w'.heap[w1.heap.size]? = some (.cells #[.int .i64 1, .int .i64 c, .int .i64 o, .int .i64 d, .int .i64 vk, .int .i64 vn, .string vs, s] 28 (0, 0)) := ⟨_, rfl⟩
  have KO : Hid (∀ w', w'.heap[w1.heap.size]? = some (.cells #[.int .i64 1, .int .i64 c, .int .i64 o, .int .i64 d, .int .i64 vk, .int .i64 vn, .string vs, s] 28 (0, 0)) → K w') := fun w' h => by rw [hK]; exact h
  have kx : ∀ p : Wd K, p.v.heap[w1.heap.size]? = some (.cells #[.int .i64 1, .int .i64 c, .int .i64 o, .int .i64 d, .int .i64 vk, .int .i64 vn, .string vs, s] 28 (0, 0)) := fun p => (show ∀ w', K w' → w'.heap[w1.heap.size]? = _ from fun w' h => by rw [hK] at h; exact h) p.v p.ok
  have g1 : ∀ p : Wd K, p.v.cell? ⟨w1.heap.size, 1, none⟩ = some (.int .i64 c) := fun p => by rw [Lib.cell_of_heap (kx p)]; rfl
  have g2 : ∀ p : Wd K, p.v.cell? ⟨w1.heap.size, 2, none⟩ = some (.int .i64 o) := fun p => by rw [Lib.cell_of_heap (kx p)]; rfl
  have g3 : ∀ p : Wd K, p.v.cell? ⟨w1.heap.size, 3, none⟩ = some (.int .i64 d) := fun p => by rw [Lib.cell_of_heap (kx p)]; rfl
  have g4 : ∀ p : Wd K, p.v.cell? ⟨w1.heap.size, 4, none⟩ = some (.int .i64 vk) := fun p => by rw [Lib.cell_of_heap (kx p)]; rfl
  have g5 : ∀ p : Wd K, p.v.cell? ⟨w1.heap.size, 5, none⟩ = some (.int .i64 vn) := fun p => by rw [Lib.cell_of_heap (kx p)]; rfl
  have g6 : ∀ p : Wd K, p.v.cell? ⟨w1.heap.size, 6, none⟩ = some (.string vs) := fun p => by rw [Lib.cell_of_heap (kx p)]; rfl
  have KB : Hid (∀ w', Below W.heap.size W w' → K w') := fun w' h => KO.out w' (by rw [h.block _ HZ.out]; exact HX.out)
  have ne : Nonempty (Wd K) := ⟨⟨_, KB.out _ (Below.refl _ _)⟩⟩
  clear kx hK
  go_wp2_with fail
  refine wp_region_ord_at K (regOf Tryd.f25.body 3) ((0, true) :: (1, true) :: (2, true) :: (5, true) :: (6, true) :: (10, true) :: (11, true) :: (3, false) :: (4, true) :: (7, false) :: (8, true) :: (9, true) :: (12, false) :: (13, true) :: (14, false) :: []) (by kernel_rfl) (by kernel_rfl) wr_ord1 (KB.out _ (Below.refl _ _).drew) ?_
  have hb2 : Below W.heap.size W W.drew := (Below.refl _ _).drew
  generalize W.drew = w2 at *
  repeat (refine ord_quiet rfl ?_; go_big_quiet_step (fail); refine wpQuiet_nil ?_)
  have BW : Hid (Below w.heap.size w W) := HB.out.2.trans (B1.out.mono HB.out.2.size)
  have B2 : Hid (Below W.heap.size W w2) := hb2
  clear hb2
  refine ord_call rfl (by rfl) 35 rfl (enters_of Tryd.func35 (by kernel_rfl) rfl) [.int .i64 c] (by rfl) _ (H1.out w2 (HR.out.on (BW.out.trans (B2.out.mono BW.out.size)))) ?_
  rintro e w3 ⟨rfl, hb3⟩
  have B3 : Hid (Below W.heap.size W w3) := B2.out.trans (hb3.mono B2.out.size)
  clear hb3
  refine ⟨_, rfl, Wd.of (KB.out _ B3.out), ?_⟩
  simp only [Act.put, List.setIfInBounds_toArray, List.set_cons_zero, List.set_cons_succ]
  repeat (refine ord_quiet rfl ?_; go_big_quiet_step (fail); refine wpQuiet_nil ?_)
  refine ord_call rfl (by rfl) 27 rfl (enters_of Tryd.func27 (by kernel_rfl) rfl) [.int .i64 o] (by rfl) _ (H2.out w3) ?_
  rintro e w4 ⟨rfl, hb4⟩
  have B4 : Hid (Below W.heap.size W w4) := B3.out.trans (hb4.mono B3.out.size)
  clear hb4
  refine ⟨_, rfl, Wd.of (KB.out _ B4.out), ?_⟩
  simp only [Act.put, List.setIfInBounds_toArray, List.set_cons_zero, List.set_cons_succ]
  repeat (refine ord_quiet rfl ?_; go_big_quiet_step (fail); refine wpQuiet_nil ?_)
  refine ord_call rfl (by rfl) 36 rfl (enters_of Tryd.func36 (by kernel_rfl) rfl) [.agg #[.int .i64 vk, .int .i64 vn, .string vs]] (by rfl) _ (H3.out w4 (HR.out.on (BW.out.trans (B4.out.mono BW.out.size)))) ?_
  rintro e w5 ⟨rfl, hb5⟩
  have B5 : Hid (Below W.heap.size W w5) := B4.out.trans (hb5.mono B4.out.size)
  clear hb5
  refine ⟨_, rfl, Wd.of (KB.out _ B5.out), ?_⟩
  simp only [Act.put, List.setIfInBounds_toArray, List.set_cons_zero, List.set_cons_succ]
  repeat (refine ord_quiet rfl ?_; go_big_quiet_step (fail); refine wpQuiet_nil ?_)
  rw [join_leaf]
  have q6 := Tryd.writeStringK bs ⟨(X ++ [32] ++ Y ++ [32] ++ Z).toArray⟩ w w5 (HB.out.on (B1.out.trans (B5.out.mono B1.out.size))) HL.out
  have HU : Hid ((⟨(X ++ [32] ++ Y ++ [32] ++ Z).toArray⟩ : ByteArray).data.toList = X ++ [32] ++ Y ++ [32] ++ Z) := rfl
  rw [← HU.out]
  generalize (⟨(X ++ [32] ++ Y ++ [32] ++ Z).toArray⟩ : ByteArray) = U at *
  refine ord_call rfl (by rfl) 34 rfl (enters_of Tryd.func34 (by kernel_rfl) rfl) [.pointer (some ⟨w.heap.size, 0, none⟩), .string U] (by rfl) _ q6 ?_
  rintro e w6 ⟨rfl, hb6, hk6, hl6⟩
  have hx5 := B5.out.block _ HZ.out
  rw [HX.out] at hx5
  refine ⟨_, rfl, Wd.of (KO.out _ (hk6 _ HN.out _ _ hx5 (by decide))), ?_⟩
  have HE : Hid (WrEnd (bs ++ U.data.toList) w w1 (.returned (.tuple #[])) w6) := ⟨rfl, hb6, fun k hk => kept_trans (kept_below (B1.out.trans (B5.out.mono B1.out.size)) k) (hk6 k hk), ((B1.out.trans (B5.out.mono B1.out.size)).mono HB.out.2.size).trans hl6⟩
  clear hb6 hk6 hl6 hx5 q6 g1 g2 g3 g4 g5 g6 L1 L2 L3 L4
  simp only [Act.put, List.setIfInBounds_toArray, List.set_cons_zero, List.set_cons_succ]
  refine ord_end ?_
  go_wp2_with fail
  go_end0
  exact HE.out
set_option maxHeartbeats 2000000 in
theorem write2 (c o d vk vn : Int) (vs : ByteArray) (s : Value) (bs : List UInt8) (w w1 : World) (hr : Ready w) (hb : Tryd.BldHas bs w w1) (hc0 : 0 ≤ c) (hc1 : c ≤ 1000000) (hd0 : 0 ≤ d) (hd1 : d ≤ 1000000) (hl : bs.length ≤ 1000000000000) :
    Calls Tryd.prog 25 #[.pointer (some ⟨w.heap.size, 0, none⟩), .agg #[.int .i64 2, .int .i64 c, .int .i64 o, .int .i64 d, .int .i64 vk, .int .i64 vn, .string vs, s]] w1 (WrEnd (bs ++ (nmC c ++ [32] ++ sgn o ++ [32] ++ nmC d)) w w1) := by
  have bx := PdBox.new w1 ⟨2, c, o, d, (vk, vn, vs), []⟩ s
  have HB : Hid (Tryd.BldHas bs w w1) := hb
  have HR : Hid (Ready w) := hr
  have H1 : Hid (∀ W, Ready W → Calls Tryd.prog 35 #[.int .i64 c] W fun e w' => e = .returned (.string ⟨(nmC c).toArray⟩) ∧ Below W.heap.size W w') := fun W hW => predName c hc0 hc1 W hW
  have H2 : Hid (∀ W, Calls Tryd.prog 27 #[.int .i64 o] W fun e w' => e = .returned (.string ⟨(sgn o).toArray⟩) ∧ Below W.heap.size W w') := fun W => predSign o W
  have H3 : Hid (∀ W, Ready W → Calls Tryd.prog 35 #[.int .i64 d] W fun e w' => e = .returned (.string ⟨(nmC d).toArray⟩) ∧ Below W.heap.size W w') := fun W hW => predName d hd0 hd1 W hW
  have l1 := nmC_len hc0 hc1
  have l2 := sgn_len o
  have l3 := nmC_len hd0 hd1
  try simp only at l3
  generalize nmC c = X at *
  generalize sgn o = Y at *
  generalize nmC d = Z at *
  have L1 : ¬ 9223372036854775807 < X.length + 1 := by omega
  have L2 : ¬ 9223372036854775807 < X.length + 1 + Y.length := by omega
  have L3 : ¬ 9223372036854775807 < X.length + 1 + Y.length + 1 := by omega
  have L4 : ¬ 9223372036854775807 < X.length + 1 + Y.length + 1 + Z.length := by omega
  have HL : Hid (bs.length + (⟨(X ++ [32] ++ Y ++ [32] ++ Z).toArray⟩ : ByteArray).size ≤ 140737488355328) := by
    show _ ≤ _
    rw [size_mkW]; simp only [List.length_append, List.length_cons, List.length_nil]; omega
  clear hb hr l1 l2 l3 hl
  go_enter Tryd.func25, Tryd.ntmps25
  go_wp2_with fail
  obtain ⟨W, hW⟩ : ∃ W, W = w1.alloc (.cells #[.int .i64 2, .int .i64 c, .int .i64 o, .int .i64 d, .int .i64 vk, .int .i64 vn, .string vs, s] 28) := ⟨_, rfl⟩
  have B1 : Hid (Below w1.heap.size w1 W) := by show Below _ _ _; rw [hW]; exact one_box
  have hx : W.heap[w1.heap.size]? = some (.cells #[.int .i64 2, .int .i64 c, .int .i64 o, .int .i64 d, .int .i64 vk, .int .i64 vn, .string vs, s] 28 (0, 0)) := by rw [hW]; exact heap_alloc_new _ _
  have HX : Hid (W.heap[w1.heap.size]? = some (.cells #[.int .i64 2, .int .i64 c, .int .i64 o, .int .i64 d, .int .i64 vk, .int .i64 vn, .string vs, s] 28 (0, 0))) := hx
  have HZ : Hid (w1.heap.size < W.heap.size) := by show _ < _; rw [hW]; simp
  have HN : Hid (w1.heap.size ≠ w.heap.size) := by show _ ≠ _; have := HB.out.1.elim (fun h => h.lt) (fun h => h.lt); omega
  have x0 : W.cell? ⟨w1.heap.size, 0, none⟩ = some (.int .i64 2) := by rw [Lib.cell_of_heap hx]; rfl
  rw [← hW]
  clear hW hx
  obtain ⟨K, hK⟩ : ∃ K : World → Prop, K = fun w' => w'.heap[w1.heap.size]? = some (.cells #[.int .i64 2, .int .i64 c, .int .i64 o, .int .i64 d, .int .i64 vk, .int .i64 vn, .string vs, s] 28 (0, 0)) := ⟨_, rfl⟩
  have KO : Hid (∀ w', w'.heap[w1.heap.size]? = some (.cells #[.int .i64 2, .int .i64 c, .int .i64 o, .int .i64 d, .int .i64 vk, .int .i64 vn, .string vs, s] 28 (0, 0)) → K w') := fun w' h => by rw [hK]; exact h
  have kx : ∀ p : Wd K, p.v.heap[w1.heap.size]? = some (.cells #[.int .i64 2, .int .i64 c, .int .i64 o, .int .i64 d, .int .i64 vk, .int .i64 vn, .string vs, s] 28 (0, 0)) := fun p => (show ∀ w', K w' → w'.heap[w1.heap.size]? = _ from fun w' h => by rw [hK] at h; exact h) p.v p.ok
  have g1 : ∀ p : Wd K, p.v.cell? ⟨w1.heap.size, 1, none⟩ = some (.int .i64 c) := fun p => by rw [Lib.cell_of_heap (kx p)]; rfl
  have g2 : ∀ p : Wd K, p.v.cell? ⟨w1.heap.size, 2, none⟩ = some (.int .i64 o) := fun p => by rw [Lib.cell_of_heap (kx p)]; rfl
  have g3 : ∀ p : Wd K, p.v.cell? ⟨w1.heap.size, 3, none⟩ = some (.int .i64 d) := fun p => by rw [Lib.cell_of_heap (kx p)]; rfl
  have g4 : ∀ p : Wd K, p.v.cell? ⟨w1.heap.size, 4, none⟩ = some (.int .i64 vk) := fun p => by rw [Lib.cell_of_heap (kx p)]; rfl
  have g5 : ∀ p : Wd K, p.v.cell? ⟨w1.heap.size, 5, none⟩ = some (.int .i64 vn) := fun p => by rw [Lib.cell_of_heap (kx p)]; rfl
  have g6 : ∀ p : Wd K, p.v.cell? ⟨w1.heap.size, 6, none⟩ = some (.string vs) := fun p => by rw [Lib.cell_of_heap (kx p)]; rfl
  have KB : Hid (∀ w', Below W.heap.size W w' → K w') := fun w' h => KO.out w' (by rw [h.block _ HZ.out]; exact HX.out)
  have ne : Nonempty (Wd K) := ⟨⟨_, KB.out _ (Below.refl _ _)⟩⟩
  clear kx hK
  go_wp2_with fail
  refine wp_region_ord_at K (regOf Tryd.f25.body 5) ((0, true) :: (1, true) :: (2, true) :: (5, true) :: (6, true) :: (10, true) :: (11, true) :: (3, false) :: (4, true) :: (7, false) :: (8, true) :: (9, true) :: (12, false) :: (13, true) :: (14, false) :: []) (by kernel_rfl) (by kernel_rfl) wr_ord2 (KB.out _ (Below.refl _ _).drew) ?_
  have hb2 : Below W.heap.size W W.drew := (Below.refl _ _).drew
  generalize W.drew = w2 at *
  repeat (refine ord_quiet rfl ?_; go_big_quiet_step (fail); refine wpQuiet_nil ?_)
  have BW : Hid (Below w.heap.size w W) := HB.out.2.trans (B1.out.mono HB.out.2.size)
  have B2 : Hid (Below W.heap.size W w2) := hb2
  clear hb2
  refine ord_call rfl (by rfl) 35 rfl (enters_of Tryd.func35 (by kernel_rfl) rfl) [.int .i64 c] (by rfl) _ (H1.out w2 (HR.out.on (BW.out.trans (B2.out.mono BW.out.size)))) ?_
  rintro e w3 ⟨rfl, hb3⟩
  have B3 : Hid (Below W.heap.size W w3) := B2.out.trans (hb3.mono B2.out.size)
  clear hb3
  refine ⟨_, rfl, Wd.of (KB.out _ B3.out), ?_⟩
  simp only [Act.put, List.setIfInBounds_toArray, List.set_cons_zero, List.set_cons_succ]
  repeat (refine ord_quiet rfl ?_; go_big_quiet_step (fail); refine wpQuiet_nil ?_)
  refine ord_call rfl (by rfl) 27 rfl (enters_of Tryd.func27 (by kernel_rfl) rfl) [.int .i64 o] (by rfl) _ (H2.out w3) ?_
  rintro e w4 ⟨rfl, hb4⟩
  have B4 : Hid (Below W.heap.size W w4) := B3.out.trans (hb4.mono B3.out.size)
  clear hb4
  refine ⟨_, rfl, Wd.of (KB.out _ B4.out), ?_⟩
  simp only [Act.put, List.setIfInBounds_toArray, List.set_cons_zero, List.set_cons_succ]
  repeat (refine ord_quiet rfl ?_; go_big_quiet_step (fail); refine wpQuiet_nil ?_)
  refine ord_call rfl (by rfl) 35 rfl (enters_of Tryd.func35 (by kernel_rfl) rfl) [.int .i64 d] (by rfl) _ (H3.out w4 (HR.out.on (BW.out.trans (B4.out.mono BW.out.size)))) ?_
  rintro e w5 ⟨rfl, hb5⟩
  have B5 : Hid (Below W.heap.size W w5) := B4.out.trans (hb5.mono B4.out.size)
  clear hb5
  refine ⟨_, rfl, Wd.of (KB.out _ B5.out), ?_⟩
  simp only [Act.put, List.setIfInBounds_toArray, List.set_cons_zero, List.set_cons_succ]
  repeat (refine ord_quiet rfl ?_; go_big_quiet_step (fail); refine wpQuiet_nil ?_)
  rw [join_leaf]
  have q6 := Tryd.writeStringK bs ⟨(X ++ [32] ++ Y ++ [32] ++ Z).toArray⟩ w w5 (HB.out.on (B1.out.trans (B5.out.mono B1.out.size))) HL.out
  have HU : Hid ((⟨(X ++ [32] ++ Y ++ [32] ++ Z).toArray⟩ : ByteArray).data.toList = X ++ [32] ++ Y ++ [32] ++ Z) := rfl
  rw [← HU.out]
  generalize (⟨(X ++ [32] ++ Y ++ [32] ++ Z).toArray⟩ : ByteArray) = U at *
  refine ord_call rfl (by rfl) 34 rfl (enters_of Tryd.func34 (by kernel_rfl) rfl) [.pointer (some ⟨w.heap.size, 0, none⟩), .string U] (by rfl) _ q6 ?_
  rintro e w6 ⟨rfl, hb6, hk6, hl6⟩
  have hx5 := B5.out.block _ HZ.out
  rw [HX.out] at hx5
  refine ⟨_, rfl, Wd.of (KO.out _ (hk6 _ HN.out _ _ hx5 (by decide))), ?_⟩
  have HE : Hid (WrEnd (bs ++ U.data.toList) w w1 (.returned (.tuple #[])) w6) := ⟨rfl, hb6, fun k hk => kept_trans (kept_below (B1.out.trans (B5.out.mono B1.out.size)) k) (hk6 k hk), ((B1.out.trans (B5.out.mono B1.out.size)).mono HB.out.2.size).trans hl6⟩
  clear hb6 hk6 hl6 hx5 q6 g1 g2 g3 g4 g5 g6 L1 L2 L3 L4
  simp only [Act.put, List.setIfInBounds_toArray, List.set_cons_zero, List.set_cons_succ]
  refine ord_end ?_
  go_wp2_with fail
  go_end0
  exact HE.out
theorem join_null (X : List UInt8) : (⟨X.toArray⟩ : ByteArray) ++ ⟨#[32, 105, 115, 32, 110, 117, 108, 108]⟩ = ⟨(X ++ [32, 105, 115, 32, 110, 117, 108, 108]).toArray⟩ := by
  apply ByteArray.ext
  simp [ByteArray.data_append]
set_option maxHeartbeats 2000000 in
theorem write3 (c o d vk vn : Int) (vs : ByteArray) (s : Value) (bs : List UInt8) (w w1 : World) (hr : Ready w) (hb : Tryd.BldHas bs w w1) (hc0 : 0 ≤ c) (hc1 : c ≤ 1000000) (hl : bs.length ≤ 1000000000000) :
    Calls Tryd.prog 25 #[.pointer (some ⟨w.heap.size, 0, none⟩), .agg #[.int .i64 3, .int .i64 c, .int .i64 o, .int .i64 d, .int .i64 vk, .int .i64 vn, .string vs, s]] w1 (WrEnd (bs ++ (nmC c ++ [32, 105, 115, 32, 110, 117, 108, 108])) w w1) := by
  have HB : Hid (Tryd.BldHas bs w w1) := hb
  have HR : Hid (Ready w) := hr
  have l1 := nmC_len hc0 hc1
  have H1 : Hid (∀ W, Ready W → Calls Tryd.prog 35 #[.int .i64 c] W fun e w' => e = .returned (.string ⟨(nmC c).toArray⟩) ∧ Below W.heap.size W w') := fun W hW => predName c hc0 hc1 W hW
  generalize nmC c = X at *
  have HL : Hid (bs.length + (⟨(X ++ [32, 105, 115, 32, 110, 117, 108, 108]).toArray⟩ : ByteArray).size ≤ 140737488355328) := by
    show _ ≤ _
    rw [size_mkW]; simp only [List.length_append, List.length_cons, List.length_nil]; omega
  have L1 : ¬ 9223372036854775807 < X.length + 8 := by omega
  clear hb hr l1 hl
  go_enter Tryd.func25, Tryd.ntmps25
  go_wp2_with fail
  refine (H1.out _ (HR.out.on (HB.out.2.trans (one_box.mono HB.out.2.size)))).mono ?_
  rintro e w3 ⟨rfl, hb3⟩
  have B3 : Hid (Below w1.heap.size w1 w3) := one_box.trans (hb3.mono (by simp))
  have q6 := Tryd.writeStringK bs ⟨(X ++ [32, 105, 115, 32, 110, 117, 108, 108]).toArray⟩ w w3 (HB.out.on B3.out) HL.out
  have HU : Hid ((⟨(X ++ [32, 105, 115, 32, 110, 117, 108, 108]).toArray⟩ : ByteArray).data.toList = X ++ [32, 105, 115, 32, 110, 117, 108, 108]) := rfl
  have HJ : Hid ((⟨X.toArray⟩ : ByteArray) ++ ⟨#[32, 105, 115, 32, 110, 117, 108, 108]⟩ = ⟨(X ++ [32, 105, 115, 32, 110, 117, 108, 108]).toArray⟩) := join_null X
  generalize (⟨(X ++ [32, 105, 115, 32, 110, 117, 108, 108]).toArray⟩ : ByteArray) = U at *
  clear hb3
  go_wp2_with fail
  rw [HJ.out]
  refine q6.mono ?_
  rintro e w6 ⟨rfl, hb6, hk6, hl6⟩
  have HE : Hid (WrEnd (bs ++ (X ++ [32, 105, 115, 32, 110, 117, 108, 108])) w w1 (.returned (.tuple #[])) w6) := ⟨rfl, by rw [← HU.out]; exact hb6, fun k hk => kept_trans (kept_below B3.out k) (hk6 k hk), (B3.out.mono HB.out.2.size).trans hl6⟩
  clear hb6 hk6 hl6 q6 L1
  go_wp2_with fail
  go_end0
  exact HE.out
end Go.Proofs.YtiphnbpkliglcaaDoor
