/- How the program writes a predicate's parts. -/
import Derived.Test.YtiphnbpkliglcaaDoorPdWrite2
namespace Go.Proofs.YtiphnbpkliglcaaDoor
open Go.RowKit Go.Sort
set_option maxRecDepth 100000
set_option linter.unusedVariables false

theorem take_map (L : List Pd) (j : Nat) (hj : j < L.length) : (L.take (j + 1)).map (fun q => shP q) = (L.take j).map (fun q => shP q) ++ [shP L[j]] := by
  rw [List.take_succ_eq_append_getElem hj, List.map_append]; rfl
theorem kept_alloc {k : Nat} {w w' : World} {o : Obj} (h : Tryd.Kept k w w') : Tryd.Kept k w (w'.alloc o) := kept_trans h (kept_below one_box k)
set_option maxHeartbeats 4000000 in
theorem writeParts_at (ks : List Int) (hks : ks.length ≤ 16) (m : Nat) (ih : WriteAt ks m) (k : Int) (l : List Pd) (s : Value) (b bs : List UInt8) (w w1 : World)
    (hq : ∀ q ∈ ptsP ⟨k, 0, 0, 0, nul, l⟩, MkP okM ks m q) (h3 : (ptsP ⟨k, 0, 0, 0, nul, l⟩).length ≤ 3) (hb5 : b.length ≤ 5) (hne : ptsP ⟨k, 0, 0, 0, nul, l⟩ ≠ [])
    (hp : PdL (fun k => k < w.heap.size) (m + 1) w1 s l) (hr : Ready w) (hb : Tryd.BldHas bs w w1) (hl : bs.length + 160 * 4 ^ (m + 1) ≤ 1000000000004) :
    Calls Tryd.prog 37 #[.pointer (some ⟨w.heap.size, 0, none⟩), .agg #[.int .i64 k, .int .i64 0, .int .i64 0, .int .i64 0, .int .i64 0, .int .i64 0, .string ⟨#[]⟩, s], .string ⟨b.toArray⟩] w1 (WrEnd (bs ++ joinP b ((ptsP ⟨k, 0, 0, 0, nul, l⟩).map fun q => shP q)) w w1) := by
  rw [joinP_jn (by simpa using hne)]
  have HP : Hid (∀ W, Below w1.heap.size w1 W → Calls Tryd.prog 15 #[.agg #[.int .i64 k, .int .i64 0, .int .i64 0, .int .i64 0, .int .i64 0, .int .i64 0, .string ⟨#[]⟩, s]] W fun e w' => ∃ v, e = .returned v ∧ PdL (fun k => k < w.heap.size) (m + 1) w' v (ptsP ⟨k, 0, 0, 0, nul, l⟩) ∧ Below W.heap.size W w') := fun W hW => predParts _ (m + 1) k 0 0 0 0 0 ⟨#[]⟩ l s W (hp.on hW)
  generalize ptsP ⟨k, 0, 0, 0, nul, l⟩ = L at *
  have hpow := pow_pos4 m
  have HM : Hid (∀ t ∈ L.map (fun q => shP q), t.length ≤ 160 * 4 ^ m) := fun t ht => by
    obtain ⟨q, hq', rfl⟩ := List.mem_map.1 ht
    exact shP_len hks (hq q hq')
  have HJ : Hid (∀ j, j ≤ L.length → (jn b ((L.take j).map fun q => shP q)).length ≤ j * (160 * 4 ^ m + 7)) := fun j hj => by
    have h := jn_len hb5 (ts := (L.take j).map fun q => shP q) (M := 160 * 4 ^ m) (fun t ht => by
      obtain ⟨q, hq', rfl⟩ := List.mem_map.1 ht
      exact HM.out _ (List.mem_map.2 ⟨q, List.mem_of_mem_take hq', rfl⟩))
    rw [List.length_map, List.length_take, Nat.min_eq_left hj] at h
    exact h
  have HL : Hid (bs.length + 160 * 4 ^ (m + 1) ≤ 1000000000004) := hl
  have HLs : Hid (∀ j, j < L.length → (bs ++ jn b ((L.take j).map fun q => shP q)).length + b.length + 1 + 160 * 4 ^ m + 1 ≤ 1000000000000 ∧ (bs ++ jn b ((L.take j).map fun q => shP q)).length + b.length ≤ 140737488355320) := fun j hj => by
    have h1 := HJ.out j (by omega)
    have h2 : j * (160 * 4 ^ m + 7) ≤ 2 * (160 * 4 ^ m + 7) := Nat.mul_le_mul_right _ (by omega)
    rw [Nat.pow_succ] at hl
    rw [List.length_append]
    omega
  have HB : Hid (Tryd.BldHas bs w w1) := hb
  have HR : Hid (Ready w) := hr
  have HQ : Hid (∀ q ∈ L, MkP okM ks m q) := hq
  have IH : Hid (WriteAt ks m) := ih
  have HN0 : Hid (L ≠ []) := hne
  obtain ⟨a1, cap1, hs⟩ := hp.form
  clear hb hr hl hq ih hp hne hpow
  subst hs
  go_enter Tryd.func37, Tryd.ntmps37
  go_wp2_with fail
  refine (HP.out _ one_box).mono ?_
  rintro e w2 ⟨v, rfl, hP, hb2⟩
  have B2 : Hid (Below w1.heap.size w1 w2) := one_box.trans (hb2.mono (by simp))
  have P2 : Hid (PdL (fun k => k < w.heap.size) (m + 1) w2 v L) := hP
  obtain ⟨av, cv, hv⟩ := hP.form
  have lP := hP.le
  unfold maxLen at lP
  have hpos : ¬ (L.length : Int) = 0 := by have := List.length_pos_iff.2 HN0.out; omega
  have b0 : ((L.length : Int) == 0) = false := beq_false_of_ne hpos
  have C0 : Hid (Tryd.BldHas (bs ++ jn b ((L.take 0).map fun q => shP q)) w w2 ∧ ∀ k, k ≠ w.heap.size → Tryd.Kept k w1 w2) := by
    refine ⟨?_, fun k _ => kept_below B2.out k⟩
    rw [List.take_zero, List.map_nil]
    show Tryd.BldHas (bs ++ []) w w2
    rw [List.append_nil]
    exact HB.out.on B2.out
  subst hv
  clear hb2 hP hpos
  go_wp2_with fail
  go_loopw [18] (fun i wr => ∃ j : Nat, j ≤ L.length ∧ i = .int .i64 j ∧ Hid (Tryd.BldHas (bs ++ jn b ((L.take j).map fun q => shP q)) w wr ∧ (∀ k, k ≠ w.heap.size → Tryd.Kept k w1 wr) ∧ Below w.heap.size w2 wr)) (fun i _ => L.length - (intOf i).toNat)
  case atStart => exact ⟨0, by omega, rfl, C0.out.1, C0.out.2, Below.refl _ _⟩
  case round =>
    clear C0
    obtain ⟨j, hj, rfl, hT⟩ := hrel
    by_cases hlt : j < L.length
    · obtain ⟨m', bb, o', s', hm, hab, ⟨x0, x1, x2, x3, x4, x5, x6, x7⟩, hqq, hbs⟩ := (P2.out.low hT.out.2.2).at j hlt
      obtain rfl : m' = m := by omega
      obtain ⟨as1, cs1, hs1⟩ := hqq.form
      have I1 : (j : Int) < (L.length : Int) := by omega
      have HQq : Hid (MkP okM ks m' L[j]) := HQ.out _ (List.getElem_mem hlt)
      have HMq : Hid ((shP L[j]).length ≤ 160 * 4 ^ m') := HM.out _ (List.mem_map.2 ⟨_, List.getElem_mem hlt, rfl⟩)
      have PQ : Hid (PdL (fun k => k < w.heap.size) m' wr s' L[j].l) := hqq
      have HTK : Hid ((L.take (j + 1)).map (fun q => shP q) = (L.take j).map (fun q => shP q) ++ [shP L[j]]) := take_map L j hlt
      have HLj : Hid ((bs ++ jn b ((L.take j).map fun q => shP q)).length + b.length + 1 + 160 * 4 ^ m' + 1 ≤ 1000000000000 ∧ (bs ++ jn b ((L.take j).map fun q => shP q)).length + b.length ≤ 140737488355320) := HLs.out j hlt
      have KW : Hid (∀ k, k ≠ w.heap.size → Tryd.Kept k w1 wr) := hT.out.2.1
      have LW : Hid (Below w.heap.size w2 wr) := hT.out.2.2
      have T0 : Hid (Tryd.BldHas (bs ++ jn b ((L.take j).map fun q => shP q)) w wr) := hT.out.1
      have hne : Hid (wr.heap.size ≠ w.heap.size) := by show _ ≠ _; have := T0.out.1.elim (fun h => h.lt) (fun h => h.lt); omega
      have hLw : Hid (w.heap.size ≤ wr.heap.size) := T0.out.2.size
      subst hab hs1
      clear hT hqq hm hbs
      generalize L[j] = q at *
      by_cases h0 : j = 0
      · subst h0
        have HE0 : Hid (jn b ((L.take 0).map fun q => shP q) = []) := by show _ = _; rw [List.take_zero, List.map_nil]; rfl
        simp only [Nat.zero_mul, Nat.add_zero] at x0 x1 x2 x3 x4 x5 x6 x7
        have q9 := Tryd.writeByteK ((bs ++ jn b ((L.take 0).map fun q => shP q))) 40 w (wr.alloc (.cells #[.int .i64 q.k, .int .i64 q.c, .int .i64 q.o, .int .i64 q.d, .int .i64 q.v.1, .int .i64 q.v.2.1, .string q.v.2.2, .slice as1 q.l.length cs1] 28)) (T0.out.on one_box) (by have := HLj.out; simp only [List.length_append] at this ⊢; omega)
        clear T0
        go_wp2_with fail
        refine q9.mono ?_
        rintro e w5 ⟨rfl, hb5, hk5, hl5⟩
        have h5 := hk5 wr.heap.size hne.out _ _ (heap_alloc_new wr _) (by decide)
        have c0 : w5.cell? ⟨wr.heap.size, 0, none⟩ = some (.int .i64 q.k) := by rw [Lib.cell_of_heap h5]; rfl
        have c1 : w5.cell? ⟨wr.heap.size, 1, none⟩ = some (.int .i64 q.c) := by rw [Lib.cell_of_heap h5]; rfl
        have c2 : w5.cell? ⟨wr.heap.size, 2, none⟩ = some (.int .i64 q.o) := by rw [Lib.cell_of_heap h5]; rfl
        have c3 : w5.cell? ⟨wr.heap.size, 3, none⟩ = some (.int .i64 q.d) := by rw [Lib.cell_of_heap h5]; rfl
        have c4 : w5.cell? ⟨wr.heap.size, 4, none⟩ = some (.int .i64 q.v.1) := by rw [Lib.cell_of_heap h5]; rfl
        have c5 : w5.cell? ⟨wr.heap.size, 5, none⟩ = some (.int .i64 q.v.2.1) := by rw [Lib.cell_of_heap h5]; rfl
        have c6 : w5.cell? ⟨wr.heap.size, 6, none⟩ = some (.string q.v.2.2) := by rw [Lib.cell_of_heap h5]; rfl
        have c7 : w5.cell? ⟨wr.heap.size, 7, none⟩ = some (.slice as1 q.l.length cs1) := by rw [Lib.cell_of_heap h5]; rfl
        have L5 : Hid (Below w.heap.size wr w5) := ((Below.refl _ _).alloc hLw.out _).trans hl5
        have K5 : Hid (∀ k, k ≠ w.heap.size → Tryd.Kept k wr w5) := fun k hk => kept_trans ((fun k hk => kept_below one_box k) k hk) (hk5 k hk)
        have q10 := IH.out q (.slice as1 q.l.length cs1) ((bs ++ jn b ((L.take 0).map fun q => shP q)) ++ [40]) w w5 HQq.out (PQ.out.low L5.out) HR.out hb5 (by have := HLj.out; simp only [List.length_append, List.length_cons, List.length_nil] at this ⊢; omega)
        unfold pv at q10
        clear q9 h5 hb5 hk5 hl5
        go_wp2_with fail
        refine q10.mono ?_
        rintro e w6 ⟨rfl, hb6, hk6, hl6⟩
        have q11 := Tryd.writeByteK ((bs ++ jn b ((L.take 0).map fun q => shP q)) ++ [40] ++ shP q) 41 w w6 hb6 (by have := HLj.out; have h2 := HMq.out; simp only [List.length_append, List.length_cons, List.length_nil] at this ⊢; omega)
        have L6 : Hid (Below w.heap.size wr w6) := L5.out.trans hl6
        have K6 : Hid (∀ k, k ≠ w.heap.size → Tryd.Kept k wr w6) := fun k hk => kept_trans (K5.out k hk) (hk6 k hk)
        clear q10 hb6 hk6 hl6 c0 c1 c2 c3 c4 c5 c6 c7 L5 K5
        go_wp2_with fail
        refine q11.mono ?_
        rintro e w7 ⟨rfl, hb7, hk7, hl7⟩
        have F7 : Hid (Tryd.BldHas (bs ++ jn b ((L.take (0 + 1)).map fun q => shP q)) w w7 ∧ (∀ k, k ≠ w.heap.size → Tryd.Kept k w1 w7) ∧ Below w.heap.size w2 w7) := by
          refine ⟨?_, fun k hk => kept_trans (KW.out k hk) (kept_trans (K6.out k hk) (hk7 k hk)), LW.out.trans (L6.out.trans hl7)⟩
          rw [HTK.out, show (L.take 0).map (fun q => shP q) = [] from rfl, List.nil_append, jn_one]
          simpa [brk, jn] using hb7
        clear q11 hb7 hk7 hl7
        go_wp2_with fail
        go_roundw
        case rel => exact ⟨0 + 1, by omega, by rfl, F7.out⟩
        case measure => simp [intOf]; omega
      · have I0 : (0 : Int) < (j : Int) := by omega
        have HNE : Hid ((L.take j).map (fun q => shP q) ≠ []) := by
          show _ ≠ _
          intro e
          have := congrArg List.length e
          rw [List.length_map, List.length_take, Nat.min_eq_left (by omega)] at this
          exact h0 this
        have q8 := Tryd.writeStringK (bs ++ jn b ((L.take j).map fun q => shP q)) ⟨b.toArray⟩ w (wr.alloc (.cells #[.int .i64 q.k, .int .i64 q.c, .int .i64 q.o, .int .i64 q.d, .int .i64 q.v.1, .int .i64 q.v.2.1, .string q.v.2.2, .slice as1 q.l.length cs1] 28)) (T0.out.on one_box) (by have := HLj.out.2; rw [size_mkW]; omega)
        clear T0
        go_wp2_with fail
        refine q8.mono ?_
        rintro e w4 ⟨rfl, hb4, hk4, hl4⟩
        have h4 : Hid (w4.heap[wr.heap.size]? = _) := hk4 wr.heap.size hne.out _ _ (heap_alloc_new wr _) (by decide)
        have K4 : Hid (∀ k, k ≠ w.heap.size → Tryd.Kept k wr w4) := fun k hk => kept_trans (kept_below one_box k) (hk4 k hk)
        have L4 : Hid (Below w.heap.size wr w4) := ((Below.refl _ _).alloc hLw.out _).trans hl4
        have HB4 : Hid (Tryd.BldHas (bs ++ jn b ((L.take j).map fun q => shP q) ++ b) w w4) := hb4
        have q9 := Tryd.writeByteK ((bs ++ jn b ((L.take j).map fun q => shP q) ++ b)) 40 w _ HB4.out (by have := HLj.out; simp only [List.length_append] at this ⊢; omega)
        clear q8 hb4 hk4 hl4 x0 x1 x2 x3 x4 x5 x6 x7
        go_wp2_with fail
        refine q9.mono ?_
        rintro e w5 ⟨rfl, hb5, hk5, hl5⟩
        have h5 := hk5 wr.heap.size hne.out _ _ h4.out (by decide)
        have c0 : w5.cell? ⟨wr.heap.size, 0, none⟩ = some (.int .i64 q.k) := by rw [Lib.cell_of_heap h5]; rfl
        have c1 : w5.cell? ⟨wr.heap.size, 1, none⟩ = some (.int .i64 q.c) := by rw [Lib.cell_of_heap h5]; rfl
        have c2 : w5.cell? ⟨wr.heap.size, 2, none⟩ = some (.int .i64 q.o) := by rw [Lib.cell_of_heap h5]; rfl
        have c3 : w5.cell? ⟨wr.heap.size, 3, none⟩ = some (.int .i64 q.d) := by rw [Lib.cell_of_heap h5]; rfl
        have c4 : w5.cell? ⟨wr.heap.size, 4, none⟩ = some (.int .i64 q.v.1) := by rw [Lib.cell_of_heap h5]; rfl
        have c5 : w5.cell? ⟨wr.heap.size, 5, none⟩ = some (.int .i64 q.v.2.1) := by rw [Lib.cell_of_heap h5]; rfl
        have c6 : w5.cell? ⟨wr.heap.size, 6, none⟩ = some (.string q.v.2.2) := by rw [Lib.cell_of_heap h5]; rfl
        have c7 : w5.cell? ⟨wr.heap.size, 7, none⟩ = some (.slice as1 q.l.length cs1) := by rw [Lib.cell_of_heap h5]; rfl
        have L5 : Hid (Below w.heap.size wr w5) := L4.out.trans hl5
        have K5 : Hid (∀ k, k ≠ w.heap.size → Tryd.Kept k wr w5) := fun k hk => kept_trans (K4.out k hk) (hk5 k hk)
        have q10 := IH.out q (.slice as1 q.l.length cs1) ((bs ++ jn b ((L.take j).map fun q => shP q) ++ b) ++ [40]) w w5 HQq.out (PQ.out.low L5.out) HR.out hb5 (by have := HLj.out; simp only [List.length_append, List.length_cons, List.length_nil] at this ⊢; omega)
        unfold pv at q10
        clear q9 h5 hb5 hk5 hl5
        go_wp2_with fail
        refine q10.mono ?_
        rintro e w6 ⟨rfl, hb6, hk6, hl6⟩
        have q11 := Tryd.writeByteK ((bs ++ jn b ((L.take j).map fun q => shP q) ++ b) ++ [40] ++ shP q) 41 w w6 hb6 (by have := HLj.out; have h2 := HMq.out; simp only [List.length_append, List.length_cons, List.length_nil] at this ⊢; omega)
        have L6 : Hid (Below w.heap.size wr w6) := L5.out.trans hl6
        have K6 : Hid (∀ k, k ≠ w.heap.size → Tryd.Kept k wr w6) := fun k hk => kept_trans (K5.out k hk) (hk6 k hk)
        clear q10 hb6 hk6 hl6 c0 c1 c2 c3 c4 c5 c6 c7 L5 K5
        go_wp2_with fail
        refine q11.mono ?_
        rintro e w7 ⟨rfl, hb7, hk7, hl7⟩
        have F7 : Hid (Tryd.BldHas (bs ++ jn b ((L.take (j + 1)).map fun q => shP q)) w w7 ∧ (∀ k, k ≠ w.heap.size → Tryd.Kept k w1 w7) ∧ Below w.heap.size w2 w7) := by
          refine ⟨?_, fun k hk => kept_trans (KW.out k hk) (kept_trans (K6.out k hk) (hk7 k hk)), LW.out.trans (L6.out.trans hl7)⟩
          rw [HTK.out, jn_snoc HNE.out]
          simpa [brk] using hb7
        clear q11 hb7 hk7 hl7
        go_wp2_with fail
        go_roundw
        case rel => exact ⟨j + 1, by omega, by go_num, F7.out⟩
        case measure => simp [intOf]; omega
    · obtain rfl : j = L.length := by omega
      have I1 : ¬ (L.length : Int) < (L.length : Int) := by omega
      have HE : Hid (WrEnd (bs ++ jn b (L.map fun q => shP q)) w w1 (.returned (.tuple #[])) wr) := by
        have h := hT.out
        rw [List.take_length] at h
        exact ⟨rfl, h.1, h.2.1, (B2.out.mono HB.out.2.size).trans h.2.2⟩
      clear hT
      go_wp2_with fail
      go_end0
      exact HE.out
end Go.Proofs.YtiphnbpkliglcaaDoor
