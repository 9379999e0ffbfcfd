/- What join's fitting answers: the part of those sorted by key that fits a row. -/
import Derived.Test.YtlafokjkpbhckaaGreatDoorPackKeys
import Derived.Test.YtlafokjkpbhckaaGreatDoorSearch
import Derived.Deep.MidRow
import Derived.Laws.EntriesVeiled
namespace Go.Proofs.YtlafokjkpbhckaaGreatDoor
open Go.RowKit Go.Sort
set_option maxRecDepth 100000
set_option linter.unusedVariables false
set_option maxHeartbeats 4000000 in
theorem search1 (g : Nat) (c0 : Value) (n : Nat) (p : Nat → Bool) (w : World) (hn : n ≤ 65536) (eg : ∀ args w, (callFunc g args).run Tryz.prog w = .ok (.enter g args) w)
    (hf : ∀ W, Below w.heap.size w W → ∀ i : Nat, i < n → Calls Tryz.prog g #[.int .i64 i, c0] W fun e w' => e = .returned (.bool (p i)) ∧ Below W.heap.size W w')
    (hm : ∀ a b, a ≤ b → b < n → p a = true → p b = true) :
    Calls Tryz.prog 62 #[.int .i64 n, .func (.func g) #[] #[c0]] w fun e w' => Ends p n w e w' := by
  have HF : Hid (∀ W, Below w.heap.size w W → ∀ i : Nat, i < n → Calls Tryz.prog g #[.int .i64 i, c0] W fun e w' => e = .returned (.bool (p i)) ∧ Below W.heap.size W w') := hf
  have HM : Hid (∀ a b, a ≤ b → b < n → p a = true → p b = true) := hm
  clear hf hm
  go_enter Tryz.func62, Tryz.ntmps62
  go_wp2_with fail
  go_loopw [5, 6] (fun s5 s6 wr => ∃ lo hi : Nat, s5 = .int .i64 lo ∧ s6 = .int .i64 hi ∧ lo ≤ hi ∧ hi ≤ n ∧ Hid (∀ t, t < lo → p t = false) ∧ Hid (∀ t, t < n → hi ≤ t → p t = true) ∧ Below w.heap.size w wr) (fun s5 s6 _ => (intOf s6).toNat - (intOf s5).toNat)
  case atStart => exact ⟨0, n, rfl, rfl, Nat.zero_le _, Nat.le_refl _, fun t h => by omega, fun t _ h => by omega, Below.refl _ _⟩
  case round =>
    obtain ⟨lo, hi, rfl, rfl, h1, h2, hL, hH, hB⟩ := hrel
    by_cases hlt : lo < hi
    · obtain ⟨k, hk⟩ : ∃ k : Nat, k = (lo + hi) / 2 := ⟨_, rfl⟩
      have hk1 : k < n := by omega
      have I1 : (lo : Int) < (hi : Int) := by omega
      have E1 : Hid (((lo : Int) + (hi : Int)) / 2 = (k : Int) ∧ lo ≤ k ∧ k < hi) := ⟨by omega, by omega, by omega⟩
      have q : Hid (Calls Tryz.prog g #[.int .i64 (((lo : Int) + (hi : Int)) / 2), c0] wr fun e w' => e = .returned (.bool (p k)) ∧ Below wr.heap.size wr w') := by rw [E1.out.1]; exact HF.out wr hB k hk1
      have HS : Hid (p k = false → ∀ t, t < k + 1 → p t = false) := fun h t ht => by
        cases hp : p t with
        | false => rfl
        | true => have := HM.out t k (by omega) hk1 hp; rw [h] at this; cases this
      have HG : Hid (p k = true → ∀ t, t < n → k ≤ t → p t = true) := fun h t ht htk => HM.out k t htk ht h
      clear hk hk1
      generalize p k = c at *
      go_wp2_with fail
      refine q.out.mono ?_
      rintro e w1 ⟨rfl, hb1⟩
      have hB1 : Hid (Below w.heap.size w w1) := hB.trans (hb1.mono hB.size)
      clear hb1 q
      cases c
      · have F : Hid (∀ t, t < k + 1 → p t = false) := HS.out rfl
        clear HS HG hL
        go_wp2_with fail
        go_roundw
        case rel => exact ⟨k + 1, hi, by rw [E1.out.1]; rfl, rfl, by have := E1.out.2; omega, h2, F.out, hH.out, hB1.out⟩
        case measure => rw [E1.out.1]; have := E1.out.2; simp only [intOf]; omega
      · have F : Hid (∀ t, t < n → k ≤ t → p t = true) := HG.out rfl
        clear HS HG hH
        go_wp2_with fail
        go_roundw
        case rel => exact ⟨lo, k, rfl, by rw [E1.out.1], by have := E1.out.2; omega, by have := E1.out.2; omega, hL.out, F.out, hB1.out⟩
        case measure => rw [E1.out.1]; have := E1.out.2; simp only [intOf]; omega
    · obtain rfl : lo = hi := by omega
      have I0 : ¬ (lo : Int) < (lo : Int) := by omega
      clear hlt
      go_wp2_with fail
      go_ret
      exact ⟨lo, rfl, h2, hL.out, hH.out, hB⟩
theorem jcf_ord : ordOk (regOf Tryz.f61.body 1) ((0, true) :: (1, true) :: (2, true) :: (3, true) :: (4, true) :: (5, true) :: (6, true) :: (7, false) :: (8, true) :: []) = true := by kernel_rfl

set_option maxHeartbeats 4000000 in
theorem jcFit1 (on : List (Int × Int)) (r : List Val) (S : List Ent) (ov vr vs : Value) (b3 b5 b4 : Nat) (i : Nat) (hi : i < S.length) (w : World) (ho : PairsIs w ov on) (hr : RowIs w vr r) (hs : EntsIs w vs S) (h3 : w.cell? ⟨b3, 0, none⟩ = some ov) (h5 : w.cell? ⟨b5, 0, none⟩ = some vs) (h4 : w.cell? ⟨b4, 0, none⟩ = some vr) (kx : hasK on true S[i].1 = true) (ky : hasK on false r = true) :
    Calls Tryz.prog 61 #[.int .i64 i, .pointer (some ⟨b3, 0, none⟩), .pointer (some ⟨b5, 0, none⟩), .pointer (some ⟨b4, 0, none⟩)] w fun e w' => e = .returned (.int .i64 (cR (keyJ on true S[i].1) (keyJ on false r))) ∧ Below w.heap.size w w' := by
  obtain ⟨ao, co, rfl⟩ := ho.form
  obtain ⟨ar, cr, rfl⟩ := hr.form
  obtain ⟨aS, cs, rfl⟩ := hs.form
  obtain ⟨b, o, a1, c1, rfl, x1, x2, x3⟩ := hs.at i hi
  have I1 : (i : Int) < (S.length : Int) := by omega
  have HQ : Hid (∀ V, Below w.heap.size w V → Calls Tryz.prog 27 #[.slice ao on.length co, .int .i64 1, .slice a1 S[i].1.length c1, .int .i64 0, .slice ar r.length cr] V fun e w' => e = .returned (.int .i64 (cR (keyJ on true S[i].1) (keyJ on false r))) ∧ Grown V w') := fun V hV =>
    jcCmp on true false S[i].1 r _ _ _ V (ho.on hV) (x3.on hV) (hr.on hV) kx ky
  have g1 := Ex.cell h3
  have g2 := Ex.cell h5
  have g3 := Ex.cell h4
  have g4 := Ex.cell x1
  have ne := Ex.ne w
  have B0 : Hid (Below w.heap.size w w.drew) := (Below.refl _ _).drew
  clear ho hr hs h3 h5 h4 x1 x2 x3 kx ky
  generalize cR (keyJ on true S[i].1) (keyJ on false r) = c at *
  generalize S[i].1.length = n1 at *
  generalize r.length = n2 at *
  generalize on.length = n3 at *
  generalize S.length = n4 at *
  go_enter Tryz.func61, Tryz.ntmps61
  go_wp2_with fail
  refine wp_region_ord_at (Ex w) (regOf Tryz.f61.body 1) ((0, true) :: (1, true) :: (2, true) :: (3, true) :: (4, true) :: (5, true) :: (6, true) :: (7, false) :: (8, true) :: []) (by kernel_rfl) (by kernel_rfl) jcf_ord B0.out ?_
  generalize w.drew = v0 at *
  repeat (refine ord_quiet rfl ?_; go_big_quiet_step (fail); refine wpQuiet_nil ?_)
  refine ord_call rfl (by rfl) 27 rfl (enters_of Tryz.func27 (by kernel_rfl) rfl) [.slice ao n3 co, .int .i64 1, .slice a1 n1 c1, .int .i64 0, .slice ar n2 cr] (by rfl) _ (HQ.out v0 B0.out) ?_
  rintro e v1 ⟨rfl, hb1⟩
  have B1 : Hid (Below w.heap.size w v1) := B0.out.trans (hb1.below.mono B0.out.size)
  clear hb1
  refine ⟨_, rfl, Ex.of B1.out, ?_⟩
  simp only [Act.put, List.setIfInBounds_toArray, List.set_cons_zero, List.set_cons_succ]
  repeat (refine ord_quiet rfl ?_; go_big_quiet_step (fail); refine wpQuiet_nil ?_)
  refine ord_end ?_
  clear g1 g2 g3 g4 ne HQ
  go_wp2_with fail
  go_ret
  exact ⟨rfl, B1.out⟩
set_option maxHeartbeats 1000000 in
theorem jcFit2 (c : Int) (i : Int) (f7 : Nat) (cb : Array Value) (p3 p5 p4 : Value) (w : World) (h7 : w.cell? ⟨f7, 0, none⟩ = some (.func (.func 61) #[] #[p3, p5, p4]))
    (q : Calls Tryz.prog 61 #[.int .i64 i, p3, p5, p4] w fun e w' => e = .returned (.int .i64 c) ∧ Below w.heap.size w w') :
    Calls Tryz.prog 63 #[.int .i64 i, .pointer (some ⟨f7, 0, none⟩)] w fun e w' => e = .returned (.bool (decide (0 ≤ c))) ∧ Below w.heap.size w w' := by
  have eg := enters_of Tryz.func61 (by kernel_rfl) rfl
  go_enter Tryz.func63, Tryz.ntmps63
  go_wp2_with fail
  refine q.mono ?_
  rintro e w1 ⟨rfl, hb1⟩
  have HB : Hid (Below w.heap.size w w1) := hb1
  clear q hb1 h7
  go_wp2_with fail
  go_ret
  exact ⟨rfl, HB.out⟩
set_option maxHeartbeats 1000000 in
theorem jcFit3 (c : Int) (i : Int) (f7 : Nat) (cb : Array Value) (p3 p5 p4 : Value) (w : World) (h7 : w.cell? ⟨f7, 0, none⟩ = some (.func (.func 61) #[] #[p3, p5, p4]))
    (q : Calls Tryz.prog 61 #[.int .i64 i, p3, p5, p4] w fun e w' => e = .returned (.int .i64 c) ∧ Below w.heap.size w w') :
    Calls Tryz.prog 64 #[.int .i64 i, .pointer (some ⟨f7, 0, none⟩)] w fun e w' => e = .returned (.bool (decide (0 < c))) ∧ Below w.heap.size w w' := by
  have eg := enters_of Tryz.func61 (by kernel_rfl) rfl
  go_enter Tryz.func64, Tryz.ntmps64
  go_wp2_with fail
  refine q.mono ?_
  rintro e w1 ⟨rfl, hb1⟩
  have HB : Hid (Below w.heap.size w w1) := hb1
  clear q hb1 h7
  go_wp2_with fail
  go_ret
  exact ⟨rfl, HB.out⟩

theorem EntsIs.mid {w : World} {a : Option Addr} {n c : Nat} {l : List Ent} (h : EntsIs w (.slice a n c) l) {i j : Nat} (hij : i ≤ j) (hj : j ≤ l.length) : EntsIs w (.slice (if c = i then a else a.map (·.add (i * 2))) (j - i) (c - i)) ((l.drop i).take (j - i)) := by
  obtain ⟨vs, h1, h2⟩ := h
  have hl := h2.1
  have hr : Reads w ((vs.drop i).take (j - i)) ((l.drop i).take (j - i)) := by
    refine ⟨by rw [List.length_take, List.length_take, List.length_drop, List.length_drop, hl], fun k h3 h4 => ?_⟩
    rw [List.length_take, List.length_drop] at h3 h4
    rw [List.getElem_take, List.getElem_take, List.getElem_drop, List.getElem_drop]
    exact h2.2 (i + k) (by omega) (by omega)
  refine ⟨_, ?_, hr⟩
  have hlen : ((vs.drop i).take (j - i)).length = j - i := by rw [List.length_take, List.length_drop]; omega
  by_cases h0 : j = i
  · subst h0
    rw [Nat.sub_self, List.take_zero]
    exact .inl ⟨_, _, rfl, rfl⟩
  · rcases h1 with ⟨_, _, e, rfl⟩ | ⟨b, o, cap, e, g1, g2, g3, g4⟩
    · simp at hl; omega
    · simp only [Value.slice.injEq] at e
      obtain ⟨rfl, rfl, rfl⟩ := e
      have hc : ¬ c = i := by omega
      rw [if_neg hc]
      refine .inr ⟨b, o + i * 2, c - i, by rw [hlen]; simp [Addr.add_mid], by rw [hlen]; omega, by omega, g3, fun k hk => ?_⟩
      rw [hlen] at hk
      rw [List.getElem_take, List.getElem_drop]
      have := g4 (i + k) (by omega)
      rw [show o + i * 2 + k * 2 = o + (i + k) * 2 by omega]; exact this
theorem EntsIs.capLe {w : World} {a : Option Addr} {n c : Nat} {l : List Ent} (h : EntsIs w (.slice a n c) l) : l.length ≤ c := by
  obtain ⟨vs, h1, h2⟩ := h
  rw [← h2.1]
  rcases h1 with ⟨_, _, e, rfl⟩ | ⟨b, o, cap, e, g1, _⟩
  · simp
  · simp only [Value.slice.injEq] at e; omega
set_option maxHeartbeats 4000000 in
theorem jcFitting (on : List (Int × Int)) (r : List Val) (b S : List Ent) (ov vr vs : Value) (R w : World) (hsR : EntsIs R vs S) (ho : PairsIs w ov on) (hr : RowIs w vr r) (hs : EntsIs w vs S) (hB : ByKey on b S) (hb : SortedZ b) (hn : b.length ≤ 65536) (ky : hasK on false r = true) :
    Calls Tryz.prog 39 #[ov, vr, vs] w fun e w' => ∃ v F, e = .returned v ∧ Fitting on r b F ∧ EntsIs R v F ∧ F.length ≤ 65536 ∧ (∀ e ∈ F, e ∈ b) ∧ Below w.heap.size w w' := by
  have hkS : ∀ e ∈ S, hasK on true e.1 = true := fun e he => by simpa using (List.mem_filter.1 (hB.1.mem_iff.1 he)).2
  have hbS : ∀ e ∈ S, e ∈ b := fun e he => (List.mem_filter.1 (hB.1.mem_iff.1 he)).1
  have hlS : S.length ≤ 65536 := by rw [hB.1.length_eq]; exact Nat.le_trans (List.length_filter_le _ _) hn
  obtain ⟨ao, co, rfl⟩ := ho.form
  obtain ⟨ar, cr, rfl⟩ := hr.form
  obtain ⟨aS, cs, rfl⟩ := hs.form
  have hcs := hs.capLe
  obtain ⟨W, hW⟩ : ∃ W, W = (((w.alloc (.cells #[.slice ao on.length co] 29)).alloc (.cells #[.slice ar r.length cr] 39)).alloc (.cells #[.slice aS S.length cs] 27)).alloc (.cells #[.func (.func 61) #[] #[.pointer (some ⟨w.heap.size, 0, none⟩), .pointer (some ⟨w.heap.size + 1 + 1, 0, none⟩), .pointer (some ⟨w.heap.size + 1, 0, none⟩)]] 49) := ⟨_, rfl⟩
  have BW : Below w.heap.size w W := by rw [hW]; exact below_two.trans (below_two.mono (by simp; omega))
  have d3 : W.cell? ⟨w.heap.size, 0, none⟩ = some (.slice ao on.length co) := by rw [hW]; exact cell_on (by rw [World.cell?_alloc_at _ _ _ _ rfl]; rfl) (one_box.trans ((below_two).mono (by simp)))
  have d4 : W.cell? ⟨w.heap.size + 1, 0, none⟩ = some (.slice ar r.length cr) := by rw [hW]; exact cell_on (by rw [World.cell?_alloc_at _ _ _ _ (by simp)]; rfl) below_two
  have d5 : W.cell? ⟨w.heap.size + 1 + 1, 0, none⟩ = some (.slice aS S.length cs) := by rw [hW]; exact cell_on (by rw [World.cell?_alloc_at _ _ _ _ (by simp)]; rfl) one_box
  have d7 : W.cell? ⟨w.heap.size + 1 + 1 + 1, 0, none⟩ = some (.func (.func 61) #[] #[.pointer (some ⟨w.heap.size, 0, none⟩), .pointer (some ⟨w.heap.size + 1 + 1, 0, none⟩), .pointer (some ⟨w.heap.size + 1, 0, none⟩)]) := by rw [hW, World.cell?_alloc_at _ _ _ _ (by simp)]; rfl
  have hf1 : ∀ V, Below W.heap.size W V → ∀ i (hi : i < S.length), Calls Tryz.prog 61 #[.int .i64 i, .pointer (some ⟨w.heap.size, 0, none⟩), .pointer (some ⟨w.heap.size + 1 + 1, 0, none⟩), .pointer (some ⟨w.heap.size + 1, 0, none⟩)] V fun e w' => e = .returned (.int .i64 (cR (keyJ on true S[i].1) (keyJ on false r))) ∧ Below V.heap.size V w' := fun V hV i hi =>
    jcFit1 on r S _ _ _ _ _ _ i hi V ((ho.on BW).on hV) ((hr.on BW).on hV) ((hs.on BW).on hV) (cell_on d3 hV) (cell_on d5 hV) (cell_on d4 hV) (hkS _ (List.getElem_mem hi)) ky
  have hge : ∀ i (hi : i < S.length), (S.getD i ([], 0)) = S[i] := fun i hi => by rw [List.getD_eq_getElem?_getD, List.getElem?_eq_getElem hi]; rfl
  have HQ1 : Hid (∀ V, Below W.heap.size W V → Calls Tryz.prog 62 #[.int .i64 S.length, .func (.func 63) #[] #[.pointer (some ⟨w.heap.size + 1 + 1 + 1, 0, none⟩)]] V fun e w' => Ends (fun i => decide (0 ≤ cR (keyJ on true (S.getD i ([], 0)).1) (keyJ on false r))) S.length V e w') := fun V hV =>
    search1 _ _ S.length _ V hlS (enters_of Tryz.func63 (by kernel_rfl) rfl) (fun U hU i hi => by
      try dsimp only
      rw [hge i hi]
      exact jcFit2 _ i _ #[] _ _ _ U (cell_on (cell_on d7 hV) hU) (hf1 U (hV.trans (hU.mono hV.size)) i hi)) (fun a b' hab hb' h => by
      try dsimp only at h ⊢
      rw [hge a (by omega)] at h
      rw [hge b' hb']
      have h1 := hB.key hab hb'
      have h2 := of_decide_eq_true h
      refine decide_eq_true ?_
      have k1 := cR_anti (keyJ on true S[b'].1) (keyJ on false r)
      have k2 := cR_anti (keyJ on true (S[a]'(by omega)).1) (keyJ on false r)
      have k3 := cR_trans (keyJ on false r) (keyJ on true (S[a]'(by omega)).1) (keyJ on true S[b'].1) (by omega) h1
      omega)
  have HQ2 : Hid (∀ V, Below W.heap.size W V → Calls Tryz.prog 62 #[.int .i64 S.length, .func (.func 64) #[] #[.pointer (some ⟨w.heap.size + 1 + 1 + 1, 0, none⟩)]] V fun e w' => Ends (fun i => decide (0 < cR (keyJ on true (S.getD i ([], 0)).1) (keyJ on false r))) S.length V e w') := fun V hV =>
    search1 _ _ S.length _ V hlS (enters_of Tryz.func64 (by kernel_rfl) rfl) (fun U hU i hi => by
      try dsimp only
      rw [hge i hi]
      exact jcFit3 _ i _ #[] _ _ _ U (cell_on (cell_on d7 hV) hU) (hf1 U (hV.trans (hU.mono hV.size)) i hi)) (fun a b' hab hb' h => by
      try dsimp only at h ⊢
      rw [hge a (by omega)] at h
      rw [hge b' hb']
      have h1 := hB.key hab hb'
      have h2 := of_decide_eq_true h
      refine decide_eq_true ?_
      have k1 := cR_anti (keyJ on true S[b'].1) (keyJ on false r)
      have k2 := cR_anti (keyJ on true (S[a]'(by omega)).1) (keyJ on false r)
      by_cases hh : 0 < cR (keyJ on true S[b'].1) (keyJ on false r)
      · exact hh
      · have k3 := cR_trans (keyJ on true (S[a]'(by omega)).1) (keyJ on true S[b'].1) (keyJ on false r) h1 (by omega)
        omega)
  have HE : Hid (∀ i j, i ≤ S.length → j ≤ S.length → (∀ t, t < i → decide (0 ≤ cR (keyJ on true (S.getD t ([], 0)).1) (keyJ on false r)) = false) → (∀ t, t < S.length → i ≤ t → decide (0 ≤ cR (keyJ on true (S.getD t ([], 0)).1) (keyJ on false r)) = true) →
      (∀ t, t < j → decide (0 < cR (keyJ on true (S.getD t ([], 0)).1) (keyJ on false r)) = false) → (∀ t, t < S.length → j ≤ t → decide (0 < cR (keyJ on true (S.getD t ([], 0)).1) (keyJ on false r)) = true) → i ≤ j ∧ Fitting on r b ((S.drop i).take (j - i))) := fun i j hi hj h1 h2 h3 h4 => by
    have hij : i ≤ j := by
      rcases Nat.lt_or_ge j i with hlt | hge'
      · have a1 := h1 j hlt
        have a2 := h4 j (by omega) (Nat.le_refl _)
        simp only [decide_eq_false_iff_not, decide_eq_true_eq] at a1 a2
        omega
      · exact hge'
    refine ⟨hij, hB.fit hb ky hij hj (fun t h ht => ?_) (fun t h ht ht' => ?_) (fun t h ht => ?_)⟩
    · have := h1 t ht; rw [hge t h] at this; simp only [decide_eq_false_iff_not] at this; omega
    · have a1 := h2 t h ht
      have a2 := h3 t ht'
      rw [hge t h] at a1 a2
      simp only [decide_eq_false_iff_not, decide_eq_true_eq] at a1 a2
      omega
    · have := h4 t h ht; rw [hge t h] at this; simp only [decide_eq_true_eq] at this; exact this
  have HM : Hid (∀ i j, i ≤ j → j ≤ S.length → EntsIs R (.slice (if cs = i then aS else aS.map (·.add (i * 2))) (j - i) (cs - i)) ((S.drop i).take (j - i)) ∧ ((S.drop i).take (j - i)).length ≤ 65536 ∧ ∀ e ∈ (S.drop i).take (j - i), e ∈ b) := fun i j hij hj =>
    ⟨hsR.mid hij hj, by rw [List.length_take, List.length_drop]; omega, fun e he => hbS e (List.mem_of_mem_drop (List.mem_of_mem_take he))⟩
  have HW : Hid ((((w.alloc (.cells #[.slice ao on.length co] 29)).alloc (.cells #[.slice ar r.length cr] 39)).alloc (.cells #[.slice aS S.length cs] 27)).alloc (.cells #[.func (.func 61) #[] #[.pointer (some ⟨w.heap.size, 0, none⟩), .pointer (some ⟨w.heap.size + 1 + 1, 0, none⟩), .pointer (some ⟨w.heap.size + 1, 0, none⟩)]] 49) = W) := hW.symm
  have HBW : Hid (Below w.heap.size w W) := BW
  have D5 : Hid (W.cell? ⟨w.heap.size + 1 + 1, 0, none⟩ = some (.slice aS S.length cs)) := d5
  clear ho hr hs hsR hB hb ky hkS hbS hf1 hge hW BW d3 d4 d5 d7
  go_enter Tryz.func39, Tryz.ntmps39
  go_wp2_with fail
  rw [HW.out]
  refine (HQ1.out W (Below.refl _ _)).mono ?_
  rintro e w1 ⟨i, rfl, i1, i2, i3, hb1⟩
  have B1 : Hid (Below W.heap.size W w1) := hb1
  have HI : Hid _ := And.intro i1 (And.intro i2 i3)
  have d5 := cell_on D5.out hb1
  have q2 := HQ2.out w1 hb1
  clear HQ1 HQ2 i2 i3 hb1 HW
  go_wp2_with fail
  refine q2.mono ?_
  rintro e w2 ⟨j, rfl, j1, j2, j3, hb2⟩
  obtain ⟨hij, hF⟩ := HE.out i j HI.out.1 j1 HI.out.2.1 HI.out.2.2 j2 j3
  obtain ⟨m1, m2, m3⟩ := HM.out i j hij j1
  have B2 : Hid (Below w.heap.size w w2) := HBW.out.trans ((B1.out.trans (hb2.mono B1.out.size)).mono HBW.out.size)
  have HR : Hid _ := And.intro hF (And.intro m1 (And.intro m2 m3))
  have d6 := cell_on d5 hb2
  have J1 : (i : Int) ≤ (j : Int) := by omega
  have J2 : (j : Int) ≤ (cs : Int) := by omega
  have J3 : j ≤ cs := by omega
  clear q2 HE HM HI j2 j3 hb2 hF m1 m2 m3 D5 d5 B1
  go_wp2_with fail
  all_goals go_ret
  all_goals refine ⟨_, rfl, _, HR.out.1, ?_, HR.out.2.2.1, fun a k h => HR.out.2.2.2 (a, k) h, B2.out⟩
  all_goals first
    | (have hc : cs = i := by assumption
       have h0 := HR.out.2.1; rw [if_pos hc, hc, Nat.sub_self] at h0; exact h0)
    | (have hc : ¬ cs = i := by assumption
       have h0 := HR.out.2.1; rw [if_neg hc] at h0; exact h0)
end Go.Proofs.YtlafokjkpbhckaaGreatDoor
