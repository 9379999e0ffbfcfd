/- Texts of one claim, one behind the other. -/
import Derived.Test.YtlafokjkpbhckaaGreatDoorMakeRow
import Derived.Test.YtlafokjkpbhckaaGreatDoorPackStep
import Derived.Test.YtlafokjkpbhckaaGreatDoorZAdd
import Derived.Test.YtlafokjkpbhckaaGreatDoorJLay
import Derived.Test.YtlafokjkpbhckaaGreatDoorPackSets
/- A row behind another one: what the document's own Row answers, and an append of a row to one that the call owns. -/
namespace Go.Proofs.YtlafokjkpbhckaaGreatDoor
open Go.RowKit Go.Sort
set_option maxRecDepth 100000
set_option linter.unusedVariables false

theorem rc_app (a b : List Val) : rc (a ++ b) = rc a ++ rc b := by simp [rc]
theorem rc_one (l : List Val) : ∀ u ∈ rc l, u.oneCell' = true := by
  intro u hu
  obtain ⟨v, _, hv⟩ := List.mem_flatMap.1 hu
  simp only [vc, List.mem_cons, List.not_mem_nil, or_false] at hv
  rcases hv with rfl | rfl | rfl <;> rfl
theorem RowIs.cells {w : World} {b o n cap : Nat} {l : List Val} (h : RowIs w (.slice (some ⟨b, o, none⟩) n cap) l) : ∀ j u, (rc l)[j]? = some u → w.cell? ((⟨b, o, none⟩ : Addr).add j) = some u := by
  intro j u hu
  have hj : j < (rc l).length := (List.getElem?_eq_some_iff.1 hu).1
  rw [rc_len] at hj
  have hi : j / 3 < l.length := by omega
  obtain ⟨a0, a1, a2⟩ := h.at' (j / 3) hi
  obtain ⟨c0, c1, c2⟩ := rc_at l (j / 3) hi
  rw [add_plain]
  have hm : j % 3 = 0 ∨ j % 3 = 1 ∨ j % 3 = 2 := by omega
  rcases hm with e | e | e
  · have ej : j = j / 3 * 3 := by omega
    generalize j / 3 = i at *
    subst ej
    rw [c0] at hu; rw [← hu]; exact a0
  · have ej : j = j / 3 * 3 + 1 := by omega
    generalize j / 3 = i at *
    subst ej
    rw [c1] at hu; rw [← hu, ← Nat.add_assoc]; exact a1
  · have ej : j = j / 3 * 3 + 2 := by omega
    generalize j / 3 = i at *
    subst ej
    rw [c2] at hu; rw [← hu, ← Nat.add_assoc]; exact a2
/-- 'append(v, r...)', r a row in memory, as one step of a region that draws its order. -/
theorem step_append_row (w : World) {ops : Array Oper} {o : Oper} {a : Act} {K : Act → World → Prop} {Q : Exit → Act → World → Prop} {E : Prop} (hw : Region.wanted o (yielded ops a.tmps) = true) (s x : Operand)
    (ho : o.op = .call { callee := .builtin .append, args := #[s, x], argTypes := #[39, 39] })
    (base : Nat) (v y : Value) (l m : List Val) (hs : a.eval s = v) (hown : w.ownsRow base 46 3 v l.length (rc l)) (hx : a.eval x = y) (hr : RowIs w y m)
    (hle : l.length + m.length ≤ 262144) (hbase : base ≤ w.heap.size)
    (h : ∀ v' w', w'.ownsRow base 46 3 v' (l ++ m).length (rc (l ++ m)) → w.grownBy w' v.ownBlock → K (a.put o.dst v') w') :
    if Region.wanted o (yielded ops a.tmps) = true then Oper.wp Tryz.prog o a w K Q else E := by
  obtain ⟨i0, hi, hz0, hz1, hz2⟩ := info_parts info_value
  rw [rc_app, List.length_append] at h
  by_cases h0 : m.length = 0
  · obtain rfl := List.eq_nil_of_length_eq_zero h0
    obtain ⟨ad, c, ey⟩ := hr.form
    rw [if_pos hw]
    have hrun := run_append_zero w base 39 o.type 46 i0 3 Tryz.underlying39 hi v l.length (rc l) hown ad c
    unfold Oper.wp
    rw [ey] at hx
    simp only [List.length_nil] at hx
    simp [execOp, ho, resolve, invoke, builtin, hs, hx, hrun, Result.andThen]
    exact h v w (by simpa [rc] using hown) ⟨rfl, rfl, rfl, Nat.le_refl _, fun _ _ _ => rfl⟩
  · obtain ⟨b, q, c, ey⟩ := hr.addr (fun e => h0 (by rw [e]; rfl))
    subst ey
    exact step_append_own' w hw s x _ ho base 46 i0 (.agg #[.int .i64 0, .int .i64 0, .string ⟨#[]⟩]) 3 32 Tryz.underlying39 hi hz0 hz1 hz2 rfl (by decide) v l.length (rc l) hs hown ⟨b, q, none⟩ m.length c (rc m) hx (rc_len m) hr.cells (rc_one m) (by unfold maxLen; omega) (by omega) hbase h
set_option maxHeartbeats 2000000 in
/-- The document's own copy of a row. -/
theorem refRowO (l : List Val) (va : Value) (w : World) (hn : l.length ≤ 131072) (ha : RowIs w va l) :
    Calls Tryz.prog 23 #[va] w fun e w' => ∃ v, e = .returned v ∧ w'.ownsRow w.heap.size 46 3 v l.length (rc l) ∧ Below w.heap.size w w' := by
  obtain ⟨i0, hi, hz0, hz1, hz2⟩ := info_parts info_value
  obtain ⟨a0, cap, rfl⟩ := ha.form
  have Ha : Hid (RowIs w (.slice a0 l.length cap) l) := ha
  have F0 : Hid (w.ownsRow w.heap.size 46 3 (.slice none 0 0) 0 (rc (l.take 0)) ∧ Below w.heap.size w w) := ⟨by simpa [rc] using World.ownsRow_nil _ _ _ _, Below.refl _ _⟩
  clear ha
  go_enter Tryz.func23, Tryz.ntmps23
  go_wp2_with fail
  go_loopw [3, 4] (fun v i wr => ∃ j : Nat, j ≤ l.length ∧ i = .int .i64 j ∧ Hid (wr.ownsRow w.heap.size 46 3 v j (rc (l.take j)) ∧ Below w.heap.size w wr)) (fun _ i _ => l.length - (intOf i).toNat)
  case atStart => exact ⟨0, by omega, rfl, F0.out⟩
  case round =>
    clear F0
    obtain ⟨j, hj, rfl, hS⟩ := hrel
    by_cases k1 : j < l.length
    · have I1 : (j : Int) < (l.length : Int) := by omega
      obtain ⟨b, o, rfl, x1, x2, x3, hb⟩ := (Ha.out.on hS.out.2).at j k1
      have HO : Hid (wr.ownsRow w.heap.size 46 3 u3 j (rc (l.take j))) := hS.out.1
      have hz := hS.out.2.size
      have hrow := fun g hg => (HO.out.lt g hg).1
      have F : Hid (∀ v2 w2, w2.ownsRow w.heap.size 46 3 v2 (j + 1) (rc (l.take j) ++ vc l[j]) → (wr.alloc (.cells #[.int .i64 l[j].1, .int .i64 l[j].2.1, .string l[j].2.2] 46)).grownBy w2 (Value.ownBlock u3) → w2.ownsRow w.heap.size 46 3 v2 (j + 1) (rc (l.take (j + 1))) ∧ Below w.heap.size w w2) := by
        intro v2 w2 g1 g2
        refine ⟨by rw [List.take_succ_eq_append_getElem k1, rc_snoc]; exact g1, (hS.out.2.alloc hz _).grown g2 (by simp; omega) hrow⟩
      clear hS hb
      generalize l[j] = x at *
      go_wp2_with (first | (at_builtin; refine wpList_append_own _ rfl _ _ 39 rfl w.heap.size 46 i0 (.agg #[.int .i64 0, .int .i64 0, .string ⟨#[]⟩]) 3 32 Tryz.underlying39 hi hz0 hz1 hz2 rfl (by decide) _ j (rc (l.take j)) rfl (HO.out.alloc _) ⟨wr.heap.size, 0, none⟩ 1 1 (vc x) rfl rfl (cell_three_new _ _ _ _ _) (by simp [vc, Value.oneCell']) (by unfold maxLen; omega) (by omega) (by simp; omega) ?_; intro v2 w2 hown2 hg2 _; have hso2 := F.out _ _ hown2 hg2; clear hown2 hg2) | go_in)
      go_roundw
      case rel => exact ⟨j + 1, by omega, by go_num, hso2⟩
      case measure => simp [intOf]; omega
    · obtain rfl : j = l.length := by omega
      have I1 : ¬ (l.length : Int) < (l.length : Int) := by omega
      have h := hS.out
      rw [List.take_length] at h
      have E : Hid (wr.ownsRow w.heap.size 46 3 u3 l.length (rc l) ∧ Below w.heap.size w wr) := h
      clear h hS
      go_wp2_with fail
      go_ret
      exact ⟨_, rfl, E.out.1, E.out.2⟩
end Go.Proofs.YtlafokjkpbhckaaGreatDoor
/- What Go's Grow and Concat answer here; what joined's together answers: a row behind another one, new. -/
namespace Go.Proofs.YtlafokjkpbhckaaGreatDoor
open Go.RowKit Go.Sort Go.Shelf
set_option maxRecDepth 100000
set_option linter.unusedVariables false
theorem grown_own (w : World) (n G size : Nat) (z : Value) (e : TypeId) (hz : z.cells.size = size) (hG : 0 + n ≤ G) (hM : G ≤ maxLen) :
    (w.drew.alloc (.cells (([] : List Value).toArray ++ Builtin.zeroCells z.cells (0 + n - 0) ++ Builtin.zeroCells z.cells (G - (0 + n))) e)).ownsRow w.heap.size e size (.slice (some ⟨w.heap.size, 0, none⟩) 0 G) 0 [] := by
  refine ⟨by simp, .inr ⟨w.heap.size, G, _, rfl, Nat.le_refl _, heap_alloc_new w.drew _, Nat.zero_le _, hM, ?_, by simp⟩⟩
  simp only [Array.size_append, List.size_toArray, List.length_nil, size_zeroCells, hz]
  rw [Nat.zero_add, Nat.zero_add, Nat.sub_zero, ← Nat.add_mul]
  congr 1; omega
set_option maxHeartbeats 1000000 in
theorem growVals (n : Nat) (w : World) (hn : n ≤ 262144) :
    Calls Tryz.prog 70 #[.slice none 0 0, .int .i64 n] w fun e w' => ∃ v, e = .returned v ∧ w'.ownsRow w.heap.size 46 3 v 0 [] ∧ Below w.heap.size w w' := by
  obtain ⟨i0, hi, hz0, hz1, hz2⟩ := info_parts info_value
  by_cases h0 : n = 0
  · subst h0
    have q := Any8.slices_Grow_room Tryz.growVal none 0 0 0 w (Nat.le_refl _) (by omega) (by omega) (by omega)
    change Calls Tryz.prog 70 _ _ _ at q
    refine q.mono ?_
    rintro e w' ⟨rfl, rfl⟩
    exact ⟨_, rfl, World.ownsRow_nil _ _ _ _, Below.refl _ _⟩
  · have q := Any8.slices_Grow_grow Tryz.growVal i0 (.agg #[.int .i64 0, .int .i64 0, .string ⟨#[]⟩]) hi hz0 (by rw [hz1]; decide) none 0 0 n [] w (Nat.le_refl _) (by omega) (by rw [hz2]; omega) (by omega) (by simp) (fun _ => rfl) (fun a h => by cases h)
    change Calls Tryz.prog 70 _ _ _ at q
    refine q.mono ?_
    rintro e w' ⟨rfl, rfl⟩
    exact ⟨_, rfl, grown_own w n _ 3 _ _ rfl (grownCap_ge w _ _ _) (grownCap_le_maxLen w _ _ _ (by unfold maxLen; omega)), ((Below.refl _ _).drew).alloc (Nat.le_refl _) _⟩
set_option maxHeartbeats 1000000 in
theorem growEnts (n : Nat) (w : World) (hn : n ≤ 262144) :
    Calls Tryz.prog 19 #[.slice none 0 0, .int .i64 n] w fun e w' => ∃ v, e = .returned v ∧ w'.ownsRow w.heap.size 41 2 v 0 [] ∧ Below w.heap.size w w' := by
  obtain ⟨i0, hi, hz0, hz1, hz2⟩ := info_parts info_entry
  by_cases h0 : n = 0
  · subst h0
    have q := Any8.slices_Grow_room Tryz.growEnt none 0 0 0 w (Nat.le_refl _) (by omega) (by omega) (by omega)
    change Calls Tryz.prog 19 _ _ _ at q
    refine q.mono ?_
    rintro e w' ⟨rfl, rfl⟩
    exact ⟨_, rfl, World.ownsRow_nil _ _ _ _, Below.refl _ _⟩
  · have q := Any8.slices_Grow_grow Tryz.growEnt i0 (.agg #[.slice none 0 0, .int .i64 0]) hi hz0 (by rw [hz1]; decide) none 0 0 n [] w (Nat.le_refl _) (by omega) (by rw [hz2]; omega) (by omega) (by simp) (fun _ => rfl) (fun a h => by cases h)
    change Calls Tryz.prog 19 _ _ _ at q
    refine q.mono ?_
    rintro e w' ⟨rfl, rfl⟩
    exact ⟨_, rfl, grown_own w n _ 2 _ _ rfl (grownCap_ge w _ _ _) (grownCap_le_maxLen w _ _ _ (by unfold maxLen; omega)), ((Below.refl _ _).drew).alloc (Nat.le_refl _) _⟩

theorem wpList_append_row {w : World} {ops : Array Oper} {rest : List Oper} {o : Oper} {a : Act} {Q : Exit → Act → World → Prop} (hgd : o.guard = none) (s x : Operand)
    (ho : o.op = .call { callee := .builtin .append, args := #[s, x], argTypes := #[39, 39] })
    (base : Nat) (v y : Value) (l m : List Val) (hs : a.eval s = v) (hown : w.ownsRow base 46 3 v l.length (rc l)) (hx : a.eval x = y) (hr : RowIs w y m)
    (hle : l.length + m.length ≤ 262144) (hbase : base ≤ w.heap.size)
    (h : ∀ v' w', w'.ownsRow base 46 3 v' (l ++ m).length (rc (l ++ m)) → w.grownBy w' v.ownBlock → wpList Tryz.prog ops Q rest (a.put o.dst v') w') : wpList Tryz.prog ops Q (o :: rest) a w := by
  refine wpList_plain hgd fun K hK => ?_
  have hw : Region.wanted o (yielded ops a.tmps) = true := by simp [Region.wanted, hgd]
  have := step_append_row (E := True) (K := K) (Q := Q) w hw s x ho base v y l m hs hown hx hr hle hbase (fun v' w' h1 h2 => hK _ _ (h v' w' h1 h2))
  rwa [if_pos hw] at this
/-- Rows so far. -/
theorem flat_snoc {L : List (List Val)} {j : Nat} (h : j < L.length) : (L.take (j + 1)).flatten = (L.take j).flatten ++ L[j] := by
  rw [List.take_succ_eq_append_getElem h, List.flatten_append]; simp
theorem flat_le {L : List (List Val)} (hl : ∀ r ∈ L, r.length ≤ 65536) : ∀ j, (L.take j).flatten.length ≤ j * 65536 := by
  intro j
  induction j with
  | zero => rw [List.take_zero]; exact Nat.zero_le _
  | succ j ih =>
    by_cases h : j < L.length
    · have h1 := hl _ (List.getElem_mem h)
      rw [flat_snoc h, List.length_append, Nat.succ_mul]
      exact Nat.add_le_add ih h1
    · have e : L.take (j + 1) = L.take j := by rw [List.take_of_length_le (show L.length ≤ j + 1 by omega), List.take_of_length_le (show L.length ≤ j by omega)]
      rw [e, Nat.succ_mul]
      exact Nat.le_trans ih (Nat.le_add_right _ _)
set_option maxHeartbeats 4000000 in
/-- Rows, one behind the other. -/
theorem concatRows (L : List (List Val)) (g cap : Nat) (w : World) (hc : ∀ j (hj : j < L.length), ∃ a c, w.cell? ⟨g, j, none⟩ = some (.slice a L[j].length c) ∧ RowIs w (.slice a L[j].length c) L[j]) (hl : ∀ r ∈ L, r.length ≤ 65536) (hn : L.length ≤ 4) :
    Calls Tryz.prog 46 #[.slice (some ⟨g, 0, none⟩) L.length cap] w fun e w' => ∃ v, e = .returned v ∧ w'.ownsRow w.heap.size 46 3 v L.flatten.length (rc L.flatten) ∧ Below w.heap.size w w' := by
  have Hc : Hid (∀ j (hj : j < L.length), ∃ a c, w.cell? ⟨g, j, none⟩ = some (.slice a L[j].length c) ∧ RowIs w (.slice a L[j].length c) L[j]) := hc
  have HL : Hid (∀ r ∈ L, r.length ≤ 65536) := hl
  have HG : Hid (∀ n : Nat, n ≤ 262144 → Calls Tryz.prog 70 #[.slice none 0 0, .int .i64 n] w fun e w' => ∃ v, e = .returned v ∧ w'.ownsRow w.heap.size 46 3 v 0 [] ∧ Below w.heap.size w w') := fun n hn => growVals n w hn
  clear hc hl
  go_enter Tryz.func46, Tryz.ntmps46
  go_wp2_with fail
  go_loopw [3, 11] (fun s i wr => ∃ j n : Nat, j ≤ L.length ∧ i = .int .i64 j ∧ s = .int .i64 n ∧ Hid (n = (L.take j).flatten.length) ∧ wr = w) (fun _ i _ => L.length - (intOf i).toNat)
  case atStart => exact ⟨0, 0, by omega, rfl, rfl, by show _ = _; simp, rfl⟩
  case round =>
    obtain ⟨j, n, hj, rfl, rfl, hnn, rfl⟩ := hrel
    have hn0 : n ≤ 262144 := by rw [hnn.out]; have := flat_le HL.out j; omega
    by_cases k1 : j < L.length
    · obtain ⟨a, c, x1, _⟩ := Hc.out j k1
      have I1 : (j : Int) < (L.length : Int) := by omega
      have hr := HL.out _ (List.getElem_mem k1)
      have HN : Hid (n + L[j].length = (L.take (j + 1)).flatten.length) := by show _ = _; rw [flat_snoc k1, List.length_append, hnn.out]
      clear hnn
      generalize L[j].length = m at *
      have I0 : ¬ ((n : Int) + (m : Int) < 0) := by omega
      go_wp2_with fail
      go_roundw
      case rel => exact ⟨j + 1, n + m, by omega, by go_num, by go_num, HN, by first | rfl | trivial⟩
      case measure => simp [intOf]; omega
    · have I1 : ¬ (j : Int) < (L.length : Int) := by omega
      obtain rfl : j = L.length := by omega
      have q := HG.out n hn0
      clear HG hnn
      go_wp2_with fail
      refine q.mono ?_
      rintro e w1 ⟨v0, rfl, ho0, hb0⟩
      have F1 : Hid (w1.ownsRow wr.heap.size 46 3 v0 (L.take 0).flatten.length (rc (L.take 0).flatten) ∧ Below wr.heap.size wr w1) := ⟨by simpa [rc] using ho0, hb0⟩
      clear q ho0 hb0
      go_wp2_with fail
      go_loopw [6, 27] (fun v i w2 => ∃ j : Nat, j ≤ L.length ∧ i = .int .i64 j ∧ Hid (w2.ownsRow wr.heap.size 46 3 v (L.take j).flatten.length (rc (L.take j).flatten) ∧ Below wr.heap.size wr w2)) (fun _ i _ => L.length - (intOf i).toNat)
      case atStart => exact ⟨0, by omega, rfl, F1.out⟩
      case round =>
        clear F1
        obtain ⟨j, hj, rfl, hS⟩ := hrel
        by_cases k1 : j < L.length
        · have I1 : (j : Int) < (L.length : Int) := by omega
          obtain ⟨a, c, x1, x2⟩ := Hc.out j k1
          rename World => w2
          have d1 := cell_on x1 hS.out.2
          have hle1 := flat_le HL.out j
          have hr := HL.out _ (List.getElem_mem k1)
          have HX : Hid (∀ v' w', w'.ownsRow wr.heap.size 46 3 v' ((L.take j).flatten ++ L[j]).length (rc ((L.take j).flatten ++ L[j])) → w2.grownBy w' u6.ownBlock → w'.ownsRow wr.heap.size 46 3 v' (L.take (j + 1)).flatten.length (rc (L.take (j + 1)).flatten) ∧ Below wr.heap.size wr w') := fun v' w' h1 h2 =>
            ⟨by rw [flat_snoc k1]; exact h1, hS.out.2.grown h2 hS.out.2.size (fun k e => (hS.out.2.1 |> fun _ => (hS.out.1.lt k e).1))⟩
          go_wp2_with (first | (at_builtin; refine wpList_append_row rfl _ _ rfl wr.heap.size u6 _ (L.take j).flatten L[j] rfl hS.out.1 rfl (x2.on hS.out.2) (by omega) hS.out.2.size ?_; intro v8 w8 ho8 hg8; have HF : Hid _ := HX.out v8 w8 ho8 hg8; clear ho8 hg8 HX) | fail)
          go_roundw
          case rel => exact ⟨j + 1, by omega, by go_num, HF.out⟩
          case measure => simp [intOf]; omega
        · have I1 : ¬ (j : Int) < (L.length : Int) := by omega
          obtain rfl : j = L.length := by omega
          have E := hS.out
          rw [List.take_length] at E
          have HE : Hid _ := E
          clear hS E
          go_wp2_with fail
          go_ret
          refine ⟨u6, rfl, ?_, HE.out.2⟩
          have h1 := HE.out.1
          rw [List.length_flatten] at h1
          exact h1
set_option maxHeartbeats 2000000 in
theorem jcTogether (f b : List Val) (v1 v2 : Value) (w : World) (hf : RowIs w v1 f) (hb : RowIs w v2 b) (lf : f.length ≤ 65536) (lb : b.length ≤ 65536) :
    Calls Tryz.prog 22 #[.agg #[v1, v2]] w fun e w' => ∃ v, e = .returned v ∧ w'.ownsRow w.heap.size 46 3 v (f ++ b).length (rc (f ++ b)) ∧ Below w.heap.size w w' := by
  obtain ⟨a1, c1, rfl⟩ := hf.form
  obtain ⟨a2, c2, rfl⟩ := hb.form
  obtain ⟨W, hW⟩ : ∃ W, W = (w.alloc (.cells #[.slice a1 f.length c1, .slice a2 b.length c2] 60)).alloc (.cells #[.slice a1 f.length c1, .slice a2 b.length c2] 39) := ⟨_, rfl⟩
  have BW : Below w.heap.size w W := by rw [hW]; exact below_two
  have d0 : W.cell? ⟨w.heap.size + 1, 0, none⟩ = some (.slice a1 f.length c1) := by rw [hW, World.cell?_alloc_at _ _ _ _ (by simp)]; rfl
  have d1 : W.cell? ⟨w.heap.size + 1, 1, none⟩ = some (.slice a2 b.length c2) := by rw [hW, World.cell?_alloc_at _ _ _ _ (by simp)]; rfl
  have q := concatRows [f, b] (w.heap.size + 1) 2 W (fun j hj => by
    rcases (show j = 0 ∨ j = 1 by simp at hj; omega) with rfl | rfl
    · exact ⟨a1, c1, d0, hf.on BW⟩
    · exact ⟨a2, c2, d1, hb.on BW⟩) (fun r hr => by
    rcases List.mem_cons.1 hr with rfl | hr
    · exact lf
    · rw [List.mem_singleton.1 hr]; exact lb) (by simp)
  have e1 : ([f, b] : List (List Val)).flatten = f ++ b := by simp
  have e2 : ([f, b] : List (List Val)).length = 2 := rfl
  rw [e1, e2] at q
  have HB : Hid (Below w.heap.size w W) := BW
  have HQ : Hid (Calls Tryz.prog 46 #[.slice (some ⟨w.heap.size + 1, 0, none⟩) 2 2] W fun e w' => ∃ v, e = .returned v ∧ w'.ownsRow W.heap.size 46 3 v (f ++ b).length (rc (f ++ b)) ∧ Below W.heap.size W w') := q
  have HW : Hid ((w.alloc (.cells #[.slice a1 f.length c1, .slice a2 b.length c2] 60)).alloc (.cells #[.slice a1 f.length c1, .slice a2 b.length c2] 39) = W) := hW.symm
  clear hf hb lf lb hW BW d0 d1 q e1 e2
  generalize rc (f ++ b) = R at *
  generalize (f ++ b).length = n at *
  go_enter Tryz.func22, Tryz.ntmps22
  go_wp2_with fail
  rw [HW.out]
  refine HQ.out.mono ?_
  rintro e w1 ⟨v, rfl, ho, hb1⟩
  have HO : Hid (w1.ownsRow w.heap.size 46 3 v n R ∧ Below w.heap.size w w1) := ⟨own_mono ho HB.out.size, HB.out.trans (hb1.mono HB.out.size)⟩
  clear HQ ho hb1
  go_wp2_with fail
  go_ret
  exact ⟨v, rfl, HO.out.1, HO.out.2⟩
end Go.Proofs.YtlafokjkpbhckaaGreatDoor
