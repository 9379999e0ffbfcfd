/- What the document's own Entries, Add and Neg answer of entries in memory. -/
import Derived.Test.YtmpochhcokmaiaaZMake
namespace Go.Proofs.Ytmpochhcokmaiaa
open Go.RowKit Go.Sort
set_option maxRecDepth 100000

/-- How far the copy has come. -/
def CopyTo (vs : List VEnt) (w : World) (j : Nat) (v : Value) (wr : World) : Prop := wr.ownsRow w.heap.size 36 2 v j (es (vs.take j)) ∧ Below w.heap.size w wr
theorem es_take {vs : List VEnt} {j : Nat} (h : j < vs.length) : es (vs.take (j + 1)) = es (vs.take j) ++ ec vs[j] := by rw [List.take_succ_eq_append_getElem h, es_snoc]
set_option maxHeartbeats 2000000 in
theorem refEntries (vs : List VEnt) (l : List Ent) (va : Value) (w : World) (hn : l.length ≤ 65536) (ha : EntsAt w va vs) (hr : Reads w vs l) :
    Calls Try.prog 12 #[va] w fun e w' => ∃ v, e = .returned v ∧ CopyTo vs w vs.length v w' := by
  obtain ⟨a0, cap, rfl⟩ := ha.form
  have hvl : vs.length ≤ 65536 := by rw [hr.1]; exact hn
  obtain ⟨i0, hi, hz0, hz1, hz2⟩ := info_parts info_entry
  have Ha : Hid (EntsAt w (.slice a0 vs.length cap) vs) := ha
  have Hr : Hid (Reads w vs l) := hr
  have H0 : Hid (∀ w1, w1.ownsRow w.heap.size 36 2 (.slice (some ⟨w.heap.size, 0, none⟩) 0 vs.length) 0 [] → w.grownBy w1 none → CopyTo vs w 0 (.slice (some ⟨w.heap.size, 0, none⟩) 0 vs.length) w1) := fun w1 g1 g2 => ⟨by simpa [es] using g1, (Below.refl _ _).grown g2 (Nat.le_refl _) (fun k e => by cases e)⟩
  clear ha hr
  go_enter Try.func12, Try.ntmps12
  go_wp2_with (first | (at_make; refine wpList_make_own _ rfl _ _ 27 rfl w.heap.size 36 i0 (.agg #[.slice none 0 0, .int .i64 0]) 2 Try.underlying27 hi hz0 hz1 .i64 .i64 _ vs.length rfl rfl rfl (by rw [hz2]; omega) (by unfold maxLen; omega) (Nat.le_refl _) ?_; intro w1 hown1 hg1; have hs1 := H0.out _ hown1 hg1; clear hown1 hg1) | fail)
  go_loopw [3, 4] (fun v i wr => ∃ j : Nat, j ≤ vs.length ∧ i = .int .i64 j ∧ CopyTo vs w j v wr) (fun _ i _ => vs.length - (intOf i).toNat)
  case atStart => exact ⟨0, by omega, rfl, hs1⟩
  case round =>
    obtain ⟨j, hj, rfl, h2, h3⟩ := hrel
    clear hs1
    by_cases hlt : j < vs.length
    · obtain ⟨b, o, rfl, x1, x2, _⟩ := (Ha.out.on h3).at j hlt
      obtain ⟨am, cm, em⟩ := (Hr.out.2 j hlt (by rw [← Hr.out.1]; exact hlt)).1.form
      have I1 : (j : Int) < (vs.length : Int) := by omega
      have HO : Hid (wr.ownsRow w.heap.size 36 2 u3 j (es (vs.take j))) := h2
      have hz := h3.size
      have F : Hid (∀ v2 w2, w2.ownsRow w.heap.size 36 2 v2 (j + 1) (es (vs.take j) ++ ec vs[j]) → (wr.alloc (.cells #[vs[j].1, .int .i64 vs[j].2] 36)).grownBy w2 (Value.ownBlock u3) → CopyTo vs w (j + 1) v2 w2) := by
        intro v2 w2 g1 g2
        exact ⟨by rw [es_take hlt]; exact g1, (h3.alloc hz _).grown g2 (by simp; omega) (fun k e => (HO.out.lt k e).1)⟩
      obtain ⟨xv, xn, hx⟩ : ∃ xv xn, vs[j] = (xv, xn) := ⟨_, _, rfl⟩
      rw [hx] at x1 x2 em F
      simp only at x1 x2 em F
      subst em
      generalize (l[j]'(by rw [← Hr.out.1]; exact hlt)).1.length = nm at *
      clear hx h2
      go_wp2_with (first | (at_builtin; refine wpList_append_own _ rfl _ _ 27 rfl w.heap.size 36 i0 (.agg #[.slice none 0 0, .int .i64 0]) 2 32 Try.underlying27 hi hz0 hz1 hz2 rfl (by decide) _ j (es (vs.take j)) rfl (HO.out.alloc _) ⟨wr.heap.size, 0, none⟩ 1 1 (ec (.slice am nm cm, xn)) rfl rfl (cell_two_new _ _ _ _) (by simp [ec, Value.oneCell']) (by unfold maxLen; omega) (by omega) (by simp; omega) ?_; intro v2 w2 hown2 hg2 _; have hs2 := F.out _ _ hown2 hg2; clear hown2 hg2 F) | fail)
      go_roundw
      case rel => exact ⟨j + 1, by omega, by go_num, hs2⟩
      case measure => simp [intOf]; omega
    · obtain rfl : j = vs.length := by omega
      have HR : Hid (CopyTo vs w vs.length u3 wr) := ⟨h2, h3⟩
      clear h2
      go_wp2_with fail
      go_ret
      exact ⟨u3, rfl, HR.out⟩

/-- 'append' of nothing. -/
theorem run_append_zero {P : Program} (w : World) (base : Nat) (t ty e : TypeId) (i : TypeInfo) (size : Nat) (ht : P.underlying t = some (.slice e)) (hi : P.info? e = some i)
    (v : Value) (n : Nat) (xs : List Value) (hown : w.ownsRow base e size v n xs) (a : Option Addr) (cap : Nat) :
    (Builtin.append_ #[t, t] ty #[v, .slice a 0 cap]).run P w = .ok v w := by
  rcases hown.2 with ⟨rfl, rfl⟩ | ⟨g, cap, cur, rfl, _, _, hnc, _⟩
  · cases a <;> simp [Builtin.append_, run_underlying ht, sizeOf, typeInfo, hi, Builtin.lenOf, Builtin.firstCells, loadCells, loadCellsFrom]
  · cases a <;> simp [Builtin.append_, run_underlying ht, sizeOf, typeInfo, hi, Builtin.lenOf, Builtin.firstCells, hnc, storeCells, loadCells, loadCellsFrom]
theorem wpList_append_zero {P : Program} {w : World} {ops : Array Oper} {rest : List Oper} {op : Oper} {f : Act} {Q : Exit → Act → World → Prop} (hgd : op.guard = none) (s x : Operand) (t : TypeId)
    (ho : op.op = .call { callee := .builtin .append, args := #[s, x], argTypes := #[t, t] }) (base : Nat) (e : TypeId) (i : TypeInfo) (size : Nat) (ht : P.underlying t = some (.slice e)) (hi : P.info? e = some i)
    (v : Value) (n : Nat) (xs : List Value) (hs : f.eval s = v) (hown : w.ownsRow base e size v n xs) (a : Option Addr) (cap : Nat) (hx : f.eval x = .slice a 0 cap)
    (h : wpList P ops Q rest (f.put op.dst v) w) : wpList P ops Q (op :: rest) f w := by
  refine wpList_plain hgd fun K hK => ?_
  have hrun := run_append_zero w base t op.type e i size ht hi v n xs hown a cap
  unfold Oper.wp
  simp [execOp, ho, resolve, invoke, builtin, hs, hx, hrun, Result.andThen]
  exact hK _ _ h
theorem EntsAt.cells {w : World} {b o n cap : Nat} {vs : List VEnt} (h : EntsAt w (.slice (some ⟨b, o, none⟩) n cap) vs) : ∀ j u, (es vs)[j]? = some u → w.cell? ((⟨b, o, none⟩ : Addr).add j) = some u := by
  intro j u hu
  have hj : j < (es vs).length := (List.getElem?_eq_some_iff.1 hu).1
  rw [es_len] at hj
  have hi : j / 2 < vs.length := by omega
  obtain ⟨b', o', e, a0, a1, _⟩ := h.at (j / 2) hi
  simp only [Option.some.injEq, Addr.mk.injEq, and_true] at e
  obtain ⟨rfl, rfl⟩ := e
  obtain ⟨c0, c1⟩ := es_at vs (j / 2) hi
  rw [add_plain]
  have hm : j % 2 = 0 ∨ j % 2 = 1 := by omega
  rcases hm with e | e
  · have ej : j = j / 2 * 2 := by omega
    generalize j / 2 = i at *
    subst ej
    rw [c0] at hu; rw [← hu]; exact a0
  · have ej : j = j / 2 * 2 + 1 := by omega
    generalize j / 2 = i at *
    subst ej
    rw [c1] at hu; rw [← hu, ← Nat.add_assoc]; exact a1
theorem Reads.one' {w : World} {vs : List VEnt} {l : List Ent} (h : Reads w vs l) : ∀ u ∈ es vs, u.oneCell' = true := by
  intro u hu
  obtain ⟨v, hv, hu'⟩ := List.mem_flatMap.1 hu
  obtain ⟨i, hi, rfl⟩ := List.getElem_of_mem hv
  obtain ⟨am, cm, em⟩ := (h.2 i hi (by rw [← h.1]; exact hi)).1.form
  simp only [ec, List.mem_cons, List.not_mem_nil, or_false] at hu'
  rcases hu' with rfl | rfl
  · rw [em]; rfl
  · rfl
set_option maxHeartbeats 2000000 in
theorem refAdd (la lb : List Ent) (va vb : Value) (w : World) (hn : la.length + lb.length ≤ 65536) (hka : ∀ e ∈ la, inI e.2 = true) (hkb : ∀ e ∈ lb, inI e.2 = true) (ha : EntsIs w va la) (hb : EntsIs w vb lb) (c : Int) (hc : c = if okZ (la ++ lb) then 0 else 107) :
    Calls Try.prog 7 #[va, vb] w fun e w' => ∃ v, e = .returned (.tuple #[v, .int .i64 c]) ∧ EntsIs w' v (mkZ (la ++ lb)) ∧ Below w.heap.size w w' := by
  obtain ⟨vs, ha1, ha2⟩ := ha
  obtain ⟨us, hb1, hb2⟩ := hb
  have q1 := refEntries vs la va w (by omega) ha1 ha2
  have hvl : vs.length + us.length ≤ 65536 := by rw [ha2.1, hb2.1]; exact hn
  obtain ⟨i0, hi, hz0, hz1, hz2⟩ := info_parts info_entry
  obtain ⟨a0, cap, rfl⟩ := ha1.form
  have Hb1 : Hid (EntsAt w vb us) := hb1
  have Hb2 : Hid (Reads w us lb) := hb2
  have Ha2 : Hid (Reads w vs la) := ha2
  have q2 : Hid (∀ W v, Below w.heap.size w W → W.ownsRow w.heap.size 36 2 v (vs.length + us.length) (es vs ++ es us) → Calls Try.prog 11 #[v] W fun e w' => ∃ v', e = .returned (.tuple #[v', .int .i64 c]) ∧ EntsIs w' v' (mkZ (la ++ lb)) ∧ Below w.heap.size w w') := fun W v hW ho => by
    refine (refMake (la ++ lb) v W (by simpa using hn) (fun e he => by rcases List.mem_append.1 he with h | h; exact hka e h; exact hkb e h) ⟨vs ++ us, EntsAt.of_own (base := w.heap.size) ?_, (Ha2.out.append Hb2.out).on hW⟩ c hc).mono ?_
    · have e : es (vs ++ us) = es vs ++ es us := by simp [es]
      rw [e, List.length_append]; exact ho
    · rintro e w' ⟨v', h1, h2, h3⟩
      exact ⟨v', h1, h2, hW.trans (h3.mono hW.size)⟩
  obtain ⟨b0, capb, eb⟩ := hb1.form
  subst eb
  clear ha1 ha2 hb1 hb2 hka hkb hc
  by_cases hu0 : us.length = 0
  · have hnil : us = [] := List.eq_nil_of_length_eq_zero hu0
    subst hnil
    go_enter Try.func7, Try.ntmps7
    go_wp2_with fail
    refine q1.mono ?_
    rintro e W1 ⟨v, rfl, ho, hB⟩
    rw [List.take_length] at ho
    have HO : Hid (W1.ownsRow w.heap.size 36 2 v vs.length (es vs)) := ho
    have q3 := q2.out W1 v hB (by simpa [es] using ho)
    clear q1 q2 ho
    go_wp2_with (first | (at_builtin; refine wpList_append_zero rfl _ _ 27 rfl w.heap.size 36 i0 2 Try.underlying27 hi v vs.length (es vs) rfl HO.out b0 capb rfl ?_) | fail)
    refine q3.mono ?_
    rintro e w2 ⟨v2, rfl, h1, h2⟩
    have H1 : Hid (EntsIs w2 v2 (mkZ (la ++ lb))) := h1
    clear h1 q3
    go_wp2_with fail
    go_ret2
    exact ⟨v2, rfl, H1.out, h2⟩
  · obtain ⟨b, o, rfl, _⟩ := Hb1.out.at 0 (by omega)
    have hne : us.length ≤ 65536 := by omega
    go_enter Try.func7, Try.ntmps7
    go_wp2_with fail
    refine q1.mono ?_
    rintro e W1 ⟨v, rfl, ho, hB⟩
    rw [List.take_length] at ho
    have HO : Hid (W1.ownsRow w.heap.size 36 2 v vs.length (es vs)) := ho
    have HC : Hid (∀ j u, (es us)[j]? = some u → W1.cell? ((⟨b, o, none⟩ : Addr).add j) = some u) := (Hb1.out.on hB).cells
    have H1 : Hid (∀ u ∈ es us, u.oneCell' = true) := Hb2.out.one'
    have HE : Hid ((es us).length = us.length * 2) := es_len us
    have F : Hid (∀ v2 w2, w2.ownsRow w.heap.size 36 2 v2 (vs.length + us.length) (es vs ++ es us) → W1.grownBy w2 (Value.ownBlock v) → Calls Try.prog 11 #[v2] w2 fun e w' => ∃ v', e = .returned (.tuple #[v', .int .i64 c]) ∧ EntsIs w' v' (mkZ (la ++ lb)) ∧ Below w.heap.size w w') := fun v2 w2 g1 g2 =>
      q2.out w2 v2 (hB.grown g2 hB.size (fun k e => (HO.out.lt k e).1)) g1
    have hsz := hB.size
    clear q1 q2 ho hB
    go_wp2_with (first | (at_builtin; refine wpList_append_own _ rfl _ _ 27 rfl w.heap.size 36 i0 (.agg #[.slice none 0 0, .int .i64 0]) 2 32 Try.underlying27 hi hz0 hz1 hz2 rfl (by decide) _ vs.length (es vs) rfl HO.out ⟨b, o, none⟩ us.length capb (es us) rfl HE.out HC.out H1.out (by unfold maxLen; omega) (by omega) hsz ?_; intro v2 w2 hown2 hg2 _; have q3 := F.out _ _ hown2 hg2; clear hown2 hg2 F) | fail)
    refine q3.mono ?_
    rintro e w3 ⟨v3, rfl, h1, h2⟩
    have H3 : Hid (EntsIs w3 v3 (mkZ (la ++ lb))) := h1
    clear h1 q3
    go_wp2_with fail
    go_ret2
    exact ⟨v3, rfl, H3.out, h2⟩
end Go.Proofs.Ytmpochhcokmaiaa
