/- What the document's own Entries, Add and Neg answer of entries in memory. -/
import Derived.Test.YtjpgnohhgkalbaaZMake
namespace Go.Proofs.Ytjpgnohhgkalbaa
open Go.RowKit Go.Sort
set_option maxRecDepth 100000

/-- How far the copy has come. -/
def CopyTo (vs : List VEnt) (w : World) (j : Nat) (v : Value) (wr : World) : Prop := wr.ownsRow w.heap.size 34 2 v j (es (vs.take j)) ∧ Below w.heap.size w wr
theorem es_take {vs : List VEnt} {j : Nat} (h : j < vs.length) : es (vs.take (j + 1)) = es (vs.take j) ++ ec vs[j] := by rw [List.take_succ_eq_append_getElem h, es_snoc]
set_option maxHeartbeats 2000000 in
theorem refEntries (vs : List VEnt) (l : List Ent) (va : Value) (w : World) (hn : l.length ≤ 65536) (ha : EntsAt w va vs) (hr : Reads w vs l) :
    Calls Try.prog 20 #[va] w fun e w' => ∃ v, e = .returned v ∧ CopyTo vs w vs.length v w' := by
  obtain ⟨a0, cap, rfl⟩ := ha.form
  have hvl : vs.length ≤ 65536 := by rw [hr.1]; exact hn
  obtain ⟨i0, hi, hz0, hz1, hz2⟩ := info_parts info_entry
  have Ha : Hid (EntsAt w (.slice a0 vs.length cap) vs) := ha
  have Hr : Hid (Reads w vs l) := hr
  have H0 : Hid (∀ w1, w1.ownsRow w.heap.size 34 2 (.slice (some ⟨w.heap.size, 0, none⟩) 0 vs.length) 0 [] → w.grownBy w1 none → CopyTo vs w 0 (.slice (some ⟨w.heap.size, 0, none⟩) 0 vs.length) w1) := fun w1 g1 g2 => ⟨by simpa [es] using g1, (Below.refl _ _).grown g2 (Nat.le_refl _) (fun k e => by cases e)⟩
  clear ha hr
  go_enter Try.func20, Try.ntmps20
  go_wp2_with (first | (at_make; refine wpList_make_own _ rfl _ _ 27 rfl w.heap.size 34 i0 (.agg #[.slice none 0 0, .int .i64 0]) 2 Try.underlying27 hi hz0 hz1 .i64 .i64 _ vs.length rfl rfl rfl (by rw [hz2]; omega) (by unfold maxLen; omega) (Nat.le_refl _) ?_; intro w1 hown1 hg1; have hs1 := H0.out _ hown1 hg1; clear hown1 hg1) | fail)
  go_loopw [3, 4] (fun v i wr => ∃ j : Nat, j ≤ vs.length ∧ i = .int .i64 j ∧ CopyTo vs w j v wr) (fun _ i _ => vs.length - (intOf i).toNat)
  case atStart => exact ⟨0, by omega, rfl, hs1⟩
  case round =>
    obtain ⟨j, hj, rfl, h2, h3⟩ := hrel
    clear hs1
    by_cases hlt : j < vs.length
    · obtain ⟨b, o, rfl, x1, x2, _⟩ := (Ha.out.on h3).at j hlt
      obtain ⟨am, cm, em⟩ := (Hr.out.2 j hlt (by rw [← Hr.out.1]; exact hlt)).1.form
      have I1 : (j : Int) < (vs.length : Int) := by omega
      have HO : Hid (wr.ownsRow w.heap.size 34 2 u3 j (es (vs.take j))) := h2
      have hz := h3.size
      have F : Hid (∀ v2 w2, w2.ownsRow w.heap.size 34 2 v2 (j + 1) (es (vs.take j) ++ ec vs[j]) → (wr.alloc (.cells #[vs[j].1, .int .i64 vs[j].2] 34)).grownBy w2 (Value.ownBlock u3) → CopyTo vs w (j + 1) v2 w2) := by
        intro v2 w2 g1 g2
        exact ⟨by rw [es_take hlt]; exact g1, (h3.alloc hz _).grown g2 (by simp; omega) (fun k e => (HO.out.lt k e).1)⟩
      obtain ⟨xv, xn, hx⟩ : ∃ xv xn, vs[j] = (xv, xn) := ⟨_, _, rfl⟩
      rw [hx] at x1 x2 em F
      simp only at x1 x2 em F
      subst em
      generalize (l[j]'(by rw [← Hr.out.1]; exact hlt)).1.length = nm at *
      clear hx h2
      go_wp2_with (first | (at_builtin; refine wpList_append_own _ rfl _ _ 27 rfl w.heap.size 34 i0 (.agg #[.slice none 0 0, .int .i64 0]) 2 32 Try.underlying27 hi hz0 hz1 hz2 rfl (by decide) _ j (es (vs.take j)) rfl (HO.out.alloc _) ⟨wr.heap.size, 0, none⟩ 1 1 (ec (.slice am nm cm, xn)) rfl rfl (cell_two_new _ _ _ _) (by simp [ec, Value.oneCell']) (by unfold maxLen; omega) (by omega) (by simp; omega) ?_; intro v2 w2 hown2 hg2 _; have hs2 := F.out _ _ hown2 hg2; clear hown2 hg2 F) | fail)
      go_roundw
      case rel => exact ⟨j + 1, by omega, by go_num, hs2⟩
      case measure => simp [intOf]; omega
    · obtain rfl : j = vs.length := by omega
      have HR : Hid (CopyTo vs w vs.length u3 wr) := ⟨h2, h3⟩
      clear h2
      go_wp2_with fail
      go_ret
      exact ⟨u3, rfl, HR.out⟩

/-- 'append' of nothing. -/
theorem run_append_zero {P : Program} (w : World) (base : Nat) (t ty e : TypeId) (i : TypeInfo) (size : Nat) (ht : P.underlying t = some (.slice e)) (hi : P.info? e = some i)
    (v : Value) (n : Nat) (xs : List Value) (hown : w.ownsRow base e size v n xs) (a : Option Addr) (cap : Nat) :
    (Builtin.append_ #[t, t] ty #[v, .slice a 0 cap]).run P w = .ok v w := by
  rcases hown.2 with ⟨rfl, rfl⟩ | ⟨g, cap, cur, rfl, _, _, hnc, _⟩
  · cases a <;> simp [Builtin.append_, run_underlying ht, sizeOf, typeInfo, hi, Builtin.lenOf, Builtin.firstCells, loadCells, loadCellsFrom]
  · cases a <;> simp [Builtin.append_, run_underlying ht, sizeOf, typeInfo, hi, Builtin.lenOf, Builtin.firstCells, hnc, storeCells, loadCells, loadCellsFrom]
theorem wpList_append_zero {P : Program} {w : World} {ops : Array Oper} {rest : List Oper} {op : Oper} {f : Act} {Q : Exit → Act → World → Prop} (hgd : op.guard = none) (s x : Operand) (t : TypeId)
    (ho : op.op = .call { callee := .builtin .append, args := #[s, x], argTypes := #[t, t] }) (base : Nat) (e : TypeId) (i : TypeInfo) (size : Nat) (ht : P.underlying t = some (.slice e)) (hi : P.info? e = some i)
    (v : Value) (n : Nat) (xs : List Value) (hs : f.eval s = v) (hown : w.ownsRow base e size v n xs) (a : Option Addr) (cap : Nat) (hx : f.eval x = .slice a 0 cap)
    (h : wpList P ops Q rest (f.put op.dst v) w) : wpList P ops Q (op :: rest) f w := by
  refine wpList_plain hgd fun K hK => ?_
  have hrun := run_append_zero w base t op.type e i size ht hi v n xs hown a cap
  unfold Oper.wp
  simp [execOp, ho, resolve, invoke, builtin, hs, hx, hrun, Result.andThen]
  exact hK _ _ h
theorem EntsAt.cells {w : World} {b o n cap : Nat} {vs : List VEnt} (h : EntsAt w (.slice (some ⟨b, o, none⟩) n cap) vs) : ∀ j u, (es vs)[j]? = some u → w.cell? ((⟨b, o, none⟩ : Addr).add j) = some u := by
  intro j u hu
  have hj : j < (es vs).length := (List.getElem?_eq_some_iff.1 hu).1
  rw [es_len] at hj
  have hi : j / 2 < vs.length := by omega
  obtain ⟨b', o', e, a0, a1, _⟩ := h.at (j / 2) hi
  simp only [Option.some.injEq, Addr.mk.injEq, and_true] at e
  obtain ⟨rfl, rfl⟩ := e
  obtain ⟨c0, c1⟩ := es_at vs (j / 2) hi
  rw [add_plain]
  have hm : j % 2 = 0 ∨ j % 2 = 1 := by omega
  rcases hm with e | e
  · have ej : j = j / 2 * 2 := by omega
    generalize j / 2 = i at *
    subst ej
    rw [c0] at hu; rw [← hu]; exact a0
  · have ej : j = j / 2 * 2 + 1 := by omega
    generalize j / 2 = i at *
    subst ej
    rw [c1] at hu; rw [← hu, ← Nat.add_assoc]; exact a1
theorem Reads.one' {w : World} {vs : List VEnt} {l : List Ent} (h : Reads w vs l) : ∀ u ∈ es vs, u.oneCell' = true := by
  intro u hu
  obtain ⟨v, hv, hu'⟩ := List.mem_flatMap.1 hu
  obtain ⟨i, hi, rfl⟩ := List.getElem_of_mem hv
  obtain ⟨am, cm, em⟩ := (h.2 i hi (by rw [← h.1]; exact hi)).1.form
  simp only [ec, List.mem_cons, List.not_mem_nil, or_false] at hu'
  rcases hu' with rfl | rfl
  · rw [em]; rfl
  · rfl
end Go.Proofs.Ytjpgnohhgkalbaa
