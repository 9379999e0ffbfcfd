/- What pred.appendCols answers of predicates of whatever depth. -/
import Derived.Test.YtiphnbpkliglcaaPdCols
namespace Go.Proofs.Ytiphnbpkliglcaa
open Go.RowKit Go.Sort
set_option maxRecDepth 100000
set_option linter.unusedVariables false

theorem run_append_zeroP {P : Program} (w : World) (base : Nat) (t ty e : TypeId) (i : TypeInfo) (size : Nat) (ht : P.underlying t = some (.slice e)) (hi : P.info? e = some i)
    (v : Value) (n : Nat) (xs : List Value) (hown : w.ownsRow base e size v n xs) (a : Option Addr) (cap : Nat) :
    (Builtin.append_ #[t, t] ty #[v, .slice a 0 cap]).run P w = .ok v w := by
  rcases hown.2 with ⟨rfl, rfl⟩ | ⟨g, cap, cur, rfl, _, _, hnc, _⟩
  · cases a <;> simp [Builtin.append_, run_underlying ht, sizeOf, typeInfo, hi, Builtin.lenOf, Builtin.firstCells, loadCells, loadCellsFrom]
  · cases a <;> simp [Builtin.append_, run_underlying ht, sizeOf, typeInfo, hi, Builtin.lenOf, Builtin.firstCells, hnc, storeCells, loadCells, loadCellsFrom]
theorem wpList_append_zeroP {P : Program} {w : World} {ops : Array Oper} {rest : List Oper} {op : Oper} {f : Act} {Q : Exit → Act → World → Prop} (hgd : op.guard = none) (s x : Operand) (t : TypeId)
    (ho : op.op = .call { callee := .builtin .append, args := #[s, x], argTypes := #[t, t] }) (base : Nat) (e : TypeId) (i : TypeInfo) (size : Nat) (ht : P.underlying t = some (.slice e)) (hi : P.info? e = some i)
    (v : Value) (n : Nat) (xs : List Value) (hs : f.eval s = v) (hown : w.ownsRow base e size v n xs) (a : Option Addr) (cap : Nat) (hx : f.eval x = .slice a 0 cap)
    (h : wpList P ops Q rest (f.put op.dst v) w) : wpList P ops Q (op :: rest) f w := by
  refine wpList_plain hgd fun K hK => ?_
  have hrun := run_append_zeroP w base t op.type e i size ht hi v n xs hown a cap
  unfold Oper.wp
  simp [execOp, ho, resolve, invoke, builtin, hs, hx, hrun, Result.andThen]
  exact hK _ _ h
theorem info_int : (Try.prog.info? 3).map (fun i => (i.zero, i.size, i.bytes)) = some (some (.int .i64 0), 1, 8) := by kernel_rfl
theorem iv_app (a b : List Int) : iv (a ++ b) = iv a ++ iv b := by simp [iv]
theorem iv_one (l : List Int) : ∀ u ∈ iv l, u.oneCell' = true := by
  intro u hu
  obtain ⟨n, _, rfl⟩ := List.mem_map.1 hu
  rfl
/-- What a call of appendCols leaves: the list with the predicate's columns behind it; all below the base is as it was. -/
def AppEnd (base : Nat) (xs : List Int) (p : Pd) (w : World) (e : Ending) (w' : World) : Prop :=
  ∃ v', e = .returned v' ∧ w'.ownsRow base 3 1 v' (xs ++ csP p).length (iv (xs ++ csP p)) ∧ Below base w w'
def AppAt (n : Nat) : Prop := ∀ (base : Nat) (p : Pd) (s v : Value) (xs : List Int) (w : World), PdL (fun k => k < base) n w s p.l → base ≤ w.heap.size → w.ownsRow base 3 1 v xs.length (iv xs) → xs.length + (csP p).length ≤ 65536 → Calls Try.prog 21 #[v, pv p s] w (AppEnd base xs p w)
theorem PdL.low {base n : Nat} {w w' : World} {s : Value} {l : List Pd} (h : PdL (fun k => k < base) n w s l) (hb : Below base w w') : PdL (fun k => k < base) n w' s l := h.kept hb.size (fun b hb' _ => hb.block b hb')
theorem take_flat (L : List Pd) (j : Nat) (hj : j < L.length) : ((L.take (j + 1)).map csP).flatten = ((L.take j).map csP).flatten ++ csP L[j] := by
  rw [List.take_succ_eq_append_getElem hj, List.map_append, List.flatten_append, List.map_cons, List.map_nil, List.flatten_cons, List.flatten_nil, List.append_nil]
theorem flat_le (L : List Pd) (j : Nat) (hj : j < L.length) : ((L.take j).map csP).flatten.length + (csP L[j]).length ≤ (L.map csP).flatten.length := by
  have e : (L.map csP).flatten = ((L.take (j + 1)).map csP).flatten ++ ((L.drop (j + 1)).map csP).flatten := by rw [← List.flatten_append, ← List.map_append, List.take_append_drop]
  rw [e, take_flat L j hj, List.length_append, List.length_append]; omega
set_option maxHeartbeats 4000000 in
theorem appStep (n : Nat) (ih : ∀ m, n = m + 1 → AppAt m) : AppAt n := by
  intro base p s v xs w hp hz ho hle
  obtain ⟨k, c, o, d, ⟨vk, vn, vs⟩, l⟩ := p
  have ec := csP_eq ⟨k, c, o, d, (vk, vn, vs), l⟩
  rw [ec, List.length_append] at hle
  have HE : Hid (∀ e w', (∃ v', e = .returned v' ∧ w'.ownsRow base 3 1 v' (xs ++ (askP ⟨k, c, o, d, (vk, vn, vs), l⟩ ++ ((ptsP ⟨k, c, o, d, (vk, vn, vs), l⟩).map csP).flatten)).length (iv (xs ++ (askP ⟨k, c, o, d, (vk, vn, vs), l⟩ ++ ((ptsP ⟨k, c, o, d, (vk, vn, vs), l⟩).map csP).flatten))) ∧ Below base w w') → AppEnd base xs ⟨k, c, o, d, (vk, vn, vs), l⟩ w e w') := fun e w' h => by
    unfold AppEnd
    rw [ec]; exact h
  clear ec
  obtain ⟨i0, hi, hz0, hz1, hz2⟩ := info_parts info_int
  have HL : Hid (PdL (fun k => k < base) n w s l) := hp
  have HO : Hid (w.ownsRow base 3 1 v xs.length (iv xs)) := ho
  have HZ : Hid (base ≤ w.heap.size) := hz
  have IH : Hid (∀ m, n = m + 1 → AppAt m) := ih
  obtain ⟨a1, cap1, hs⟩ := HL.out.form
  obtain ⟨av, cv, hv⟩ := own_formP ho
  unfold pv
  simp only
  have HPT : Hid (∀ W, PdL (fun k => k < base) n W s l → Calls Try.prog 28 #[.agg #[.int .i64 k, .int .i64 c, .int .i64 o, .int .i64 d, .int .i64 vk, .int .i64 vn, .string vs, s]] W fun e w' => ∃ v, e = .returned v ∧ PdL (fun k => k < base) n w' v (ptsP ⟨k, c, o, d, (vk, vn, vs), l⟩) ∧ Below W.heap.size W w') := fun W hW => predParts _ n k c o d vk vn vs l s W hW
  have qa := predAsked k c o d vk vn vs l s (w.alloc (.cells #[.int .i64 k, .int .i64 c, .int .i64 o, .int .i64 d, .int .i64 vk, .int .i64 vn, .string vs, s] 31))
  have bx : PdBox w.heap.size ⟨k, c, o, d, (vk, vn, vs), l⟩ s (w.alloc (.cells #[.int .i64 k, .int .i64 c, .int .i64 o, .int .i64 d, .int .i64 vk, .int .i64 vn, .string vs, s] 31)) := PdBox.new w ⟨k, c, o, d, (vk, vn, vs), l⟩ s
  have BX : Hid (PdBox w.heap.size ⟨k, c, o, d, (vk, vn, vs), l⟩ s (w.alloc (.cells #[.int .i64 k, .int .i64 c, .int .i64 o, .int .i64 d, .int .i64 vk, .int .i64 vn, .string vs, s] 31))) := bx
  generalize askP ⟨k, c, o, d, (vk, vn, vs), l⟩ = A at *
  generalize ptsP ⟨k, c, o, d, (vk, vn, vs), l⟩ = L at *
  have HO0 : Hid (∀ k, (Value.slice av xs.length cv).ownBlock = some k → k < w.heap.size) := fun k e => by rw [← hv] at e; exact (ho.lt k e).2
  clear hp ho hz ih bx
  subst hs hv
  go_enter Try.func21, Try.ntmps21
  go_wp2_with fail
  refine qa.mono ?_
  rintro e w2 ⟨va, rfl, hA, hb2⟩
  have B2 : Hid (Below w.heap.size w w2) := one_box.trans (hb2.mono (by simp))
  have BX2 : Hid (PdBox w.heap.size ⟨k, c, o, d, (vk, vn, vs), l⟩ (.slice a1 l.length cap1) w2) := BX.out.on hb2
  have O2 : Hid (w2.ownsRow base 3 1 (.slice av xs.length cv) xs.length (iv xs)) := own_onP HO.out B2.out
  have BL2 : Hid (Below base w w2) := B2.out.mono HZ.out
  have HZ2 : Hid (base ≤ w2.heap.size) := Nat.le_trans HZ.out B2.out.size
  have hN : Hid (xs.length + A.length ≤ 65536) := by show _ ≤ _; omega
  clear qa hb2 BX HO
  rcases hA with ⟨hA0, rfl⟩ | ⟨g, rfl, hA1, hA2⟩
  · have O3 : Hid (w2.ownsRow base 3 1 (.slice av xs.length cv) (xs ++ A).length (iv (xs ++ A))) := by
      show World.ownsRow _ _ _ _ _ _ _
      rw [hA0, List.append_nil]; exact O2.out
    clear hA0
    have BL3 : Hid (Below base w w2) := BL2.out
    have HZ3 : Hid (base ≤ w2.heap.size) := HZ2.out
    obtain ⟨⟨x0, x1, x2, x3, x4, x5, x6, x7⟩, _, _⟩ := BX2.out
    simp only [Nat.zero_add] at x1 x2 x3 x4 x5 x6 x7
    go_wp2_with (first | (at_builtin; refine wpList_append_zeroP rfl _ _ 22 rfl base 3 i0 1 Try.underlying22 hi _ xs.length (iv xs) rfl O2.out none 0 rfl ?_) | fail)
    refine (HPT.out w2 (HL.out.low BL3.out)).mono ?_
    rintro e w4 ⟨vp, rfl, hP, hb4⟩
    have BL4 : Hid (Below base w w4) := BL3.out.trans (hb4.mono HZ3.out)
    have HP4 : Hid (PdL (fun k => k < base) n w4 vp L) := hP
    have C0 : Hid (w4.ownsRow base 3 1 (.slice av xs.length cv) (xs ++ (A ++ ((L.take 0).map csP).flatten)).length (iv (xs ++ (A ++ ((L.take 0).map csP).flatten)))) := by
      show World.ownsRow _ _ _ _ _ _ _
      rw [List.take_zero, List.map_nil, List.flatten_nil, List.append_nil]
      exact own_onP O3.out hb4
    obtain ⟨ap, cp, hvp⟩ := hP.form
    have lP := hP.le
    unfold maxLen at lP
    subst hvp
    clear hb4 hP x0 x1 x2 x3 x4 x5 x6 x7 O3
    go_wp2_with fail
    go_loopw [0, 14] (fun v i wr => ∃ j : Nat, j ≤ L.length ∧ i = .int .i64 j ∧ Hid (wr.ownsRow base 3 1 v (xs ++ (A ++ ((L.take j).map csP).flatten)).length (iv (xs ++ (A ++ ((L.take j).map csP).flatten))) ∧ Below base w4 wr)) (fun _ i _ => L.length - (intOf i).toNat)
    case atStart => exact ⟨0, by omega, rfl, C0.out, Below.refl _ _⟩
    case round =>
      clear C0
      obtain ⟨j, hj, rfl, hso⟩ := hrel
      obtain ⟨h1, h2⟩ := hso.out
      by_cases hlt : j < L.length
      · have hfl := flat_le L j hlt
        have htf := take_flat L j hlt
        obtain ⟨m, b, o', s', hm, hab, ⟨x0, x1, x2, x3, x4, x5, x6, x7⟩, hq, hbs⟩ := (HP4.out.low h2).at j hlt
        obtain ⟨as1, cs1, hs1⟩ := hq.form
        have I1 : (j : Int) < (L.length : Int) := by omega
        have HQ : Hid (∀ W, Below wr.heap.size wr W → Calls Try.prog 21 #[u0, .agg #[.int .i64 L[j].k, .int .i64 L[j].c, .int .i64 L[j].o, .int .i64 L[j].d, .int .i64 L[j].v.1, .int .i64 L[j].v.2.1, .string L[j].v.2.2, s']] W (AppEnd base (xs ++ (A ++ ((L.take j).map csP).flatten)) L[j] W)) := fun W hW => IH.out m hm base L[j] s' u0 _ W (hq.on hW) (Nat.le_trans (Nat.le_trans (Nat.le_trans HZ.out (by have := BL4.out.size; exact this)) h2.size) hW.size) (own_onP h1 hW) (by simp only [List.length_append]; omega)
        have HJ : Hid (((L.take (j + 1)).map csP).flatten = ((L.take j).map csP).flatten ++ csP L[j]) := htf
        have H2 : Hid (Below base w4 wr) := h2
        have HS : Hid (base ≤ wr.heap.size) := Nat.le_trans (Nat.le_trans HZ.out (by have := BL4.out.size; exact this)) h2.size
        subst hab hs1
        clear h1 h2 hso hq hm hfl htf
        generalize L[j] = q at *
        go_wp2_with fail
        refine (HQ.out _ one_box).mono ?_
        rintro e w5 ⟨v5, rfl, o5, b5⟩
        have F5 : Hid (w5.ownsRow base 3 1 v5 (xs ++ (A ++ ((L.take (j + 1)).map csP).flatten)).length (iv (xs ++ (A ++ ((L.take (j + 1)).map csP).flatten))) ∧ Below base w4 w5) := by
          rw [HJ.out]
          refine ⟨?_, H2.out.trans ((Below.alloc (Below.refl _ _) HS.out _).trans b5)⟩
          simpa only [List.append_assoc] using o5
        clear HQ o5 b5 x0 x1 x2 x3 x4 x5 x6 x7
        go_wp2_with fail
        go_roundw
        case rel => exact ⟨j + 1, by omega, by go_num, F5.out.1, F5.out.2⟩
        case measure => simp [intOf]; omega
      · obtain rfl : j = L.length := by omega
        have I1 : ¬ (L.length : Int) < (L.length : Int) := by omega
        rw [List.take_length] at h1
        have F5 : Hid (wr.ownsRow base 3 1 u0 (xs ++ (A ++ (L.map csP).flatten)).length (iv (xs ++ (A ++ (L.map csP).flatten))) ∧ Below base w wr) := ⟨h1, BL4.out.trans h2⟩
        clear h1 h2 hso
        go_wp2_with fail
        go_ret
        exact HE.out _ _ ⟨_, rfl, F5.out.1, F5.out.2⟩
  · go_wp2_with (first | (at_builtin; refine wpList_append_own _ rfl _ _ 22 rfl base 3 i0 (.int .i64 0) 1 8 Try.underlying22 hi hz0 hz1 hz2 rfl (by decide) _ xs.length (iv xs) rfl O2.out ⟨g, 0, none⟩ A.length A.length (iv A) rfl (by simp [iv]) hA2 (iv_one A) (by have := hN.out; unfold maxLen; omega) (by have := hN.out; omega) HZ2.out ?_; intro v3 w3 o3 g3 _; have o2l := O2.out.lt; have BX3 : PdBox w.heap.size ⟨k, c, o, d, (vk, vn, vs), l⟩ (.slice a1 l.length cap1) w3 := BX2.out.grown g3 (fun e => by have h1 := HO0.out _ e; omega); obtain ⟨⟨x0, x1, x2, x3, x4, x5, x6, x7⟩, _, _⟩ := BX3; simp only [Nat.zero_add] at x1 x2 x3 x4 x5 x6 x7; obtain ⟨av3, cv3, hv3⟩ := own_formP o3; subst hv3; have O3 : Hid (w3.ownsRow base 3 1 (.slice av3 (xs.length + A.length) cv3) (xs ++ A).length (iv (xs ++ A))) := (by show World.ownsRow _ _ _ _ _ _ _; rw [iv_app, List.length_append]; exact o3); have BL3 : Hid (Below base w w3) := BL2.out.grown g3 HZ2.out (fun k e => (o2l k e).1); have HZ3 : Hid (base ≤ w3.heap.size) := Nat.le_trans HZ2.out g3.size; clear o3 g3 o2l) | fail)
    refine (HPT.out w3 (HL.out.low BL3.out)).mono ?_
    rintro e w4 ⟨vp, rfl, hP, hb4⟩
    have BL4 : Hid (Below base w w4) := BL3.out.trans (hb4.mono HZ3.out)
    have HP4 : Hid (PdL (fun k => k < base) n w4 vp L) := hP
    have C0 : Hid (w4.ownsRow base 3 1 (.slice av3 (xs.length + A.length) cv3) (xs ++ (A ++ ((L.take 0).map csP).flatten)).length (iv (xs ++ (A ++ ((L.take 0).map csP).flatten)))) := by
      show World.ownsRow _ _ _ _ _ _ _
      rw [List.take_zero, List.map_nil, List.flatten_nil, List.append_nil]
      exact own_onP O3.out hb4
    obtain ⟨ap, cp, hvp⟩ := hP.form
    have lP := hP.le
    unfold maxLen at lP
    subst hvp
    clear hb4 hP x0 x1 x2 x3 x4 x5 x6 x7 O3
    go_wp2_with fail
    go_loopw [0, 14] (fun v i wr => ∃ j : Nat, j ≤ L.length ∧ i = .int .i64 j ∧ Hid (wr.ownsRow base 3 1 v (xs ++ (A ++ ((L.take j).map csP).flatten)).length (iv (xs ++ (A ++ ((L.take j).map csP).flatten))) ∧ Below base w4 wr)) (fun _ i _ => L.length - (intOf i).toNat)
    case atStart => exact ⟨0, by omega, rfl, C0.out, Below.refl _ _⟩
    case round =>
      clear C0
      obtain ⟨j, hj, rfl, hso⟩ := hrel
      obtain ⟨h1, h2⟩ := hso.out
      by_cases hlt : j < L.length
      · have hfl := flat_le L j hlt
        have htf := take_flat L j hlt
        obtain ⟨m, b, o', s', hm, hab, ⟨x0, x1, x2, x3, x4, x5, x6, x7⟩, hq, hbs⟩ := (HP4.out.low h2).at j hlt
        obtain ⟨as1, cs1, hs1⟩ := hq.form
        have I1 : (j : Int) < (L.length : Int) := by omega
        have HQ : Hid (∀ W, Below wr.heap.size wr W → Calls Try.prog 21 #[u0, .agg #[.int .i64 L[j].k, .int .i64 L[j].c, .int .i64 L[j].o, .int .i64 L[j].d, .int .i64 L[j].v.1, .int .i64 L[j].v.2.1, .string L[j].v.2.2, s']] W (AppEnd base (xs ++ (A ++ ((L.take j).map csP).flatten)) L[j] W)) := fun W hW => IH.out m hm base L[j] s' u0 _ W (hq.on hW) (Nat.le_trans (Nat.le_trans (Nat.le_trans HZ.out (by have := BL4.out.size; exact this)) h2.size) hW.size) (own_onP h1 hW) (by simp only [List.length_append]; omega)
        have HJ : Hid (((L.take (j + 1)).map csP).flatten = ((L.take j).map csP).flatten ++ csP L[j]) := htf
        have H2 : Hid (Below base w4 wr) := h2
        have HS : Hid (base ≤ wr.heap.size) := Nat.le_trans (Nat.le_trans HZ.out (by have := BL4.out.size; exact this)) h2.size
        subst hab hs1
        clear h1 h2 hso hq hm hfl htf
        generalize L[j] = q at *
        go_wp2_with fail
        refine (HQ.out _ one_box).mono ?_
        rintro e w5 ⟨v5, rfl, o5, b5⟩
        have F5 : Hid (w5.ownsRow base 3 1 v5 (xs ++ (A ++ ((L.take (j + 1)).map csP).flatten)).length (iv (xs ++ (A ++ ((L.take (j + 1)).map csP).flatten))) ∧ Below base w4 w5) := by
          rw [HJ.out]
          refine ⟨?_, H2.out.trans ((Below.alloc (Below.refl _ _) HS.out _).trans b5)⟩
          simpa only [List.append_assoc] using o5
        clear HQ o5 b5 x0 x1 x2 x3 x4 x5 x6 x7
        go_wp2_with fail
        go_roundw
        case rel => exact ⟨j + 1, by omega, by go_num, F5.out.1, F5.out.2⟩
        case measure => simp [intOf]; omega
      · obtain rfl : j = L.length := by omega
        have I1 : ¬ (L.length : Int) < (L.length : Int) := by omega
        rw [List.take_length] at h1
        have F5 : Hid (wr.ownsRow base 3 1 u0 (xs ++ (A ++ (L.map csP).flatten)).length (iv (xs ++ (A ++ (L.map csP).flatten))) ∧ Below base w wr) := ⟨h1, BL4.out.trans h2⟩
        clear h1 h2 hso
        go_wp2_with fail
        go_ret
        exact HE.out _ _ ⟨_, rfl, F5.out.1, F5.out.2⟩
theorem predApp : ∀ n, AppAt n := by
  intro n
  induction n with
  | zero => exact appStep 0 (fun m h => by omega)
  | succ n ih => exact appStep (n + 1) (fun m h => (show n = m by omega) ▸ ih)
end Go.Proofs.Ytiphnbpkliglcaa
