/- Texts of one claim, one behind the other. -/
import Derived.Test.YtglbipnppldkmaaGreatDoorPackMakeB
/- What the document's own Entries, Add and Neg answer of entries in memory. -/
namespace Go.Proofs.YtglbipnppldkmaaGreatDoor
open Go.RowKit Go.Sort
set_option maxRecDepth 100000

/-- How far the copy has come. -/
def CopyTo (vs : List VEnt) (w : World) (j : Nat) (v : Value) (wr : World) : Prop := wr.ownsRow w.heap.size 37 2 v j (es (vs.take j)) ∧ Below w.heap.size w wr
theorem es_take {vs : List VEnt} {j : Nat} (h : j < vs.length) : es (vs.take (j + 1)) = es (vs.take j) ++ ec vs[j] := by rw [List.take_succ_eq_append_getElem h, es_snoc]
set_option maxHeartbeats 2000000 in
theorem refEntries (vs : List VEnt) (l : List Ent) (va : Value) (w : World) (hn : l.length ≤ 65536) (ha : EntsAt w va vs) (hr : Reads w vs l) :
    Calls Tryz.prog 25 #[va] w fun e w' => ∃ v, e = .returned v ∧ CopyTo vs w vs.length v w' := by
  obtain ⟨a0, cap, rfl⟩ := ha.form
  have hvl : vs.length ≤ 65536 := by rw [hr.1]; exact hn
  obtain ⟨i0, hi, hz0, hz1, hz2⟩ := info_parts info_entry
  have Ha : Hid (EntsAt w (.slice a0 vs.length cap) vs) := ha
  have Hr : Hid (Reads w vs l) := hr
  have H0 : Hid (∀ w1, w1.ownsRow w.heap.size 37 2 (.slice (some ⟨w.heap.size, 0, none⟩) 0 vs.length) 0 [] → w.grownBy w1 none → CopyTo vs w 0 (.slice (some ⟨w.heap.size, 0, none⟩) 0 vs.length) w1) := fun w1 g1 g2 => ⟨by simpa [es] using g1, (Below.refl _ _).grown g2 (Nat.le_refl _) (fun k e => by cases e)⟩
  clear ha hr
  go_enter Tryz.func25, Tryz.ntmps25
  go_wp2_with (first | (at_make; refine wpList_make_own _ rfl _ _ 29 rfl w.heap.size 37 i0 (.agg #[.slice none 0 0, .int .i64 0]) 2 Tryz.underlying29 hi hz0 hz1 .i64 .i64 _ vs.length rfl rfl rfl (by rw [hz2]; omega) (by unfold maxLen; omega) (Nat.le_refl _) ?_; intro w1 hown1 hg1; have hs1 := H0.out _ hown1 hg1; clear hown1 hg1) | fail)
  go_loopw [3, 4] (fun v i wr => ∃ j : Nat, j ≤ vs.length ∧ i = .int .i64 j ∧ CopyTo vs w j v wr) (fun _ i _ => vs.length - (intOf i).toNat)
  case atStart => exact ⟨0, by omega, rfl, hs1⟩
  case round =>
    obtain ⟨j, hj, rfl, h2, h3⟩ := hrel
    clear hs1
    by_cases hlt : j < vs.length
    · obtain ⟨b, o, rfl, x1, x2, _⟩ := (Ha.out.on h3).at j hlt
      obtain ⟨am, cm, em⟩ := (Hr.out.2 j hlt (by rw [← Hr.out.1]; exact hlt)).1.form
      have I1 : (j : Int) < (vs.length : Int) := by omega
      have HO : Hid (wr.ownsRow w.heap.size 37 2 u3 j (es (vs.take j))) := h2
      have hz := h3.size
      have F : Hid (∀ v2 w2, w2.ownsRow w.heap.size 37 2 v2 (j + 1) (es (vs.take j) ++ ec vs[j]) → (wr.alloc (.cells #[vs[j].1, .int .i64 vs[j].2] 37)).grownBy w2 (Value.ownBlock u3) → CopyTo vs w (j + 1) v2 w2) := by
        intro v2 w2 g1 g2
        exact ⟨by rw [es_take hlt]; exact g1, (h3.alloc hz _).grown g2 (by simp; omega) (fun k e => (HO.out.lt k e).1)⟩
      obtain ⟨xv, xn, hx⟩ : ∃ xv xn, vs[j] = (xv, xn) := ⟨_, _, rfl⟩
      rw [hx] at x1 x2 em F
      simp only at x1 x2 em F
      subst em
      generalize (l[j]'(by rw [← Hr.out.1]; exact hlt)).1.length = nm at *
      clear hx h2
      go_wp2_with (first | (at_builtin; refine wpList_append_own _ rfl _ _ 29 rfl w.heap.size 37 i0 (.agg #[.slice none 0 0, .int .i64 0]) 2 32 Tryz.underlying29 hi hz0 hz1 hz2 rfl (by decide) _ j (es (vs.take j)) rfl (HO.out.alloc _) ⟨wr.heap.size, 0, none⟩ 1 1 (ec (.slice am nm cm, xn)) rfl rfl (cell_two_new _ _ _ _) (by simp [ec, Value.oneCell']) (by unfold maxLen; omega) (by omega) (by simp; omega) ?_; intro v2 w2 hown2 hg2 _; have hs2 := F.out _ _ hown2 hg2; clear hown2 hg2 F) | fail)
      go_roundw
      case rel => exact ⟨j + 1, by omega, by go_num, hs2⟩
      case measure => simp [intOf]; omega
    · obtain rfl : j = vs.length := by omega
      have HR : Hid (CopyTo vs w vs.length u3 wr) := ⟨h2, h3⟩
      clear h2
      go_wp2_with fail
      go_ret
      exact ⟨u3, rfl, HR.out⟩

/-- 'append' of nothing. -/
theorem run_append_zero {P : Program} (w : World) (base : Nat) (t ty e : TypeId) (i : TypeInfo) (size : Nat) (ht : P.underlying t = some (.slice e)) (hi : P.info? e = some i)
    (v : Value) (n : Nat) (xs : List Value) (hown : w.ownsRow base e size v n xs) (a : Option Addr) (cap : Nat) :
    (Builtin.append_ #[t, t] ty #[v, .slice a 0 cap]).run P w = .ok v w := by
  rcases hown.2 with ⟨rfl, rfl⟩ | ⟨g, cap, cur, rfl, _, _, hnc, _⟩
  · cases a <;> simp [Builtin.append_, run_underlying ht, sizeOf, typeInfo, hi, Builtin.lenOf, Builtin.firstCells, loadCells, loadCellsFrom]
  · cases a <;> simp [Builtin.append_, run_underlying ht, sizeOf, typeInfo, hi, Builtin.lenOf, Builtin.firstCells, hnc, storeCells, loadCells, loadCellsFrom]
theorem wpList_append_zero {P : Program} {w : World} {ops : Array Oper} {rest : List Oper} {op : Oper} {f : Act} {Q : Exit → Act → World → Prop} (hgd : op.guard = none) (s x : Operand) (t : TypeId)
    (ho : op.op = .call { callee := .builtin .append, args := #[s, x], argTypes := #[t, t] }) (base : Nat) (e : TypeId) (i : TypeInfo) (size : Nat) (ht : P.underlying t = some (.slice e)) (hi : P.info? e = some i)
    (v : Value) (n : Nat) (xs : List Value) (hs : f.eval s = v) (hown : w.ownsRow base e size v n xs) (a : Option Addr) (cap : Nat) (hx : f.eval x = .slice a 0 cap)
    (h : wpList P ops Q rest (f.put op.dst v) w) : wpList P ops Q (op :: rest) f w := by
  refine wpList_plain hgd fun K hK => ?_
  have hrun := run_append_zero w base t op.type e i size ht hi v n xs hown a cap
  unfold Oper.wp
  simp [execOp, ho, resolve, invoke, builtin, hs, hx, hrun, Result.andThen]
  exact hK _ _ h
theorem EntsAt.cells {w : World} {b o n cap : Nat} {vs : List VEnt} (h : EntsAt w (.slice (some ⟨b, o, none⟩) n cap) vs) : ∀ j u, (es vs)[j]? = some u → w.cell? ((⟨b, o, none⟩ : Addr).add j) = some u := by
  intro j u hu
  have hj : j < (es vs).length := (List.getElem?_eq_some_iff.1 hu).1
  rw [es_len] at hj
  have hi : j / 2 < vs.length := by omega
  obtain ⟨b', o', e, a0, a1, _⟩ := h.at (j / 2) hi
  simp only [Option.some.injEq, Addr.mk.injEq, and_true] at e
  obtain ⟨rfl, rfl⟩ := e
  obtain ⟨c0, c1⟩ := es_at vs (j / 2) hi
  rw [add_plain]
  have hm : j % 2 = 0 ∨ j % 2 = 1 := by omega
  rcases hm with e | e
  · have ej : j = j / 2 * 2 := by omega
    generalize j / 2 = i at *
    subst ej
    rw [c0] at hu; rw [← hu]; exact a0
  · have ej : j = j / 2 * 2 + 1 := by omega
    generalize j / 2 = i at *
    subst ej
    rw [c1] at hu; rw [← hu, ← Nat.add_assoc]; exact a1
theorem Reads.one' {w : World} {vs : List VEnt} {l : List Ent} (h : Reads w vs l) : ∀ u ∈ es vs, u.oneCell' = true := by
  intro u hu
  obtain ⟨v, hv, hu'⟩ := List.mem_flatMap.1 hu
  obtain ⟨i, hi, rfl⟩ := List.getElem_of_mem hv
  obtain ⟨am, cm, em⟩ := (h.2 i hi (by rw [← h.1]; exact hi)).1.form
  simp only [ec, List.mem_cons, List.not_mem_nil, or_false] at hu'
  rcases hu' with rfl | rfl
  · rw [em]; rfl
  · rfl
set_option maxHeartbeats 2000000 in
theorem refAdd (la lb : List Ent) (va vb : Value) (w : World) (hn : la.length + lb.length ≤ 65536) (hka : ∀ e ∈ la, inI e.2 = true) (hkb : ∀ e ∈ lb, inI e.2 = true) (ha : EntsIs w va la) (hb : EntsIs w vb lb) (c : Int) (hc : c = if okZ (la ++ lb) then 0 else 107) :
    Calls Tryz.prog 12 #[va, vb] w fun e w' => ∃ v, e = .returned (.tuple #[v, .int .i64 c]) ∧ EntsIs w' v (mkZ (la ++ lb)) ∧ Below w.heap.size w w' := by
  obtain ⟨vs, ha1, ha2⟩ := ha
  obtain ⟨us, hb1, hb2⟩ := hb
  have q1 := refEntries vs la va w (by omega) ha1 ha2
  have hvl : vs.length + us.length ≤ 65536 := by rw [ha2.1, hb2.1]; exact hn
  obtain ⟨i0, hi, hz0, hz1, hz2⟩ := info_parts info_entry
  obtain ⟨a0, cap, rfl⟩ := ha1.form
  have Hb1 : Hid (EntsAt w vb us) := hb1
  have Hb2 : Hid (Reads w us lb) := hb2
  have Ha2 : Hid (Reads w vs la) := ha2
  have q2 : Hid (∀ W v, Below w.heap.size w W → W.ownsRow w.heap.size 37 2 v (vs.length + us.length) (es vs ++ es us) → Calls Tryz.prog 24 #[v] W fun e w' => ∃ v', e = .returned (.tuple #[v', .int .i64 c]) ∧ EntsIs w' v' (mkZ (la ++ lb)) ∧ Below w.heap.size w w') := fun W v hW ho => by
    refine (refMake (la ++ lb) v W (by simpa using hn) (fun e he => by rcases List.mem_append.1 he with h | h; exact hka e h; exact hkb e h) ⟨vs ++ us, EntsAt.of_own (base := w.heap.size) ?_, (Ha2.out.append Hb2.out).on hW⟩ c hc).mono ?_
    · have e : es (vs ++ us) = es vs ++ es us := by simp [es]
      rw [e, List.length_append]; exact ho
    · rintro e w' ⟨v', h1, h2, h3⟩
      exact ⟨v', h1, h2, hW.trans (h3.mono hW.size)⟩
  obtain ⟨b0, capb, eb⟩ := hb1.form
  subst eb
  clear ha1 ha2 hb1 hb2 hka hkb hc
  by_cases hu0 : us.length = 0
  · have hnil : us = [] := List.eq_nil_of_length_eq_zero hu0
    subst hnil
    go_enter Tryz.func12, Tryz.ntmps12
    go_wp2_with fail
    refine q1.mono ?_
    rintro e W1 ⟨v, rfl, ho, hB⟩
    rw [List.take_length] at ho
    have HO : Hid (W1.ownsRow w.heap.size 37 2 v vs.length (es vs)) := ho
    have q3 := q2.out W1 v hB (by simpa [es] using ho)
    clear q1 q2 ho
    go_wp2_with (first | (at_builtin; refine wpList_append_zero rfl _ _ 29 rfl w.heap.size 37 i0 2 Tryz.underlying29 hi v vs.length (es vs) rfl HO.out b0 capb rfl ?_) | fail)
    refine q3.mono ?_
    rintro e w2 ⟨v2, rfl, h1, h2⟩
    have H1 : Hid (EntsIs w2 v2 (mkZ (la ++ lb))) := h1
    clear h1 q3
    go_wp2_with fail
    go_ret2
    exact ⟨v2, rfl, H1.out, h2⟩
  · obtain ⟨b, o, rfl, _⟩ := Hb1.out.at 0 (by omega)
    have hne : us.length ≤ 65536 := by omega
    go_enter Tryz.func12, Tryz.ntmps12
    go_wp2_with fail
    refine q1.mono ?_
    rintro e W1 ⟨v, rfl, ho, hB⟩
    rw [List.take_length] at ho
    have HO : Hid (W1.ownsRow w.heap.size 37 2 v vs.length (es vs)) := ho
    have HC : Hid (∀ j u, (es us)[j]? = some u → W1.cell? ((⟨b, o, none⟩ : Addr).add j) = some u) := (Hb1.out.on hB).cells
    have H1 : Hid (∀ u ∈ es us, u.oneCell' = true) := Hb2.out.one'
    have HE : Hid ((es us).length = us.length * 2) := es_len us
    have F : Hid (∀ v2 w2, w2.ownsRow w.heap.size 37 2 v2 (vs.length + us.length) (es vs ++ es us) → W1.grownBy w2 (Value.ownBlock v) → Calls Tryz.prog 24 #[v2] w2 fun e w' => ∃ v', e = .returned (.tuple #[v', .int .i64 c]) ∧ EntsIs w' v' (mkZ (la ++ lb)) ∧ Below w.heap.size w w') := fun v2 w2 g1 g2 =>
      q2.out w2 v2 (hB.grown g2 hB.size (fun k e => (HO.out.lt k e).1)) g1
    have hsz := hB.size
    clear q1 q2 ho hB
    go_wp2_with (first | (at_builtin; refine wpList_append_own _ rfl _ _ 29 rfl w.heap.size 37 i0 (.agg #[.slice none 0 0, .int .i64 0]) 2 32 Tryz.underlying29 hi hz0 hz1 hz2 rfl (by decide) _ vs.length (es vs) rfl HO.out ⟨b, o, none⟩ us.length capb (es us) rfl HE.out HC.out H1.out (by unfold maxLen; omega) (by omega) hsz ?_; intro v2 w2 hown2 hg2 _; have q3 := F.out _ _ hown2 hg2; clear hown2 hg2 F) | fail)
    refine q3.mono ?_
    rintro e w3 ⟨v3, rfl, h1, h2⟩
    have H3 : Hid (EntsIs w3 v3 (mkZ (la ++ lb))) := h1
    clear h1 q3
    go_wp2_with fail
    go_ret2
    exact ⟨v3, rfl, H3.out, h2⟩
end Go.Proofs.YtglbipnppldkmaaGreatDoor
/- What the document's own Neg answers of entries in memory. -/
namespace Go.Proofs.YtglbipnppldkmaaGreatDoor
open Go.RowKit Go.Sort
set_option maxRecDepth 100000

/-- Opposites; may they be? -/
def ngE (e : Ent) : Ent := (e.1, -e.2)
def ngV (e : VEnt) : VEnt := (e.1, -e.2)
def ngOk (l : List Ent) : Bool := l.all fun e => inI (-e.2)
def ngZ (l : List Ent) : List Ent := if ngOk l then l.map ngE else []
theorem ng_snoc {l : List Ent} {j : Nat} (h : j < l.length) : ngOk (l.take (j + 1)) = (ngOk (l.take j) && inI (-l[j].2)) := by
  unfold ngOk; rw [List.take_succ_eq_append_getElem h, List.all_append]; simp
theorem ng_not {l : List Ent} {j : Nat} (h : j < l.length) (h' : inI (-l[j].2) = false) : ngOk l = false := by
  unfold ngOk; rw [List.all_eq_false]; exact ⟨l[j], List.getElem_mem h, by simp [h']⟩
theorem es_ng {vs : List VEnt} {j : Nat} (h : j < vs.length) : es ((vs.take (j + 1)).map ngV) = es ((vs.take j).map ngV) ++ ec (ngV vs[j]) := by
  rw [List.take_succ_eq_append_getElem h, List.map_append]; exact es_snoc _ _
theorem Reads.neg {w : World} {vs : List VEnt} {l : List Ent} (h : Reads w vs l) : Reads w (vs.map ngV) (l.map ngE) := by
  refine ⟨by simp [h.1], fun i h1 h2 => ?_⟩
  simp only [List.length_map] at h1 h2
  simp only [List.getElem_map, ngV, ngE]
  exact ⟨(h.2 i h1 h2).1, by rw [(h.2 i h1 h2).2]⟩
def NegTo (vs : List VEnt) (l : List Ent) (w : World) (j : Nat) (v : Value) (wr : World) : Prop := ngOk (l.take j) = true ∧ wr.ownsRow w.heap.size 37 2 v j (es ((vs.take j).map ngV)) ∧ Below w.heap.size w wr
set_option maxHeartbeats 2000000 in
theorem refNegR (l : List Ent) (va : Value) (w w0 : World) (hn : l.length ≤ 65536) (hk : ∀ e ∈ l, inI e.2 = true) (ha : EntsR w w0 va l) (c : Int) (hc : c = if ngOk l then 0 else 107) :
    Calls Tryz.prog 26 #[va] w fun e w' => ∃ v, e = .returned (.tuple #[v, .int .i64 c]) ∧ EntsN w.heap.size w0 (ngZ l) v w' ∧ Below w.heap.size w w' := by
  obtain ⟨vs, ha1, hr⟩ := ha
  obtain ⟨a0, cap, rfl⟩ := ha1.form
  have hvl : vs.length ≤ 65536 := by rw [hr.1]; exact hn
  obtain ⟨i0, hi, hz0, hz1, hz2⟩ := info_parts info_entry
  have Ha : Hid (EntsAt w (.slice a0 vs.length cap) vs) := ha1
  have Hr : Hid (Reads w0 vs l) := hr
  have Hk : Hid (∀ e ∈ l, inI e.2 = true) := hk
  have HM : Hid (ngOk l = true → c = 0 ∧ ngZ l = l.map ngE) := fun h => by unfold ngZ; rw [h]; rw [h] at hc; exact ⟨hc, rfl⟩
  have HN : Hid (ngOk l = false → c = 107 ∧ ngZ l = []) := fun h => by unfold ngZ; rw [h]; rw [h] at hc; exact ⟨hc, rfl⟩
  have H0 : Hid (NegTo vs l w 0 (.slice none 0 0) w) := ⟨rfl, World.ownsRow_nil _ _ _ _, Below.refl _ _⟩
  clear ha1 hr hk hc
  go_enter Tryz.func26, Tryz.ntmps26
  go_wp2_with fail
  go_loopw [4, 5] (fun v i wr => ∃ j : Nat, j ≤ vs.length ∧ i = .int .i64 j ∧ NegTo vs l w j v wr) (fun _ i _ => vs.length - (intOf i).toNat)
  case atStart => exact ⟨0, by omega, rfl, H0.out⟩
  case round =>
    obtain ⟨j, hj, rfl, h1, h2, h3⟩ := hrel
    clear H0
    by_cases hlt : j < vs.length
    · have hlt' : j < l.length := by rw [← Hr.out.1]; exact hlt
      obtain ⟨b, o, rfl, x1, x2, _⟩ := (Ha.out.on h3).at j hlt
      obtain ⟨r1, r2⟩ := Hr.out.2 j hlt hlt'
      obtain ⟨am, cm, em⟩ := r1.form
      have I1 : (j : Int) < (vs.length : Int) := by omega
      have HO : Hid (wr.ownsRow w.heap.size 37 2 u4 j (es ((vs.take j).map ngV))) := h2
      have H3 : Hid (Below w.heap.size w wr) := h3
      have HF : Hid (inI (-l[j].2) = true → ngOk (l.take (j + 1)) = true) := fun h => by rw [ng_snoc hlt', h1, h]; rfl
      have HX : Hid (inI (-l[j].2) = false → ngOk l = false) := ng_not hlt'
      have HE : Hid (es ((vs.take (j + 1)).map ngV) = es ((vs.take j).map ngV) ++ ec (ngV vs[j])) := es_ng hlt
      have hin := Hk.out _ (List.getElem_mem hlt')
      rw [← r2] at HF HX hin
      obtain ⟨xv, xn, hx⟩ : ∃ xv xn, vs[j] = (xv, xn) := ⟨_, _, rfl⟩
      rw [hx] at x1 x2 em HE HF HX hin
      simp only [ngV] at x1 x2 em HE HF HX hin
      subst em
      have hb : -9223372036854775808 ≤ xn ∧ xn ≤ 9223372036854775807 := by unfold inI at hin; simpa using hin
      have q1 : Hid (Calls Tryz.prog 50 #[.int .i64 xn, .int .i64 1] wr fun e w' => e = .returned (wV xn) ∧ Below wr.heap.size wr w') := by
        have := refTimes xn 1 hb (by omega) wr
        rw [Int.mul_one] at this; exact this
      have q2 : Hid (∀ W, Calls Tryz.prog 49 #[wV xn] W fun e w' => e = .returned (wV (-xn)) ∧ Below W.heap.size W w') := fun W => refMinus xn W
      generalize (l[j]'hlt').1.length = nm at *
      clear h1 h2 h3 r1 r2 hx hin
      go_wp2_with fail
      refine q1.out.mono ?_
      rintro e w1 ⟨rfl, hb1⟩
      have B1 : Hid (Below wr.heap.size wr w1) := hb1
      clear hb1 q1
      go_wp2_with fail
      refine (q2.out _).mono ?_
      rintro e w2 ⟨rfl, hb2⟩
      have B2 : Hid (Below wr.heap.size wr w2) := B1.out.trans (hb2.mono B1.out.size)
      clear hb2 q2
      by_cases hin : -9223372036854775808 ≤ -xn ∧ -xn ≤ 9223372036854775807
      · have q3 : Hid (Calls Tryz.prog 48 #[wV (-xn)] w2 fun e w' => e = .returned (.tuple #[.int .i64 (-xn), .bool true]) ∧ Below w2.heap.size w2 w') := refNarrow (-xn) (by omega) (by omega) (-xn) true (fun _ => ⟨rfl, rfl⟩) (fun h => absurd hin h) w2
        have EF : Hid (ngOk (l.take (j + 1)) = true) := HF.out (by unfold inI; simp; omega)
        clear HF HX
        go_wp2_with fail
        refine q3.out.mono ?_
        rintro e w3 ⟨rfl, hb3⟩
        have B3 : Hid (Below wr.heap.size wr w3) := B2.out.trans (hb3.mono B2.out.size)
        have y1 := cell_on x1 B3.out
        have O3 : Hid (w3.ownsRow w.heap.size 37 2 u4 j (es ((vs.take j).map ngV))) := own_on HO.out B3.out
        have hB3 : Hid (Below w.heap.size w w3) := H3.out.trans (B3.out.mono H3.out.size)
        have hsz := hB3.out.size
        have F : Hid (∀ v4 w4, w4.ownsRow w.heap.size 37 2 v4 (j + 1) (es ((vs.take j).map ngV) ++ ec (.slice am nm cm, -xn)) → (w3.alloc (.cells #[.slice am nm cm, .int .i64 (-xn)] 37)).grownBy w4 (Value.ownBlock u4) → NegTo vs l w (j + 1) v4 w4) := by
          intro v4 w4 g1 g2
          exact ⟨EF.out, by rw [HE.out]; exact g1, (hB3.out.alloc hsz _).grown g2 (by simp; omega) (fun k e => (O3.out.lt k e).1)⟩
        clear hb3 q3 x1 x2
        go_wp2_with (first | (at_builtin; refine wpList_append_own _ rfl _ _ 29 rfl w.heap.size 37 i0 (.agg #[.slice none 0 0, .int .i64 0]) 2 32 Tryz.underlying29 hi hz0 hz1 hz2 rfl (by decide) _ j (es ((vs.take j).map ngV)) rfl (O3.out.alloc _) ⟨w3.heap.size, 0, none⟩ 1 1 (ec (.slice am nm cm, -xn)) rfl rfl (cell_two_new _ _ _ _) (by simp [ec, Value.oneCell']) (by unfold maxLen; omega) (by omega) (by simp; omega) ?_; intro v4 w4 hown4 hg4 _; have hs4 := F.out _ _ hown4 hg4; clear hown4 hg4 F) | fail)
        go_roundw
        case rel => exact ⟨j + 1, by omega, by go_num, hs4⟩
        case measure => simp [intOf]; omega
      · have q3 : Hid (Calls Tryz.prog 48 #[wV (-xn)] w2 fun e w' => e = .returned (.tuple #[.int .i64 0, .bool false]) ∧ Below w2.heap.size w2 w') := refNarrow (-xn) (by omega) (by omega) 0 false (fun h => absurd h hin) (fun _ => ⟨rfl, rfl⟩) w2
        have EM : Hid (c = 107 ∧ ngZ l = []) := HN.out (HX.out (by unfold inI; simp; omega))
        clear HF HX
        go_wp2_with fail
        refine q3.out.mono ?_
        rintro e w3 ⟨rfl, hb3⟩
        have B3 : Hid (Below wr.heap.size wr w3) := B2.out.trans (hb3.mono B2.out.size)
        have hB3 : Hid (Below w.heap.size w w3) := H3.out.trans (B3.out.mono H3.out.size)
        clear hb3 q3 x1 x2
        go_wp2_with fail
        go_ret2
        refine ⟨.slice none 0 0, ?_, ?_, hB3.out⟩
        · rw [EM.out.1]; rfl
        · rw [EM.out.2]; exact ⟨[], World.ownsRow_nil _ _ _ _, Reads.nil _⟩
    · have I1 : ¬ (j : Int) < (vs.length : Int) := by omega
      obtain rfl : j = vs.length := by omega
      have hl : l.take vs.length = l := List.take_of_length_le (by rw [Hr.out.1]; exact Nat.le_refl _)
      rw [hl] at h1
      rw [List.take_length] at h2
      have EM : Hid (c = 0 ∧ ngZ l = l.map ngE) := HM.out h1
      have HE : Hid (EntsN w.heap.size w0 (l.map ngE) u4 wr) := ⟨vs.map ngV, by rw [List.length_map]; exact h2, Hr.out.neg⟩
      have H3 : Hid (Below w.heap.size w wr) := h3
      clear h1 h2 h3 hl
      go_wp2_with fail
      go_ret2
      refine ⟨u4, ?_, ?_, H3.out⟩
      · rw [EM.out.1]; rfl
      · rw [EM.out.2]; exact HE.out
theorem refNeg (l : List Ent) (va : Value) (w : World) (hn : l.length ≤ 65536) (hk : ∀ e ∈ l, inI e.2 = true) (ha : EntsIs w va l) (c : Int) (hc : c = if ngOk l then 0 else 107) :
    Calls Tryz.prog 26 #[va] w fun e w' => ∃ v, e = .returned (.tuple #[v, .int .i64 c]) ∧ EntsIs w' v (ngZ l) ∧ Below w.heap.size w w' := by
  refine (refNegR l va w w hn hk ha c hc).mono ?_
  rintro e w' ⟨v, rfl, ⟨us, k1, k2⟩, k3⟩
  exact ⟨v, rfl, ⟨us, EntsAt.of_own k1, k2.on k3⟩, k3⟩
end Go.Proofs.YtglbipnppldkmaaGreatDoor
