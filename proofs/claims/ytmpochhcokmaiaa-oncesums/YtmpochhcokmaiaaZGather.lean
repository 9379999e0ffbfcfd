/- What the document's own gather answers of entries in memory: rows in order, each once, with the sum of its weights. -/
import Derived.Test.YtmpochhcokmaiaaZSum
import Derived.Test.YtmpochhcokmaiaaZRef
import Derived.RegionTactic
import Derived.Deep.RegionWith
namespace Go.Proofs.Ytmpochhcokmaiaa
open Go.RowKit Go.Sort
set_option maxRecDepth 100000

/-- How far the gathering has come. -/
def GatTo (l : List Ent) (w w0 : World) (j : Nat) (v : Value) (wr : World) : Prop :=
  ∃ vs, OwnS w.heap.size wr v vs ∧ Reads w0 vs (gat (l.take j)) ∧ Below w.heap.size w wr
theorem GatTo.drew {l : List Ent} {w w0 : World} {j : Nat} {v : Value} {wr : World} (h : GatTo l w w0 j v wr) : GatTo l w w0 j v wr.drew := by
  obtain ⟨vs, h1, h2, h3⟩ := h; exact ⟨vs, h1, h2, h3.drew⟩
/-- The box of one wide number. -/
def BoxAt (b : Nat) (x y z : Nat) (w : World) : Prop := w.heap[b]? = some (.cells #[.int .u64 x, .int .u64 y, .int .u64 z] 52 (0, 0))
theorem BoxAt.lt {b x y z : Nat} {w : World} (h : BoxAt b x y z w) : b < w.heap.size := (Array.getElem?_eq_some_iff.1 h).1
theorem BoxAt.on {b x y z : Nat} {w w' : World} (h : BoxAt b x y z w) (k : Below w.heap.size w w') : BoxAt b x y z w' := by unfold BoxAt; rw [k.block b h.lt]; exact h
theorem BoxAt.cells {b x y z : Nat} {w : World} (h : BoxAt b x y z w) : w.cell? ⟨b, 0, none⟩ = some (.int .u64 x) ∧ w.cell? ⟨b, 1, none⟩ = some (.int .u64 y) ∧ w.cell? ⟨b, 2, none⟩ = some (.int .u64 z) :=
  ⟨by rw [Lib.cell_of_heap h]; rfl, by rw [Lib.cell_of_heap h]; rfl, by rw [Lib.cell_of_heap h]; rfl⟩
theorem BoxAt.grown {b x y z : Nat} {w w' : World} {row : Option Nat} (h : BoxAt b x y z w) (k : w.grownBy w' row) (hr : row ≠ some b) : BoxAt b x y z w' := by
  unfold BoxAt; rw [k.block b h.lt (fun e => hr e.symm)]; exact h
theorem BoxAt.ne {b x y z base g n cap : Nat} {xs : List Value} {w : World} (h : BoxAt b x y z w) (k : w.ownsRow base 54 4 (.slice (some ⟨g, 0, none⟩) n cap) n xs) : g ≠ b := by
  rintro rfl
  rcases k.2 with ⟨e, _⟩ | ⟨g', cap', cur, hv, _, hh, _⟩
  · cases e
  · simp only [Value.slice.injEq, Option.some.injEq, Addr.mk.injEq, and_true] at hv
    obtain ⟨rfl, _⟩ := hv
    unfold BoxAt at h
    rw [h] at hh
    simp only [Option.some.injEq, Obj.cells.injEq] at hh
    exact absurd hh.2.1 (by decide)
theorem info_sum : (Try.prog.info? 54).map (fun i => (i.zero, i.size, i.bytes)) = some (some (.agg #[.slice none 0 0, .int .u64 0, .int .u64 0, .int .u64 0]), 4, 48) := by kernel_rfl
/-- While the others go up. -/
def UpTo (w : World) (vs : List VEnt) (b x y z : Nat) (v : Value) (k : Nat) (w' : World) : Prop :=
  w'.ownsRow w.heap.size 54 4 v (vs.length + 1) (ss (up vs (.slice none 0 0, 0) k)) ∧ Below w.heap.size w w' ∧ BoxAt b x y z w'
theorem cell_four_new (w : World) (x y z u : Value) (t : TypeId) : ∀ j c, [x, y, z, u][j]? = some c → (w.alloc (.cells #[x, y, z, u] t)).cell? ((⟨w.heap.size, 0, none⟩ : Addr).add j) = some c := by
  intro j c h
  rw [add_plain, World.cell?_alloc_at _ _ _ _ rfl]
  simpa using h
theorem store_four {w : World} {base g n cap : Nat} {e : TypeId} {xs : List Value} (h : w.ownsRow base e 4 (.slice (some ⟨g, 0, none⟩) n cap) n xs) (o : Nat) (c0 c1 c2 c3 : Value) :
    ((((w.setCell ⟨g, o, none⟩ c0).setCell ⟨g, o + 1, none⟩ c1).setCell ⟨g, o + 2, none⟩ c2).setCell ⟨g, o + 3, none⟩ c3).ownsRow base e 4 (.slice (some ⟨g, 0, none⟩) n cap) n ((((xs.set o c0).set (o + 1) c1).set (o + 2) c2).set (o + 3) c3) ∧
    w.grownBy ((((w.setCell ⟨g, o, none⟩ c0).setCell ⟨g, o + 1, none⟩ c1).setCell ⟨g, o + 2, none⟩ c2).setCell ⟨g, o + 3, none⟩ c3) (some g) := by
  obtain ⟨a1, g1⟩ := h.stored o c0
  obtain ⟨a2, g2⟩ := a1.stored (o + 1) c1
  obtain ⟨a3, g3⟩ := a2.stored (o + 2) c2
  obtain ⟨a4, g4⟩ := a3.stored (o + 3) c3
  exact ⟨a4, grown_trans (grown_trans (grown_trans g1 g2) g3) g4⟩
theorem there_sum {w : World} {base g n cap : Nat} {xs : List Value} (h : w.ownsRow base 54 4 (.slice (some ⟨g, 0, none⟩) n cap) n xs) (i : Nat) (hi : i < n) : w.there g (i * 4) 4 := by
  intro j hj
  refine ⟨?_, h.frozenAt _⟩
  have hx := h.1
  rw [h.cellAt (i * 4 + j) (by omega), List.getElem?_eq_getElem (by omega)]
  rfl
theorem size_sum : (Try.prog.info? 54).map (·.size) = some 4 := by kernel_rfl
/-- A sum put into the list that the call owns, as the walk meets it. -/
theorem wpList_store_sum {ops : Array Oper} {rest : List Oper} {op : Oper} {a : Act} {w : World} {Q : Exit → Act → World → Prop} (hgd : op.guard = none) (x y : Operand) (ho : op.op = .store 54 x y)
    {g : Nat} (i : Nat) (a' : Option Addr) (n' c' : Nat) (x0 x1 x2 : Int) (ht : w.there g (i * 4) 4) (hx : a.eval x = .pointer (some ⟨g, i * 4, none⟩)) (hy : a.eval y = .agg #[.slice a' n' c', .int .u64 x0, .int .u64 x1, .int .u64 x2])
    (h : ∀ w', w' = ((((w.setCell ⟨g, i * 4, none⟩ (.slice a' n' c')).setCell ⟨g, i * 4 + 1, none⟩ (.int .u64 x0)).setCell ⟨g, i * 4 + 2, none⟩ (.int .u64 x1)).setCell ⟨g, i * 4 + 3, none⟩ (.int .u64 x2)) → wpList Try.prog ops Q rest (a.put op.dst undef) w') : wpList Try.prog ops Q (op :: rest) a w :=
  wpList_store_mid hgd 54 x y ho g (i * 4) _ hx hy ht size_sum (by simp [Value.oneCell']) (h _ rfl)
set_option maxHeartbeats 4000000 in
theorem refGatherR (l : List Ent) (va : Value) (w w0 : World) (h0 : ∀ v r, RowIs w0 v r → RowIs w v r) (hn : l.length ≤ 65536) (hk : ∀ e ∈ l, inI e.2 = true) (ha : EntsR w w0 va l) :
    Calls Try.prog 17 #[va] w fun e w' => ∃ v, e = .returned v ∧ GatTo l w w0 l.length v w' := by
  obtain ⟨a0, cap, rfl⟩ := ha.form
  have Ha : Hid (EntsR w w0 (.slice a0 l.length cap) l) := ha
  have Hk : Hid (∀ e ∈ l, inI e.2 = true) := hk
  have H0 : Hid (GatTo l w w0 0 (.slice none 0 0) w) := ⟨[], World.ownsRow_nil _ _ _ _, Reads.nil w0, Below.refl _ _⟩
  have H00 : Hid (∀ v r, RowIs w0 v r → RowIs w v r) := h0
  clear ha hk h0
  go_enter Try.func17, Try.ntmps17
  go_wp2_with fail
  go_loopw [3, 4] (fun v i wr => ∃ j : Nat, j ≤ l.length ∧ i = .int .i64 j ∧ GatTo l w w0 j v wr) (fun _ i _ => l.length - (intOf i).toNat)
  case atStart => exact ⟨0, by omega, rfl, H0.out⟩
  case round =>
    obtain ⟨W0, hW0⟩ : ∃ W0, W0 = wr := ⟨wr, rfl⟩
    subst hW0
    obtain ⟨j, hj, rfl, vs, hO, hR, hB⟩ := hrel
    by_cases k1 : j < l.length
    · obtain ⟨av, capv, rfl⟩ := hO.form
      obtain ⟨b, o, a1, c1, rfl, x1, x2, x3⟩ := Ha.out.at j k1
      have I1 : (j : Int) < (l.length : Int) := by omega
      have hlen : vs.length ≤ j := by rw [hR.1]; have := gat_len (l.take j); simp at this; omega
      have HZ : Hid (SortedZ (gat (l.take j))) := gat_sorted _
      have HG : Hid (gat (l.take (j + 1)) = ins l[j].1 l[j].2 (gat (l.take j))) := by show _ = _; rw [List.take_succ_eq_append_getElem k1, gat_snoc]
      have HO : Hid (OwnS w.heap.size W0 (.slice av vs.length capv) vs) := hO
      have HR : Hid (Reads w0 vs (gat (l.take j))) := hR
      have HB : Hid (Below w.heap.size w W0) := hB
      have HX : Hid (RowIs w0 (.slice a1 l[j].1.length c1) l[j].1) := x3
      have HXw : Hid (RowIs w (.slice a1 l[j].1.length c1) l[j].1) := H00.out _ _ x3
      have HK : Hid (inI l[j].2 = true) := Hk.out _ (List.getElem_mem k1)
      have X1 : Hid (w.cell? ⟨b, o + j * 2, none⟩ = some (.slice a1 l[j].1.length c1)) := x1
      have X2 : Hid (w.cell? ⟨b, o + j * 2 + 1, none⟩ = some (.int .i64 l[j].2)) := x2
      have hnz : (gat (l.take j)).length = vs.length := hR.1.symm
      generalize gat (l.take j) = z at *
      generalize l[j].1 = r at *
      generalize l[j].2 = kk at *
      clear hO hR hB x1 x2 x3
      go_wp2_with fail
      go_loopw [5, 6] (fun lo hi w2 => ∃ p q : Nat, p ≤ q ∧ q ≤ vs.length ∧ lo = .int .i64 p ∧ hi = .int .i64 q ∧ Hid (Split z r p q) ∧ Hid (Below W0.heap.size W0 w2)) (fun lo hi _ => (intOf hi).toNat - (intOf lo).toNat)
      case atStart => exact ⟨0, vs.length, by omega, by omega, rfl, rfl, by rw [← hnz]; exact Split.all z r, Below.refl _ _⟩
      case round =>
        obtain ⟨w2, hw2⟩ : ∃ w2, w2 = wr := ⟨wr, rfl⟩
        subst hw2
        obtain ⟨p, q, hpq, hq, rfl, rfl, hs, hb2⟩ := hrel
        by_cases hlt : p < q
        · have hm : (p + q) / 2 < vs.length := by omega
          have hm' : (p + q) / 2 < z.length := by omega
          have hm1 : p ≤ (p + q) / 2 ∧ (p + q) / 2 < q := by omega
          have hB2 : Hid (Below w.heap.size w w2) := HB.out.trans (hb2.out.mono HB.out.size)
          obtain ⟨g, rfl, hg1, hg2, y1, _⟩ := (HO.out.on hb2.out).at ((p + q) / 2) hm
          obtain ⟨r1, _⟩ := HR.out.2 ((p + q) / 2) hm hm'
          obtain ⟨am, cm, em⟩ := r1.form
          rw [em] at y1 r1
          have r1 := H00.out _ _ r1
          have I2 : (p : Int) < (q : Int) := by omega
          have I3 : Int.tdiv ((p : Int) + (q : Int)) 2 = (((p + q) / 2 : Nat) : Int) := by rw [Int.tdiv_eq_ediv_of_nonneg (by omega)]; omega
          have E1 : Hid (cR z[(p + q) / 2].1 r < 0 → Split z r ((p + q) / 2 + 1) q) := fun h => hs.out.up HZ.out hm' h
          have E2 : Hid (¬ cR z[(p + q) / 2].1 r < 0 → Split z r p ((p + q) / 2)) := fun h => hs.out.down HZ.out hm' h
          have q1 : Hid (∀ d os, Calls Try.prog 13 #[.slice am z[(p + q) / 2].1.length cm, .slice a1 r.length c1] (grow (redrawn w2 d) os) fun e w'' => e = .returned (.int .i64 (cR z[(p + q) / 2].1 r)) ∧ ∃ p : Regrown, w'' = grow (redrawn w2 p.d) p.os) :=
            fun d os => Calls.regrown_of (refCompareRows _ _ _ _ _ (r1.on (hB2.out.trans ((below_regrown w2 d os).mono hB2.out.size))) (HXw.out.on (hB2.out.trans ((below_regrown w2 d os).mono hB2.out.size))))
          have g1 := fun d os => cell_regrown y1 d os
          have g2 := fun d os => cell_regrown (cell_on X1.out hB2.out) d os
          generalize cR z[(p + q) / 2].1 r = c at *
          generalize z[(p + q) / 2].1.length = nm at *
          generalize (p + q) / 2 = m at *
          have I4 : (m : Int) < (vs.length : Int) := by omega
          clear y1 r1 em hs
          go_wp2_with fail
          refine wp_region_quiet_below (by kernel_rfl) (by kernel_rfl) ?_
          iterate 12 (quiet_step (exact q1.out _ _))
          refine wpQuiet_nil ?_
          intro w6 hw6
          obtain ⟨p6, hw6⟩ := hw6
          have hb6 : Hid (Below W0.heap.size W0 w6) := by rw [hw6]; exact hb2.out.trans ((below_regrown w2 _ _).mono hb2.out.size)
          clear hw6 g1 g2 q1 hb2 hB2
          by_cases hc : c < 0
          · have E : Hid (Split z r (m + 1) q) := E1.out hc
            clear E1 E2
            go_wp2_with fail
            go_roundw
            case rel => exact ⟨m + 1, q, by omega, by omega, by go_num, rfl, E.out, hb6.out⟩
            case measure => simp [intOf]; omega
          · have E : Hid (Split z r p m) := E2.out (by omega)
            clear E1 E2
            go_wp2_with fail
            go_roundw
            case rel => exact ⟨p, m, by omega, by omega, rfl, rfl, E.out, hb6.out⟩
            case measure => simp [intOf]; omega
        · obtain rfl : p = q := by omega
          have hB2 : Hid (Below w.heap.size w w2) := HB.out.trans (hb2.out.mono HB.out.size)
          have x2 := cell_on X2.out hB2.out
          have I2 : ¬ (p : Int) < (p : Int) := by omega
          have hkk : -9223372036854775808 ≤ kk ∧ kk ≤ 9223372036854775807 := by have := HK.out; unfold inI at this; simpa using this
          have q1 : Hid (Calls Try.prog 22 #[.int .i64 kk, .int .i64 1] w2 fun e w' => e = .returned (wV kk) ∧ Below w2.heap.size w2 w') := by
            have := refTimes kk 1 hkk (by omega) w2
            rw [Int.mul_one] at this; exact this
          unfold wV at q1
          generalize hHi : wHi kk = khi at *
          generalize hMid : wMid kk = kmid at *
          generalize hLo : wLo kk = klo at *
          go_wp2_with fail
          refine q1.out.mono ?_
          rintro e w3 ⟨rfl, hb3⟩
          clear q1 x2
          go_wp2_with fail
          have hb4 : Hid (Below W0.heap.size W0 (w3.alloc (.cells #[.int .u64 khi, .int .u64 kmid, .int .u64 klo] 52))) := (hb2.out.trans (hb3.mono hb2.out.size)).alloc (Nat.le_trans hb2.out.size hb3.size) _
          have b4 : Hid (BoxAt w3.heap.size khi kmid klo (w3.alloc (.cells #[.int .u64 khi, .int .u64 kmid, .int .u64 klo] 52))) := heap_alloc_new _ _
          have hbx : W0.heap.size ≤ w3.heap.size := Nat.le_trans hb2.out.size hb3.size
          generalize w3.alloc _ = W4 at *
          generalize w3.heap.size = bx at *
          clear hb3 hb2 hB2
          have hB4 : Hid (Below w.heap.size w W4) := HB.out.trans (hb4.out.mono HB.out.size)
          by_cases hp : p < vs.length
          · have hp' : p < z.length := by omega
            obtain ⟨g, rfl, hg1, hg2, y1, y2, y3, y4⟩ := (HO.out.on hb4.out).at p hp
            obtain ⟨r1, r2⟩ := HR.out.2 p hp hp'
            obtain ⟨am, cm, em⟩ := r1.form
            rw [em] at y1 r1
            have r1 := H00.out _ _ r1
            have I5 : (p : Int) < (vs.length : Int) := by omega
            have q1 : Hid (∀ d os, Calls Try.prog 13 #[.slice am z[p].1.length cm, .slice a1 r.length c1] (grow (redrawn W4 d) os) fun e w'' => e = .returned (.int .i64 (cR z[p].1 r)) ∧ ∃ p : Regrown, w'' = grow (redrawn W4 p.d) p.os) :=
              fun d os => Calls.regrown_of (refCompareRows _ _ _ _ _ (r1.on (hB4.out.trans ((below_regrown W4 d os).mono hB4.out.size))) (HXw.out.on (hB4.out.trans ((below_regrown W4 d os).mono hB4.out.size))))
            have g1 := fun d os => cell_regrown y1 d os
            have g2 := fun d os => cell_regrown (cell_on X1.out hB4.out) d os
            have EH : Hid (cR z[p].1 r = 0 → ins r kk z = z.set p (z[p].1, z[p].2 + kk)) := fun h => ins_hit hs.out hp' h
            have EN : Hid (cR z[p].1 r ≠ 0 → ins r kk z = z.take p ++ (r, kk) :: z.drop p) := fun h => ins_new hs.out (by omega) (fun _ => h)
            generalize hcc : cR z[p].1 r = c at *
            generalize z[p].1.length = nm at *
            clear y1 y2 y3 y4 r1 hcc hs
            go_wp2_with fail
            refine wp_region_quiet_below (by kernel_rfl) (by kernel_rfl) ?_
            iterate 16 (go_big_quiet_step (exact q1.out _ _))
            iterate 2 (go_big_quiet_step (fail))
            refine wpQuiet_nil ?_
            intro w6 hw6
            obtain ⟨p6, hw6⟩ := hw6
            have hb6 : Hid (Below W0.heap.size W0 w6) := by rw [hw6]; exact hb4.out.trans ((below_regrown W4 _ _).mono hb4.out.size)
            have b6 : Hid (BoxAt bx khi kmid klo w6) := by
              rw [hw6]; exact b4.out.on (below_regrown W4 _ _)
            clear hw6 g1 g2 q1 hb4 b4
            by_cases hc : c = 0
            · subst hc
              have EZ : Hid (ins r kk z = z.set p (z[p].1, z[p].2 + kk)) := EH.out rfl
              clear EH EN
              obtain ⟨_, e1, _, _, y1, y2, y3, y4⟩ := (HO.out.on hb6.out).at p hp
              simp only [Option.some.injEq, Addr.mk.injEq, and_true] at e1
              subst e1
              obtain ⟨z1, z2, z3⟩ := b6.out.cells
              have qp : Hid (∀ W, Below w6.heap.size w6 W → Calls Try.prog 23 #[.agg #[.int .u64 (wHi vs[p].2), .int .u64 (wMid vs[p].2), .int .u64 (wLo vs[p].2)], .agg #[.int .u64 khi, .int .u64 kmid, .int .u64 klo]] W fun e w' => e = .returned (.agg #[.int .u64 (wHi (vs[p].2 + kk)), .int .u64 (wMid (vs[p].2 + kk)), .int .u64 (wLo (vs[p].2 + kk))]) ∧ Below w6.heap.size w6 w') := fun W hW => by
                have := refPlus vs[p].2 kk W
                unfold wV at this
                rw [hHi, hMid, hLo] at this
                exact this.mono fun e w' ⟨h1, h2⟩ => ⟨h1, hW.trans (h2.mono hW.size)⟩
              have hg6 : g < w6.heap.size := Nat.lt_of_lt_of_le (World.block_lt_of_cell? _ _ y1) (Nat.le_refl _)
              have FZ : Hid (∀ o, w6.frozen? ⟨g, o, none⟩ = false) := fun o => (HO.out.on hb6.out).frozen o
              have FA : Hid (∀ w7, Hid (Below w6.heap.size w6 w7) → GatTo l w w0 (j + 1) (.slice (some ⟨g, 0, none⟩) vs.length capv) (((w7.setCell ⟨g, p * 4 + 1, none⟩ (.int .u64 (wHi (vs[p].2 + kk)))).setCell ⟨g, p * 4 + 1 + 1, none⟩ (.int .u64 (wMid (vs[p].2 + kk)))).setCell ⟨g, p * 4 + 1 + 2, none⟩ (.int .u64 (wLo (vs[p].2 + kk))))) := by
                intro w7 h7
                have o7 : w7.ownsRow w.heap.size 54 4 (.slice (some ⟨g, 0, none⟩) vs.length capv) vs.length (ss vs) := (HO.out.on hb6.out).on h7.out
                have s1 := o7.stored (p * 4 + 1) (.int .u64 (wHi (vs[p].2 + kk)))
                have s2 := s1.1.stored (p * 4 + 1 + 1) (.int .u64 (wMid (vs[p].2 + kk)))
                have s3 := s2.1.stored (p * 4 + 1 + 2) (.int .u64 (wLo (vs[p].2 + kk)))
                refine ⟨vs.set p (vs[p].1, vs[p].2 + kk), ?_, ?_, ?_⟩
                · unfold OwnS; rw [List.length_set, ss_setw vs p hp]; exact s3.1
                · rw [HG.out, EZ.out, ← r2]; exact HR.out.setw p hp hp' _
                · have hbb := (HB.out.trans (hb6.out.mono HB.out.size)).trans (h7.out.mono (Nat.le_trans HB.out.size hb6.out.size))
                  exact ((hbb.setCell (p := ⟨g, p * 4 + 1, none⟩) hg1 _).setCell (p := ⟨g, p * 4 + 1 + 1, none⟩) hg1 _).setCell (p := ⟨g, p * 4 + 1 + 2, none⟩) hg1 _
              generalize hshi : wHi (vs[p].2 + kk) = shi at *
              generalize hsmid : wMid (vs[p].2 + kk) = smid at *
              generalize hslo : wLo (vs[p].2 + kk) = slo at *
              generalize hthi : wHi vs[p].2 = thi at *
              generalize htmid : wMid vs[p].2 = tmid at *
              generalize htlo : wLo vs[p].2 = tlo at *
              clear y1 b6
              go_wp2_with fail
              go_region_with (go_at_call 23; refine (qp.out _ ((Below.refl _ _).drew)).mono ?_; rintro e w7 ⟨rfl, hb7⟩; have hb7' : Hid (Below w6.heap.size w6 w7) := hb7; have cc := fun o => hb7.cell (p := ⟨g, o, none⟩) hg6; have ff := fun o => hb7.frozen (p := ⟨g, o, none⟩) hg6; have fz := FZ.out; clear hb7)
              all_goals
                have hf := FA.out _ hb7'
                clear FA qp cc ff fz hb7' EZ
                go_wp2_with fail
                go_roundw
                case rel => exact ⟨j + 1, by omega, by go_num, hf⟩
                case measure => simp [intOf]; omega
            · have EZ : Hid (ins r kk z = z.take p ++ (r, kk) :: z.drop p) := EN.out hc
              have ee : (c == 0) = false := by simp [hc]
              clear EH EN
              have H6 : Hid (w6.ownsRow w.heap.size 54 4 (.slice (some ⟨g, 0, none⟩) vs.length capv) vs.length (ss vs)) := HO.out.on hb6.out
              have F8 : Hid (∀ v2 w8, w8.ownsRow w.heap.size 54 4 v2 (vs.length + 1) (ss vs ++ sc (.slice none 0 0, 0)) → (w6.alloc (.cells #[.slice none 0 0, .int .u64 0, .int .u64 0, .int .u64 0] 54)).grownBy w8 (Value.ownBlock (.slice (some ⟨g, 0, none⟩) vs.length capv)) → ∃ g2 cap2, v2 = .slice (some ⟨g2, 0, none⟩) (vs.length + 1) cap2 ∧ Hid (UpTo w vs bx khi kmid klo v2 vs.length w8)) := by
                intro v2 w8 h1 h2
                have hbA := HB.out.trans (hb6.out.mono HB.out.size)
                have hb8 : Below w.heap.size w w8 := (hbA.alloc hbA.size _).grown h2 (by have := hbA.size; simp; omega) (fun k e => (H6.out.lt k e).1)
                have hU : UpTo w vs bx khi kmid klo v2 vs.length w8 := ⟨by rw [up_first, ss_snoc]; exact h1, hb8, (b6.out.on one_box).grown h2 (fun e => by have := (HO.out.lt bx e).2; omega)⟩
                rcases h1.2 with ⟨_, e⟩ | ⟨g2, cap2, cur, hv, _⟩
                · omega
                · exact ⟨g2, cap2, hv, hU⟩
              obtain ⟨i0, hi, hz0, hz1, hz2⟩ := info_parts info_sum
              go_wp2_with (first | (at_builtin; refine wpList_append_own _ rfl _ _ 46 rfl w.heap.size 54 i0 (.agg #[.slice none 0 0, .int .u64 0, .int .u64 0, .int .u64 0]) 4 48 Try.underlying46 hi hz0 hz1 hz2 rfl (by decide) _ vs.length (ss vs) rfl (H6.out.alloc _) ⟨w6.heap.size, 0, none⟩ 1 1 (sc (.slice none 0 0, 0)) rfl rfl (cell_four_new _ _ _ _ _ _) (by simp [sc, Value.oneCell']) (by unfold maxLen; omega) (by omega) (by have := HB.out.size; have := hb6.out.size; simp; omega) ?_; intro v2 w8 hown8 hg8 _; obtain ⟨g2, cap2, rfl, hU⟩ := F8.out _ _ hown8 hg8; clear hown8 hg8 F8 H6) | fail)
              have hpn : p ≤ vs.length := by omega
              clear hi hz0 hz1 hz2
              go_loopw [9] (fun kv w9 => ∃ k : Nat, p ≤ k ∧ k ≤ vs.length ∧ kv = .int .i64 k ∧ Hid (UpTo w vs bx khi kmid klo (.slice (some ⟨g2, 0, none⟩) (vs.length + 1) cap2) k w9)) (fun kv _ => (intOf kv).toNat)
              case atStart => exact ⟨vs.length, by omega, by omega, by go_num, hU.out⟩
              case round =>
                obtain ⟨w9, hw9⟩ : ∃ w9, w9 = wr := ⟨wr, rfl⟩
                subst hw9
                obtain ⟨k, hpk, hkn, rfl, hU9⟩ := hrel
                obtain ⟨u1, u2, u3⟩ := hU9.out
                have hg2 : w.heap.size ≤ g2 := (u1.lt g2 rfl).1
                have hgb : g2 ≠ bx := u3.ne u1
                have FZ : Hid (∀ o, w9.frozen? ⟨g2, o, none⟩ = false) := fun o => u1.frozenAt o
                by_cases hk : p < k
                · have I6 : (p : Int) < (k : Int) := by omega
                  have hk1 : k - 1 < vs.length := by omega
                  have I7 : (k : Int) < (vs.length : Int) + 1 := by omega
                  have I8 : (k : Int) - 1 < (vs.length : Int) + 1 := by omega
                  have I9 : ((k : Int) - 1).toNat = k - 1 := by omega
                  have I10 : 0 ≤ (k : Int) - 1 := by omega
                  have e1 : (up vs (.slice none 0 0, 0) k)[k - 1]? = some vs[k - 1] := by rw [up_at (by omega) hkn, List.getElem?_eq_getElem hk1]
                  have hl1 : k - 1 < (up vs (.slice none 0 0, 0) k).length := by rw [up_len hkn]; omega
                  have hl2 : k < (up vs (.slice none 0 0, 0) k).length := by rw [up_len hkn]; omega
                  have e2 : (up vs (.slice none 0 0, 0) k)[k - 1] = vs[k - 1] := by rw [List.getElem?_eq_getElem hl1] at e1; exact Option.some.inj e1
                  have s1 := ss_at (up vs (.slice none 0 0, 0) k) (k - 1) hl1
                  have s2 := ss_at (up vs (.slice none 0 0, 0) k) k hl2
                  rw [e2] at s1
                  obtain ⟨am, cm, em⟩ := (HR.out.2 (k - 1) hk1 (by omega)).1.form
                  have y1 : w9.cell? ⟨g2, (k - 1) * 4, none⟩ = some (.slice am (z[k - 1]'(by omega)).1.length cm) := by rw [u1.cellAt _ (by omega), ← em]; exact s1.1
                  have y2 : w9.cell? ⟨g2, (k - 1) * 4 + 1, none⟩ = some (.int .u64 (wHi vs[k - 1].2)) := by rw [u1.cellAt _ (by omega)]; exact s1.2.1
                  have y3 : w9.cell? ⟨g2, (k - 1) * 4 + 2, none⟩ = some (.int .u64 (wMid vs[k - 1].2)) := by rw [u1.cellAt _ (by omega)]; exact s1.2.2.1
                  have y4 : w9.cell? ⟨g2, (k - 1) * 4 + 3, none⟩ = some (.int .u64 (wLo vs[k - 1].2)) := by rw [u1.cellAt _ (by omega)]; exact s1.2.2.2
                  have t1 := (u1.cellAt (k * 4) (by omega)).trans s2.1
                  have t2 := (u1.cellAt (k * 4 + 1) (by omega)).trans s2.2.1
                  have t3 := (u1.cellAt (k * 4 + 2) (by omega)).trans s2.2.2.1
                  have t4 := (u1.cellAt (k * 4 + 3) (by omega)).trans s2.2.2.2
                  have FU : Hid (UpTo w vs bx khi kmid klo (.slice (some ⟨g2, 0, none⟩) (vs.length + 1) cap2) (k - 1) ((((w9.setCell ⟨g2, k * 4, none⟩ (.slice am (z[k - 1]'(by omega)).1.length cm)).setCell ⟨g2, k * 4 + 1, none⟩ (.int .u64 (wHi vs[k - 1].2))).setCell ⟨g2, k * 4 + 2, none⟩ (.int .u64 (wMid vs[k - 1].2))).setCell ⟨g2, k * 4 + 3, none⟩ (.int .u64 (wLo vs[k - 1].2)))) := by
                    obtain ⟨f1, f2⟩ := store_four u1 (k * 4) (.slice am (z[k - 1]'(by omega)).1.length cm) (.int .u64 (wHi vs[k - 1].2)) (.int .u64 (wMid vs[k - 1].2)) (.int .u64 (wLo vs[k - 1].2))
                    refine ⟨?_, u2.grown f2 u2.size (fun g e => by cases e; exact hg2), u3.grown f2 (fun e => hgb (by simpa using e))⟩
                    rw [← up_step (by omega) hkn vs[k - 1] (List.getElem?_eq_getElem hk1), ss_set _ k _ hl2, em]
                    exact f1
                  generalize wHi vs[k - 1].2 = thi at *
                  generalize wMid vs[k - 1].2 = tmid at *
                  generalize wLo vs[k - 1].2 = tlo at *
                  generalize (z[k - 1]'(by omega)).1.length = nm at *
                  have HT : Hid (w9.there g2 (k * 4) 4) := there_sum u1 k (by omega)
                  clear u1 u2 u3 s1 s2 e1 e2 em hU9 FZ t1 t2 t3 t4
                  go_wp2_with (first | (refine wpList_store_sum rfl (.tmp 94) (.tmp 93) rfl k am nm cm thi tmid tlo HT.out rfl rfl ?_; intro w10 hw10; have hU10 : Hid (UpTo w vs bx khi kmid klo (.slice (some ⟨g2, 0, none⟩) (vs.length + 1) cap2) (k - 1) w10) := (by rw [hw10]; exact FU.out); clear hw10 FU) | fail)
                  go_roundw
                  case rel => exact ⟨k - 1, by omega, by omega, by go_num, hU10.out⟩
                  case measure => simp [intOf]; omega
                · obtain rfl : p = k := by omega
                  have I6 : ¬ (p : Int) < (p : Int) := by omega
                  have I7 : (p : Int) < (vs.length : Int) + 1 := by omega
                  have hl2 : p < (up vs (.slice none 0 0, 0) p).length := by rw [up_len hkn]; omega
                  have s2 := ss_at (up vs (.slice none 0 0, 0) p) p hl2
                  have t1 := (u1.cellAt (p * 4) (by omega)).trans s2.1
                  have t2 := (u1.cellAt (p * 4 + 1) (by omega)).trans s2.2.1
                  have t3 := (u1.cellAt (p * 4 + 2) (by omega)).trans s2.2.2.1
                  have t4 := (u1.cellAt (p * 4 + 3) (by omega)).trans s2.2.2.2
                  obtain ⟨z1, z2, z3⟩ := u3.cells
                  have x1 := cell_on X1.out u2
                  have FU : Hid (GatTo l w w0 (j + 1) (.slice (some ⟨g2, 0, none⟩) (vs.length + 1) cap2) ((((w9.setCell ⟨g2, p * 4, none⟩ (.slice a1 r.length c1)).setCell ⟨g2, p * 4 + 1, none⟩ (.int .u64 khi)).setCell ⟨g2, p * 4 + 2, none⟩ (.int .u64 kmid)).setCell ⟨g2, p * 4 + 3, none⟩ (.int .u64 klo))) := by
                    obtain ⟨f1, f2⟩ := store_four u1 (p * 4) (.slice a1 r.length c1) (.int .u64 khi) (.int .u64 kmid) (.int .u64 klo)
                    refine ⟨vs.take p ++ (.slice a1 r.length c1, kk) :: vs.drop p, ?_, ?_, u2.grown f2 u2.size (fun g e => by cases e; exact hg2)⟩
                    · have e3 : (vs.take p ++ (Value.slice a1 r.length c1, kk) :: vs.drop p).length = vs.length + 1 := by simp; omega
                      unfold OwnS
                      rw [e3, ← up_put (z := (.slice none 0 0, 0)) hpn, ss_set _ p _ hl2]
                      simp only [hHi, hMid, hLo]
                      exact f1
                    · rw [HG.out, EZ.out]; exact HR.out.put HX.out kk p
                  have HT : Hid (w9.there g2 (p * 4) 4) := there_sum u1 p (by omega)
                  have fz := FZ.out
                  clear u1 u2 u3 s2 hU9 FZ
                  go_wp2_with fail
                  go_region
                  all_goals
                    have hf : GatTo l w w0 (j + 1) (.slice (some ⟨g2, 0, none⟩) (vs.length + 1) cap2) ((((w9.setCell ⟨g2, p * 4, none⟩ (.slice a1 r.length c1)).setCell ⟨g2, p * 4 + 1, none⟩ (.int .u64 khi)).setCell ⟨g2, p * 4 + 2, none⟩ (.int .u64 kmid)).setCell ⟨g2, p * 4 + 3, none⟩ (.int .u64 klo)).drew := FU.out.drew
                    clear FU t1 t2 t3 t4 z1 z2 z3 x1
                    go_wp2_with fail
                    go_roundw
                    case rel => exact ⟨j + 1, by omega, by go_num, hf⟩
                    case measure => simp [intOf]; omega
          · have I5 : decide ((p : Int) < (vs.length : Int)) = false := by simp; omega
            have EZ : Hid (ins r kk z = z.take p ++ (r, kk) :: z.drop p) := ins_new hs.out (by omega) (fun h => by omega)
            have q1 : True := trivial
            have g1 : True := trivial
            have g2 : True := trivial
            clear hs
            go_wp2_with fail
            refine wp_region_quiet_below (by kernel_rfl) (by kernel_rfl) ?_
            iterate 18 (go_big_quiet_step (fail))
            refine wpQuiet_nil ?_
            intro w6 hw6
            obtain ⟨p6, hw6⟩ := hw6
            have hb6 : Hid (Below W0.heap.size W0 w6) := by rw [hw6]; exact hb4.out.trans ((below_regrown W4 _ _).mono hb4.out.size)
            have b6 : Hid (BoxAt bx khi kmid klo w6) := by
              rw [hw6]; exact b4.out.on (below_regrown W4 _ _)
            clear hw6 g1 g2 q1 hb4 b4
            have H6 : Hid (w6.ownsRow w.heap.size 54 4 (.slice av vs.length capv) vs.length (ss vs)) := HO.out.on hb6.out
            have F8 : Hid (∀ v2 w8, w8.ownsRow w.heap.size 54 4 v2 (vs.length + 1) (ss vs ++ sc (.slice none 0 0, 0)) → (w6.alloc (.cells #[.slice none 0 0, .int .u64 0, .int .u64 0, .int .u64 0] 54)).grownBy w8 (Value.ownBlock (.slice av vs.length capv)) → ∃ g2 cap2, v2 = .slice (some ⟨g2, 0, none⟩) (vs.length + 1) cap2 ∧ Hid (UpTo w vs bx khi kmid klo v2 vs.length w8)) := by
              intro v2 w8 h1 h2
              have hbA := HB.out.trans (hb6.out.mono HB.out.size)
              have hb8 : Below w.heap.size w w8 := (hbA.alloc hbA.size _).grown h2 (by have := hbA.size; simp; omega) (fun k e => (H6.out.lt k e).1)
              have hU : UpTo w vs bx khi kmid klo v2 vs.length w8 := ⟨by rw [up_first, ss_snoc]; exact h1, hb8, (b6.out.on one_box).grown h2 (fun e => by have := (HO.out.lt bx e).2; omega)⟩
              rcases h1.2 with ⟨_, e⟩ | ⟨g2, cap2, cur, hv, _⟩
              · omega
              · exact ⟨g2, cap2, hv, hU⟩
            obtain ⟨i0, hi, hz0, hz1, hz2⟩ := info_parts info_sum
            go_wp2_with (first | (at_builtin; refine wpList_append_own _ rfl _ _ 46 rfl w.heap.size 54 i0 (.agg #[.slice none 0 0, .int .u64 0, .int .u64 0, .int .u64 0]) 4 48 Try.underlying46 hi hz0 hz1 hz2 rfl (by decide) _ vs.length (ss vs) rfl (H6.out.alloc _) ⟨w6.heap.size, 0, none⟩ 1 1 (sc (.slice none 0 0, 0)) rfl rfl (cell_four_new _ _ _ _ _ _) (by simp [sc, Value.oneCell']) (by unfold maxLen; omega) (by omega) (by have := HB.out.size; have := hb6.out.size; simp; omega) ?_; intro v2 w8 hown8 hg8 _; obtain ⟨g2, cap2, rfl, hU⟩ := F8.out _ _ hown8 hg8; clear hown8 hg8 F8 H6) | fail)
            have hpn : p ≤ vs.length := by omega
            clear hi hz0 hz1 hz2
            go_loopw [9] (fun kv w9 => ∃ k : Nat, p ≤ k ∧ k ≤ vs.length ∧ kv = .int .i64 k ∧ Hid (UpTo w vs bx khi kmid klo (.slice (some ⟨g2, 0, none⟩) (vs.length + 1) cap2) k w9)) (fun kv _ => (intOf kv).toNat)
            case atStart => exact ⟨vs.length, by omega, by omega, by go_num, hU.out⟩
            case round =>
              obtain ⟨w9, hw9⟩ : ∃ w9, w9 = wr := ⟨wr, rfl⟩
              subst hw9
              obtain ⟨k, hpk, hkn, rfl, hU9⟩ := hrel
              obtain ⟨u1, u2, u3⟩ := hU9.out
              have hg2 : w.heap.size ≤ g2 := (u1.lt g2 rfl).1
              have hgb : g2 ≠ bx := u3.ne u1
              have FZ : Hid (∀ o, w9.frozen? ⟨g2, o, none⟩ = false) := fun o => u1.frozenAt o
              by_cases hk : p < k
              · have I6 : (p : Int) < (k : Int) := by omega
                have hk1 : k - 1 < vs.length := by omega
                have I7 : (k : Int) < (vs.length : Int) + 1 := by omega
                have I8 : (k : Int) - 1 < (vs.length : Int) + 1 := by omega
                have I9 : ((k : Int) - 1).toNat = k - 1 := by omega
                have I10 : 0 ≤ (k : Int) - 1 := by omega
                have e1 : (up vs (.slice none 0 0, 0) k)[k - 1]? = some vs[k - 1] := by rw [up_at (by omega) hkn, List.getElem?_eq_getElem hk1]
                have hl1 : k - 1 < (up vs (.slice none 0 0, 0) k).length := by rw [up_len hkn]; omega
                have hl2 : k < (up vs (.slice none 0 0, 0) k).length := by rw [up_len hkn]; omega
                have e2 : (up vs (.slice none 0 0, 0) k)[k - 1] = vs[k - 1] := by rw [List.getElem?_eq_getElem hl1] at e1; exact Option.some.inj e1
                have s1 := ss_at (up vs (.slice none 0 0, 0) k) (k - 1) hl1
                have s2 := ss_at (up vs (.slice none 0 0, 0) k) k hl2
                rw [e2] at s1
                obtain ⟨am, cm, em⟩ := (HR.out.2 (k - 1) hk1 (by omega)).1.form
                have y1 : w9.cell? ⟨g2, (k - 1) * 4, none⟩ = some (.slice am (z[k - 1]'(by omega)).1.length cm) := by rw [u1.cellAt _ (by omega), ← em]; exact s1.1
                have y2 : w9.cell? ⟨g2, (k - 1) * 4 + 1, none⟩ = some (.int .u64 (wHi vs[k - 1].2)) := by rw [u1.cellAt _ (by omega)]; exact s1.2.1
                have y3 : w9.cell? ⟨g2, (k - 1) * 4 + 2, none⟩ = some (.int .u64 (wMid vs[k - 1].2)) := by rw [u1.cellAt _ (by omega)]; exact s1.2.2.1
                have y4 : w9.cell? ⟨g2, (k - 1) * 4 + 3, none⟩ = some (.int .u64 (wLo vs[k - 1].2)) := by rw [u1.cellAt _ (by omega)]; exact s1.2.2.2
                have t1 := (u1.cellAt (k * 4) (by omega)).trans s2.1
                have t2 := (u1.cellAt (k * 4 + 1) (by omega)).trans s2.2.1
                have t3 := (u1.cellAt (k * 4 + 2) (by omega)).trans s2.2.2.1
                have t4 := (u1.cellAt (k * 4 + 3) (by omega)).trans s2.2.2.2
                have FU : Hid (UpTo w vs bx khi kmid klo (.slice (some ⟨g2, 0, none⟩) (vs.length + 1) cap2) (k - 1) ((((w9.setCell ⟨g2, k * 4, none⟩ (.slice am (z[k - 1]'(by omega)).1.length cm)).setCell ⟨g2, k * 4 + 1, none⟩ (.int .u64 (wHi vs[k - 1].2))).setCell ⟨g2, k * 4 + 2, none⟩ (.int .u64 (wMid vs[k - 1].2))).setCell ⟨g2, k * 4 + 3, none⟩ (.int .u64 (wLo vs[k - 1].2)))) := by
                  obtain ⟨f1, f2⟩ := store_four u1 (k * 4) (.slice am (z[k - 1]'(by omega)).1.length cm) (.int .u64 (wHi vs[k - 1].2)) (.int .u64 (wMid vs[k - 1].2)) (.int .u64 (wLo vs[k - 1].2))
                  refine ⟨?_, u2.grown f2 u2.size (fun g e => by cases e; exact hg2), u3.grown f2 (fun e => hgb (by simpa using e))⟩
                  rw [← up_step (by omega) hkn vs[k - 1] (List.getElem?_eq_getElem hk1), ss_set _ k _ hl2, em]
                  exact f1
                generalize wHi vs[k - 1].2 = thi at *
                generalize wMid vs[k - 1].2 = tmid at *
                generalize wLo vs[k - 1].2 = tlo at *
                generalize (z[k - 1]'(by omega)).1.length = nm at *
                have HT : Hid (w9.there g2 (k * 4) 4) := there_sum u1 k (by omega)
                clear u1 u2 u3 s1 s2 e1 e2 em hU9 FZ t1 t2 t3 t4
                go_wp2_with (first | (refine wpList_store_sum rfl (.tmp 94) (.tmp 93) rfl k am nm cm thi tmid tlo HT.out rfl rfl ?_; intro w10 hw10; have hU10 : Hid (UpTo w vs bx khi kmid klo (.slice (some ⟨g2, 0, none⟩) (vs.length + 1) cap2) (k - 1) w10) := (by rw [hw10]; exact FU.out); clear hw10 FU) | fail)
                go_roundw
                case rel => exact ⟨k - 1, by omega, by omega, by go_num, hU10.out⟩
                case measure => simp [intOf]; omega
              · obtain rfl : p = k := by omega
                have I6 : ¬ (p : Int) < (p : Int) := by omega
                have I7 : (p : Int) < (vs.length : Int) + 1 := by omega
                have hl2 : p < (up vs (.slice none 0 0, 0) p).length := by rw [up_len hkn]; omega
                have s2 := ss_at (up vs (.slice none 0 0, 0) p) p hl2
                have t1 := (u1.cellAt (p * 4) (by omega)).trans s2.1
                have t2 := (u1.cellAt (p * 4 + 1) (by omega)).trans s2.2.1
                have t3 := (u1.cellAt (p * 4 + 2) (by omega)).trans s2.2.2.1
                have t4 := (u1.cellAt (p * 4 + 3) (by omega)).trans s2.2.2.2
                obtain ⟨z1, z2, z3⟩ := u3.cells
                have x1 := cell_on X1.out u2
                have FU : Hid (GatTo l w w0 (j + 1) (.slice (some ⟨g2, 0, none⟩) (vs.length + 1) cap2) ((((w9.setCell ⟨g2, p * 4, none⟩ (.slice a1 r.length c1)).setCell ⟨g2, p * 4 + 1, none⟩ (.int .u64 khi)).setCell ⟨g2, p * 4 + 2, none⟩ (.int .u64 kmid)).setCell ⟨g2, p * 4 + 3, none⟩ (.int .u64 klo))) := by
                  obtain ⟨f1, f2⟩ := store_four u1 (p * 4) (.slice a1 r.length c1) (.int .u64 khi) (.int .u64 kmid) (.int .u64 klo)
                  refine ⟨vs.take p ++ (.slice a1 r.length c1, kk) :: vs.drop p, ?_, ?_, u2.grown f2 u2.size (fun g e => by cases e; exact hg2)⟩
                  · have e3 : (vs.take p ++ (Value.slice a1 r.length c1, kk) :: vs.drop p).length = vs.length + 1 := by simp; omega
                    unfold OwnS
                    rw [e3, ← up_put (z := (.slice none 0 0, 0)) hpn, ss_set _ p _ hl2]
                    simp only [hHi, hMid, hLo]
                    exact f1
                  · rw [HG.out, EZ.out]; exact HR.out.put HX.out kk p
                have HT : Hid (w9.there g2 (p * 4) 4) := there_sum u1 p (by omega)
                have fz := FZ.out
                clear u1 u2 u3 s2 hU9 FZ
                go_wp2_with fail
                go_region
                all_goals
                  have hf : GatTo l w w0 (j + 1) (.slice (some ⟨g2, 0, none⟩) (vs.length + 1) cap2) ((((w9.setCell ⟨g2, p * 4, none⟩ (.slice a1 r.length c1)).setCell ⟨g2, p * 4 + 1, none⟩ (.int .u64 khi)).setCell ⟨g2, p * 4 + 2, none⟩ (.int .u64 kmid)).setCell ⟨g2, p * 4 + 3, none⟩ (.int .u64 klo)).drew := FU.out.drew
                  clear FU t1 t2 t3 t4 z1 z2 z3 x1
                  go_wp2_with fail
                  go_roundw
                  case rel => exact ⟨j + 1, by omega, by go_num, hf⟩
                  case measure => simp [intOf]; omega
    · have I1 : ¬ (j : Int) < (l.length : Int) := by omega
      have hf : Hid (GatTo l w w0 l.length u3 W0) := by obtain rfl : j = l.length := (by omega); exact ⟨vs, hO, hR, hB⟩
      clear hO hR hB
      go_wp2_with fail
      go_ret
      exact ⟨_, rfl, hf.out⟩
theorem refGather (l : List Ent) (va : Value) (w : World) (hn : l.length ≤ 65536) (hk : ∀ e ∈ l, inI e.2 = true) (ha : EntsIs w va l) :
    Calls Try.prog 17 #[va] w fun e w' => ∃ v, e = .returned v ∧ GatTo l w w l.length v w' := refGatherR l va w w (fun _ _ h => h) hn hk ha
end Go.Proofs.Ytmpochhcokmaiaa
