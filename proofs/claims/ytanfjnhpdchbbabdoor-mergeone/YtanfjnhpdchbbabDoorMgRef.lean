/- What the document's own All and Walk answer of z-sets in memory. -/
import Derived.Test.YtanfjnhpdchbbabDoorPackQueue
import Derived.Test.YtanfjnhpdchbbabDoorPackNeg
namespace Go.Proofs.YtanfjnhpdchbbabDoor
open Go.RowKit Go.Sort
set_option maxRecDepth 100000
/-- All entries, one list behind the other, so far. -/
def CatTo (X : List QEnt) (w0 w : World) (j : Nat) (us : List VEnt) (v : Value) (wr : World) : Prop := wr.ownsRow w.heap.size 39 2 v us.length (es us) ∧ Reads w0 us (flat (X.take j)) ∧ Below w.heap.size w wr
theorem flat_take {X : List QEnt} {j : Nat} (h : j < X.length) : flat (X.take (j + 1)) = flat (X.take j) ++ X[j].2 := by
  rw [List.take_succ_eq_append_getElem h]; unfold flat; rw [List.flatMap_append]; simp
theorem flat_take_len {X : List QEnt} {j : Nat} (h : j < X.length) : (flat (X.take j)).length + X[j].2.length ≤ (flat X).length := by
  have e : flat X = flat (X.take j) ++ flat (X.drop j) := by conv => lhs; rw [← List.take_append_drop j X]; unfold flat; rw [List.flatMap_append]
                                                             rfl
  rw [e, List.drop_eq_getElem_cons h, flat_cons, List.length_append, List.length_append]; omega
theorem LsIs.oks {w : World} {v : Value} {X : List QEnt} (h : LsIs w v X) : ∀ e ∈ flat X, inI e.2 = true := fun e he => by
  obtain ⟨x, hx, he⟩ := mem_flat.1 he
  exact ((h.2.1 x hx).2.2.1 e he).1
/-- What a cursor tells, of rows with their sums. -/
def wkL (z : List Ent) : List Ent := z.filter fun e => e.2 != 0 && inI e.2
/-- How far Walk has come. -/
def WalkTo (z : List Ent) (w0 W1 : World) (i : Nat) (us : List VEnt) (v : Value) (wr : World) : Prop := wr.ownsRow W1.heap.size 39 2 v us.length (es us) ∧ Reads w0 us (wkL (z.take i)) ∧ Below W1.heap.size W1 wr
theorem wk_snoc {z : List Ent} {i : Nat} (h : i < z.length) : wkL (z.take (i + 1)) = wkL (z.take i) ++ (if (z[i].2 != 0 && inI z[i].2) = true then [z[i]] else []) := by
  unfold wkL; rw [List.take_succ_eq_append_getElem h, List.filter_append]
  by_cases e : (z[i].2 != 0 && inI z[i].2) = true
  · rw [if_pos e, List.filter_cons_of_pos (by simpa using e)]; rfl
  · rw [if_neg e, List.filter_cons_of_neg (by simpa using e)]; rfl
theorem wk_len (z : List Ent) (i : Nat) : (wkL (z.take i)).length ≤ z.length := by
  have h1 := List.length_filter_le (fun e : Ent => e.2 != 0 && inI e.2) (z.take i)
  have h2 := List.length_take_le' i z
  unfold wkL; omega
set_option maxHeartbeats 8000000 in
theorem refWalk (X : List QEnt) (va : Value) (w0 w : World) (h : LsIs w0 va X) (hB : Below w0.heap.size w0 w) (hN : (flat X).length ≤ 65536) :
    Calls Tryd.prog 13 #[va] w fun e w' => ∃ v, e = .returned v ∧ EntsN w.heap.size w0 (wkZ (flat X)) v w' ∧ Below w.heap.size w w' := by
  obtain ⟨i0, hi, hz0, hz1, hz2⟩ := info_parts info_entry
  obtain ⟨a0, cap, rfl⟩ := h.form
  have HX : Hid (LsIs w0 (.slice a0 X.length cap) X) := h
  have HB : Hid (Below w0.heap.size w0 w) := hB
  have hL := h.2.2
  clear h hB
  go_enter Tryd.func13, Tryd.ntmps13
  go_wp2_with fail
  go_loopw [3, 4] (fun v i wr => ∃ (j : Nat) (us : List VEnt), j ≤ X.length ∧ i = .int .i64 j ∧ CatTo X w0 w j us v wr) (fun _ i _ => X.length - (intOf i).toNat)
  case atStart => exact ⟨0, [], by omega, rfl, World.ownsRow_nil _ _ _ _, Reads.nil _, Below.refl _ _⟩
  case round =>
    obtain ⟨j, us, hj, rfl, h1, h2, h3⟩ := hrel
    by_cases k1 : j < X.length
    · have I1 : (j : Int) < (X.length : Int) := by omega
      have hB0 := HB.out.trans (h3.mono HB.out.size)
      obtain ⟨b, o, a', c', rfl, x1, x2⟩ := HX.out.at j k1
      have y1 := cell_on x1 hB0
      have hx : EntsIs w0 (.slice a' X[j].2.length c') X[j].2 := by rw [← x2]; exact (HX.out.2.1 X[j] (List.getElem_mem k1)).1
      obtain ⟨vs, hv1, hv2⟩ := hx
      have hvl : vs.length = X[j].2.length := hv2.1
      have hful := flat_take_len k1
      have hul : us.length + vs.length ≤ 65536 := by rw [h2.1, hvl]; omega
      have HO : Hid (wr.ownsRow w.heap.size 39 2 u3 us.length (es us)) := h1
      have hsz := h3.size
      have F : Hid (∀ v2 w2, w2.ownsRow w.heap.size 39 2 v2 (us.length + vs.length) (es us ++ es vs) → Below w.heap.size w w2 → CatTo X w0 w (j + 1) (us ++ vs) v2 w2) := fun v2 w2 g1 g2 =>
        ⟨by rw [List.length_append, show es (us ++ vs) = es us ++ es vs from by simp [es]]; exact g1, by rw [flat_take k1]; exact h2.append hv2, g2⟩
      rw [← hvl] at y1 hv1
      by_cases hz : vs.length = 0
      · obtain rfl := List.eq_nil_of_length_eq_zero hz
        have G : Hid (CatTo X w0 w (j + 1) (us ++ []) u3 wr) := F.out u3 wr (by simpa [es] using HO.out) h3
        clear h1 h2 h3 hv1 hv2 x1 x2 F hB0 hvl hful
        go_wp2_with (first | (at_builtin; refine wpList_append_zero rfl _ _ 29 rfl w.heap.size 39 i0 2 Tryd.underlying29 hi _ us.length (es us) rfl HO.out _ _ rfl ?_) | fail)
        go_roundw
        case rel => exact ⟨j + 1, _, by omega, by go_num, G.out⟩
        case measure => simp [intOf]; omega
      · obtain ⟨b2, o2, e2⟩ : ∃ b2 o2, a' = some ⟨b2, o2, none⟩ := by obtain ⟨b2, o2, e2, _⟩ := hv1.at 0 (by omega); exact ⟨b2, o2, e2⟩
        subst e2
        have HC : Hid (∀ i u, (es vs)[i]? = some u → wr.cell? ((⟨b2, o2, none⟩ : Addr).add i) = some u) := (hv1.on hB0).cells
        have H1 : Hid (∀ u ∈ es vs, u.oneCell' = true) := hv2.one'
        have HE : Hid ((es vs).length = vs.length * 2) := es_len vs
        have G : Hid (∀ v2 w2, w2.ownsRow w.heap.size 39 2 v2 (us.length + vs.length) (es us ++ es vs) → wr.grownBy w2 (Value.ownBlock u3) → CatTo X w0 w (j + 1) (us ++ vs) v2 w2) := fun v2 w2 g1 g2 => F.out v2 w2 g1 (h3.grown g2 h3.size (fun k e => (HO.out.lt k e).1))
        clear h1 h2 h3 hv1 hv2 x1 x2 F hB0 hvl hful
        go_wp2_with (first | (at_builtin; refine wpList_append_own _ rfl _ _ 29 rfl w.heap.size 39 i0 (.agg #[.slice none 0 0, .int .i64 0]) 2 32 Tryd.underlying29 hi hz0 hz1 hz2 rfl (by decide) _ us.length (es us) rfl HO.out ⟨b2, o2, none⟩ vs.length c' (es vs) rfl HE.out HC.out H1.out (by unfold maxLen; omega) (by omega) hsz ?_; intro v2 w2 hown2 hg2 _; have hs2 : Hid (CatTo X w0 w (j + 1) (us ++ vs) v2 w2) := G.out _ _ hown2 hg2; clear hown2 hg2 G) | fail)
        go_roundw
        case rel => exact ⟨j + 1, _, by omega, by go_num, hs2.out⟩
        case measure => simp [intOf]; omega
    · have I1 : ¬ (j : Int) < (X.length : Int) := by omega
      obtain rfl : j = X.length := by omega
      rw [List.take_length] at h2
      have hE : EntsR wr w0 u3 (flat X) := ⟨us, EntsAt.of_own h1, h2⟩
      have h00 : ∀ v r, RowIs w0 v r → RowIs wr v r := fun v r h => h.on (HB.out.trans (h3.mono HB.out.size))
      have q := refGatherR (flat X) u3 wr w0 h00 hN HX.out.oks hE
      have HB0 : Hid (∀ e ∈ gat (flat X), -604462909807314587353088 ≤ e.2 ∧ e.2 ≤ 604462909807314587353088) := gat_bound hN HX.out.oks
      have hgl := gat_len (flat X)
      have H3 : Hid (Below w.heap.size w wr) := h3
      clear h1 h2 h3 hE h00
      go_wp2_with fail
      refine q.mono ?_
      rintro e W1 ⟨v1, rfl, vs, hO, hR, hB⟩
      rw [List.take_length] at hR
      obtain ⟨av, capv, rfl⟩ := hO.form
      have HO : Hid (OwnS wr.heap.size W1 (.slice av vs.length capv) vs) := hO
      have HR : Hid (Reads w0 vs (gat (flat X))) := hR
      have HBW : Hid (Below w.heap.size w W1) := H3.out.trans (hB.mono H3.out.size)
      have hnz : (gat (flat X)).length = vs.length := hR.1.symm
      have HWK : Hid (wkZ (flat X) = wkL (gat (flat X))) := rfl
      clear q hO hR hB
      generalize gat (flat X) = z at *
      have H0 : Hid (WalkTo z w0 W1 0 [] (.slice none 0 0) W1) := ⟨World.ownsRow_nil _ _ _ _, Reads.nil w0, Below.refl _ _⟩
      go_wp2_with fail
      go_loopw [6, 7] (fun v i wr => ∃ (j : Nat) (us : List VEnt), j ≤ vs.length ∧ i = .int .i64 j ∧ WalkTo z w0 W1 j us v wr) (fun _ i _ => vs.length - (intOf i).toNat)
      case atStart => exact ⟨0, [], by omega, rfl, H0.out⟩
      case round =>
        obtain ⟨j, us, hj, rfl, hU, hRu, hb⟩ := hrel
        have HU : Hid (wr.ownsRow W1.heap.size 39 2 u6 us.length (es us)) := hU
        have HRu : Hid (Reads w0 us (wkL (z.take j))) := hRu
        have Hb : Hid (Below W1.heap.size W1 wr) := hb
        have hul : us.length ≤ vs.length := by rw [hRu.1, ← hnz]; exact wk_len z j
        clear hU hRu hb
        by_cases k1 : j < vs.length
        · have k2 : j < z.length := by omega
          obtain ⟨g, rfl, hg1, hg2, y1, y2, y3, y4⟩ := (HO.out.on Hb.out).at j k1
          obtain ⟨r1, r2⟩ := HR.out.2 j k1 k2
          obtain ⟨am, cm, em⟩ := r1.form
          rw [em] at y1 r1
          rw [r2] at y2 y3 y4
          have hbd := HB0.out _ (List.getElem_mem k2)
          have I1 : (j : Int) < (vs.length : Int) := by omega
          have EZ : Hid (wkL (z.take (j + 1)) = wkL (z.take j) ++ (if (z[j].2 != 0 && inI z[j].2) = true then [z[j]] else [])) := wk_snoc k2
          have HRow : Hid (RowIs w0 (.slice am z[j].1.length cm) z[j].1) := r1
          obtain ⟨zr, zn, hzz⟩ : ∃ zr zn, z[j] = (zr, zn) := ⟨_, _, rfl⟩
          rw [hzz] at y1 y2 y3 y4 hbd EZ HRow
          simp only at y1 y2 y3 y4 hbd EZ HRow
          clear r1 r2 em hzz
          by_cases hin : -9223372036854775808 ≤ zn ∧ zn ≤ 9223372036854775807
          · have hI : inI zn = true := by unfold inI; simp; exact hin
            have q1 : Hid (Calls Tryd.prog 30 #[wV zn] wr fun e w' => e = .returned (.tuple #[.int .i64 zn, .bool true]) ∧ Below wr.heap.size wr w') := refNarrow zn (by omega) (by omega) zn true (fun _ => ⟨rfl, rfl⟩) (fun h => absurd hin h) wr
            unfold wV at q1
            by_cases h0 : zn = 0
            · subst h0
              have EZ1 : Hid (wkL (z.take (j + 1)) = wkL (z.take j)) := by show _ = _; rw [EZ.out]; simp
              clear EZ hI
              generalize wHi 0 = thi at *
              generalize wMid 0 = tmid at *
              generalize wLo 0 = tlo at *
              generalize hzl : zr.length = nm at *
              go_wp2_with fail
              refine q1.out.mono ?_
              rintro e w2 ⟨rfl, hb2⟩
              have hf : Hid (WalkTo z w0 W1 (j + 1) us u6 w2) := ⟨own_on HU.out hb2, by rw [EZ1.out]; exact HRu.out, Hb.out.trans (hb2.mono Hb.out.size)⟩
              clear hb2 q1 y1 y2 y3 y4 EZ1
              go_wp2_with fail
              go_roundw
              case rel => exact ⟨j + 1, _, by omega, by go_num, hf.out⟩
              case measure => simp [intOf]; omega
            · have b0 : (zn == 0) = false := by simp [h0]
              have EZ1 : Hid (wkL (z.take (j + 1)) = wkL (z.take j) ++ [(zr, zn)]) := by show _ = _; rw [EZ.out, if_pos (by simp [h0, hI])]
              clear EZ hI
              generalize wHi zn = thi at *
              generalize wMid zn = tmid at *
              generalize wLo zn = tlo at *
              generalize hzl : zr.length = nm at *
              go_wp2_with fail
              refine q1.out.mono ?_
              rintro e w2 ⟨rfl, hb2⟩
              have y1' := cell_on y1 hb2
              have HU2 : Hid (w2.ownsRow W1.heap.size 39 2 u6 us.length (es us)) := own_on HU.out hb2
              have Hb2 : Hid (Below W1.heap.size W1 w2) := Hb.out.trans (hb2.mono Hb.out.size)
              have F : Hid (∀ v2 w3, w3.ownsRow W1.heap.size 39 2 v2 (us.length + 1) (es us ++ ec (.slice am nm cm, zn)) → (w2.alloc (.cells #[.slice am nm cm, .int .i64 zn] 39)).grownBy w3 (Value.ownBlock u6) → WalkTo z w0 W1 (j + 1) (us ++ [(.slice am nm cm, zn)]) v2 w3) := by
                intro v2 w3 g1 g2
                refine ⟨?_, ?_, ?_⟩
                · rw [es_snoc, List.length_append]; exact g1
                · rw [EZ1.out]; exact HRu.out.snoc HRow.out zn
                · exact (Hb2.out.alloc Hb2.out.size _).grown g2 (by have := Hb2.out.size; simp; omega) (fun k e => (HU2.out.lt k e).1)
              have hsz := Hb2.out.size
              clear hb2 q1 y1 y2 y3 y4 EZ1
              go_wp2_with (first | (at_builtin; refine wpList_append_own _ rfl _ _ 29 rfl W1.heap.size 39 i0 (.agg #[.slice none 0 0, .int .i64 0]) 2 32 Tryd.underlying29 hi hz0 hz1 hz2 rfl (by decide) _ us.length (es us) rfl (HU2.out.alloc _) ⟨w2.heap.size, 0, none⟩ 1 1 (ec (.slice am nm cm, zn)) rfl rfl (cell_two_new _ _ _ _) (by simp [ec, Value.oneCell']) (by unfold maxLen; omega) (by omega) (by simp; omega) ?_; intro v2 w3 hown3 hg3 _; have hf : Hid _ := F.out _ _ hown3 hg3; clear hown3 hg3 F) | fail)
              go_roundw
              case rel => exact ⟨j + 1, _, by omega, by go_num, hf.out⟩
              case measure => simp [intOf]; omega
          · have hI : inI zn = false := by unfold inI; simp; omega
            have q1 : Hid (Calls Tryd.prog 30 #[wV zn] wr fun e w' => e = .returned (.tuple #[.int .i64 0, .bool false]) ∧ Below wr.heap.size wr w') := refNarrow zn (by omega) (by omega) 0 false (fun h => absurd h hin) (fun _ => ⟨rfl, rfl⟩) wr
            unfold wV at q1
            have EZ1 : Hid (wkL (z.take (j + 1)) = wkL (z.take j)) := by show _ = _; rw [EZ.out, if_neg (by simp [hI])]; simp
            clear EZ hI
            generalize wHi zn = thi at *
            generalize wMid zn = tmid at *
            generalize wLo zn = tlo at *
            generalize hzl : zr.length = nm at *
            go_wp2_with fail
            refine q1.out.mono ?_
            rintro e w2 ⟨rfl, hb2⟩
            have hf : Hid (WalkTo z w0 W1 (j + 1) us u6 w2) := ⟨own_on HU.out hb2, by rw [EZ1.out]; exact HRu.out, Hb.out.trans (hb2.mono Hb.out.size)⟩
            clear hb2 q1 y1 y2 y3 y4 EZ1
            go_wp2_with fail
            go_roundw
            case rel => exact ⟨j + 1, _, by omega, by go_num, hf.out⟩
            case measure => simp [intOf]; omega
        · have I1 : ¬ (j : Int) < (vs.length : Int) := by omega
          have e1 : z.take j = z := List.take_of_length_le (by omega)
          have HE : Hid (EntsN w.heap.size w0 (wkZ (flat X)) u6 wr ∧ Below w.heap.size w wr) := ⟨⟨us, own_mono0 HU.out HBW.out.size, by rw [HWK.out, ← e1]; exact HRu.out⟩, HBW.out.trans (Hb.out.mono HBW.out.size)⟩
          clear e1
          go_wp2_with fail
          go_ret
          exact ⟨u6, rfl, HE.out.1, HE.out.2⟩
end Go.Proofs.YtanfjnhpdchbbabDoor
