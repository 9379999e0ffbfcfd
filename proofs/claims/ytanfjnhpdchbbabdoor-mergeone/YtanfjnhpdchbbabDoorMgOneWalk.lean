/- The walk of the law that one alone is that, and with its opposite nothing. -/
import Derived.Test.YtanfjnhpdchbbabDoorMgLaw
import Derived.Test.YtanfjnhpdchbbabDoorMgNew
namespace Go.Proofs.YtanfjnhpdchbbabDoor
open Go.RowKit Go.Sort
set_option maxRecDepth 100000
theorem mkZ_self {z : List Ent} (h : IsZ z) (hk : ∀ e ∈ z, inI e.2 = true) : okZ z = true ∧ mkZ z = z := by
  have ho : okZ z = true := (okZ_iff z).2 (fun r => by
    by_cases h0 : wt r z = 0
    · rw [h0]; rfl
    · obtain ⟨e, he, rfl⟩ := mem_of_wt h0
      rw [wt_mem h.1 he]; exact hk e he)
  exact ⟨ho, mkZ_of ho h (fun _ => rfl)⟩
theorem wt_ng (r : List Val) : ∀ z : List Ent, wt r (z.map ngE) = - wt r z
  | [] => rfl
  | e :: z => by
    simp only [List.map_cons, wt, ngE]; rw [wt_ng r z]; split <;> omega
theorem ng_sum (z : List Ent) : okZ (z ++ z.map ngE) = true ∧ mkZ (z ++ z.map ngE) = [] := by
  have hw : ∀ r, wt r (z ++ z.map ngE) = 0 := fun r => by rw [wt_append, wt_ng]; omega
  have ho : okZ (z ++ z.map ngE) = true := (okZ_iff _).2 (fun r => by rw [hw]; rfl)
  exact ⟨ho, mkZ_of ho ⟨List.Pairwise.nil, fun e h => by cases h⟩ (fun r => by rw [hw]; rfl)⟩
theorem ng_ok {z : List Ent} (hz : IsZ z) (hw : ∀ r, -1200 ≤ wt r z ∧ wt r z ≤ 1200) : ngOk z = true ∧ SortedZ (z.map ngE) ∧ ∀ e ∈ z.map ngE, inI e.2 = true := by
  have hb : ∀ e ∈ z, -1200 ≤ e.2 ∧ e.2 ≤ 1200 := fun e he => by rw [← wt_mem hz.1 he]; exact hw e.1
  refine ⟨?_, ?_, fun e he => ?_⟩
  · unfold ngOk; rw [List.all_eq_true]; intro e he; have := hb e he; unfold inI; simp; omega
  · unfold SortedZ; rw [List.pairwise_map]; exact hz.1
  · obtain ⟨x, hx, rfl⟩ := List.mem_map.1 he
    have := hb x hx; unfold inI ngE; simp; omega
theorem cols_two (w : World) : ColsAt w.heap.size [1, 2] (w.alloc (.cells #[.int .i64 1, .int .i64 2] 3)) := by
  refine ⟨by simp, fun i hi => ?_⟩
  obtain rfl | rfl : i = 0 ∨ i = 1 := by simp at hi; omega
  · rw [World.cell?_alloc_at _ _ _ _ rfl]; rfl
  · rw [World.cell?_alloc_at _ _ _ _ rfl]; rfl
theorem ls_three {w : World} {x y z : QEnt} (hx : LOk w x) (hy : LOk w y) (hz : LOk w z) : LsIs (w.alloc (.cells #[x.1, y.1, z.1] 29)) (.slice (some ⟨w.heap.size, 0, none⟩) 3 3) [x, y, z] := by
  refine ⟨.inr ⟨w.heap.size, 0, 3, rfl, Nat.le_refl _, by unfold maxLen; omega, by simp, fun i hi => ?_⟩, fun u hu => ?_, by simp⟩
  · obtain rfl | rfl | rfl : i = 0 ∨ i = 1 ∨ i = 2 := by simp at hi; omega
    · rw [World.cell?_alloc_at _ _ _ _ rfl]; rfl
    · rw [World.cell?_alloc_at _ _ _ _ rfl]; rfl
    · rw [World.cell?_alloc_at _ _ _ _ rfl]; rfl
  · simp at hu
    rcases hu with rfl | rfl | rfl
    · exact hx.on one_box
    · exact hy.on one_box
    · exact hz.on one_box
theorem lok_nil (w : World) : LOk w (.slice none 0 0, []) := ⟨EntsIs.nil _ _ _, List.Pairwise.nil, fun e h => (by cases h), by simp⟩
/-- None but the last one. -/
theorem ls_last {w w1 : World} {n : Nat} {x : QEnt} (hn : n ≤ 3) (hx : LOk w x) (hB : Below w.heap.size w w1) (ho : w1.ownsRow w.heap.size 29 1 (.slice (some ⟨w.heap.size, 0, none⟩) (n + 1) (n + 1)) (n + 1) (List.replicate (n + 1) nilS)) :
    LsIs (w1.setCell ⟨w.heap.size, n, none⟩ x.1) (.slice (some ⟨w.heap.size, 0, none⟩) (n + 1) (n + 1)) (List.replicate n (nilS, []) ++ [x]) ∧ flat (List.replicate n ((nilS, []) : QEnt) ++ [x]) = x.2 ∧ Below w.heap.size w (w1.setCell ⟨w.heap.size, n, none⟩ x.1) := by
  have s := (ho.stored n x.1).1
  have hB2 : Below w.heap.size w (w1.setCell ⟨w.heap.size, n, none⟩ x.1) := hB.setCell (p := ⟨w.heap.size, n, none⟩) (Nat.le_refl _) _
  have e : (List.replicate (n + 1) nilS).set n x.1 = (List.replicate n ((nilS, []) : QEnt) ++ [x]).map (·.1) := by
    rw [List.map_append, List.map_replicate, List.replicate_succ', List.set_append, if_neg (by simp)]; simp
  rw [e] at s
  have hl : (List.replicate n ((nilS, []) : QEnt) ++ [x]).length = n + 1 := by simp
  refine ⟨⟨?_, fun z hz => ?_, by omega⟩, ?_, hB2⟩
  · refine .inr ⟨w.heap.size, 0, n + 1, by rw [List.length_map, hl], by rw [List.length_map, hl]; omega, by unfold maxLen; omega, (s.lt w.heap.size rfl).2, fun i hi => ?_⟩
    rw [List.length_map, hl] at hi
    rw [Nat.zero_add, s.cellAt i (by omega)]; exact List.getElem?_eq_getElem _
  · rcases List.mem_append.1 hz with h | h
    · rw [(List.mem_replicate.1 h).2]; exact lok_nil _
    · simp at h; subst h; exact hx.on hB2
  · unfold flat; rw [List.flatMap_append]
    have : ∀ n, (List.replicate n ((nilS, []) : QEnt)).flatMap (·.2) = [] := by
      intro n; induction n with
      | zero => rfl
      | succ n ih => rw [List.replicate_succ, List.flatMap_cons, ih]; rfl
    rw [this]; simp
set_option maxHeartbeats 8000000 in
theorem mergeOne_walk (a : Option Addr) (len cap : Nat) (zs : List Int) (n : Int) (_ : (Lit.int .i64 n).wf = true) (w : World) (he : ∃ ad, OverAt ad w) (ha : IsRow .i64 w a len cap zs) :
    Calls Tryd.prog 5 #[.slice a len cap, .int .i64 n] w fun e w' => e = .returned (.bool true) ∧ Below w.heap.size w w' := by
  obtain ⟨ad, hE⟩ := he
  obtain ⟨i0, hi, hz0, hz1, hz2⟩ := info_parts info_list
  have q0 := lawFirst5 ad w hE
  have HE : Hid (OverAt ad w) := hE
  have HA : Hid (IsRow .i64 w a len cap zs) := ha
  clear hE ha
  go_enter Tryd.func5, Tryd.ntmps5
  go_wp2_with fail
  refine q0.mono ?_
  rintro e w1 ⟨rfl, hb1⟩
  have B1 : Hid (Below w.heap.size w w1) := hb1
  clear q0 hb1
  by_cases hl : 120 < len
  · have I1 : (120 : Int) < (len : Int) := by omega
    go_wp2_with fail
    go_ret
    exact ⟨rfl, B1.out⟩
  · have I1 : ¬ (120 : Int) < (len : Int) := by omega
    obtain ⟨W1, hW1⟩ : ∃ W1, W1 = w1.alloc (.cells #[.slice a len cap, .int .i64 0] 28) := ⟨_, rfl⟩
    have hs1 : SeqAt w1.heap.size a len cap zs 0 W1 := by rw [hW1]; exact SeqAt.make (HA.out.below B1.out) _
    have hsz : W1.heap.size = w1.heap.size + 1 := by rw [hW1]; simp
    have BW : Below w.heap.size w W1 := by rw [hW1]; exact B1.out.trans (one_box.mono B1.out.size)
    have q1 := makeSet w1.heap.size a len cap zs 0 W1.heap.size 2 2 [1, 2] 12 _ (hs1.on one_box) (by omega) (by omega) (cols_two W1) (by omega) (by omega) (by simp) (by intro i h; match i, h with | 0, _ => simp | 1, _ => simp)
    have HW : Hid (w1.alloc (.cells #[.slice a len cap, .int .i64 0] 28) = W1) := hW1.symm
    have BW' : Hid (Below w.heap.size w W1) := BW
    rw [hW1] at q1
    clear hW1 hs1 hsz BW
    rw [show (w1.alloc (.cells #[.slice a len cap, .int .i64 0] 28)).heap.size = w1.heap.size + 1 from by simp] at q1
    go_wp2_with fail
    refine q1.mono ?_
    rintro e w2 ⟨v, z, rfl, ⟨p', m1, m2, m3, m4, m5, m6, m7⟩, m8, _⟩
    have B2 : Hid (Below w.heap.size w w2) := by
      have s1 := B1.out.size
      have h1 : Below w.heap.size w (W1.alloc (.cells #[.int .i64 1, .int .i64 2] 3)) := BW'.out.trans (one_box.mono BW'.out.size)
      rw [HW.out] at m7
      exact h1.trans (m7.below s1 h1.size)
    obtain ⟨az, cz, rfl⟩ := m4.ents.form
    have hzk : LOk w2 (.slice az z.length cz, z) := ⟨m4.ents, m1.1, m2, by show z.length ≤ 65536; omega⟩
    obtain ⟨g1, g2, g3⟩ := ng_ok m1 (fun r => by have := m8 r; omega)
    have q2 := refNeg z _ w2 (by omega) (fun e he => (m2 e he).1) m4.ents 0 (by rw [g1]; rfl)
    have M2 : Hid (IsZ z ∧ EOk z) := ⟨m1, m2⟩
    have ZK : Hid (LOk w2 (.slice az z.length cz, z)) := hzk
    have GM : Hid (ngZ z = z.map ngE ∧ SortedZ (z.map ngE) ∧ ∀ e ∈ z.map ngE, inI e.2 = true) := ⟨by unfold ngZ; rw [if_pos g1], g2, g3⟩
    obtain ⟨k, hk, hk3⟩ : ∃ k : Nat, (wrap64 (n.tmod 4 + 4)).tmod 4 = (k : Int) ∧ k ≤ 3 := by
      have t1 := Int.tmod_lt_of_pos n (by decide : (0 : Int) < 4)
      have t2 := Int.tmod_lt_of_pos (-n) (by decide : (0 : Int) < 4)
      rw [Int.neg_tmod] at t2
      have e : wrap64 (n.tmod 4 + 4) = n.tmod 4 + 4 := by unfold wrap64; omega
      rw [e, Int.tmod_eq_emod_of_nonneg (by omega)]
      exact ⟨((n.tmod 4 + 4) % 4).toNat, by omega, by omega⟩
    clear q1 m1 m2 m4 m5 m6 m7 m8 g1 g2 g3 hzk BW' HW
    go_wp2_with fail
    refine q2.mono ?_
    rintro e w3 ⟨vm, rfl, hm, hb3⟩
    rw [GM.out.1] at hm
    have MK : Hid (LOk w3 (vm, z.map ngE)) := ⟨hm, GM.out.2.1, fun e he => ⟨GM.out.2.2 e he, by obtain ⟨x, hx, rfl⟩ := List.mem_map.1 he; exact (M2.out.2 x hx).2⟩, by simp; omega⟩
    have ZK3 : Hid (LOk w3 (.slice az z.length cz, z)) := ZK.out.on hb3
    have B3 : Hid (Below w.heap.size w w3) := B2.out.trans (hb3.mono B2.out.size)
    obtain ⟨am, cm, rfl⟩ := hm.form
    have F4 : Hid (∀ w4, w4.ownsRow w3.heap.size 29 1 (.slice (some ⟨w3.heap.size, 0, none⟩) (k + 1) (k + 1)) (k + 1) (madeCells (Value.slice none 0 0).cells ((k + 1) * 1)).toList → w3.grownBy w4 none → w4.cell? ⟨w3.heap.size, k, none⟩ = some (.slice none 0 0) ∧ w4.frozen? ⟨w3.heap.size, k, none⟩ = false ∧ LsIs (w4.setCell ⟨w3.heap.size, k, none⟩ (.slice az z.length cz)) (.slice (some ⟨w3.heap.size, 0, none⟩) (k + 1) (k + 1)) (List.replicate k (nilS, []) ++ [(.slice az z.length cz, z)]) ∧ flat (List.replicate k ((nilS, []) : QEnt) ++ [(.slice az z.length cz, z)]) = z ∧ Below w3.heap.size w3 (w4.setCell ⟨w3.heap.size, k, none⟩ (.slice az z.length cz))) := by
      intro w4 o1 o2
      rw [made_lists] at o1
      have hB : Below w3.heap.size w3 w4 := (Below.refl _ _).grown o2 (Nat.le_refl _) (fun k e => by cases e)
      refine ⟨?_, o1.frozenAt k, ls_last hk3 ZK3.out hB o1⟩
      rw [o1.cellAt k (by omega), List.getElem?_replicate, if_pos (by omega)]; rfl
    clear q2 hm hb3 ZK B2
    obtain ⟨zl, hzl⟩ : ∃ zl, zl = z.length := ⟨_, rfl⟩
    have ZL : Hid (z.length ≤ 12) := m3
    clear hzl
    generalize hnz : z.length = nz at *
    have ZL2 : Hid (z.length ≤ 12) := by show z.length ≤ 12; rw [hnz]; exact m3
    clear hnz ZL
    generalize (z.map ngE).length = nmm at *
    go_wp2_with (first | (at_make; refine wpList_make_full _ rfl _ _ 24 rfl w3.heap.size 29 i0 (.slice none 0 0) 1 Tryd.underlying24 hi hz0 hz1 .i64 .i64 _ _ (k + 1) rfl rfl rfl rfl (by rw [hz2]; omega) (by unfold maxLen; omega) (Nat.le_refl _) ?_; intro w4 hown4 hg4; obtain ⟨x1, x2, x3, x4, x5⟩ := F4.out _ hown4 hg4; have X3 : Hid (LsIs (w4.setCell ⟨w3.heap.size, k, none⟩ (.slice az nz cz)) (.slice (some ⟨w3.heap.size, 0, none⟩) (k + 1) (k + 1)) (List.replicate k (nilS, []) ++ [(.slice az nz cz, z)])) := x3; have X4 : Hid (flat (List.replicate k ((nilS, []) : QEnt) ++ [(.slice az nz cz, z)]) = z) := x4; have X5 : Hid (Below w3.heap.size w3 (w4.setCell ⟨w3.heap.size, k, none⟩ (.slice az nz cz))) := x5; clear hown4 hg4 F4 x3 x4 x5) | fail)
    generalize w4.setCell ⟨w3.heap.size, k, none⟩ (.slice az nz cz) = W at *
    have B5 : Hid (Below w.heap.size w W) := B3.out.trans (X5.out.mono B3.out.size)
    obtain ⟨e1, e2⟩ := mkZ_self M2.out.1 (fun e he => (M2.out.2 e he).1)
    obtain ⟨e3, e4⟩ := ng_sum z
    have q3 := mgAll _ _ ad W (HE.out.on B5.out) X3.out (by rw [X4.out]; have := ZL2.out; omega)
    rw [X4.out, e1, e2, ovE_t] at q3
    have ZKW := ZK3.out.on X5.out
    have MKW := MK.out.on X5.out
    have HZ : Hid (LOk W (.slice az nz cz, z) ∧ LOk W (.slice am nmm cm, z.map ngE)) := ⟨ZKW, MKW⟩
    have E34 : Hid (okZ (z ++ z.map ngE) = true ∧ mkZ (z ++ z.map ngE) = []) := ⟨e3, e4⟩
    clear x1 x2 X3 X4 X5 ZK3 MK B3 e1 e2 e3 e4 ZKW MKW GM
    refine q3.mono ?_
    rintro e w5 ⟨v5, rfl, h5, hb5⟩
    have A5 : Hid (EntsIs w5 v5 z) := h5.ents
    have C5 : Hid (Below W.heap.size W w5) := hb5
    obtain ⟨a5, n5, c5, hv5⟩ : ∃ a5 n5 c5, v5 = .slice a5 n5 c5 := by obtain ⟨x, y, h⟩ := h5.ents.form; exact ⟨x, _, y, h⟩
    subst hv5
    have q4 := mgTwo (.slice az nz cz, z) (.slice am nmm cm, z.map ngE) ad w5 ((HE.out.on B5.out).on hb5) (HZ.out.1.on hb5) (HZ.out.2.on hb5) (by have := ZL2.out; simp; omega)
    simp only at q4
    rw [E34.out.1, E34.out.2, ovE_t] at q4
    clear q3 h5 hb5
    go_wp2_with fail
    refine q4.mono ?_
    rintro e w6 ⟨v6, rfl, h6, hb6⟩
    have C6 : Hid (Below W.heap.size W w6) := C5.out.trans (hb6.mono C5.out.size)
    have A6 : Hid (EntsIs w6 (.slice a5 n5 c5) z) := A5.out.on hb6
    obtain ⟨a6, c6, hv6⟩ := h6.ents.form
    subst hv6
    have q5 := mgNew _ _ _ (ls_three (HZ.out.1.on C6.out) (lok_nil w6) (HZ.out.2.on C6.out)) (by have := ZL2.out; simp [flat]; omega)
    have hfl : flat [(.slice az nz cz, z), (.slice none 0 0, []), (.slice am nmm cm, z.map ngE)] = z ++ z.map ngE := by simp [flat]
    have HWK : Hid (wkZ (flat [(.slice az nz cz, z), (.slice none 0 0, []), (.slice am nmm cm, z.map ngE)]) = []) := by
      show _ = _
      rw [hfl]
      exact wkZ_of ⟨List.Pairwise.nil, fun e h => by cases h⟩ (fun r => by rw [wt_append, wt_ng]; simp [wt, cutI, inI]; omega)
    simp only at q5
    clear q4 h6 hb6 A5 hfl
    go_wp2_with fail
    refine q5.mono ?_
    rintro e w7 ⟨w0, hb, ab, cp, Y, rfl, hC, hw, _, hB0⟩
    have HB0 : Hid (Below w6.heap.size w6 w0) := one_box.trans (hB0.mono (by simp))
    have WY : Hid (wkZ (flat Y) = []) := by show _ = _; rw [wkZ_eq hw]; exact HWK.out
    have O0 : Hid (OverAt ad w0) := ((HE.out.on B5.out).on C6.out).on HB0.out
    have q6 := mgNext w0 hb ab cp Y ad w7 O0.out hC
    clear q5 hB0 hw hC HWK
    go_wp2_with fail
    refine q6.mono ?_
    rintro e w8 ⟨Y2, hC2, _, _, h8⟩
    rcases h8 with ⟨_, wy2, rfl⟩ | ⟨r, kk, _, _, e8, _⟩
    · have q7 := fun W' (hW' : Below w8.heap.size w8 W') => mgNext w0 hb ab cp Y2 ad W' O0.out ⟨hC2.1.on hW', hC2.2⟩
      have WY2 : Hid (wkZ (flat Y2) = []) := wy2
      clear q6 hC2 wy2
      go_wp2_with fail
      refine (q7 _ one_box).mono ?_
      rintro e w9 ⟨Y3, hC3, _, _, h9⟩
      rcases h9 with ⟨_, _, rfl⟩ | ⟨r, kk, _, _, e9, _⟩
      · have B9 : Hid (Below w0.heap.size w0 w9) := hC3.1.2.2.1
        have q8 : Hid (∀ W', Below w9.heap.size w9 W' → Calls Tryd.prog 11 #[.slice a5 n5 c5, .slice az nz cz] W' fun e w' => e = .returned (.bool true) ∧ Below W'.heap.size W' w') := fun W' hW' =>
          sameEnts z _ _ W' (((A6.out.on HB0.out).on B9.out).on hW') ((((HZ.out.1.1.on C6.out).on HB0.out).on B9.out).on hW')
        clear q7 hC3
        go_wp2_with fail
        refine (q8.out _ one_box).mono ?_
        rintro e w10 ⟨rfl, hb10⟩
        have B10 : Hid (Below w.heap.size w w10) := by
          have s1 := B5.out.size
          have s2 := C6.out.size
          have s3 := HB0.out.size
          have s4 := B9.out.size
          exact (((B5.out.trans (C6.out.mono s1)).trans (HB0.out.mono (by omega))).trans (B9.out.mono (by omega))).trans ((one_box.trans (hb10.mono (by simp))).mono (by omega))
        clear hb10 q8
        go_wp2_with fail
        go_ret
        exact ⟨rfl, B10.out⟩
      · rw [WY2.out] at e9; cases e9
    · rw [WY.out] at e8; cases e8
end Go.Proofs.YtanfjnhpdchbbabDoor
