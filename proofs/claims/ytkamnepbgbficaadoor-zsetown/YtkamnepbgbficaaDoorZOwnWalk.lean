/- The law ZsetOwn answers true at every argument. -/
import Derived.Test.YtkamnepbgbficaaDoorZSmall
namespace Go.Proofs.YtkamnepbgbficaaDoor
open Go.RowKit Go.Sort
set_option maxRecDepth 100000

theorem kmod_small (n : Int) : -1000 < n.tmod 1000 ∧ n.tmod 1000 < 1000 := by
  have h1 := Int.tmod_lt_of_pos n (by decide : (0 : Int) < 1000)
  have h2 := Int.tmod_lt_of_pos (-n) (by decide : (0 : Int) < 1000)
  rw [Int.neg_tmod] at h2
  omega
theorem wt_thousand (r : List Val) : ∀ (l : List Ent), (∀ e ∈ l, -1000 < e.2 ∧ e.2 < 1000) → -(1000 * (l.length : Int)) ≤ wt r l ∧ wt r l ≤ 1000 * (l.length : Int)
  | [], _ => by simp [wt]
  | e :: l, h => by
    have h1 := wt_thousand r l (fun x hx => h x (by simp [hx]))
    have h2 := h e (by simp)
    simp only [wt, List.length_cons]
    split <;> omega
def kcutE (e : Ent) : Ent := (e.1, e.2.tmod 1000)
def kcutV (e : VEnt) : VEnt := (e.1, e.2.tmod 1000)
theorem OwnRows.kcut {base : Nat} {w : World} {us : List VEnt} {l : List Ent} (h : OwnRows base w us l) : OwnRows base w (us.map kcutV) (l.map kcutE) := by
  refine ⟨by simp [h.1], fun i h1 h2 => ?_⟩
  simp only [List.length_map] at h1 h2
  simp only [List.getElem_map, kcutV, kcutE]
  exact ⟨(h.2 i h1 h2).1, by rw [(h.2 i h1 h2).2]⟩
def KTo (base : Nat) (us : List VEnt) (l : List Ent) (w : World) (v : Value) (j : Nat) (wr : World) : Prop :=
  wr.ownsRow base 50 2 v us.length (es (cutTo kcutV us j)) ∧ OwnRows base wr us l ∧ Below w.heap.size w wr
theorem wt_take {r : List Val} {l : List Ent} {k : Nat} (h : k < l.length) : wt r (l.take (k + 1)) = wt r (l.take k) + (if l[k].1 = r then l[k].2 else 0) := by
  rw [List.take_succ_eq_append_getElem h, wt_append]; simp [wt]
theorem wt_take_b {r : List Val} {l : List Ent} (h : ∀ e ∈ l, -1000 < e.2 ∧ e.2 < 1000) (k : Nat) (hl : l.length ≤ 16) : -16000 ≤ wt r (l.take k) ∧ wt r (l.take k) ≤ 16000 := by
  have h1 := wt_thousand r (l.take k) (fun e he => h e (List.mem_of_mem_take he))
  have h2 := List.length_take_le' k l
  omega
set_option maxHeartbeats 8000000 in
theorem zown_main (a : Option Addr) (len cap : Nat) (zs : List Int) (h1 : (len : Int) ≤ 150) (ad : Addr) (w : World) (ho : OverAt ad w) (ha : IsRow .i64 w a len cap zs) :
    Calls Tryd.prog 7 #[.slice a len cap] w fun e w' => e = .returned (.bool true) ∧ Below w.heap.size w w' := by
  have Ha : Hid (IsRow .i64 w a len cap zs) := ha
  have HO : Hid (∀ W, Below w.heap.size w W → OverAt ad W) := fun W hW => ho.on hW
  have qf := lawFirst3 ad w ho
  clear ha ho
  go_enter Tryd.func7, Tryd.ntmps7
  go_wp2_with fail
  refine qf.mono ?_
  rintro e w1 ⟨rfl, hb⟩
  have B1 : Hid (Below w.heap.size w w1) := hb
  clear hb qf
  go_wp2_with fail
  have M := seqCols (Ha.out.below B1.out) [1, 3] 26 3
  refine (makeEntries w1.heap.size a len cap zs 0 (w1.heap.size + 1) 2 2 [1, 3] 16 _ M.1 (by decide) (by decide) M.2 (by omega) (by simp) (by intro i h; match i, h with | 0, _ => simp | 1, _ => simp)).mono ?_
  clear M
  rintro e w2 ⟨v, rfl, l, us, p', e1, e2, e3, e4, e5, e6, e7⟩
  obtain ⟨av, capv, rfl⟩ := own_form e3
  have hul : us.length ≤ 16 := by rw [e4.1]; omega
  have hB2 : Below w.heap.size w w2 := (B1.out.trans (below_two.mono B1.out.size)).trans (e7.below B1.out.size (by have := B1.out.size; simp; omega))
  obtain ⟨base, hbase⟩ : ∃ base, base = ((w1.alloc (.cells #[.slice a len cap, .int .i64 0] 26)).alloc (.cells (([1, 3] : List Int).map (Value.int .i64)).toArray 3)).heap.size := ⟨_, rfl⟩
  have hbw : w.heap.size ≤ base := by rw [hbase]; have := B1.out.size; simp; omega
  have F0 : Hid (KTo base us l w (.slice av us.length capv) 0 w2) := by rw [hbase]; exact ⟨by simpa [cutTo] using e3, e4, hB2⟩
  have HLn : Hid (∀ e ∈ l, e.1.length = 2) := fun e he => by have := (e2 e he).2; omega
  clear e2 e3 e4 e5 e6 e7 hB2 hbase
  go_wp2_with fail
  go_loopw [5] (fun i wr => ∃ j : Nat, j ≤ us.length ∧ i = .int .i64 j ∧ KTo base us l w (.slice av us.length capv) j wr) (fun i _ => us.length - (intOf i).toNat)
  case atStart => exact ⟨0, by omega, rfl, F0.out⟩
  case round =>
    obtain ⟨j, hj, rfl, c1, c2, c4⟩ := hrel
    clear F0
    by_cases k1 : j < us.length
    · have I1 : (j : Int) < (us.length : Int) := by omega
      obtain ⟨g, cap', cur, hv, hg0, _⟩ : ∃ g cap' cur, (Value.slice av us.length capv) = .slice (some ⟨g, 0, none⟩) us.length cap' ∧ base ≤ g ∧ wr.heap[g]? = some (.cells cur 50 (0, 0)) := by
        rcases c1.2 with ⟨_, e⟩ | ⟨g, cap', cur, hv, q1, q2, _⟩
        · omega
        · exact ⟨g, cap', cur, hv, q1, q2⟩
      simp only [Value.slice.injEq, true_and] at hv
      obtain ⟨rfl, rfl⟩ := hv
      have hcl : j < (cutTo kcutV us j).length := by rw [cutTo_len]; exact k1
      have hce : (cutTo kcutV us j)[j] = us[j] := by have := cutTo_at kcutV us j k1; rw [List.getElem?_eq_getElem hcl] at this; exact Option.some.inj this
      have x2 : wr.cell? ⟨g, j * 2 + 1, none⟩ = some (.int .i64 us[j].2) := by rw [c1.cellAt _ (by omega), (es_at _ j hcl).2, hce]
      have fz : wr.frozen? ⟨g, j * 2 + 1, none⟩ = false := c1.frozenAt _
      have F : Hid (KTo base us l w (.slice (some ⟨g, 0, none⟩) us.length capv) (j + 1) (wr.setCell ⟨g, j * 2 + 1, none⟩ (.int .i64 (us[j].2.tmod 1000)))) := by
        obtain ⟨s1, s2⟩ := c1.stored (j * 2 + 1) (.int .i64 (us[j].2.tmod 1000))
        refine ⟨?_, c2.grown c1 (v := .slice (some ⟨g, 0, none⟩) us.length capv) s2, c4.setCell (p := ⟨g, j * 2 + 1, none⟩) (by show _ ≤ g; omega) _⟩
        have hse := es_setw (cutTo kcutV us j) j hcl (us[j].2.tmod 1000)
        rw [hce] at hse
        rw [← cutTo_step kcutV us j k1]
        show World.ownsRow _ _ _ _ _ _ (es ((cutTo kcutV us j).set j (us[j].1, us[j].2.tmod 1000)))
        rw [hse]; exact s1
      generalize us[j].2 = i1 at *
      clear c1 c2 c4 hcl hce
      go_wp2_with fail
      go_roundw
      case rel => exact ⟨j + 1, by omega, by go_num, F.out⟩
      case measure => simp [intOf]; omega
    · have I1 : ¬ (j : Int) < (us.length : Int) := by omega
      obtain rfl : j = us.length := by omega
      rw [cutTo_all] at c1
      have hsm : ∀ e ∈ l.map kcutE, -1000 < e.2 ∧ e.2 < 1000 := fun e he => by
        obtain ⟨x, _, rfl⟩ := List.mem_map.1 he; exact kmod_small x.2
      have hll : (l.map kcutE).length = us.length := by rw [List.length_map]; exact c2.1.symm
      have hEn : EntsIs wr (.slice av us.length capv) (l.map kcutE) := ⟨us.map kcutV, EntsAt.of_own (by rw [List.length_map]; exact c1), c2.kcut.reads⟩
      have HSm : Hid (∀ e ∈ l.map kcutE, -1000 < e.2 ∧ e.2 < 1000) := hsm
      have HLn' : Hid (∀ e ∈ l.map kcutE, e.1.length = 2) := fun e he => by obtain ⟨x, hx, rfl⟩ := List.mem_map.1 he; exact HLn.out x hx
      have HEn : Hid (EntsIs wr (.slice av us.length capv) (l.map kcutE)) := hEn
      have HB : Hid (Below w.heap.size w wr) := c4
      have HLL : Hid ((l.map kcutE).length = us.length) := hll
      obtain ⟨W3, hW3⟩ : ∃ W3, W3 = wr := ⟨wr, rfl⟩
      subst hW3
      generalize l.map kcutE = m at *
      have hok : okZ m = true := (okZ_iff m).2 (fun r => by have := wt_thousand r m HSm.out; rw [hll] at this; unfold inI; simp; omega)
      have q1 := zMake m _ ad W3 (HO.out _ c4) (by rw [hll]; omega) (fun e he => ⟨by have := HSm.out e he; unfold inI; simp; omega, by have := HLn'.out e he; omega⟩) hEn
      rw [hok] at q1
      have HZ : Hid (IsZ (mkZ m)) := mkZ_isZ m
      have HW : Hid (∀ r, wt r (mkZ m) = wt r m) := wt_mkZ hok
      have hzl : (mkZ m).length ≤ us.length := by have := mkZ_len m; omega
      have hml : m.length ≤ 16 := by omega
      clear c1 c2 c4 hsm hll hEn hok HLn e1
      generalize mkZ m = z at *
      go_wp2_with fail
      refine q1.mono ?_
      rintro e W4 ⟨vz, rfl, z1, z2⟩
      obtain ⟨az, cz, rfl⟩ := z1.form
      have HZ1 : Hid (EntsIs W4 (.slice az z.length cz) z) := z1
      have HE4 : Hid (EntsIs W4 (.slice av us.length capv) m) := HEn.out.on z2
      have HB4 : Hid (Below w.heap.size w W4) := HB.out.trans (z2.mono HB.out.size)
      rw [ovE_t]
      have q2 : Hid (Calls Tryd.prog 24 #[.slice az z.length cz] W4 fun e w' => e = .returned (.bool true) ∧ Below W4.heap.size W4 w') := (zCheck z _ W4 z1).mono fun e w' ⟨h1, h2⟩ => ⟨by rw [h1, isZ_yes HZ.out], h2⟩
      clear q1 z1 z2 HEn HB
      go_wp2_with fail
      refine q2.out.mono ?_
      rintro e W5 ⟨rfl, hb5⟩
      have HZ5 : Hid (EntsIs W5 (.slice az z.length cz) z) := HZ1.out.on hb5
      have HE5 : Hid (EntsIs W5 (.slice av us.length capv) m) := HE4.out.on hb5
      have HB5 : Hid (Below w.heap.size w W5) := HB4.out.trans (hb5.mono HB4.out.size)
      clear q2 hb5 HZ1 HE4 HB4
      go_wp2_with fail
      go_loopw [8] (fun i wr => ∃ j : Nat, j ≤ us.length ∧ i = .int .i64 j ∧ Below W5.heap.size W5 wr) (fun i _ => us.length - (intOf i).toNat)
      case atStart => exact ⟨0, by omega, rfl, Below.refl _ _⟩
      case round =>
        obtain ⟨W6, hW6⟩ : ∃ W6, W6 = wr := ⟨wr, rfl⟩
        subst hW6
        obtain ⟨j, hj, rfl, hb6⟩ := hrel
        have HB6 : Hid (Below W5.heap.size W5 W6) := hb6
        clear hb6
        by_cases k1 : j < us.length
        · have k1' : j < m.length := by have := HLL.out; omega
          obtain ⟨b, o, a1, c1, rfl, x1, x2, x3⟩ := (HE5.out.on HB6.out).at j k1'
          have I1 : (j : Int) < (us.length : Int) := by omega
          have HX1 : Hid (W6.cell? ⟨b, o + j * 2, none⟩ = some (.slice a1 m[j].1.length c1)) := x1
          have HX3 : Hid (RowIs W6 (.slice a1 m[j].1.length c1) m[j].1) := x3
          generalize hr : m[j].1 = r at *
          have HM0 : Hid (wt r (m.take 0) = 0) := by show _ = _; simp [wt]
          clear x1 x2 x3
          go_wp2_with fail
          go_loopw [9, 10] (fun nv kv wr => ∃ k : Nat, k ≤ us.length ∧ kv = .int .i64 k ∧ nv = .int .i64 (wt r (m.take k)) ∧ Below W6.heap.size W6 wr) (fun _ kv _ => us.length - (intOf kv).toNat)
          case atStart => exact ⟨0, by omega, rfl, by rw [HM0.out], Below.refl _ _⟩
          case round =>
            obtain ⟨k, hk, rfl, rfl, hb7⟩ := hrel
            have HB7 : Hid (Below W6.heap.size W6 wr) := hb7
            have hB57 : Hid (Below W5.heap.size W5 wr) := HB6.out.trans (hb7.mono HB6.out.size)
            have hbd := wt_take_b (r := r) HSm.out k hml
            clear hb7
            by_cases k2 : k < us.length
            · have k2' : k < m.length := by have := HLL.out; omega
              obtain ⟨b', o', a2, c2, e2, y1, y2, y3⟩ := (HE5.out.on hB57.out).at k k2'
              simp only [Option.some.injEq, Addr.mk.injEq, and_true] at e2
              obtain ⟨rfl, rfl⟩ := e2
              have I2 : (k : Int) < (us.length : Int) := by omega
              have x1 := cell_on HX1.out HB7.out
              have hsm := HSm.out _ (List.getElem_mem k2')
              have HT : Hid (wt r (m.take (k + 1)) = wt r (m.take k) + (if m[k].1 = r then m[k].2 else 0)) := wt_take k2'
              have q1 : Hid (∀ d os, Calls Tryd.prog 29 #[.slice a1 r.length c1, .slice a2 m[k].1.length c2] (grow (redrawn wr d) os) fun e w'' => e = .returned (.int .i64 (cR r m[k].1)) ∧ ∃ p : Regrown, w'' = grow (redrawn wr p.d) p.os) :=
                fun d os => Calls.regrown_of (refCompareRows _ _ _ _ _ (HX3.out.on (HB7.out.trans ((below_regrown wr d os).mono HB7.out.size))) (y3.on (below_regrown wr d os)))
              have HC : Hid (cR r m[k].1 = 0 ↔ m[k].1 = r) := ⟨fun h => ((cR_zero _ _).1 h).symm, fun h => (cR_zero _ _).2 h.symm⟩
              have g1 := fun d os => cell_regrown x1 d os
              have g2 := fun d os => cell_regrown y1 d os
              have Y2 : Hid (wr.cell? ⟨b, o + k * 2 + 1, none⟩ = some (.int .i64 m[k].2)) := y2
              generalize cR r m[k].1 = c at *
              generalize hnk : m[k].1.length = nk at *
              generalize hnr : r.length = nr at *
              generalize hik : m[k].2 = ik at *
              generalize wt r (m.take k) = sm at *
              clear x1 y1 y2 y3
              go_wp2_with fail
              refine wp_region_quiet_below (by kernel_rfl) (by kernel_rfl) ?_
              iterate 12 (quiet_step (exact q1.out _ _))
              refine wpQuiet_nil ?_
              intro w8 hw8
              obtain ⟨p8, hw8⟩ := hw8
              have hb8 : Below wr.heap.size wr w8 := by rw [hw8]; exact below_regrown wr _ _
              have HB8 : Hid (Below W6.heap.size W6 w8) := HB7.out.trans (hb8.mono HB7.out.size)
              have y2 := cell_on Y2.out hb8
              clear hw8 g1 g2 q1 hb8 Y2
              by_cases h0 : c = 0
              · have HE : Hid (wt r (m.take (k + 1)) = sm + ik) := by show _ = _; rw [HT.out, if_pos (HC.out.1 h0)]
                subst h0
                clear HT HC
                go_wp2_with fail
                go_roundw
                case rel => exact ⟨k + 1, by omega, by go_num, by rw [HE.out], HB8.out⟩
                case measure => simp [intOf]; omega
              · have HE : Hid (wt r (m.take (k + 1)) = sm) := by show _ = _; rw [HT.out, if_neg (fun h => h0 (HC.out.2 h))]; omega
                have ee : (c == 0) = false := by simp [h0]
                clear HT HC
                go_wp2_with fail
                go_roundw
                case rel => exact ⟨k + 1, by omega, by go_num, by rw [HE.out], HB8.out⟩
                case measure => simp [intOf]; omega
            · have I2 : ¬ (k : Int) < (us.length : Int) := by omega
              have hmk : m.take k = m := List.take_of_length_le (by have := HLL.out; omega)
              rw [hmk]
              have x1 := cell_on HX1.out HB7.out
              have q2 : Hid (Calls Tryd.prog 22 #[.slice az z.length cz, .slice a1 r.length c1] wr fun e w' => e = .returned (.int .i64 (wt r m)) ∧ Below wr.heap.size wr w') := by
                have := zGet z r _ _ wr (by omega) HZ.out (HZ5.out.on hB57.out) (HX3.out.on HB7.out)
                rw [HW.out] at this; exact this
              generalize wt r m = sm at *
              generalize hnr : r.length = nr at *
              clear hmk hbd
              go_wp2_with fail
              refine q2.out.mono ?_
              rintro e w8 ⟨rfl, hb8⟩
              have HB8 : Hid (Below W5.heap.size W5 w8) := hB57.out.trans (hb8.mono hB57.out.size)
              clear hb8 q2 x1
              go_wp2_with fail
              go_roundw
              case rel => exact ⟨j + 1, by omega, by go_num, HB8.out⟩
              case measure => simp [intOf]; omega
        · have I1 : ¬ (j : Int) < (us.length : Int) := by omega
          have I2 : (z.length : Int) ≤ (us.length : Int) := by omega
          have HB : Hid (Below w.heap.size w W6) := HB5.out.trans (HB6.out.mono HB5.out.size)
          have q3 : Hid (Calls Tryd.prog 22 #[.slice az z.length cz, .slice (some ⟨W6.heap.size, 0, none⟩) 1 1] (W6.alloc (.cells #[.int .i64 2, .int .i64 0, .string ⟨#[122, 122]⟩] 48)) fun e w' => e = .returned (.int .i64 0) ∧ Below w.heap.size w w') := by
            have hz := zGet z [(2, 0, ⟨#[122, 122]⟩)] (.slice az z.length cz) _ _ (by omega) HZ.out ((HZ5.out.on HB6.out).on one_box) (row_new W6 2 0 ⟨#[122, 122]⟩)
            rw [HW.out, wt_none (fun e he h => by have := HLn'.out e he; rw [h] at this; simp at this)] at hz
            exact hz.mono fun e w' ⟨q1, q2⟩ => ⟨q1, HB.out.trans ((one_box.trans (q2.mono (by simp))).mono HB.out.size)⟩
          go_wp2_with fail
          refine q3.out.mono ?_
          rintro e w9 ⟨rfl, hb9⟩
          have HB9 : Hid (Below w.heap.size w w9) := hb9
          clear hb9 q3
          go_wp2_with fail
          go_ret
          exact ⟨rfl, HB9.out⟩
set_option maxHeartbeats 1000000 in
theorem zown_long (a : Option Addr) (len cap : Nat) (ad : Addr) (w : World) (ho : OverAt ad w) (h : 150 < (len : Int)) :
    Calls Tryd.prog 7 #[.slice a len cap] w fun e w' => e = .returned (.bool true) ∧ Below w.heap.size w w' := by
  go_enter Tryd.func7, Tryd.ntmps7
  go_wp2_with fail
  refine (lawFirst3 ad _ ho).mono ?_
  rintro e w1 ⟨rfl, hb1⟩
  go_wp2_with fail
  go_ret
  exact ⟨rfl, hb1⟩
/-- ZsetOwn; its error is asked of the world besides. -/
theorem zsetOwn_walk (a : Option Addr) (len cap : Nat) (zs : List Int) (w : World) (ho : ∃ ad, OverAt ad w) (ha : IsRow .i64 w a len cap zs) :
    Calls Tryd.prog 7 #[.slice a len cap] w fun e w' => e = .returned (.bool true) ∧ Below w.heap.size w w' := by
  obtain ⟨ad, ho⟩ := ho
  by_cases h : (len : Int) ≤ 150
  · exact zown_main a len cap zs h ad w ho ha
  · exact zown_long a len cap ad w ho (by omega)
end Go.Proofs.YtkamnepbgbficaaDoor
