/- What the document's own settle answers of sums in memory: a z-set, or that a weight is beyond. -/
import Derived.Test.YtlafokjkpbhckaaGreatDoorPackMake
namespace Go.Proofs.YtlafokjkpbhckaaGreatDoor
open Go.RowKit Go.Sort
set_option maxRecDepth 100000

/-- Weights that a product may have. -/
def inW (k : Int) : Prop := -85070591730234615865843651857942052864 ≤ k ∧ k ≤ 85070591730234615865843651857942052864
theorem wt_boundW (r : List Val) : ∀ (l : List Ent), (∀ e ∈ l, inW e.2) → -(85070591730234615865843651857942052864 * (l.length : Int)) ≤ wt r l ∧ wt r l ≤ 85070591730234615865843651857942052864 * (l.length : Int)
  | [], _ => by simp [wt]
  | e :: l, h => by
    have h1 := wt_boundW r l (fun x hx => h x (by simp [hx]))
    have h2 := h e (by simp)
    unfold inW at h2
    simp only [wt, List.length_cons]
    split <;> omega
theorem gat_boundW {l : List Ent} (hn : l.length ≤ 65536) (hk : ∀ e ∈ l, inW e.2) : ∀ e ∈ gat l, -5575186299632655785383929568162090376495104 ≤ e.2 ∧ e.2 ≤ 5575186299632655785383929568162090376495104 := by
  intro e he
  have h1 := wt_mem (gat_sorted l) he
  rw [wt_gat] at h1
  have h2 := wt_boundW e.1 l hk
  rw [h1] at h2
  omega
/-- While the others go up. -/
def UpS (w : World) (vs : List VEnt) (v : Value) (k : Nat) (w' : World) : Prop :=
  w'.ownsRow w.heap.size 75 4 v (vs.length + 1) (ss (up vs (.slice none 0 0, 0) k)) ∧ Below w.heap.size w w'
set_option maxHeartbeats 8000000 in
theorem refSettle (l : List Ent) (xs : List VEnt) (base : Nat) (va : Value) (w w0 : World) (h0 : ∀ v r, RowIs w0 v r → RowIs w v r) (hn : l.length ≤ 65536) (hk : ∀ e ∈ l, inW e.2) (ha : OwnS base w va xs) (har : Reads w0 xs l) (c : Int) (hc : c = if okZ l then 0 else 107) :
    Calls Tryz.prog 25 #[va] w fun e w' => ∃ v, e = .returned (.tuple #[v, .int .i64 c]) ∧ EntsN w.heap.size w0 (mkZ l) v w' ∧ Below w.heap.size w w' := by
  obtain ⟨a0, cap, rfl⟩ := ha.form
  have hxl := har.1
  have hgb := gat_boundW hn hk
  have hgl := gat_len l
  have HB0 : Hid (∀ e ∈ gat l, -5575186299632655785383929568162090376495104 ≤ e.2 ∧ e.2 ≤ 5575186299632655785383929568162090376495104) := hgb
  have HM : Hid (fitsZ (gat l) = true → c = 0 ∧ mkZ l = nzZ (gat l)) := fun h => by
    have : okZ l = true := h
    unfold mkZ; rw [this]; rw [this] at hc; exact ⟨hc, rfl⟩
  have HN : Hid (fitsZ (gat l) = false → c = 107 ∧ mkZ l = []) := fun h => by
    have : okZ l = false := h
    unfold mkZ; rw [this]; rw [this] at hc; exact ⟨hc, rfl⟩
  have Ha : Hid (OwnS base w (.slice a0 xs.length cap) xs) := ha
  have Hr : Hid (Reads w0 xs l) := har
  rw [hxl] at Ha
  have H0 : Hid (GatTo l w w0 0 (.slice none 0 0) w) := ⟨[], World.ownsRow_nil _ _ _ _, Reads.nil w0, Below.refl _ _⟩
  have H00 : Hid (∀ v r, RowIs w0 v r → RowIs w v r) := h0
  clear ha hk h0 har hgb hc
  rw [hxl]
  go_enter Tryz.func25, Tryz.ntmps25
  go_wp2_with fail
  go_loopw [4, 5] (fun v i wr => ∃ j : Nat, j ≤ l.length ∧ i = .int .i64 j ∧ GatTo l w w0 j v wr) (fun _ i _ => l.length - (intOf i).toNat)
  case atStart => exact ⟨0, by omega, rfl, H0.out⟩
  case round =>
    obtain ⟨W0, hW0⟩ : ∃ W0, W0 = wr := ⟨wr, rfl⟩
    subst hW0
    obtain ⟨j, hj, rfl, vs, hO, hR, hB⟩ := hrel
    by_cases k1 : j < l.length
    · obtain ⟨av, capv, rfl⟩ := hO.form
      obtain ⟨b, rfl, hbx1, hbx2, x1, x2, x4, x5⟩ := Ha.out.at j (by rw [hxl]; exact k1)
      obtain ⟨x3, hxw⟩ := Hr.out.2 j (by rw [hxl]; exact k1) k1
      obtain ⟨a1, c1, hxe⟩ := x3.form
      rw [hxe] at x1 x3
      rw [hxw] at x2 x4 x5
      have I1 : (j : Int) < (l.length : Int) := by omega
      have hlen : vs.length ≤ j := by rw [hR.1]; have := gat_len (l.take j); simp at this; omega
      have HZ : Hid (SortedZ (gat (l.take j))) := gat_sorted _
      have HG : Hid (gat (l.take (j + 1)) = ins l[j].1 l[j].2 (gat (l.take j))) := by show _ = _; rw [List.take_succ_eq_append_getElem k1, gat_snoc]
      have HO : Hid (OwnS w.heap.size W0 (.slice av vs.length capv) vs) := hO
      have HR : Hid (Reads w0 vs (gat (l.take j))) := hR
      have HB : Hid (Below w.heap.size w W0) := hB
      have HX : Hid (RowIs w0 (.slice a1 l[j].1.length c1) l[j].1) := x3
      have HXw : Hid (RowIs w (.slice a1 l[j].1.length c1) l[j].1) := H00.out _ _ x3
      have X1 : Hid (w.cell? ⟨b, j * 4, none⟩ = some (.slice a1 l[j].1.length c1)) := x1
      have X2 : Hid (w.cell? ⟨b, j * 4 + 1, none⟩ = some (.int .u64 (wHi l[j].2)) ∧ w.cell? ⟨b, j * 4 + 2, none⟩ = some (.int .u64 (wMid l[j].2)) ∧ w.cell? ⟨b, j * 4 + 3, none⟩ = some (.int .u64 (wLo l[j].2))) := ⟨x2, x4, x5⟩
      have hnz : (gat (l.take j)).length = vs.length := hR.1.symm
      clear hxe hxw hbx1
      generalize gat (l.take j) = z at *
      generalize l[j].1 = r at *
      generalize l[j].2 = kk at *
      clear hO hR hB x1 x2 x3 x4 x5
      go_wp2_with fail
      go_loopw [6, 7] (fun lo hi w2 => ∃ p q : Nat, p ≤ q ∧ q ≤ vs.length ∧ lo = .int .i64 p ∧ hi = .int .i64 q ∧ Hid (Split z r p q) ∧ Hid (Below W0.heap.size W0 w2)) (fun lo hi _ => (intOf hi).toNat - (intOf lo).toNat)
      case atStart => exact ⟨0, vs.length, by omega, by omega, rfl, rfl, by rw [← hnz]; exact Split.all z r, Below.refl _ _⟩
      case round =>
        obtain ⟨w2, hw2⟩ : ∃ w2, w2 = wr := ⟨wr, rfl⟩
        subst hw2
        obtain ⟨p, q, hpq, hq, rfl, rfl, hs, hb2⟩ := hrel
        by_cases hlt : p < q
        · have hm : (p + q) / 2 < vs.length := by omega
          have hm' : (p + q) / 2 < z.length := by omega
          have hm1 : p ≤ (p + q) / 2 ∧ (p + q) / 2 < q := by omega
          have hB2 : Hid (Below w.heap.size w w2) := HB.out.trans (hb2.out.mono HB.out.size)
          obtain ⟨g, rfl, hg1, hg2, y1, _⟩ := (HO.out.on hb2.out).at ((p + q) / 2) hm
          obtain ⟨r1, _⟩ := HR.out.2 ((p + q) / 2) hm hm'
          obtain ⟨am, cm, em⟩ := r1.form
          rw [em] at y1 r1
          have r1 := H00.out _ _ r1
          have I2 : (p : Int) < (q : Int) := by omega
          have I3 : Int.tdiv ((p : Int) + (q : Int)) 2 = (((p + q) / 2 : Nat) : Int) := by rw [Int.tdiv_eq_ediv_of_nonneg (by omega)]; omega
          have E1 : Hid (cR z[(p + q) / 2].1 r < 0 → Split z r ((p + q) / 2 + 1) q) := fun h => hs.out.up HZ.out hm' h
          have E2 : Hid (¬ cR z[(p + q) / 2].1 r < 0 → Split z r p ((p + q) / 2)) := fun h => hs.out.down HZ.out hm' h
          have q1 : Hid (∀ d os, Calls Tryz.prog 50 #[.slice am z[(p + q) / 2].1.length cm, .slice a1 r.length c1] (grow (redrawn w2 d) os) fun e w'' => e = .returned (.int .i64 (cR z[(p + q) / 2].1 r)) ∧ ∃ p : Regrown, w'' = grow (redrawn w2 p.d) p.os) :=
            fun d os => Calls.regrown_of (refCompareRows _ _ _ _ _ (r1.on (hB2.out.trans ((below_regrown w2 d os).mono hB2.out.size))) (HXw.out.on (hB2.out.trans ((below_regrown w2 d os).mono hB2.out.size))))
          have g1 := fun d os => cell_regrown y1 d os
          have g2 := fun d os => cell_regrown (cell_on X1.out hB2.out) d os
          generalize cR z[(p + q) / 2].1 r = c at *
          generalize z[(p + q) / 2].1.length = nm at *
          generalize (p + q) / 2 = m at *
          have I4 : (m : Int) < (vs.length : Int) := by omega
          clear y1 r1 em hs
          go_wp2_with fail
          refine wp_region_quiet_below (by kernel_rfl) (by kernel_rfl) ?_
          iterate 12 (quiet_step (exact q1.out _ _))
          refine wpQuiet_nil ?_
          intro w6 hw6
          obtain ⟨p6, hw6⟩ := hw6
          have hb6 : Hid (Below W0.heap.size W0 w6) := by rw [hw6]; exact hb2.out.trans ((below_regrown w2 _ _).mono hb2.out.size)
          clear hw6 g1 g2 q1 hb2 hB2
          by_cases hc : c < 0
          · have E : Hid (Split z r (m + 1) q) := E1.out hc
            clear E1 E2
            go_wp2_with fail
            go_roundw
            case rel => exact ⟨m + 1, q, by omega, by omega, by go_num, rfl, E.out, hb6.out⟩
            case measure => simp [intOf]; omega
          · have E : Hid (Split z r p m) := E2.out (by omega)
            clear E1 E2
            go_wp2_with fail
            go_roundw
            case rel => exact ⟨p, m, by omega, by omega, rfl, rfl, E.out, hb6.out⟩
            case measure => simp [intOf]; omega
        · obtain rfl : p = q := by omega
          have hB2 : Hid (Below w.heap.size w w2) := HB.out.trans (hb2.out.mono HB.out.size)
          have I2 : ¬ (p : Int) < (p : Int) := by omega
          generalize hHi : wHi kk = khi at *
          generalize hMid : wMid kk = kmid at *
          generalize hLo : wLo kk = klo at *
          go_wp2_with fail
          have hb4 : Hid (Below W0.heap.size W0 w2) := hb2.out
          obtain ⟨W4, hW4⟩ : ∃ W4, W4 = w2 := ⟨w2, rfl⟩
          subst hW4
          clear hb2 hB2
          have hB4 : Hid (Below w.heap.size w W4) := HB.out.trans (hb4.out.mono HB.out.size)
          by_cases hp : p < vs.length
          · have hp' : p < z.length := by omega
            obtain ⟨g, rfl, hg1, hg2, y1, y2, y3, y4⟩ := (HO.out.on hb4.out).at p hp
            obtain ⟨r1, r2⟩ := HR.out.2 p hp hp'
            obtain ⟨am, cm, em⟩ := r1.form
            rw [em] at y1 r1
            have r1 := H00.out _ _ r1
            have I5 : (p : Int) < (vs.length : Int) := by omega
            have q1 : Hid (∀ d os, Calls Tryz.prog 50 #[.slice am z[p].1.length cm, .slice a1 r.length c1] (grow (redrawn W4 d) os) fun e w'' => e = .returned (.int .i64 (cR z[p].1 r)) ∧ ∃ p : Regrown, w'' = grow (redrawn W4 p.d) p.os) :=
              fun d os => Calls.regrown_of (refCompareRows _ _ _ _ _ (r1.on (hB4.out.trans ((below_regrown W4 d os).mono hB4.out.size))) (HXw.out.on (hB4.out.trans ((below_regrown W4 d os).mono hB4.out.size))))
            have g1 := fun d os => cell_regrown y1 d os
            have g2 := fun d os => cell_regrown (cell_on X1.out hB4.out) d os
            have EH : Hid (cR z[p].1 r = 0 → ins r kk z = z.set p (z[p].1, z[p].2 + kk)) := fun h => ins_hit hs.out hp' h
            have EN : Hid (cR z[p].1 r ≠ 0 → ins r kk z = z.take p ++ (r, kk) :: z.drop p) := fun h => ins_new hs.out (by omega) (fun _ => h)
            generalize hcc : cR z[p].1 r = c at *
            generalize z[p].1.length = nm at *
            clear y1 y2 y3 y4 r1 hcc hs
            go_wp2_with fail
            refine wp_region_quiet_below (by kernel_rfl) (by kernel_rfl) ?_
            iterate 16 (go_big_quiet_step (exact q1.out _ _))
            iterate 2 (go_big_quiet_step (fail))
            refine wpQuiet_nil ?_
            intro w6 hw6
            obtain ⟨p6, hw6⟩ := hw6
            have hb6 : Hid (Below W0.heap.size W0 w6) := by rw [hw6]; exact hb4.out.trans ((below_regrown W4 _ _).mono hb4.out.size)
            clear hw6 g1 g2 q1 hb4
            by_cases hc : c = 0
            · subst hc
              have EZ : Hid (ins r kk z = z.set p (z[p].1, z[p].2 + kk)) := EH.out rfl
              clear EH EN
              obtain ⟨_, e1, _, _, y1, y2, y3, y4⟩ := (HO.out.on hb6.out).at p hp
              simp only [Option.some.injEq, Addr.mk.injEq, and_true] at e1
              subst e1
              have BB6 : Hid (Below w.heap.size w w6) := HB.out.trans (hb6.out.mono HB.out.size)
              have z1 := cell_on X2.out.1 BB6.out
              have z2 := cell_on X2.out.2.1 BB6.out
              have z3 := cell_on X2.out.2.2 BB6.out
              have qp : Hid (∀ W, Below w6.heap.size w6 W → Calls Tryz.prog 51 #[.agg #[.int .u64 (wHi vs[p].2), .int .u64 (wMid vs[p].2), .int .u64 (wLo vs[p].2)], .agg #[.int .u64 khi, .int .u64 kmid, .int .u64 klo]] W fun e w' => e = .returned (.agg #[.int .u64 (wHi (vs[p].2 + kk)), .int .u64 (wMid (vs[p].2 + kk)), .int .u64 (wLo (vs[p].2 + kk))]) ∧ Below w6.heap.size w6 w') := fun W hW => by
                have := refPlus vs[p].2 kk W
                unfold wV at this
                rw [hHi, hMid, hLo] at this
                exact this.mono fun e w' ⟨h1, h2⟩ => ⟨h1, hW.trans (h2.mono hW.size)⟩
              have hg6 : g < w6.heap.size := Nat.lt_of_lt_of_le (World.block_lt_of_cell? _ _ y1) (Nat.le_refl _)
              have FZ : Hid (∀ o, w6.frozen? ⟨g, o, none⟩ = false) := fun o => (HO.out.on hb6.out).frozen o
              have FA : Hid (∀ w7, Hid (Below w6.heap.size w6 w7) → GatTo l w w0 (j + 1) (.slice (some ⟨g, 0, none⟩) vs.length capv) (((w7.setCell ⟨g, p * 4 + 1, none⟩ (.int .u64 (wHi (vs[p].2 + kk)))).setCell ⟨g, p * 4 + 1 + 1, none⟩ (.int .u64 (wMid (vs[p].2 + kk)))).setCell ⟨g, p * 4 + 1 + 2, none⟩ (.int .u64 (wLo (vs[p].2 + kk))))) := by
                intro w7 h7
                have o7 : w7.ownsRow w.heap.size 75 4 (.slice (some ⟨g, 0, none⟩) vs.length capv) vs.length (ss vs) := (HO.out.on hb6.out).on h7.out
                have s1 := o7.stored (p * 4 + 1) (.int .u64 (wHi (vs[p].2 + kk)))
                have s2 := s1.1.stored (p * 4 + 1 + 1) (.int .u64 (wMid (vs[p].2 + kk)))
                have s3 := s2.1.stored (p * 4 + 1 + 2) (.int .u64 (wLo (vs[p].2 + kk)))
                refine ⟨vs.set p (vs[p].1, vs[p].2 + kk), ?_, ?_, ?_⟩
                · unfold OwnS; rw [List.length_set, ss_setw vs p hp]; exact s3.1
                · rw [HG.out, EZ.out, ← r2]; exact HR.out.setw p hp hp' _
                · have hbb := (HB.out.trans (hb6.out.mono HB.out.size)).trans (h7.out.mono (Nat.le_trans HB.out.size hb6.out.size))
                  exact ((hbb.setCell (p := ⟨g, p * 4 + 1, none⟩) hg1 _).setCell (p := ⟨g, p * 4 + 1 + 1, none⟩) hg1 _).setCell (p := ⟨g, p * 4 + 1 + 2, none⟩) hg1 _
              generalize hshi : wHi (vs[p].2 + kk) = shi at *
              generalize hsmid : wMid (vs[p].2 + kk) = smid at *
              generalize hslo : wLo (vs[p].2 + kk) = slo at *
              generalize hthi : wHi vs[p].2 = thi at *
              generalize htmid : wMid vs[p].2 = tmid at *
              generalize htlo : wLo vs[p].2 = tlo at *
              clear y1
              go_wp2_with fail
              go_region_with (go_at_call 51; refine (qp.out _ ((Below.refl _ _).drew)).mono ?_; rintro e w7 ⟨rfl, hb7⟩; have hb7' : Hid (Below w6.heap.size w6 w7) := hb7; have cc := fun o => hb7.cell (p := ⟨g, o, none⟩) hg6; have ff := fun o => hb7.frozen (p := ⟨g, o, none⟩) hg6; have fz := FZ.out; clear hb7)
              all_goals
                have hf := FA.out _ hb7'
                clear FA qp cc ff fz hb7' EZ
                go_wp2_with fail
                go_roundw
                case rel => exact ⟨j + 1, by omega, by go_num, hf⟩
                case measure => simp [intOf]; omega
            · have EZ : Hid (ins r kk z = z.take p ++ (r, kk) :: z.drop p) := EN.out hc
              have ee : (c == 0) = false := by simp [hc]
              clear EH EN
              have H6 : Hid (w6.ownsRow w.heap.size 75 4 (.slice (some ⟨g, 0, none⟩) vs.length capv) vs.length (ss vs)) := HO.out.on hb6.out
              have F8 : Hid (∀ v2 w8, w8.ownsRow w.heap.size 75 4 v2 (vs.length + 1) (ss vs ++ sc (.slice none 0 0, 0)) → (w6.alloc (.cells #[.slice none 0 0, .int .u64 0, .int .u64 0, .int .u64 0] 75)).grownBy w8 (Value.ownBlock (.slice (some ⟨g, 0, none⟩) vs.length capv)) → ∃ g2 cap2, v2 = .slice (some ⟨g2, 0, none⟩) (vs.length + 1) cap2 ∧ Hid (UpS w vs v2 vs.length w8)) := by
                intro v2 w8 h1 h2
                have hbA := HB.out.trans (hb6.out.mono HB.out.size)
                have hb8 : Below w.heap.size w w8 := (hbA.alloc hbA.size _).grown h2 (by have := hbA.size; simp; omega) (fun k e => (H6.out.lt k e).1)
                have hU : UpS w vs v2 vs.length w8 := ⟨by rw [up_first, ss_snoc]; exact h1, hb8⟩
                rcases h1.2 with ⟨_, e⟩ | ⟨g2, cap2, cur, hv, _⟩
                · omega
                · exact ⟨g2, cap2, hv, hU⟩
              obtain ⟨i0, hi, hz0, hz1, hz2⟩ := info_parts info_sum
              go_wp2_with (first | (at_builtin; refine wpList_append_own _ rfl _ _ 69 rfl w.heap.size 75 i0 (.agg #[.slice none 0 0, .int .u64 0, .int .u64 0, .int .u64 0]) 4 48 Tryz.underlying69 hi hz0 hz1 hz2 rfl (by decide) _ vs.length (ss vs) rfl (H6.out.alloc _) ⟨w6.heap.size, 0, none⟩ 1 1 (sc (.slice none 0 0, 0)) rfl rfl (cell_four_new _ _ _ _ _ _) (by simp [sc, Value.oneCell']) (by unfold maxLen; omega) (by omega) (by have := HB.out.size; have := hb6.out.size; simp; omega) ?_; intro v2 w8 hown8 hg8 _; obtain ⟨g2, cap2, rfl, hU⟩ := F8.out _ _ hown8 hg8; clear hown8 hg8 F8 H6) | fail)
              have hpn : p ≤ vs.length := by omega
              clear hi hz0 hz1 hz2
              go_loopw [9] (fun kv w9 => ∃ k : Nat, p ≤ k ∧ k ≤ vs.length ∧ kv = .int .i64 k ∧ Hid (UpS w vs (.slice (some ⟨g2, 0, none⟩) (vs.length + 1) cap2) k w9)) (fun kv _ => (intOf kv).toNat)
              case atStart => exact ⟨vs.length, by omega, by omega, by go_num, hU.out⟩
              case round =>
                obtain ⟨w9, hw9⟩ : ∃ w9, w9 = wr := ⟨wr, rfl⟩
                subst hw9
                obtain ⟨k, hpk, hkn, rfl, hU9⟩ := hrel
                obtain ⟨u1, u2⟩ := hU9.out
                have hg2 : w.heap.size ≤ g2 := (u1.lt g2 rfl).1
                have FZ : Hid (∀ o, w9.frozen? ⟨g2, o, none⟩ = false) := fun o => u1.frozenAt o
                by_cases hk : p < k
                · have I6 : (p : Int) < (k : Int) := by omega
                  have hk1 : k - 1 < vs.length := by omega
                  have I7 : (k : Int) < (vs.length : Int) + 1 := by omega
                  have I8 : (k : Int) - 1 < (vs.length : Int) + 1 := by omega
                  have I9 : ((k : Int) - 1).toNat = k - 1 := by omega
                  have I10 : 0 ≤ (k : Int) - 1 := by omega
                  have e1 : (up vs (.slice none 0 0, 0) k)[k - 1]? = some vs[k - 1] := by rw [up_at (by omega) hkn, List.getElem?_eq_getElem hk1]
                  have hl1 : k - 1 < (up vs (.slice none 0 0, 0) k).length := by rw [up_len hkn]; omega
                  have hl2 : k < (up vs (.slice none 0 0, 0) k).length := by rw [up_len hkn]; omega
                  have e2 : (up vs (.slice none 0 0, 0) k)[k - 1] = vs[k - 1] := by rw [List.getElem?_eq_getElem hl1] at e1; exact Option.some.inj e1
                  have s1 := ss_at (up vs (.slice none 0 0, 0) k) (k - 1) hl1
                  have s2 := ss_at (up vs (.slice none 0 0, 0) k) k hl2
                  rw [e2] at s1
                  obtain ⟨am, cm, em⟩ := (HR.out.2 (k - 1) hk1 (by omega)).1.form
                  have y1 : w9.cell? ⟨g2, (k - 1) * 4, none⟩ = some (.slice am (z[k - 1]'(by omega)).1.length cm) := by rw [u1.cellAt _ (by omega), ← em]; exact s1.1
                  have y2 : w9.cell? ⟨g2, (k - 1) * 4 + 1, none⟩ = some (.int .u64 (wHi vs[k - 1].2)) := by rw [u1.cellAt _ (by omega)]; exact s1.2.1
                  have y3 : w9.cell? ⟨g2, (k - 1) * 4 + 2, none⟩ = some (.int .u64 (wMid vs[k - 1].2)) := by rw [u1.cellAt _ (by omega)]; exact s1.2.2.1
                  have y4 : w9.cell? ⟨g2, (k - 1) * 4 + 3, none⟩ = some (.int .u64 (wLo vs[k - 1].2)) := by rw [u1.cellAt _ (by omega)]; exact s1.2.2.2
                  have t1 := (u1.cellAt (k * 4) (by omega)).trans s2.1
                  have t2 := (u1.cellAt (k * 4 + 1) (by omega)).trans s2.2.1
                  have t3 := (u1.cellAt (k * 4 + 2) (by omega)).trans s2.2.2.1
                  have t4 := (u1.cellAt (k * 4 + 3) (by omega)).trans s2.2.2.2
                  have FU : Hid (UpS w vs (.slice (some ⟨g2, 0, none⟩) (vs.length + 1) cap2) (k - 1) ((((w9.setCell ⟨g2, k * 4, none⟩ (.slice am (z[k - 1]'(by omega)).1.length cm)).setCell ⟨g2, k * 4 + 1, none⟩ (.int .u64 (wHi vs[k - 1].2))).setCell ⟨g2, k * 4 + 2, none⟩ (.int .u64 (wMid vs[k - 1].2))).setCell ⟨g2, k * 4 + 3, none⟩ (.int .u64 (wLo vs[k - 1].2)))) := by
                    obtain ⟨f1, f2⟩ := store_four u1 (k * 4) (.slice am (z[k - 1]'(by omega)).1.length cm) (.int .u64 (wHi vs[k - 1].2)) (.int .u64 (wMid vs[k - 1].2)) (.int .u64 (wLo vs[k - 1].2))
                    refine ⟨?_, u2.grown f2 u2.size (fun g e => by cases e; exact hg2)⟩
                    rw [← up_step (by omega) hkn vs[k - 1] (List.getElem?_eq_getElem hk1), ss_set _ k _ hl2, em]
                    exact f1
                  generalize wHi vs[k - 1].2 = thi at *
                  generalize wMid vs[k - 1].2 = tmid at *
                  generalize wLo vs[k - 1].2 = tlo at *
                  generalize (z[k - 1]'(by omega)).1.length = nm at *
                  have HT : Hid (w9.there g2 (k * 4) 4) := there_sum u1 k (by omega)
                  clear u1 u2 s1 s2 e1 e2 em hU9 FZ t1 t2 t3 t4
                  go_wp2_with (first | (refine wpList_store_sum rfl (.tmp 96) (.tmp 95) rfl k am nm cm thi tmid tlo HT.out rfl rfl ?_; intro w10 hw10; have hU10 : Hid (UpS w vs (.slice (some ⟨g2, 0, none⟩) (vs.length + 1) cap2) (k - 1) w10) := (by rw [hw10]; exact FU.out); clear hw10 FU) | fail)
                  go_roundw
                  case rel => exact ⟨k - 1, by omega, by omega, by go_num, hU10.out⟩
                  case measure => simp [intOf]; omega
                · obtain rfl : p = k := by omega
                  have I6 : ¬ (p : Int) < (p : Int) := by omega
                  have I7 : (p : Int) < (vs.length : Int) + 1 := by omega
                  have hl2 : p < (up vs (.slice none 0 0, 0) p).length := by rw [up_len hkn]; omega
                  have s2 := ss_at (up vs (.slice none 0 0, 0) p) p hl2
                  have t1 := (u1.cellAt (p * 4) (by omega)).trans s2.1
                  have t2 := (u1.cellAt (p * 4 + 1) (by omega)).trans s2.2.1
                  have t3 := (u1.cellAt (p * 4 + 2) (by omega)).trans s2.2.2.1
                  have t4 := (u1.cellAt (p * 4 + 3) (by omega)).trans s2.2.2.2
                  have x1 := cell_on X1.out u2
                  have z1 := cell_on X2.out.1 u2
                  have z2 := cell_on X2.out.2.1 u2
                  have z3 := cell_on X2.out.2.2 u2
                  have FU : Hid (GatTo l w w0 (j + 1) (.slice (some ⟨g2, 0, none⟩) (vs.length + 1) cap2) ((((w9.setCell ⟨g2, p * 4, none⟩ (.slice a1 r.length c1)).setCell ⟨g2, p * 4 + 1, none⟩ (.int .u64 khi)).setCell ⟨g2, p * 4 + 2, none⟩ (.int .u64 kmid)).setCell ⟨g2, p * 4 + 3, none⟩ (.int .u64 klo))) := by
                    obtain ⟨f1, f2⟩ := store_four u1 (p * 4) (.slice a1 r.length c1) (.int .u64 khi) (.int .u64 kmid) (.int .u64 klo)
                    refine ⟨vs.take p ++ (.slice a1 r.length c1, kk) :: vs.drop p, ?_, ?_, u2.grown f2 u2.size (fun g e => by cases e; exact hg2)⟩
                    · have e3 : (vs.take p ++ (Value.slice a1 r.length c1, kk) :: vs.drop p).length = vs.length + 1 := by simp; omega
                      unfold OwnS
                      rw [e3, ← up_put (z := (.slice none 0 0, 0)) hpn, ss_set _ p _ hl2]
                      simp only [hHi, hMid, hLo]
                      exact f1
                    · rw [HG.out, EZ.out]; exact HR.out.put HX.out kk p
                  have HT : Hid (w9.there g2 (p * 4) 4) := there_sum u1 p (by omega)
                  clear u1 u2 s2 hU9 FZ
                  go_wp2_with (first | (refine wpList_store_sum rfl (.tmp 103) (.tmp 102) rfl p a1 r.length c1 khi kmid klo HT.out rfl rfl ?_; intro w10 hw10; have hf : Hid (GatTo l w w0 (j + 1) (.slice (some ⟨g2, 0, none⟩) (vs.length + 1) cap2) w10) := (by rw [hw10]; exact FU.out); clear hw10 FU) | fail)
                  clear t1 t2 t3 t4 z1 z2 z3 x1
                  go_roundw
                  case rel => exact ⟨j + 1, by omega, by go_num, hf.out⟩
                  case measure => simp [intOf]; omega
          · have I5 : decide ((p : Int) < (vs.length : Int)) = false := by simp; omega
            have EZ : Hid (ins r kk z = z.take p ++ (r, kk) :: z.drop p) := ins_new hs.out (by omega) (fun h => by omega)
            have q1 : True := trivial
            have g1 : True := trivial
            have g2 : True := trivial
            clear hs
            go_wp2_with fail
            refine wp_region_quiet_below (by kernel_rfl) (by kernel_rfl) ?_
            iterate 18 (go_big_quiet_step (fail))
            refine wpQuiet_nil ?_
            intro w6 hw6
            obtain ⟨p6, hw6⟩ := hw6
            have hb6 : Hid (Below W0.heap.size W0 w6) := by rw [hw6]; exact hb4.out.trans ((below_regrown W4 _ _).mono hb4.out.size)
            clear hw6 g1 g2 q1 hb4
            have H6 : Hid (w6.ownsRow w.heap.size 75 4 (.slice av vs.length capv) vs.length (ss vs)) := HO.out.on hb6.out
            have F8 : Hid (∀ v2 w8, w8.ownsRow w.heap.size 75 4 v2 (vs.length + 1) (ss vs ++ sc (.slice none 0 0, 0)) → (w6.alloc (.cells #[.slice none 0 0, .int .u64 0, .int .u64 0, .int .u64 0] 75)).grownBy w8 (Value.ownBlock (.slice av vs.length capv)) → ∃ g2 cap2, v2 = .slice (some ⟨g2, 0, none⟩) (vs.length + 1) cap2 ∧ Hid (UpS w vs v2 vs.length w8)) := by
              intro v2 w8 h1 h2
              have hbA := HB.out.trans (hb6.out.mono HB.out.size)
              have hb8 : Below w.heap.size w w8 := (hbA.alloc hbA.size _).grown h2 (by have := hbA.size; simp; omega) (fun k e => (H6.out.lt k e).1)
              have hU : UpS w vs v2 vs.length w8 := ⟨by rw [up_first, ss_snoc]; exact h1, hb8⟩
              rcases h1.2 with ⟨_, e⟩ | ⟨g2, cap2, cur, hv, _⟩
              · omega
              · exact ⟨g2, cap2, hv, hU⟩
            obtain ⟨i0, hi, hz0, hz1, hz2⟩ := info_parts info_sum
            go_wp2_with (first | (at_builtin; refine wpList_append_own _ rfl _ _ 69 rfl w.heap.size 75 i0 (.agg #[.slice none 0 0, .int .u64 0, .int .u64 0, .int .u64 0]) 4 48 Tryz.underlying69 hi hz0 hz1 hz2 rfl (by decide) _ vs.length (ss vs) rfl (H6.out.alloc _) ⟨w6.heap.size, 0, none⟩ 1 1 (sc (.slice none 0 0, 0)) rfl rfl (cell_four_new _ _ _ _ _ _) (by simp [sc, Value.oneCell']) (by unfold maxLen; omega) (by omega) (by have := HB.out.size; have := hb6.out.size; simp; omega) ?_; intro v2 w8 hown8 hg8 _; obtain ⟨g2, cap2, rfl, hU⟩ := F8.out _ _ hown8 hg8; clear hown8 hg8 F8 H6) | fail)
            have hpn : p ≤ vs.length := by omega
            clear hi hz0 hz1 hz2
            go_loopw [9] (fun kv w9 => ∃ k : Nat, p ≤ k ∧ k ≤ vs.length ∧ kv = .int .i64 k ∧ Hid (UpS w vs (.slice (some ⟨g2, 0, none⟩) (vs.length + 1) cap2) k w9)) (fun kv _ => (intOf kv).toNat)
            case atStart => exact ⟨vs.length, by omega, by omega, by go_num, hU.out⟩
            case round =>
              obtain ⟨w9, hw9⟩ : ∃ w9, w9 = wr := ⟨wr, rfl⟩
              subst hw9
              obtain ⟨k, hpk, hkn, rfl, hU9⟩ := hrel
              obtain ⟨u1, u2⟩ := hU9.out
              have hg2 : w.heap.size ≤ g2 := (u1.lt g2 rfl).1
              have FZ : Hid (∀ o, w9.frozen? ⟨g2, o, none⟩ = false) := fun o => u1.frozenAt o
              by_cases hk : p < k
              · have I6 : (p : Int) < (k : Int) := by omega
                have hk1 : k - 1 < vs.length := by omega
                have I7 : (k : Int) < (vs.length : Int) + 1 := by omega
                have I8 : (k : Int) - 1 < (vs.length : Int) + 1 := by omega
                have I9 : ((k : Int) - 1).toNat = k - 1 := by omega
                have I10 : 0 ≤ (k : Int) - 1 := by omega
                have e1 : (up vs (.slice none 0 0, 0) k)[k - 1]? = some vs[k - 1] := by rw [up_at (by omega) hkn, List.getElem?_eq_getElem hk1]
                have hl1 : k - 1 < (up vs (.slice none 0 0, 0) k).length := by rw [up_len hkn]; omega
                have hl2 : k < (up vs (.slice none 0 0, 0) k).length := by rw [up_len hkn]; omega
                have e2 : (up vs (.slice none 0 0, 0) k)[k - 1] = vs[k - 1] := by rw [List.getElem?_eq_getElem hl1] at e1; exact Option.some.inj e1
                have s1 := ss_at (up vs (.slice none 0 0, 0) k) (k - 1) hl1
                have s2 := ss_at (up vs (.slice none 0 0, 0) k) k hl2
                rw [e2] at s1
                obtain ⟨am, cm, em⟩ := (HR.out.2 (k - 1) hk1 (by omega)).1.form
                have y1 : w9.cell? ⟨g2, (k - 1) * 4, none⟩ = some (.slice am (z[k - 1]'(by omega)).1.length cm) := by rw [u1.cellAt _ (by omega), ← em]; exact s1.1
                have y2 : w9.cell? ⟨g2, (k - 1) * 4 + 1, none⟩ = some (.int .u64 (wHi vs[k - 1].2)) := by rw [u1.cellAt _ (by omega)]; exact s1.2.1
                have y3 : w9.cell? ⟨g2, (k - 1) * 4 + 2, none⟩ = some (.int .u64 (wMid vs[k - 1].2)) := by rw [u1.cellAt _ (by omega)]; exact s1.2.2.1
                have y4 : w9.cell? ⟨g2, (k - 1) * 4 + 3, none⟩ = some (.int .u64 (wLo vs[k - 1].2)) := by rw [u1.cellAt _ (by omega)]; exact s1.2.2.2
                have t1 := (u1.cellAt (k * 4) (by omega)).trans s2.1
                have t2 := (u1.cellAt (k * 4 + 1) (by omega)).trans s2.2.1
                have t3 := (u1.cellAt (k * 4 + 2) (by omega)).trans s2.2.2.1
                have t4 := (u1.cellAt (k * 4 + 3) (by omega)).trans s2.2.2.2
                have FU : Hid (UpS w vs (.slice (some ⟨g2, 0, none⟩) (vs.length + 1) cap2) (k - 1) ((((w9.setCell ⟨g2, k * 4, none⟩ (.slice am (z[k - 1]'(by omega)).1.length cm)).setCell ⟨g2, k * 4 + 1, none⟩ (.int .u64 (wHi vs[k - 1].2))).setCell ⟨g2, k * 4 + 2, none⟩ (.int .u64 (wMid vs[k - 1].2))).setCell ⟨g2, k * 4 + 3, none⟩ (.int .u64 (wLo vs[k - 1].2)))) := by
                  obtain ⟨f1, f2⟩ := store_four u1 (k * 4) (.slice am (z[k - 1]'(by omega)).1.length cm) (.int .u64 (wHi vs[k - 1].2)) (.int .u64 (wMid vs[k - 1].2)) (.int .u64 (wLo vs[k - 1].2))
                  refine ⟨?_, u2.grown f2 u2.size (fun g e => by cases e; exact hg2)⟩
                  rw [← up_step (by omega) hkn vs[k - 1] (List.getElem?_eq_getElem hk1), ss_set _ k _ hl2, em]
                  exact f1
                generalize wHi vs[k - 1].2 = thi at *
                generalize wMid vs[k - 1].2 = tmid at *
                generalize wLo vs[k - 1].2 = tlo at *
                generalize (z[k - 1]'(by omega)).1.length = nm at *
                have HT : Hid (w9.there g2 (k * 4) 4) := there_sum u1 k (by omega)
                clear u1 u2 s1 s2 e1 e2 em hU9 FZ t1 t2 t3 t4
                go_wp2_with (first | (refine wpList_store_sum rfl (.tmp 96) (.tmp 95) rfl k am nm cm thi tmid tlo HT.out rfl rfl ?_; intro w10 hw10; have hU10 : Hid (UpS w vs (.slice (some ⟨g2, 0, none⟩) (vs.length + 1) cap2) (k - 1) w10) := (by rw [hw10]; exact FU.out); clear hw10 FU) | fail)
                go_roundw
                case rel => exact ⟨k - 1, by omega, by omega, by go_num, hU10.out⟩
                case measure => simp [intOf]; omega
              · obtain rfl : p = k := by omega
                have I6 : ¬ (p : Int) < (p : Int) := by omega
                have I7 : (p : Int) < (vs.length : Int) + 1 := by omega
                have hl2 : p < (up vs (.slice none 0 0, 0) p).length := by rw [up_len hkn]; omega
                have s2 := ss_at (up vs (.slice none 0 0, 0) p) p hl2
                have t1 := (u1.cellAt (p * 4) (by omega)).trans s2.1
                have t2 := (u1.cellAt (p * 4 + 1) (by omega)).trans s2.2.1
                have t3 := (u1.cellAt (p * 4 + 2) (by omega)).trans s2.2.2.1
                have t4 := (u1.cellAt (p * 4 + 3) (by omega)).trans s2.2.2.2
                have x1 := cell_on X1.out u2
                have z1 := cell_on X2.out.1 u2
                have z2 := cell_on X2.out.2.1 u2
                have z3 := cell_on X2.out.2.2 u2
                have FU : Hid (GatTo l w w0 (j + 1) (.slice (some ⟨g2, 0, none⟩) (vs.length + 1) cap2) ((((w9.setCell ⟨g2, p * 4, none⟩ (.slice a1 r.length c1)).setCell ⟨g2, p * 4 + 1, none⟩ (.int .u64 khi)).setCell ⟨g2, p * 4 + 2, none⟩ (.int .u64 kmid)).setCell ⟨g2, p * 4 + 3, none⟩ (.int .u64 klo))) := by
                  obtain ⟨f1, f2⟩ := store_four u1 (p * 4) (.slice a1 r.length c1) (.int .u64 khi) (.int .u64 kmid) (.int .u64 klo)
                  refine ⟨vs.take p ++ (.slice a1 r.length c1, kk) :: vs.drop p, ?_, ?_, u2.grown f2 u2.size (fun g e => by cases e; exact hg2)⟩
                  · have e3 : (vs.take p ++ (Value.slice a1 r.length c1, kk) :: vs.drop p).length = vs.length + 1 := by simp; omega
                    unfold OwnS
                    rw [e3, ← up_put (z := (.slice none 0 0, 0)) hpn, ss_set _ p _ hl2]
                    simp only [hHi, hMid, hLo]
                    exact f1
                  · rw [HG.out, EZ.out]; exact HR.out.put HX.out kk p
                have HT : Hid (w9.there g2 (p * 4) 4) := there_sum u1 p (by omega)
                clear u1 u2 s2 hU9 FZ
                go_wp2_with (first | (refine wpList_store_sum rfl (.tmp 103) (.tmp 102) rfl p a1 r.length c1 khi kmid klo HT.out rfl rfl ?_; intro w10 hw10; have hf : Hid (GatTo l w w0 (j + 1) (.slice (some ⟨g2, 0, none⟩) (vs.length + 1) cap2) w10) := (by rw [hw10]; exact FU.out); clear hw10 FU) | fail)
                clear t1 t2 t3 t4 z1 z2 z3 x1
                go_roundw
                case rel => exact ⟨j + 1, by omega, by go_num, hf.out⟩
                case measure => simp [intOf]; omega
    · have I1 : ¬ (j : Int) < (l.length : Int) := by omega
      obtain rfl : j = l.length := by omega
      obtain ⟨W1, hW1⟩ : ∃ W1, W1 = W0 := ⟨W0, rfl⟩
      subst hW1
      rw [List.take_length] at hR
      obtain ⟨av, capv, rfl⟩ := hO.form
      obtain ⟨i0, hi, hz0, hz1, hz2⟩ := info_parts info_entry
      have HO : Hid (OwnS w.heap.size W1 (.slice av vs.length capv) vs) := hO
      have HR : Hid (Reads w0 vs (gat l)) := hR
      have HB : Hid (Below w.heap.size w W1) := hB
      have hnz : (gat l).length = vs.length := hR.1.symm
      clear hO hR hB Ha Hr
      generalize gat l = z at *
      have H0 : Hid (MakeTo z w0 W1 0 (.slice none 0 0) W1) := ⟨rfl, [], World.ownsRow_nil _ _ _ _, Reads.nil w0, Below.refl _ _⟩
      go_wp2_with fail
      go_loopw [10, 11] (fun v i wr => ∃ j : Nat, j ≤ vs.length ∧ i = .int .i64 j ∧ MakeTo z w0 W1 j v wr) (fun _ i _ => vs.length - (intOf i).toNat)
      case atStart => exact ⟨0, by omega, rfl, H0.out⟩
      case round =>
        obtain ⟨j, hj, rfl, hf, us, hU, hRu, hb⟩ := hrel
        have HU : Hid (wr.ownsRow W1.heap.size 41 2 u10 us.length (es us)) := hU
        have HRu : Hid (Reads w0 us (nzZ (z.take j))) := hRu
        have Hb : Hid (Below W1.heap.size W1 wr) := hb
        have HF : Hid (fitsZ (z.take j) = true) := hf
        have hul : us.length ≤ vs.length := by rw [hRu.1, ← hnz]; exact nz_len z j
        clear hU hRu hb hf
        by_cases k1 : j < vs.length
        · have k2 : j < z.length := by omega
          obtain ⟨g, rfl, hg1, hg2, y1, y2, y3, y4⟩ := (HO.out.on Hb.out).at j k1
          obtain ⟨r1, r2⟩ := HR.out.2 j k1 k2
          obtain ⟨am, cm, em⟩ := r1.form
          rw [em] at y1 r1
          rw [r2] at y2 y3 y4
          have hbd := HB0.out _ (List.getElem_mem k2)
          have I1 : (j : Int) < (vs.length : Int) := by omega
          have EF : Hid (fitsZ (z.take (j + 1)) = (fitsZ (z.take j) && inI z[j].2)) := fits_snoc k2
          have EN : Hid (inI z[j].2 = false → fitsZ z = false) := fits_not k2
          have EZ : Hid (nzZ (z.take (j + 1)) = nzZ (z.take j) ++ (if z[j].2 = 0 then [] else [z[j]])) := nz_snoc k2
          have HRow : Hid (RowIs w0 (.slice am z[j].1.length cm) z[j].1) := r1
          obtain ⟨zr, zn, hzz⟩ : ∃ zr zn, z[j] = (zr, zn) := ⟨_, _, rfl⟩
          rw [hzz] at y1 y2 y3 y4 hbd EF EN EZ HRow
          simp only at y1 y2 y3 y4 hbd EF EN EZ HRow
          clear r1 r2 em hzz
          by_cases hin : -9223372036854775808 ≤ zn ∧ zn ≤ 9223372036854775807
          · have hI : inI zn = true := by unfold inI; simp; exact hin
            have q1 : Hid (Calls Tryz.prog 34 #[wV zn] wr fun e w' => e = .returned (.tuple #[.int .i64 zn, .bool true]) ∧ Below wr.heap.size wr w') := refNarrow zn (by omega) (by omega) zn true (fun _ => ⟨rfl, rfl⟩) (fun h => absurd hin h) wr
            unfold wV at q1
            have EF1 : Hid (fitsZ (z.take (j + 1)) = true) := by show _ = _; rw [EF.out, HF.out, hI]; rfl
            clear EF EN HF hI
            generalize wHi zn = thi at *
            generalize wMid zn = tmid at *
            generalize wLo zn = tlo at *
            generalize hzl : zr.length = nm at *
            go_wp2_with fail
            refine q1.out.mono ?_
            rintro e w2 ⟨rfl, hb2⟩
            have y1' := cell_on y1 hb2
            have HU2 : Hid (w2.ownsRow W1.heap.size 41 2 u10 us.length (es us)) := own_on HU.out hb2
            have Hb2 : Hid (Below W1.heap.size W1 w2) := Hb.out.trans (hb2.mono Hb.out.size)
            clear hb2 q1 y1 y2 y3 y4
            by_cases h0 : zn = 0
            · subst h0
              have hf : MakeTo z w0 W1 (j + 1) u10 w2 := ⟨EF1.out, us, HU2.out, by rw [EZ.out]; simpa using HRu.out, Hb2.out⟩
              clear EZ
              go_wp2_with fail
              go_roundw
              case rel => exact ⟨j + 1, by omega, by go_num, hf⟩
              case measure => simp [intOf]; omega
            · have b0 : (zn == 0) = false := by simp [h0]
              have F : Hid (∀ v2 w3, w3.ownsRow W1.heap.size 41 2 v2 (us.length + 1) (es us ++ ec (.slice am nm cm, zn)) → (w2.alloc (.cells #[.slice am nm cm, .int .i64 zn] 41)).grownBy w3 (Value.ownBlock u10) → MakeTo z w0 W1 (j + 1) v2 w3) := by
                intro v2 w3 g1 g2
                refine ⟨EF1.out, us ++ [(.slice am nm cm, zn)], ?_, ?_, ?_⟩
                · rw [es_snoc, List.length_append]; exact g1
                · rw [EZ.out, if_neg h0]; exact HRu.out.snoc HRow.out zn
                · exact (Hb2.out.alloc Hb2.out.size _).grown g2 (by have := Hb2.out.size; simp; omega) (fun k e => (HU2.out.lt k e).1)
              have hsz := Hb2.out.size
              clear EZ EF1
              go_wp2_with (first | (at_builtin; refine wpList_append_own _ rfl _ _ 27 rfl W1.heap.size 41 i0 (.agg #[.slice none 0 0, .int .i64 0]) 2 32 Tryz.underlying27 hi hz0 hz1 hz2 rfl (by decide) _ us.length (es us) rfl (HU2.out.alloc _) ⟨w2.heap.size, 0, none⟩ 1 1 (ec (.slice am nm cm, zn)) rfl rfl (cell_two_new _ _ _ _) (by simp [ec, Value.oneCell']) (by unfold maxLen; omega) (by omega) (by simp; omega) ?_; intro v2 w3 hown3 hg3 _; have hf := F.out _ _ hown3 hg3; clear hown3 hg3 F) | fail)
              go_roundw
              case rel => exact ⟨j + 1, by omega, by go_num, hf⟩
              case measure => simp [intOf]; omega
          · have hI : inI zn = false := by unfold inI; simp; omega
            have q1 : Hid (Calls Tryz.prog 34 #[wV zn] wr fun e w' => e = .returned (.tuple #[.int .i64 0, .bool false]) ∧ Below wr.heap.size wr w') := refNarrow zn (by omega) (by omega) 0 false (fun h => absurd h hin) (fun _ => ⟨rfl, rfl⟩) wr
            unfold wV at q1
            have EM : Hid (c = 107 ∧ mkZ l = []) := HN.out (EN.out hI)
            clear EF EN HF hI EZ
            generalize wHi zn = thi at *
            generalize wMid zn = tmid at *
            generalize wLo zn = tlo at *
            go_wp2_with fail
            refine q1.out.mono ?_
            rintro e w2 ⟨rfl, hb2⟩
            have Hb2 : Hid (Below w.heap.size w w2) := HB.out.trans ((Hb.out.trans (hb2.mono Hb.out.size)).mono HB.out.size)
            clear hb2 q1 y1 y2 y3 y4
            go_wp2_with fail
            go_ret2
            refine ⟨.slice none 0 0, ?_, ?_, Hb2.out⟩
            · rw [EM.out.1]; rfl
            · rw [EM.out.2]; exact ⟨[], World.ownsRow_nil _ _ _ _, Reads.nil _⟩
        · have I1 : ¬ (j : Int) < (vs.length : Int) := by omega
          have e1 : z.take j = z := List.take_of_length_le (by omega)
          have EM : Hid (c = 0 ∧ mkZ l = nzZ z) := HM.out (by rw [← e1]; exact HF.out)
          have hBw : Hid (Below w.heap.size w wr) := HB.out.trans (Hb.out.mono HB.out.size)
          have HE : Hid (EntsN w.heap.size w0 (nzZ z) u10 wr) := ⟨us, own_mono0 HU.out HB.out.size, by rw [← e1]; exact HRu.out⟩
          clear e1
          go_wp2_with fail
          go_ret2
          refine ⟨u10, ?_, ?_, hBw.out⟩
          · rw [EM.out.1]; rfl
          · rw [EM.out.2]; exact HE.out
end Go.Proofs.YtlafokjkpbhckaaGreatDoor
