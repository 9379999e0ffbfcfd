/- What join's linesOf answers: a heap of lines: all pairs that fit. -/
import Derived.Test.YtlafokjkpbhckaaGreatDoorJcKey
import Derived.Test.YtlafokjkpbhckaaGreatDoorJcFit
import Derived.Test.YtlafokjkpbhckaaGreatDoorPackHeap
import Derived.Laws.Rows
import Derived.Test.YtlafokjkpbhckaaGreatDoorZAdd
import Derived.Lib.SmallJoins
namespace Go.Proofs.YtlafokjkpbhckaaGreatDoor
open Go.RowKit Go.Sort
set_option maxRecDepth 100000
set_option linter.unusedVariables false
theorem info_line : (Tryz.prog.info? 57).map (fun i => (i.zero, i.size, i.bytes)) = some (some (.agg #[.slice none 0 0, .int .i64 0, .slice none 0 0]), 3, 56) := by kernel_rfl
/-- A slice of lines of the call's own, read in a world that came before. -/
def LsOf (R : World) (base : Nat) (X : List QEnt) (v : Value) (w : World) : Prop := w.ownsRow base 57 3 v X.length (ls (X.map (·.1))) ∧ (∀ x ∈ X, LOk R x) ∧ Sees R w ∧ R.heap.size ≤ base ∧ X.length ≤ 65536
theorem LsOf.on {R : World} {base : Nat} {X : List QEnt} {v : Value} {w w' : World} (h : LsOf R base X v w) (hB : Below w.heap.size w w') : LsOf R base X v w' := ⟨own_on h.1 hB, h.2.1, h.2.2.1.on hB, h.2.2.2⟩
theorem LsOf.lis {R : World} {base : Nat} {X : List QEnt} {g n c : Nat} {w : World} (h : LsOf R base X (.slice (some ⟨g, 0, none⟩) n c) w) {hb : Nat} (hk : w.heap[hb]? = some (.cells #[.slice (some ⟨g, 0, none⟩) n c] 51 (0, 0))) (hR : R.heap.size ≤ hb) : LIs R hb g c X w ∧ n = X.length ∧ base ≤ g := by
  obtain ⟨h1, h2, h3, h4, h5⟩ := h
  obtain ⟨hn, hbg⟩ : n = X.length ∧ base ≤ g := by
    rcases h1.2 with ⟨e, _⟩ | ⟨g', c', cur, e, k, _⟩
    · cases e
    · simp only [Value.slice.injEq, Option.some.injEq, Addr.mk.injEq, and_true] at e
      exact ⟨e.2.1, by rw [e.1]; exact k⟩
  subst hn
  refine ⟨⟨⟨by rw [List.length_map]; exact hk, by rw [List.length_map]; exact own_mono h1 (Nat.zero_le _)⟩, h2, h3, free_le hR, free_le (by omega), h5⟩, rfl, hbg⟩
theorem LIs.ls {R : World} {hb g c base : Nat} {X : List QEnt} {w : World} (h : LIs R hb g c X w) (hb' : base ≤ g) (hR : R.heap.size ≤ base) : LsOf R base X (.slice (some ⟨g, 0, none⟩) X.length c) w := by
  have := h.1.base hb'
  rw [List.length_map] at this
  exact ⟨this, h.2.1, h.2.2.1, hR, h.2.2.2.2.2⟩
set_option maxHeartbeats 1000000 in
theorem jhInitNil (hb : Nat) (w : World) (h : w.cell? ⟨hb, 0, none⟩ = some (.slice none 0 0)) :
    Calls Tryz.prog 40 #[.iface 94 (.pointer (some ⟨hb, 0, none⟩))] w fun e w' => e = .returned (.tuple #[]) ∧ w' = w := by
  have hm := jm_len h
  have q1 := fun a n c => jhLen a n c w
  clear h
  go_enter Tryz.func40, Tryz.ntmps40
  go_wp2_with fail
  refine (q1 _ _ _).mono ?_
  rintro e w1 ⟨rfl, rfl⟩
  clear q1 hm
  go_wp2_with fail
  go_loopw [3] (fun s wr => s = .int .i64 (-1) ∧ wr = w1) (fun s _ => 0)
  case atStart => exact ⟨by first | rfl | (congr 1; done), rfl⟩
  case round =>
    obtain ⟨rfl, rfl⟩ := hrel
    go_wp2_with fail
    go_end0
    exact ⟨rfl, rfl⟩
/-- How far linesOf has come. -/
def LnSo (on : List (Int × Int)) (a b : List Ent) (w1 : World) (j : Nat) (v : Value) (wr : World) : Prop :=
  ∃ X, LsOf w1 (w1.heap.size + 1) X v wr ∧ (flat X).Perm (jnP on (a.take j) b) ∧ X.length ≤ j ∧ wr.heap[w1.heap.size]? = some (.cells #[v] 51 (0, 0)) ∧ Below w1.heap.size w1 wr
theorem jn_none {on : List (Int × Int)} {e : Ent} {b : List Ent} (h : hasK on false e.1 = false) : jnR on e b = [] := by
  unfold jnR
  rw [List.filter_eq_nil_iff.2 (fun y _ => by rw [fit_key, h]; simp)]; rfl
set_option maxHeartbeats 8000000 in
theorem jcLines (on : List (Int × Int)) (a b : List Ent) (ov va vb : Value) (w : World) (hA : EOk a) (hB : EOk b) (zb : SortedZ b) (ha' : a.length ≤ 65536) (hb' : b.length ≤ 65536) (ho : PairsIs w ov on) (ha : EntsIs w va a) (hb : EntsIs w vb b) :
    Calls Tryz.prog 16 #[ov, va, vb] w fun e w' => ∃ v X R base, e = .returned v ∧ LsOf R base X v w' ∧ w.heap.size ≤ base ∧ Heap (kf X) X.length ∧ (flat X).Perm (jnP on a b) ∧ Below w.heap.size w w' := by
  obtain ⟨i0, hi, hz0, hz1, hz2⟩ := info_parts info_line
  have q1 := jcByKey on b ov vb w ho hb hb'
  have Ho : Hid (PairsIs w ov on) := ho
  have Ha : Hid (EntsIs w va a) := ha
  obtain ⟨ao, co, rfl⟩ := ho.form
  obtain ⟨aa, ca, rfl⟩ := ha.form
  obtain ⟨ab', cb, rfl⟩ := hb.form
  clear ho ha hb
  go_enter Tryz.func16, Tryz.ntmps16
  go_wp2_with fail
  refine q1.mono ?_
  rintro e w1 ⟨vs, S, rfl, hK, hS, hb1⟩
  obtain ⟨aS, cS, rfl⟩ := hS.form
  have HK : Hid (ByKey on b S ∧ EntsIs w1 (.slice aS S.length cS) S ∧ Below w.heap.size w w1) := ⟨hK, hS, hb1⟩
  have F0 : Hid (LnSo on a b w1 0 (.slice none 0 0) (w1.alloc (.cells #[.slice none 0 0] 51))) :=
    ⟨[], ⟨World.ownsRow_nil _ _ _ _, List.forall_mem_nil _, Sees.of_below one_box, by omega, Nat.zero_le _⟩, by rw [List.take_zero]; exact List.Perm.refl _, Nat.le_refl _, heap_alloc_new _ _, one_box⟩
  clear q1 hK hS hb1
  go_wp2_with fail
  go_loopw [17] (fun i wr => ∃ (j : Nat) (v : Value), j ≤ a.length ∧ i = .int .i64 j ∧ Hid (LnSo on a b w1 j v wr)) (fun i _ => a.length - (intOf i).toNat)
  case atStart => exact ⟨0, _, by omega, rfl, F0.out⟩
  case round =>
    clear F0
    obtain ⟨j, v, hj, rfl, hS⟩ := hrel
    by_cases k1 : j < a.length
    · have I1 : (j : Int) < (a.length : Int) := by omega
      obtain ⟨X, s1, s2, s3, s4, s5⟩ := hS.out
      have hb1 := HK.out.2.2
      have b1 := hb1.trans (s5.mono hb1.size)
      obtain ⟨ba, o, a1, c1, rfl, x1, x2, x3⟩ := (Ha.out.on b1).at j k1
      obtain ⟨ba', o', a1', c1', eb, y1, y2, y3⟩ := (Ha.out.on hb1).at j k1
      obtain ⟨rfl, rfl⟩ : ba = ba' ∧ o = o' := by simpa using eb
      have ey := cell_on y1 s5
      rw [x1] at ey
      obtain ⟨rfl, rfl⟩ : a1 = a1' ∧ c1 = c1' := by simpa using ey
      obtain ⟨W, hW⟩ : ∃ W, W = wr.alloc (.cells #[.slice a1 a[j].1.length c1, .int .i64 a[j].2] 41) := ⟨_, rfl⟩
      have hbW : Below wr.heap.size wr W := by rw [hW]; exact one_box
      have BW : Hid (Below w1.heap.size w1 W) := s5.trans (hbW.mono s5.size)
      have z1 : W.cell? ⟨wr.heap.size, 0, none⟩ = some (.slice a1 a[j].1.length c1) := by rw [hW, World.cell?_alloc_at _ _ _ _ (by simp)]; rfl
      have z2 : W.cell? ⟨wr.heap.size, 1, none⟩ = some (.int .i64 a[j].2) := by rw [hW, World.cell?_alloc_at _ _ _ _ (by simp)]; rfl
      have q1 := jcHas on false a[j].1 (.slice ao on.length co) (.slice a1 a[j].1.length c1) W ((Ho.out.on b1).on hbW) (x3.on hbW)
      have e1 : sdN false = 0 := rfl
      rw [e1] at q1
      have HW : Hid (wr.alloc (.cells #[.slice a1 a[j].1.length c1, .int .i64 a[j].2] 41) = W) := hW.symm
      have Z : Hid (W.cell? ⟨wr.heap.size, 0, none⟩ = some (.slice a1 a[j].1.length c1) ∧ W.cell? ⟨wr.heap.size, 1, none⟩ = some (.int .i64 a[j].2)) := ⟨z1, z2⟩
      cases hin : hasK on false a[j].1 with
      | false =>
        rw [hin] at q1
        have FA : Hid (∀ w6, Below W.heap.size W w6 → LnSo on a b w1 (j + 1) v w6) := by
          intro w6 h6
          refine ⟨X, (s1.on hbW).on h6, by rw [jnP_take on b k1, jn_none hin, List.append_nil]; exact s2, by omega, ?_, BW.out.trans (h6.mono BW.out.size)⟩
          have e0 := (Array.getElem?_eq_some_iff.1 s4).1
          rw [h6.block _ (Nat.lt_of_lt_of_le e0 hbW.size), hbW.block _ e0]; exact s4
        rw [hW] at z1
        clear hS s1 s2 s3 s4 s5 x3 y1 y2 y3 eb ey hbW hW hin z2 Z b1 hb1 BW
        generalize a[j].1.length = n1 at *
        generalize a[j].2 = i1 at *
        go_wp2_with fail
        rw [HW.out]
        refine q1.mono ?_
        rintro e w6 ⟨rfl, h6⟩
        have hf : Hid _ := FA.out w6 h6
        clear FA h6 q1 z1
        go_wp2_with fail
        go_roundw
        case rel => exact ⟨j + 1, v, by omega, by go_num, hf.out⟩
        case measure => simp [intOf]; omega
      | true =>
        rw [hin] at q1
        obtain ⟨av, cav, rfl⟩ : ∃ av cav, v = .slice av X.length cav := own_form s1.1
        have hre := (hA _ (List.getElem_mem k1))
        have FQ : Hid (∀ w6, Below W.heap.size W w6 → Calls Tryz.prog 39 #[.slice ao on.length co, .slice a1 a[j].1.length c1, .slice aS S.length cS] w6 fun e w' => ∃ v F, e = .returned v ∧ Fitting on a[j].1 b F ∧ EntsIs w1 v F ∧ F.length ≤ 65536 ∧ (∀ e ∈ F, e ∈ b) ∧ Below w6.heap.size w6 w') := fun w6 h6 =>
          jcFitting on a[j].1 b S _ _ _ w1 w6 HK.out.2.1 (((Ho.out.on b1).on hbW).on h6) ((x3.on hbW).on h6) ((HK.out.2.1.on BW.out).on (h6.mono BW.out.size |> fun _ => h6)) HK.out.1 zb hb' hin
        have FN : Hid (∀ w7, Below W.heap.size W w7 → ∀ vF, Fitting on a[j].1 b [] → EntsIs w1 vF [] → LnSo on a b w1 (j + 1) (.slice av X.length cav) w7) := by
          intro w7 h7 vF hF _
          have e0 := (Array.getElem?_eq_some_iff.1 s4).1
          refine ⟨X, (s1.on hbW).on h7, ?_, by omega, ?_, BW.out.trans (h7.mono BW.out.size)⟩
          · have := (lnL_perm (x := a[j]) hF).symm
            rw [jnP_take on b k1]
            have h0 : jnR on a[j] b = [] := List.perm_nil.1 this
            rw [h0, List.append_nil]; exact s2
          · rw [h7.block _ (Nat.lt_of_lt_of_le e0 hbW.size), hbW.block _ e0]; exact s4
        have FY : Hid (∀ w7, Below W.heap.size W w7 → ∀ aF nF cF F, Fitting on a[j].1 b F → F ≠ [] → EntsIs w1 (.slice aF nF cF) F → F.length ≤ 65536 → (∀ e ∈ F, e ∈ b) →
            w7.ownsRow (w1.heap.size + 1) 57 3 (.slice av X.length cav) X.length (ls (X.map (·.1))) ∧ w1.heap.size + 1 ≤ w7.heap.size ∧ w7.cell? ⟨w1.heap.size, 0, none⟩ = some (.slice av X.length cav) ∧ w7.cell? ⟨wr.heap.size, 0, none⟩ = some (.slice a1 a[j].1.length c1) ∧ w7.cell? ⟨wr.heap.size, 1, none⟩ = some (.int .i64 a[j].2) ∧
            ∀ v9 w9, w9.ownsRow (w1.heap.size + 1) 57 3 v9 (X.length + 1) (ls (X.map (·.1)) ++ [.slice a1 a[j].1.length c1, .int .i64 a[j].2, .slice aF nF cF]) → (w7.alloc (.cells #[.slice a1 a[j].1.length c1, .int .i64 a[j].2, .slice aF nF cF] 57)).grownBy w9 (Value.ownBlock (.slice av X.length cav)) →
              w9.cell? ⟨w1.heap.size, 0, none⟩ = some (.slice av X.length cav) ∧ w9.frozen? ⟨w1.heap.size, 0, none⟩ = false ∧ LnSo on a b w1 (j + 1) v9 (w9.setCell ⟨w1.heap.size, 0, none⟩ v9)) := by
          intro w7 h7 aF nF cF F hF hne hE hFl hFb
          have o7 := (s1.on hbW).on h7
          have e0 := (Array.getElem?_eq_some_iff.1 s4).1
          have k7 : w7.heap[w1.heap.size]? = some (.cells #[.slice av X.length cav] 51 (0, 0)) := by rw [h7.block _ (Nat.lt_of_lt_of_le e0 hbW.size), hbW.block _ e0]; exact s4
          have b7 := BW.out.trans (h7.mono BW.out.size)
          have lt7 := (Array.getElem?_eq_some_iff.1 k7).1
          refine ⟨o7.1, lt7, by simp [World.cell?, k7], cell_on z1 h7, cell_on z2 h7, fun v9 w9 g1 g2 => ?_⟩
          have hneb : some w1.heap.size ≠ Value.ownBlock (.slice av X.length cav) := fun e => by have := (o7.1.lt _ e.symm).1; omega
          have k9 : w9.heap[w1.heap.size]? = some (.cells #[.slice av X.length cav] 51 (0, 0)) := by
            rw [g2.block _ (by simp; omega) hneb, heap_alloc_old _ _ lt7]; exact k7
          refine ⟨by simp [World.cell?, k9], by simp [World.frozen?, k9], X ++ [(.agg #[.slice a1 a[j].1.length c1, .int .i64 a[j].2, .slice aF nF cF], lnL a[j] F)], ⟨?_, ?_, ?_, by omega, ?_⟩, ?_, ?_, ?_, ?_⟩
          · have hs9 : (w9.setCell ⟨w1.heap.size, 0, none⟩ v9).ownsRow (w1.heap.size + 1) 57 3 v9 (X.length + 1) (ls (X.map (·.1)) ++ [.slice a1 a[j].1.length c1, .int .i64 a[j].2, .slice aF nF cF]) := by
              refine own_keep g1 (g := some w1.heap.size) ⟨rfl, rfl, rfl, by simp [World.setCell], fun k hk hne' => Below.heap_setCell _ _ _ _ (fun e => hne' (by rw [e]))⟩ (fun k e => by cases e; omega)
            rw [List.length_append, List.map_append, List.map_cons, List.map_nil, ls_snoc]; exact hs9
          · intro x hx
            rcases List.mem_append.1 hx with hx | hx
            · exact o7.2.1 x hx
            · rw [List.mem_singleton.1 hx]
              exact ⟨_, _, a[j], F, rfl, rfl, y3, hE, hne, hF.2, fun e he => by rw [List.mem_singleton.1 he]; exact hre, fun e he => hB e (hFb e he), hFl⟩
          · exact ((o7.2.2.1.on one_box).grown g2 (fun k e => free_le (by have := (o7.1.lt k e).1; omega))).set (free_le (Nat.le_refl _)) _
          · rw [List.length_append, List.length_singleton]; omega
          · rw [jnP_take on b k1]
            have : flat (X ++ [(.agg #[.slice a1 a[j].1.length c1, .int .i64 a[j].2, .slice aF nF cF], lnL a[j] F)]) = flat X ++ lnL a[j] F := by unfold flat; rw [List.flatMap_append]; simp
            rw [this]
            exact s2.append (lnL_perm hF)
          · rw [List.length_append, List.length_singleton]; omega
          · rw [heap_set_in k9]; rfl
          · exact (((b7.alloc (by have := b7.size; omega) _).grown g2 (by have := b7.size; simp; omega) (fun k e => by have := (o7.1.lt k e).1; omega)).setCell (Nat.le_refl _) _)
        rw [hW] at z1
        have hXL : X.length ≤ 65535 := by omega
        clear hS s1 s2 s3 s4 s5 x3 y1 y2 y3 eb ey hbW hW hin z2 b1 hb1 BW hre
        generalize a[j].1.length = n1 at *
        generalize a[j].2 = i1 at *
        go_wp2_with fail
        rw [HW.out]
        refine q1.mono ?_
        rintro e w6 ⟨rfl, h6⟩
        have q2 := FQ.out w6 h6
        have z6 := cell_on Z.out.1 h6
        have H6 : Hid (Below W.heap.size W w6) := h6
        clear FQ h6 q1 z1
        go_wp2_with fail
        refine q2.mono ?_
        rintro e w7 ⟨vF, F, rfl, hF, hE, hFl, hFb, h7⟩
        have H7 : Below W.heap.size W w7 := H6.out.trans (h7.mono H6.out.size)
        obtain ⟨aF, cF, rfl⟩ := hE.form
        by_cases h0 : F.length = 0
        · obtain rfl := List.eq_nil_of_length_eq_zero h0
          have hf : Hid _ := FN.out w7 H7 _ hF hE
          clear FN FY q2 H6 H7 hF hE hFl hFb h7 z6
          rw [List.length_nil]
          go_wp2_with fail
          go_roundw
          case rel => exact ⟨j + 1, _, by omega, by go_num, hf.out⟩
          case measure => simp [intOf]; omega
        · have hne : F ≠ [] := fun e => h0 (by rw [e]; rfl)
          have hFY := FY.out w7 H7 _ _ _ F hF hne hE hFl hFb
          obtain ⟨O7, Z7, d1, d2, d3, FB⟩ := hFY
          have HFB : Hid _ := FB
          have HO7 : Hid (w7.ownsRow (w1.heap.size + 1) 57 3 (.slice av X.length cav) X.length (ls (X.map (·.1)))) := O7
          have I5 : (0 : Int) < (F.length : Int) := by omega
          have I6 : 0 < F.length := by omega
          clear FN FY q2 H6 H7 hF hE hFb h7 z6 FB O7 hne
          generalize F.length = nF at *
          go_wp2_with (first | (at_builtin; refine wpList_append_own _ rfl _ _ 51 rfl (w1.heap.size + 1) 57 i0 (.agg #[.slice none 0 0, .int .i64 0, .slice none 0 0]) 3 56 Tryz.underlying51 hi hz0 hz1 hz2 rfl (by decide) _ X.length (ls (X.map (·.1))) rfl (own_on HO7.out one_box) ⟨w7.heap.size, 0, none⟩ 1 1 [.slice a1 n1 c1, .int .i64 i1, .slice aF nF cF] rfl rfl (cell_three_new _ _ _ _ _) (by simp [Value.oneCell']) (by unfold maxLen; omega) (by omega) (by simp; omega) ?_; intro v9 w9 hown9 hg9 _; obtain ⟨u1, u2, u3⟩ := HFB.out v9 w9 hown9 hg9; have HF : Hid (LnSo on a b w1 (j + 1) v9 (w9.setCell ⟨w1.heap.size, 0, none⟩ v9)) := u3; have HV9 : Hid (∃ a9 c9, v9 = .slice a9 (X.length + 1) c9) := own_form hown9; obtain ⟨a9, c9, rfl⟩ := HV9.out; clear hown9 hg9 HFB HO7 u3 HV9) | fail)
          go_roundw
          case rel => exact ⟨j + 1, _, by omega, by go_num, HF.out⟩
          case measure => simp [intOf]; omega
    · have I1 : ¬ (j : Int) < (a.length : Int) := by omega
      obtain rfl : j = a.length := by omega
      obtain ⟨X, s1, s2, s3, s4, s5⟩ := hS.out
      rw [List.take_length] at s2
      have hb1 := HK.out.2.2
      have hsz : w.heap.size ≤ w1.heap.size := hb1.size
      have b1 := hb1.trans (s5.mono hb1.size)
      have s1' := s1
      have hown := s1.1
      rcases hown.2 with ⟨rfl, h0⟩ | ⟨g, cg, cur, rfl, hg, _⟩
      · obtain rfl := List.eq_nil_of_length_eq_zero h0
        have hcell : wr.cell? ⟨w1.heap.size, 0, none⟩ = some (.slice none 0 0) := by simp [World.cell?, s4]
        have q := jhInitNil w1.heap.size wr hcell
        have HF : Hid (∃ X R base, LsOf R base X (.slice none 0 0) wr ∧ w.heap.size ≤ base ∧ Heap (kf X) X.length ∧ (flat X).Perm (jnP on a b) ∧ Below w.heap.size w wr) :=
          ⟨[], w, w.heap.size, ⟨World.ownsRow_nil _ _ _ _, List.forall_mem_nil _, Sees.of_below b1, Nat.le_refl _, Nat.zero_le _⟩, Nat.le_refl _, heap_one _ (Nat.zero_le _), s2, b1⟩
        clear hS s1 s2 s3 s4 s5 hb1 b1 s1' hown
        go_wp2_with fail
        refine q.mono ?_
        rintro e w2 ⟨rfl, rfl⟩
        clear q
        go_wp2_with fail
        go_ret
        obtain ⟨X, R, base, h1, h2, h3, h4, h5⟩ := HF.out
        first | exact ⟨_, X, R, base, rfl, h1, h2, h3, h4, h5⟩ | exact ⟨_, rfl, X, R, base, h1, h2, h3, h4, h5⟩
      · obtain ⟨hL, hn, hgb⟩ := s1.lis s4 (Nat.le_refl _)
        have hcell : wr.cell? ⟨w1.heap.size, 0, none⟩ = some (.slice (some ⟨g, 0, none⟩) X.length cg) := by simp [World.cell?, s4]
        have q := jhInit w1 w1.heap.size g cg X wr hL
        have HF : Hid (∀ w2, JpIs w1 w1.heap.size g cg X wr w2 → w2.cell? ⟨w1.heap.size, 0, none⟩ = some (.slice (some ⟨g, 0, none⟩) X.length cg) ∧ ∃ X' R base, LsOf R base X' (.slice (some ⟨g, 0, none⟩) X.length cg) w2 ∧ w.heap.size ≤ base ∧ Heap (kf X') X'.length ∧ (flat X').Perm (jnP on a b) ∧ Below w.heap.size w w2) := by
          intro w2 h2
          obtain ⟨Y, y1, y2, y3, y4, y5⟩ := h2.len
          have hc := y4.1.cell
          rw [List.length_map, y1] at hc
          have hls := y4.ls (base := w1.heap.size + 1) hgb (by omega)
          rw [y1] at hls
          exact ⟨hc, Y, w1, w1.heap.size + 1, hls, by omega, y3, (List.Perm.flatMap_right _ y2).trans s2, b1.trans (y5.below (by omega) b1.size)⟩
        clear hS s1 s2 s3 s4 s5 hb1 b1 s1' hown hL hn hgb
        generalize X.length = nX at *
        go_wp2_with fail
        refine q.mono ?_
        rintro e w2 ⟨rfl, h2⟩
        obtain ⟨d1, HG⟩ := HF.out w2 h2
        have HG' : Hid _ := HG
        clear q h2 HF HG
        go_wp2_with fail
        go_ret
        obtain ⟨X', R, base, h1, h2, h3, h4, h5⟩ := HG'.out
        first | exact ⟨_, X', R, base, rfl, h1, h2, h3, h4, h5⟩ | exact ⟨_, rfl, X', R, base, h1, h2, h3, h4, h5⟩
theorem LOk.one {R : World} {x : QEnt} (h : LOk R x) : ∀ u ∈ lcs x.1, u.oneCell' = true := by
  obtain ⟨rv, bv, e, F, h1, _, h3, h4, _⟩ := h
  obtain ⟨a, c, rfl⟩ := h3.form
  obtain ⟨a', c', rfl⟩ := h4.form
  rw [h1]
  intro u hu
  simp only [lcs, List.mem_cons, List.not_mem_nil, or_false] at hu
  rcases hu with rfl | rfl | rfl <;> rfl
set_option maxHeartbeats 2000000 in
/-- A copy of lines. -/
theorem jcClone (R : World) (base : Nat) (X : List QEnt) (v : Value) (w : World) (h : LsOf R base X v w) (hR : R.heap.size ≤ w.heap.size) :
    Calls Tryz.prog 18 #[v] w fun e w' => ∃ v', e = .returned v' ∧ LsOf R w.heap.size X v' w' ∧ Below w.heap.size w w' := by
  obtain ⟨i0, hi, hz0, hz1, hz2⟩ := info_parts info_line
  obtain ⟨h1, h2, h3, h4, h5⟩ := h
  have q22 := fun (w : World) (a : Option Addr) (n c n' c' : Nat) => Lib.run_eql_slice_nil (P := Tryz.prog) w 51 57 a n c n' c' Tryz.underlying51
  rcases h1.2 with ⟨rfl, h0⟩ | ⟨g, cg, cur, rfl, hg, _⟩
  · obtain rfl := List.eq_nil_of_length_eq_zero h0
    have F : Hid (LsOf R w.heap.size [] (.slice none 0 0) w) := ⟨World.ownsRow_nil _ _ _ _, List.forall_mem_nil _, h3, hR, Nat.zero_le _⟩
    clear h1 h2 h3
    go_enter Tryz.func18, Tryz.ntmps18
    go_wp2_with fail
    go_ret
    exact ⟨_, rfl, F.out, Below.refl _ _⟩
  · have O0 := World.ownsRow_made (e := 57) w #[] 0 (base := w.heap.size) (size := 3) (Nat.le_refl _) (Nat.zero_le _) (by simp)
    by_cases h0 : X.length = 0
    · obtain rfl := List.eq_nil_of_length_eq_zero h0
      have F : Hid (LsOf R w.heap.size [] (.slice (some ⟨w.heap.size, 0, none⟩) 0 0) (w.alloc (.cells #[] 57))) := ⟨O0, List.forall_mem_nil _, h3.on one_box, hR, Nat.zero_le _⟩
      clear h1 h2 h3
      rw [List.length_nil]
      go_enter Tryz.func18, Tryz.ntmps18
      go_wp2_with (first | (at_builtin; refine wpList_append_zero rfl _ _ 51 rfl w.heap.size 57 i0 3 Tryz.underlying51 hi _ 0 [] rfl O0 _ _ rfl ?_) | fail)
      go_ret
      exact ⟨_, rfl, F.out, one_box⟩
    · have HC : Hid (∀ j u, (ls (X.map (·.1)))[j]? = some u → (w.alloc (.cells #[] 57)).cell? ((⟨g, 0, none⟩ : Addr).add j) = some u) := by
        intro j u hu
        have hj : j < (ls (X.map (·.1))).length := (List.getElem?_eq_some_iff.1 hu).1
        rw [ls_len, List.length_map] at hj
        refine cell_on ?_ one_box
        rw [add_plain, Nat.zero_add, h1.cellAt j hj]; exact hu
      have H1 : Hid (∀ u ∈ ls (X.map (·.1)), u.oneCell' = true) := by
        intro u hu
        obtain ⟨y, hy, hu⟩ := List.mem_flatMap.1 hu
        obtain ⟨x, hx, rfl⟩ := List.mem_map.1 hy
        exact (h2 x hx).one u hu
      have HL : Hid ((ls (X.map (·.1))).length = X.length * 3) := by show _ = _; rw [ls_len, List.length_map]
      have HF : Hid (∀ v' w', w'.ownsRow w.heap.size 57 3 v' (0 + X.length) ([] ++ ls (X.map (·.1))) → (w.alloc (.cells #[] 57)).grownBy w' (Value.ownBlock (.slice (some ⟨w.heap.size, 0, none⟩) 0 0)) → LsOf R w.heap.size X v' w' ∧ Below w.heap.size w w') := fun v' w' g1 g2 =>
        ⟨⟨by rw [Nat.zero_add, List.nil_append] at g1; exact g1, h2, (h3.on one_box).grown g2 (fun k e => by cases e; exact free_le hR), hR, h5⟩, one_box.grown g2 (by simp) (fun k e => by cases e; exact Nat.le_refl _)⟩
      clear h1 h2 h3 hg
      generalize X.length = n at *
      generalize ls (X.map (·.1)) = C at *
      go_enter Tryz.func18, Tryz.ntmps18
      go_wp2_with (first | (at_builtin; refine wpList_append_own _ rfl _ _ 51 rfl w.heap.size 57 i0 (.agg #[.slice none 0 0, .int .i64 0, .slice none 0 0]) 3 56 Tryz.underlying51 hi hz0 hz1 hz2 rfl (by decide) _ 0 [] rfl O0 ⟨g, 0, none⟩ n cg C rfl HL.out HC.out H1.out (by unfold maxLen; omega) (by omega) (by simp) ?_; intro v9 w9 hown9 hg9 _; have HG : Hid _ := HF.out v9 w9 hown9 hg9; clear hown9 hg9 HF HC H1 HL O0) | fail)
      go_ret
      exact ⟨_, rfl, HG.out.1, HG.out.2⟩
end Go.Proofs.YtlafokjkpbhckaaGreatDoor
