/- Texts of one claim, one behind the other. -/
import Derived.Test.YtglbipnppldkmaaGreatDoorPackTurnB
/- What a merge's add answers: the walk. (written by spadd_gen.py) -/
namespace Go.Proofs.YtglbipnppldkmaaGreatDoor
open Go.RowKit Go.Sort
set_option maxRecDepth 100000
set_option maxHeartbeats 1000000 in
/-- Of none so far. -/
theorem spAdd0 (R : World) (mb ab cap many : Nat) (sv : Value) (Y : List QEnt) (e : Ent) (ar : Option Addr) (cr : Nat) (w : World) (h : MgAt R mb ab cap many sv [] [] Y w) (hr : RowIs R (.slice ar e.1.length cr) e.1) :
    Calls Tryz.prog 114 #[.pointer (some ⟨mb, 0, none⟩), .agg #[.slice ar e.1.length cr, .int .i64 e.2]] w fun e' w' => e' = .returned (.tuple #[]) ∧ AddTo R mb ab cap many sv [] e Y w w' := by
  obtain ⟨i0, hi0, hz0, hz1, hz2⟩ := info_parts info_entry
  obtain ⟨av, cv, rfl⟩ := own_form h.2.2.1
  obtain ⟨W, hW⟩ : ∃ W, W = w.alloc (.cells #[.slice ar e.1.length cr, .int .i64 e.2] 37) := ⟨_, rfl⟩
  have BW : Hid (Below w.heap.size w W) := by rw [hW]; exact one_box
  have hb := (h.on BW.out).1.1.mg
  have c2 : W.cell? ⟨mb, 2, none⟩ = some (.slice av 0 cv) := by simp [World.cell?, hb]
  have d0 : W.cell? ⟨w.heap.size, 0, none⟩ = some (.slice ar e.1.length cr) := by rw [hW, World.cell?_alloc_at _ _ _ _ rfl]; rfl
  have d1 : W.cell? ⟨w.heap.size, 1, none⟩ = some (.int .i64 e.2) := by rw [hW, World.cell?_alloc_at _ _ _ _ rfl]; rfl
  have HW : Hid (w.alloc (.cells #[.slice ar e.1.length cr, .int .i64 e.2] 37) = W) := hW.symm
  have HC : Hid (∀ w', Below W.heap.size W w' → w'.cell? ⟨mb, 2, none⟩ = some (.slice av 0 cv) ∧ w'.cell? ⟨w.heap.size, 0, none⟩ = some (.slice ar e.1.length cr) ∧ w'.cell? ⟨w.heap.size, 1, none⟩ = some (.int .i64 e.2)) := fun w' hB => ⟨cell_on c2 hB, cell_on d0 hB, cell_on d1 hB⟩
  have HOW : Hid (W.ownsRow 0 37 2 (.slice av 0 cv) 0 (es [])) := (h.on BW.out).2.2.1
  have HAP : Hid (∀ W7 v' w', Below w.heap.size w W7 → w'.ownsRow 0 37 2 v' (0 + 1) (es [] ++ ec (.slice ar e.1.length cr, e.2)) → W7.grownBy w' (Value.ownBlock (.slice av 0 cv)) → (v'.ownBlock = Value.ownBlock (.slice av 0 cv) ∨ v'.ownBlock = some W7.heap.size) → w'.cell? ⟨mb, 2, none⟩ = some (.slice av 0 cv) ∧ w'.frozen? ⟨mb, 2, none⟩ = false ∧ AddTo R mb ab cap many (.slice av 0 cv) [] e Y w (w'.setCell ⟨mb, 2, none⟩ v')) := fun W7 v' w' g0 g1 g2 g3 =>
    h.app g0 hr (fun f hf => by cases hf) g1 g2 (g3.elim .inl (fun e => .inr ⟨_, e, g0.size⟩))
  clear h hb hW c2 d0 d1 hr
  generalize e.1.length = n3 at *
  generalize e.2 = k3 at *
  go_enter Tryz.func114, Tryz.ntmps114
  obtain ⟨c2, d0, d1⟩ := HC.out W (Below.refl _ _)
  rw [← HW.out] at c2
  go_wp2_with fail
  rw [HW.out]
  clear c2 d0 d1
  refine wp_region_quiet_below (by kernel_rfl) (by kernel_rfl) ?_
  iterate 14 (go_big_quiet_step (fail))
  refine wpQuiet_nil ?_
  intro w6 hw6
  obtain ⟨p6, hw6⟩ := hw6
  have hb6 : Below W.heap.size W w6 := by rw [hw6]; exact below_regrown W _ _
  clear hw6
  obtain ⟨c2, d0, d1⟩ := HC.out w6 hb6
  have c3 : (w6.alloc (.cells #[.slice ar n3 cr, .int .i64 k3] 37)).cell? ⟨mb, 2, none⟩ = some (.slice av 0 cv) := cell_on c2 one_box
  obtain ⟨W7, hW7⟩ : ∃ W7, W7 = (w6.alloc (.cells #[.slice ar n3 cr, .int .i64 k3] 37)).drew := ⟨_, rfl⟩
  have B7 : Below w6.heap.size w6 W7 := by rw [hW7]; exact ((Below.refl _ _).alloc (Nat.le_refl _) _).drew
  have HN : Hid (∀ (j : Nat) (u : Value), (ec (.slice ar n3 cr, k3))[j]? = some u → W7.cell? ((⟨w6.heap.size, 0, none⟩ : Addr).add j) = some u) := by
    intro j u hu
    have e0 : W7.cell? ((⟨w6.heap.size, 0, none⟩ : Addr).add j) = (w6.alloc (.cells #[.slice ar n3 cr, .int .i64 k3] 37)).cell? ((⟨w6.heap.size, 0, none⟩ : Addr).add j) := by rw [hW7]; rfl
    rw [e0]; exact cell_two_new _ _ _ _ j u hu
  have B67 : Below W.heap.size W W7 := hb6.trans (B7.mono hb6.size)
  have HO : Hid (W7.ownsRow 0 37 2 (.slice av 0 cv) 0 (es [])) := own_on HOW.out B67
  have HF : Hid (∀ v' w', w'.ownsRow 0 37 2 v' (0 + 1) (es [] ++ ec (.slice ar n3 cr, k3)) → W7.grownBy w' (Value.ownBlock (.slice av 0 cv)) → (v'.ownBlock = Value.ownBlock (.slice av 0 cv) ∨ v'.ownBlock = some W7.heap.size) → w'.cell? ⟨mb, 2, none⟩ = some (.slice av 0 cv) ∧ w'.frozen? ⟨mb, 2, none⟩ = false ∧ AddTo R mb ab cap many (.slice av 0 cv) [] e Y w (w'.setCell ⟨mb, 2, none⟩ v')) := fun v' w' g1 g2 g3 => HAP.out W7 v' w' (BW.out.trans (B67.mono BW.out.size)) g1 g2 g3
  have HW7 : Hid ((w6.alloc (.cells #[.slice ar n3 cr, .int .i64 k3] 37)).drew = W7) := hW7.symm
  clear hb6 hW7 B7 B67
  go_wp2_with fail
  go_region_law (first
    | (rw [HW7.out]; refine step_append_at W7 (by rfl) (.tmp 29) (.tmp 31) 29 (by rfl) 0 37 i0 (.agg #[.slice none 0 0, .int .i64 0]) 2 32 Tryz.underlying29 hi0 hz0 hz1 hz2 rfl (by decide) _ 0 (es []) (by rfl) HO.out ⟨w6.heap.size, 0, none⟩ 1 1 (ec (.slice ar n3 cr, k3)) (by rfl) rfl HN.out (by simp [ec, Value.oneCell']) (by unfold maxLen; omega) (by omega) (Nat.zero_le _) ?_; intro v5 w5 hown5 hg5 hat5; obtain ⟨y1, y2, y3⟩ := HF.out v5 w5 hown5 hg5 hat5; obtain ⟨a5, c5, e5⟩ := own_form hown5; subst e5; have Y3 : Hid (AddTo R mb ab cap many (.slice av 0 cv) [] e Y w (w5.setCell ⟨mb, 2, none⟩ (.slice a5 (0 + 1) c5))) := y3; clear hown5 hg5 hat5 y3 HF HO HN HW7))
  all_goals (go_wp2_with fail; go_returns; exact ⟨rfl, Y3.out⟩)
theorem MgAt.wgt' {R : World} {mb ab cap many g c ul : Nat} {us : List VEnt} {x : Value} {k : Int} {S : List Ent} {f : Ent} {Y : List QEnt} {w : World} (h : MgAt R mb ab cap many (.slice (some ⟨g, 0, none⟩) (ul + 1) c) (us ++ [(x, k)]) (S ++ [f]) Y w) (hu : us.length = ul) (n : Int) :
    MgAt R mb ab cap many (.slice (some ⟨g, 0, none⟩) (ul + 1) c) (us ++ [(x, n)]) (S ++ [(f.1, n)]) Y (w.setCell ⟨g, ul * 2 + 1, none⟩ (.int .i64 n)) := by subst hu; exact h.wgt
theorem MgAt.cut' {R : World} {mb ab cap many g c ul : Nat} {us : List VEnt} {x : Value} {k : Int} {S : List Ent} {f : Ent} {Y : List QEnt} {w : World} (h : MgAt R mb ab cap many (.slice (some ⟨g, 0, none⟩) (ul + 1) c) (us ++ [(x, k)]) (S ++ [f]) Y w) (hu : us.length = ul) :
    MgAt R mb ab cap many (.slice (some ⟨g, 0, none⟩) ul c) us S Y (w.setCell ⟨mb, 2, none⟩ (.slice (some ⟨g, 0, none⟩) ul c)) := by subst hu; exact h.cut
theorem snoc_of {α : Type} {l : List α} (h : l ≠ []) : ∃ l0 x, l = l0 ++ [x] := ⟨l.dropLast, l.getLast h, (List.dropLast_concat_getLast h).symm⟩
set_option maxHeartbeats 1000000 in
/-- Of some so far. -/
theorem spAdd1 (R : World) (mb ab cap many : Nat) (sv : Value) (us : List VEnt) (x : Value) (k : Int) (S : List Ent) (f : Ent) (Y : List QEnt) (e : Ent) (ar : Option Addr) (cr : Nat) (w : World) (h : MgAt R mb ab cap many sv (us ++ [(x, k)]) (S ++ [f]) Y w) (hr : RowIs R (.slice ar e.1.length cr) e.1)
    (hS : IsZ (S ++ [f])) (hE : EOk (S ++ [f])) (hle : ∀ g ∈ S ++ [f], cR g.1 e.1 ≤ 0) (hn : us.length ≤ 60000) :
    Calls Tryz.prog 114 #[.pointer (some ⟨mb, 0, none⟩), .agg #[.slice ar e.1.length cr, .int .i64 e.2]] w fun e' w' => e' = .returned (.tuple #[]) ∧ AddTo R mb ab cap many sv (S ++ [f]) e Y w w' := by
  obtain ⟨i0, hi0, hz0, hz1, hz2⟩ := info_parts info_entry
  have ho := h.2.2.1
  rw [List.length_append, List.length_singleton] at ho
  obtain ⟨g, cv, e0⟩ : ∃ g cv, sv = .slice (some ⟨g, 0, none⟩) (us.length + 1) cv := by
    rcases ho.2 with ⟨_, e⟩ | ⟨g, c, cur, e, _⟩
    · omega
    · exact ⟨g, c, e⟩
  subst e0
  obtain ⟨W, hW⟩ : ∃ W, W = w.alloc (.cells #[.slice ar e.1.length cr, .int .i64 e.2] 37) := ⟨_, rfl⟩
  have BW : Hid (Below w.heap.size w W) := by rw [hW]; exact one_box
  have hM := h.on BW.out
  have hb := hM.1.1.mg
  have hoW := own_on ho BW.out
  have hcap : us.length + 1 ≤ cv ∧ cv ≤ maxLen := by
    rcases hoW.2 with ⟨e, _⟩ | ⟨g', cp, cur, e, _, h2, h3, h4, h5, h6⟩
    · cases e
    · simp only [Value.slice.injEq] at e
      rw [e.2.2]; exact ⟨h3, h4⟩
  have c2 : W.cell? ⟨mb, 2, none⟩ = some (.slice (some ⟨g, 0, none⟩) (us.length + 1) cv) := by simp [World.cell?, hb]
  have d0 : W.cell? ⟨w.heap.size, 0, none⟩ = some (.slice ar e.1.length cr) := by rw [hW, World.cell?_alloc_at _ _ _ _ rfl]; rfl
  have d1 : W.cell? ⟨w.heap.size, 1, none⟩ = some (.int .i64 e.2) := by rw [hW, World.cell?_alloc_at _ _ _ _ rfl]; rfl
  have HW : Hid (w.alloc (.cells #[.slice ar e.1.length cr, .int .i64 e.2] 37) = W) := hW.symm
  have HC : Hid (∀ w', Below W.heap.size W w' → w'.cell? ⟨mb, 2, none⟩ = some (.slice (some ⟨g, 0, none⟩) (us.length + 1) cv) ∧ w'.cell? ⟨w.heap.size, 0, none⟩ = some (.slice ar e.1.length cr) ∧ w'.cell? ⟨w.heap.size, 1, none⟩ = some (.int .i64 e.2)) := fun w' hB => ⟨cell_on c2 hB, cell_on d0 hB, cell_on d1 hB⟩
  have hEn : EntsIs W (.slice (some ⟨g, 0, none⟩) (us.length + 1) cv) (S ++ [f]) := ⟨us ++ [(x, k)], EntsAt.of_own (base := 0) (by rw [List.length_append, List.length_singleton]; exact hoW), hM.2.2.2.1.sees hM.1.2.2.1⟩
  have hl0 : us.length = S.length := by have := hM.2.2.2.1.1; simp at this; exact this
  have hOne : EntsIs W (.slice (some ⟨g, us.length * 2, none⟩) 1 (cv - us.length)) [f] := by
    have := hEn.drop us.length (by simp; omega)
    rw [hl0, List.drop_left, ← hl0, Nat.zero_add, Nat.add_sub_cancel_left] at this; exact this
  have hf0 : f.2 ≠ 0 := hS.2 f (by simp)
  have hfI : inI f.2 = true := (hE f (by simp)).1
  have q0 := zGet [f] e.1 (.slice (some ⟨g, us.length * 2, none⟩) 1 (cv - us.length)) (.slice ar e.1.length cr)
  have q : Hid (∀ d os, Calls Tryz.prog 113 #[.slice (some ⟨g, us.length * 2, none⟩) 1 (cv - us.length), .slice ar e.1.length cr] (grow (redrawn W d) os) fun e' w'' => e' = .returned (.int .i64 (wt e.1 [f])) ∧ ∃ p : Regrown, w'' = grow (redrawn W p.d) p.os) :=
    fun d os => Calls.regrown_of (q0 _ (by simp) ⟨by simp [SortedZ], fun e he => by simp at he; rw [he]; exact hf0⟩ (hOne.on (below_regrown W d os)) ((hr.sees hM.1.2.2.1).on (below_regrown W d os)))
  have hw1 : wt e.1 [f] = if f.1 = e.1 then f.2 else 0 := wt_one e.1 f.1 f.2
  clear q0
  by_cases hfe : f.1 = e.1
  · rw [if_pos hfe] at hw1
    rw [hw1] at q
    have xk : k = f.2 := (h.2.2.2.1.last (n := 0)).2.2.1
    have hx1 : W.cell? ⟨g, us.length * 2 + 1, none⟩ = some (.int .i64 k) := by
      rw [hoW.cellAt (us.length * 2 + 1) (by rw [Nat.add_mul]; omega), es_snoc, List.getElem?_append_right (by rw [es_len]; omega), es_len, show us.length * 2 + 1 - us.length * 2 = 1 by omega]; rfl
    have hfz : ∀ o, W.frozen? ⟨g, o, none⟩ = false := fun o => hoW.frozenAt o
    have H1 : Hid (∀ w6, Below W.heap.size W w6 → w6.cell? ⟨g, us.length * 2 + 1, none⟩ = some (.int .i64 k) ∧ w6.frozen? ⟨g, us.length * 2 + 1, none⟩ = false ∧ MgAt R mb ab cap many (.slice (some ⟨g, 0, none⟩) (us.length + 1) cv) (us ++ [(x, k)]) (S ++ [f]) Y w6) := fun w6 hB => ⟨cell_on hx1 hB, (own_on hoW hB).frozenAt _, hM.on hB⟩
    have b0 : (f.2 == 0) = false := by simpa using hf0
    have xI := inI_iff.1 hfI
    subst xk
    have HFE : Hid (f.1 = e.1) := hfe
    have I1 : decide ((us.length : Int) < 0) = false := by simp
    have hck : ¬ cv = us.length := by omega
    have hcm := hcap.2
    have hcl := hcap.1
    unfold maxLen at hcm
    clear h hb hW c2 d0 d1 hr hM hoW hEn hOne hS hE hle hcap hw1 hx1 hfz ho hfe hf0 hl0
    generalize e.1.length = n3 at *
    generalize hk3 : e.2 = k3 at *
    obtain ⟨kk, hkk⟩ : ∃ kk, kk = f.2 := ⟨_, rfl⟩
    have HKK : Hid (kk = f.2) := hkk
    rw [← hkk] at q H1 b0 xI
    have HK3 : Hid (e.2 = k3) := hk3
    clear hkk hk3
    generalize hul : us.length = ul at *
    have HUL : Hid (us.length = ul) := hul
    clear hul
    go_enter Tryz.func114, Tryz.ntmps114
    obtain ⟨c2, d0, d1⟩ := HC.out W (Below.refl _ _)
    have g0 := fun d os => cell_regrown c2 d os
    have g1 := fun d os => cell_regrown d0 d os
    rw [← HW.out] at c2
    go_wp2_with fail
    rw [HW.out]
    clear c2 d0 d1
    refine wp_region_quiet_below (by kernel_rfl) (by kernel_rfl) ?_
    iterate 14 (go_big_quiet_step (exact q.out _ _))
    refine wpQuiet_nil ?_
    intro w6 hw6
    obtain ⟨p6, hw6⟩ := hw6
    have hb6 : Below W.heap.size W w6 := by rw [hw6]; exact below_regrown W _ _
    clear hw6 q g0 g1
    obtain ⟨c2, d0, d1⟩ := HC.out w6 hb6
    obtain ⟨x1, x2, x3⟩ := H1.out w6 hb6
    have B06 : Hid (Below w.heap.size w w6) := BW.out.trans (hb6.mono BW.out.size)
    have X3 : Hid (MgAt R mb ab cap many (.slice (some ⟨g, 0, none⟩) (ul + 1) cv) (us ++ [(x, kk)]) (S ++ [f]) Y w6) := x3
    clear x3 H1 HC hb6 b0
    have hgm : g ≠ mb := fun e => X3.out.far.1 (by rw [← e]; rfl)
    have y1 : ∀ n, (w6.setCell ⟨g, ul * 2 + 1, none⟩ (.int .i64 n)).cell? ⟨mb, 2, none⟩ = some (.slice (some ⟨g, 0, none⟩) (ul + 1) cv) := fun n => by
      rw [World.cell?_of_block (w := w6) (Below.heap_setCell _ _ _ _ (fun e => hgm e.symm))]; exact c2
    have y2 : ∀ n, (w6.setCell ⟨g, ul * 2 + 1, none⟩ (.int .i64 n)).cell? ⟨g, ul * 2 + 1, none⟩ = some (.int .i64 n) := fun n => by
      have hw := X3.out.wgt' HUL.out n
      have hw2 := hw.2.2.1
      rw [List.length_append, List.length_singleton, HUL.out] at hw2
      have e1 := hw2.cellAt (ul * 2 + 1) (by rw [Nat.add_mul]; omega)
      rw [e1, es_snoc, List.getElem?_append_right (by rw [es_len, HUL.out]; omega), es_len, HUL.out, show ul * 2 + 1 - ul * 2 = 1 by omega]; rfl
    have y3 : ∀ n, (w6.setCell ⟨g, ul * 2 + 1, none⟩ (.int .i64 n)).frozen? ⟨mb, 2, none⟩ = false := fun n => by
      have hb := (X3.out.wgt' HUL.out n).1.1.mg
      simp [World.frozen?, hb]
    obtain ⟨nn, hnn⟩ : ∃ nn, wrap64 (kk + k3) = nn := ⟨_, rfl⟩
    have HNN : Hid (nn = wrap64 (f.2 + e.2)) := by show _ = _; rw [← hnn, HKK.out, HK3.out]
    have hgl : AddF mb (.slice (some ⟨g, 0, none⟩) (ul + 1) cv) g := .inr rfl
    by_cases hz : nn = 0
    · have G : Hid (∀ w', Below w6.heap.size ((w6.setCell ⟨g, ul * 2 + 1, none⟩ (.int .i64 0)).setCell ⟨mb, 2, none⟩ (.slice (some ⟨g, 0, none⟩) ul cv)) w' → AddTo R mb ab cap many (.slice (some ⟨g, 0, none⟩) (ul + 1) cv) (S ++ [f]) e Y w w') := fun w' hB => by
        have hw := X3.out.wgt' HUL.out 0
        have hc := hw.cut' HUL.out
        refine ⟨_, us, S, hc.on (hB.mono (by simp [World.setCell])), .inr ⟨S, f, rfl, HFE.out, .inr ⟨by rw [← HNN.out]; exact hz, rfl⟩⟩, ?_, fun b eb => .inl eb⟩
        exact (((Chg.of_below B06.out).trans' (Chg.set _ hgl)).trans' (Chg.set _ (.inl rfl))).trans' (Chg.of_below (hB.mono (by simp [World.setCell])))
      subst hz
      clear X3 HNN
      go_wp2_with fail
      go_region
      all_goals (go_wp2_with fail; go_end0; exact ⟨rfl, G.out _ ((Below.refl _ _).drew)⟩)
    · have G : Hid (∀ w', Below w6.heap.size (w6.setCell ⟨g, ul * 2 + 1, none⟩ (.int .i64 nn)) w' → AddTo R mb ab cap many (.slice (some ⟨g, 0, none⟩) (ul + 1) cv) (S ++ [f]) e Y w w') := fun w' hB => by
        have hw := X3.out.wgt' HUL.out nn
        refine ⟨_, us ++ [(x, nn)], S ++ [(f.1, nn)], hw.on (hB.mono (by simp [World.setCell])), .inr ⟨S, f, rfl, HFE.out, .inl ⟨by rw [← HNN.out]; exact hz, by rw [HNN.out]⟩⟩, ?_, fun b eb => .inl eb⟩
        exact ((Chg.of_below B06.out).trans' (Chg.set _ hgl)).trans' (Chg.of_below (hB.mono (by simp [World.setCell])))
      have bz : (nn == 0) = false := by simpa using hz
      clear X3 HNN
      go_wp2_with fail
      go_region
      all_goals (go_wp2_with fail; go_end0; exact ⟨rfl, G.out _ ((Below.refl _ _).drew)⟩)
  · rw [if_neg hfe] at hw1
    rw [hw1] at q
    have HOW : Hid (W.ownsRow 0 37 2 (.slice (some ⟨g, 0, none⟩) (us.length + 1) cv) (us.length + 1) (es (us ++ [(x, k)]))) := hoW
    have HAP : Hid (∀ W7 v' w', Below w.heap.size w W7 → w'.ownsRow 0 37 2 v' (us.length + 1 + 1) (es (us ++ [(x, k)]) ++ ec (.slice ar e.1.length cr, e.2)) → W7.grownBy w' (Value.ownBlock (.slice (some ⟨g, 0, none⟩) (us.length + 1) cv)) → (v'.ownBlock = Value.ownBlock (.slice (some ⟨g, 0, none⟩) (us.length + 1) cv) ∨ v'.ownBlock = some W7.heap.size) → w'.cell? ⟨mb, 2, none⟩ = some (.slice (some ⟨g, 0, none⟩) (us.length + 1) cv) ∧ w'.frozen? ⟨mb, 2, none⟩ = false ∧ AddTo R mb ab cap many (.slice (some ⟨g, 0, none⟩) (us.length + 1) cv) (S ++ [f]) e Y w (w'.setCell ⟨mb, 2, none⟩ v')) := fun W7 v' w' g0 g1 g2 g3 =>
      h.app g0 hr (last_row hS.1 hle hfe) (by rw [List.length_append, List.length_singleton]; exact g1) g2 (g3.elim .inl (fun e => .inr ⟨_, e, g0.size⟩))
    have I1 : decide ((us.length : Int) < 0) = false := by simp
    have hck : ¬ cv = us.length := by omega
    have hcm := hcap.2
    have hcl := hcap.1
    unfold maxLen at hcm
    clear h hb hW c2 d0 d1 hr hM hoW hEn hOne hS hE hle hcap hw1 ho hfe hf0 hl0
    generalize e.1.length = n3 at *
    generalize e.2 = k3 at *
    obtain ⟨av, hav⟩ : ∃ av, av = some (⟨g, 0, none⟩ : Addr) := ⟨_, rfl⟩
    generalize us.length = ul at *
    go_enter Tryz.func114, Tryz.ntmps114
    obtain ⟨c2, d0, d1⟩ := HC.out W (Below.refl _ _)
    have g0 := fun d os => cell_regrown c2 d os
    have g1 := fun d os => cell_regrown d0 d os
    rw [← HW.out] at c2
    go_wp2_with fail
    rw [HW.out]
    clear c2 d0 d1
    refine wp_region_quiet_below (by kernel_rfl) (by kernel_rfl) ?_
    iterate 14 (go_big_quiet_step (exact q.out _ _))
    refine wpQuiet_nil ?_
    intro w6 hw6
    obtain ⟨p6, hw6⟩ := hw6
    have hb6 : Below W.heap.size W w6 := by rw [hw6]; exact below_regrown W _ _
    clear hw6 q g0 g1 hav av
    obtain ⟨c2, d0, d1⟩ := HC.out w6 hb6
    have c3 : (w6.alloc (.cells #[.slice ar n3 cr, .int .i64 k3] 37)).cell? ⟨mb, 2, none⟩ = some (.slice (some ⟨g, 0, none⟩) (ul + 1) cv) := cell_on c2 one_box
    obtain ⟨W7, hW7⟩ : ∃ W7, W7 = (w6.alloc (.cells #[.slice ar n3 cr, .int .i64 k3] 37)).drew := ⟨_, rfl⟩
    have B7 : Below w6.heap.size w6 W7 := by rw [hW7]; exact ((Below.refl _ _).alloc (Nat.le_refl _) _).drew
    have HN : Hid (∀ (j : Nat) (u : Value), (ec (.slice ar n3 cr, k3))[j]? = some u → W7.cell? ((⟨w6.heap.size, 0, none⟩ : Addr).add j) = some u) := by
      intro j u hu
      have e0 : W7.cell? ((⟨w6.heap.size, 0, none⟩ : Addr).add j) = (w6.alloc (.cells #[.slice ar n3 cr, .int .i64 k3] 37)).cell? ((⟨w6.heap.size, 0, none⟩ : Addr).add j) := by rw [hW7]; rfl
      rw [e0]; exact cell_two_new _ _ _ _ j u hu
    have B67 : Below W.heap.size W W7 := hb6.trans (B7.mono hb6.size)
    have HO : Hid (W7.ownsRow 0 37 2 (.slice (some ⟨g, 0, none⟩) (ul + 1) cv) (ul + 1) (es (us ++ [(x, k)]))) := own_on HOW.out B67
    have HF : Hid (∀ v' w', w'.ownsRow 0 37 2 v' ((ul + 1) + 1) (es (us ++ [(x, k)]) ++ ec (.slice ar n3 cr, k3)) → W7.grownBy w' (Value.ownBlock (.slice (some ⟨g, 0, none⟩) (ul + 1) cv)) → (v'.ownBlock = Value.ownBlock (.slice (some ⟨g, 0, none⟩) (ul + 1) cv) ∨ v'.ownBlock = some W7.heap.size) → w'.cell? ⟨mb, 2, none⟩ = some (.slice (some ⟨g, 0, none⟩) (ul + 1) cv) ∧ w'.frozen? ⟨mb, 2, none⟩ = false ∧ AddTo R mb ab cap many (.slice (some ⟨g, 0, none⟩) (ul + 1) cv) (S ++ [f]) e Y w (w'.setCell ⟨mb, 2, none⟩ v')) := fun v' w' g1 g2 g3 => HAP.out W7 v' w' (BW.out.trans (B67.mono BW.out.size)) g1 g2 g3
    have HW7 : Hid ((w6.alloc (.cells #[.slice ar n3 cr, .int .i64 k3] 37)).drew = W7) := hW7.symm
    clear hb6 hW7 B7 B67
    go_wp2_with fail
    go_region_law (first
      | (rw [HW7.out]; refine step_append_at W7 (by rfl) (.tmp 29) (.tmp 31) 29 (by rfl) 0 37 i0 (.agg #[.slice none 0 0, .int .i64 0]) 2 32 Tryz.underlying29 hi0 hz0 hz1 hz2 rfl (by decide) _ (ul + 1) (es (us ++ [(x, k)])) (by rfl) HO.out ⟨w6.heap.size, 0, none⟩ 1 1 (ec (.slice ar n3 cr, k3)) (by rfl) rfl HN.out (by simp [ec, Value.oneCell']) (by unfold maxLen; omega) (by omega) (Nat.zero_le _) ?_; intro v5 w5 hown5 hg5 hat5; obtain ⟨y1, y2, y3⟩ := HF.out v5 w5 hown5 hg5 hat5; obtain ⟨a5, c5, e5⟩ := own_form hown5; subst e5; have Y3 : Hid (AddTo R mb ab cap many (.slice (some ⟨g, 0, none⟩) (ul + 1) cv) (S ++ [f]) e Y w (w5.setCell ⟨mb, 2, none⟩ (.slice a5 ((ul + 1) + 1) c5))) := y3; clear hown5 hg5 hat5 y3 HF HO HN HW7))
    all_goals (go_wp2_with fail; go_returns; exact ⟨rfl, Y3.out⟩)
end Go.Proofs.YtglbipnppldkmaaGreatDoor
/- What a merge's goOn answers. -/
namespace Go.Proofs.YtglbipnppldkmaaGreatDoor
open Go.RowKit Go.Sort
set_option maxRecDepth 100000
theorem spAdd (R : World) (mb ab cap many : Nat) (sv : Value) (us : List VEnt) (S : List Ent) (Y : List QEnt) (e : Ent) (ar : Option Addr) (cr : Nat) (w : World) (h : MgAt R mb ab cap many sv us S Y w) (hr : RowIs R (.slice ar e.1.length cr) e.1)
    (hS : IsZ S) (hE : EOk S) (hle : ∀ g ∈ S, cR g.1 e.1 ≤ 0) (hn : S.length ≤ 60000) :
    Calls Tryz.prog 114 #[.pointer (some ⟨mb, 0, none⟩), .agg #[.slice ar e.1.length cr, .int .i64 e.2]] w fun e' w' => e' = .returned (.tuple #[]) ∧ AddTo R mb ab cap many sv S e Y w w' := by
  by_cases hu : us = []
  · subst hu
    have hS0 : S = [] := List.eq_nil_of_length_eq_zero (by rw [← h.2.2.2.1.1]; rfl)
    subst hS0
    exact spAdd0 R mb ab cap many sv Y e ar cr w h hr
  · have hl := h.2.2.2.1.1
    have hS0 : S ≠ [] := fun e => hu (List.eq_nil_of_length_eq_zero (by rw [hl, e]; rfl))
    obtain ⟨u0, ⟨x, k⟩, rfl⟩ := snoc_of hu
    obtain ⟨S0, f, rfl⟩ := snoc_of hS0
    exact spAdd1 R mb ab cap many sv u0 x k S0 f Y e ar cr w h hr hS hE hle (by simp at hl hn; omega)
/-- How far goOn has come. -/
def GoTo (R : World) (mb ab cap many : Nat) (G : Nat → Prop) (T : List Ent) (w : World) (y k : Nat) (Y : List QEnt) (wr : World) : Prop :=
  ∃ sv us S, MgAt R mb ab cap many sv us S Y wr ∧ MgSum T S (flat Y) ∧ (flat Y).length + k = y ∧ Chg G w wr ∧ ∀ b, sv.ownBlock = some b → G b ∨ w.heap.size ≤ b
theorem GoTo.lt {R : World} {mb ab cap many : Nat} {G : Nat → Prop} {T : List Ent} {w : World} {y k : Nat} {Y : List QEnt} {wr : World} (h : GoTo R mb ab cap many G T w y k Y wr) (hl : 0 < Y.length) : k < y := by
  obtain ⟨sv, us, S, h1, h2, h3, _⟩ := h
  have := flat_pos h1.1.inOrder hl
  omega
/-- One more step. -/
theorem GoTo.step {R : World} {mb ab cap many : Nat} {G : Nat → Prop} {T : List Ent} {w : World} {y k : Nat} {vx : Value} {e : Ent} {l : List Ent} {Y : List QEnt} {wr w2 : World} {sv : Value} {us : List VEnt} {S : List Ent}
    (h1 : MgAt R mb ab cap many sv us S ((vx, e :: l) :: Y) wr) (h2 : MgSum T S (flat ((vx, e :: l) :: Y))) (h3 : (flat ((vx, e :: l) :: Y)).length + k = y) (h4 : Chg G w wr) (h5 : ∀ b, sv.ownBlock = some b → G b ∨ w.heap.size ≤ b) (gm : G mb) (ga : G ab)
    (ha : AddTo R mb ab cap many sv S e ((vx, e :: l) :: Y) wr w2) : ∃ sv' : Value, QIs R mb (mgH many sv') ab cap ((vx, e :: l) :: Y) w2 ∧ Heap (kf ((vx, e :: l) :: Y)) ((vx, e :: l) :: Y).length ∧
      ∀ w3, SkipIs R mb (mgH many sv') ab cap ((e :: l).drop 1) Y w2 w3 → ∃ Y', GoTo R mb ab cap many G T w y (k + 1) Y' w3 := by
  obtain ⟨sv', us', S', a1, a2, a3, a4⟩ := ha
  refine ⟨sv', a1.1, a1.2.1, fun w3 ⟨Y', y1, y2, y3, y4, y5, y6⟩ => ⟨Y', sv', us', S', ⟨y2, y1, ?_, a1.2.2.2⟩, ?_, ?_, ?_, fun b hb => ?_⟩⟩
  · exact a1.1.1.own y3 a1.2.2.1 (show 37 ≠ 140 by decide) (by decide)
  · refine h2.add ⟨?_, fun f hf => ?_, fun f hf => ?_, fun s => ?_, ?_⟩ a2
    · rw [flat_cons]; simp
    · have := (y5 f).1 hf
      rw [flat_cons]; simp only [List.drop_one, List.tail_cons, List.mem_append] at this
      rcases this with h | h
      · simp [h]
      · simp [h]
    · exact first_le h1.1.inOrder h1.2.1 hf
    · rw [y4, flat_cons, wt_append, wt_append]
      simp only [List.drop_one, List.tail_cons, wt]; omega
    · rw [y6, flat_cons]; simp
  · rw [y6]; rw [flat_cons] at h3
    simp only [List.length_append, List.length_cons, List.drop_one, List.tail_cons] at h3 ⊢; omega
  · have hc : Chg G w w2 := h4.trans ⟨a3.1, a3.2.1, a3.2.2.1, a3.size, fun b hb hl => a3.2.2.2.2 b (fun e => hb (by
      rcases e with rfl | e
      · exact .inl gm
      · rcases h5 b e with h | h
        · exact .inl h
        · exact .inr ⟨h, hl⟩)) hl⟩
    exact hc.trans' (Chg.of_off y3 gm ga)
  · rcases a4 b hb with h | h
    · exact h5 b h
    · exact .inr (Nat.le_trans h4.size h)
/-- Where goOn ends. -/
def GoEnd (R : World) (mb ab cap many : Nat) (G : Nat → Prop) (T : List Ent) (w : World) (y : Nat) (f : Int) (e : Ending) (w' : World) : Prop := ∃ (k : Nat) (Y' : List QEnt), e = .returned (.int .i64 k) ∧ GoTo R mb ab cap many G T w y k Y' w' ∧ (k : Int) ≤ f ∧ ((k : Int) = f ∨ Y'.length = 0)
set_option maxHeartbeats 1000000 in
theorem spGoOn (R : World) (mb ab cap many : Nat) (G : Nat → Prop) (T : List Ent) (w : World) (y : Nat) (Y : List QEnt) (f : Int) (h : GoTo R mb ab cap many G T w y 0 Y w) (gm : G mb) (ga : G ab) (hf : 0 ≤ f ∧ f ≤ 9223372036854775807) (hy : y ≤ 30000) (hT : T.length ≤ 30000) :
    Calls Tryz.prog 87 #[.pointer (some ⟨mb, 0, none⟩), .int .i64 f] w fun e w' => GoEnd R mb ab cap many G T w y f e w' := by
  have H0 : Hid (GoTo R mb ab cap many G T w y 0 Y w) := h
  have HG : Hid (G mb ∧ G ab) := ⟨gm, ga⟩
  clear h gm ga
  obtain ⟨hf0, hf1⟩ := hf
  go_enter Tryz.func87, Tryz.ntmps87
  go_wp2_with fail
  go_loopw [5] (fun s wr => ∃ (k : Nat) (Y' : List QEnt), s = .int .i64 k ∧ (k : Int) ≤ f ∧ k ≤ y ∧ Hid (GoTo R mb ab cap many G T w y k Y' wr)) (fun s _ => y - (intOf s).toNat)
  case atStart => exact ⟨0, Y, rfl, by omega, by omega, H0⟩
  case round =>
    clear H0
    obtain ⟨k, Y', rfl, hk, hky, hGo⟩ := hrel
    by_cases h1 : (k : Int) < f
    · obtain ⟨sv, us, S, g1, g2, g3, g4, g5⟩ := hGo.out
      have hb := g1.1.1.mg
      rw [List.length_map] at hb
      have c1 : wr.cell? ⟨mb, 1, none⟩ = some (.slice (some ⟨ab, 0, none⟩) Y'.length cap) := by simp [World.cell?, hb]
      have qE := qEmpty mb 1 Y'.length cap _ wr c1
      by_cases hy0 : Y'.length = 0
      · rw [hy0] at qE
        have qE' : Hid (Calls Tryz.prog 82 #[.pointer (some ⟨mb, 1, none⟩)] wr fun e w' => e = .returned (.bool true) ∧ w' = wr) := qE
        have F : Hid (GoEnd R mb ab cap many G T w y f (.returned (.int .i64 k)) wr) := ⟨k, Y', rfl, hGo.out, hk, .inr hy0⟩
        clear g1 g2 g3 g4 g5 hb c1 qE hGo hy0
        go_wp2_with fail
        refine qE'.out.mono ?_
        rintro e w2 ⟨rfl, rfl⟩
        clear qE'
        go_wp2_with fail
        go_ret
        exact F.out
      · have qE' : Hid (Calls Tryz.prog 82 #[.pointer (some ⟨mb, 1, none⟩)] wr fun e w' => e = .returned (.bool false) ∧ w' = wr) := by
          have e0 : (Y'.length == 0) = false := by simpa using hy0
          rw [e0] at qE; exact qE
        have hklt := GoTo.lt hGo.out (by omega)
        obtain ⟨x, T', rfl⟩ : ∃ x T', Y' = x :: T' := by
          cases Y' with
          | nil => exact absurd rfl hy0
          | cons x T' => exact ⟨x, T', rfl⟩
        obtain ⟨b, o, c, a2, c2, e2, l2, rfl, k1, k2, k3, k4, k5, k6, k7, k8, k9, k10⟩ := g1.1.head0
        have qF := qFirst mb 1 ab _ cap (e2 :: l2).length c (some ⟨b, o, none⟩) wr (by simp) c1 k7
        have hSn : S.length ≤ 60000 := by have := g2.2.2.2.2.2.2; omega
        have hmem : e2 ∈ flat ((Value.slice (some ⟨b, o, none⟩) (e2 :: l2).length c, e2 :: l2) :: T') := by rw [flat_cons]; simp
        have qA := spAdd R mb ab cap many sv us S _ e2 a2 c2 wr g1 k10 g2.1 g2.2.1 (fun g hg => g2.2.2.2.2.1 g hg e2 hmem) hSn
        have HS : Hid (∀ w2, AddTo R mb ab cap many sv S e2 ((Value.slice (some ⟨b, o, none⟩) (e2 :: l2).length c, e2 :: l2) :: T') wr w2 → ∃ sv' : Value, QIs R mb (mgH many sv') ab cap ((Value.slice (some ⟨b, o, none⟩) (e2 :: l2).length c, e2 :: l2) :: T') w2 ∧ Heap (kf ((Value.slice (some ⟨b, o, none⟩) (e2 :: l2).length c, e2 :: l2) :: T')) ((Value.slice (some ⟨b, o, none⟩) (e2 :: l2).length c, e2 :: l2) :: T').length ∧ ∀ w3, SkipIs R mb (mgH many sv') ab cap ((e2 :: l2).drop 1) T' w2 w3 → ∃ Y2, GoTo R mb ab cap many G T w y (k + 1) Y2 w3) := fun w2 h2 => GoTo.step g1 g2 g3 g4 g5 HG.out.1 HG.out.2 h2
        have I0 : (0 : Int) < ((e2 :: l2).length : Int) := by simp
        clear g1 g2 g3 g4 g5 hb c1 qE hGo hy0 k1 k2 k3 k4 k5 k6 k7 k10 hmem hSn
        generalize hm2 : (e2 :: l2).length = m2 at *
        have HM2 : Hid ((e2 :: l2).length = m2) := hm2
        clear hm2
        generalize e2.1.length = n2 at *
        generalize e2.2 = kk2 at *
        go_wp2_with fail
        refine qE'.out.mono ?_
        rintro e w2 ⟨rfl, rfl⟩
        clear qE'
        go_wp2_with fail
        refine qF.mono ?_
        rintro e w3 ⟨rfl, rfl⟩
        clear qF
        go_wp2_with fail
        refine qA.mono ?_
        rintro e w4 ⟨rfl, hA⟩
        obtain ⟨sv', p1, p2, p3⟩ := HS.out w4 hA
        have qS : Hid (Calls Tryz.prog 116 #[.pointer (some ⟨mb, 1, none⟩), .int .i64 1] w4 fun e w' => e = .returned (.tuple #[]) ∧ SkipIs R mb (mgH many sv') ab cap ((e2 :: l2).drop 1) T' w4 w') := qSkip R mb (mgH many sv') ab cap _ T' 1 w4 p1 p2 (by simp)
        have P3 : Hid (∀ w3, SkipIs R mb (mgH many sv') ab cap ((e2 :: l2).drop 1) T' w4 w3 → ∃ Y2, GoTo R mb ab cap many G T w y (k + 1) Y2 w3) := p3
        clear qA HS hA p1 p2 p3 k8 k9
        go_wp2_with fail
        refine qS.out.mono ?_
        rintro e w5 ⟨rfl, h5⟩
        have F : Hid (∃ Y2, GoTo R mb ab cap many G T w y (k + 1) Y2 w5) := P3.out _ h5
        clear qS h5 P3
        go_wp2_with fail
        go_roundw
        case rel => obtain ⟨Y2, h6⟩ := F.out; exact ⟨k + 1, Y2, by go_num, by omega, by omega, h6⟩
        case measure => simp [intOf]; omega
    · have hkf : (k : Int) = f := by omega
      have F : Hid (GoEnd R mb ab cap many G T w y f (.returned (.int .i64 k)) wr) := ⟨k, Y', rfl, hGo.out, hk, .inl hkf⟩
      clear hGo hkf
      go_wp2_with fail
      go_ret
      exact F.out
end Go.Proofs.YtglbipnppldkmaaGreatDoor
/- What a spine's late and next answer. -/
namespace Go.Proofs.YtglbipnppldkmaaGreatDoor
open Go.RowKit Go.Sort
set_option maxRecDepth 100000
set_option maxHeartbeats 1000000 in
theorem spLate (sb : Sb) (mb n many cb : Nat) (bb : Option Addr) (w : World) (c0 : w.cell? ⟨sb.b, 1, none⟩ = some (.slice bb n cb)) (c1 : w.cell? ⟨sb.b, 2, none⟩ = some (.pointer (some ⟨mb, 0, none⟩))) (d0 : w.cell? ⟨mb, 0, none⟩ = some (.int .i64 many)) :
    Calls Tryz.prog 84 #[.pointer (some ⟨sb.b, 1, none⟩)] w fun e w' => e = .returned (.bool (decide (many < n))) ∧ Below w.heap.size w w' := by
  have e0 : decide (many < n) = decide ((many : Int) < (n : Int)) := by simp
  rw [e0]
  go_enter Tryz.func84, Tryz.ntmps84
  go_wp2_with fail
  go_region
  all_goals (go_wp2_with fail; go_ret; exact ⟨rfl, (Below.refl _ _).drew⟩)
/-- A method that is bound to a spine, or to a merge. -/
def bndE (sb : Sb) : Value := .func (.func 83) #[.pointer (some ⟨sb.b, 1, none⟩)] #[]
def bndB (sb : Sb) : Value := .func (.func 86) #[.pointer (some ⟨sb.b, 1, none⟩)] #[]
def bndG (mb : Nat) : Value := .func (.func 87) #[.pointer (some ⟨mb, 0, none⟩)] #[]
/-- What is done next. -/
def NextIs6 (sb : Sb) (n m : Nat) (st : Option (Nat × Nat × Nat)) (f : Int) (v : Value) : Prop :=
  (v = bndE sb ∧ ∃ mb many, st = some (mb, many, 0)) ∨
  (v = .nilFunc ∧ (f < 1 ∨ n < 2) ∧ ∀ mb many y, st = some (mb, many, y) → 0 < y) ∨
  (v = bndB sb ∧ 1 ≤ f ∧ 2 ≤ n ∧ (st = none ∨ ∃ mb many y, st = some (mb, many, y) ∧ 0 < y ∧ many < n ∧ (m : Int) ≤ f)) ∨
  (∃ mb many y, v = bndG mb ∧ 1 ≤ f ∧ 2 ≤ n ∧ st = some (mb, many, y) ∧ 0 < y ∧ ¬ (many < n ∧ (m : Int) ≤ f))
def NextEnd (sb : Sb) (n m : Nat) (st : Option (Nat × Nat × Nat)) (f : Int) (w : World) (e : Ending) (w' : World) : Prop := ∃ v, e = .returned v ∧ NextIs6 sb n m st f v ∧ Below w.heap.size w w'
set_option maxHeartbeats 1000000 in
theorem spNext (F : Nat → Prop) (sb : Sb) (A : List Ent) (n m : Nat) (st : Option (Nat × Nat × Nat)) (f : Int) (w : World) (h : SpX F sb A n m st w) (hm : m ≤ 30000) :
    Calls Tryz.prog 58 #[.pointer (some ⟨sb.b, 1, none⟩), .int .i64 f] w fun e w' => NextEnd sb n m st f w e w' := by
  have qN := spEntries F sb A n m st w h (by omega)
  have HX : Hid (SpX F sb A n m st w) := h
  obtain ⟨R, bv, pv, X, h1, h2, h3, h4, h5, h6, h7⟩ := h
  have c0 := h1.c0
  have c1 := h1.c1
  obtain ⟨b0, cb, e0⟩ := h1.ls.form
  rw [h3] at e0
  subst e0
  have hn65 := HX.out.le.2.2.1
  cases st with
  | none =>
    have hp : pv = .pointer none := h7
    subst hp
    clear h1 h2 h3 h4 h5 h6 h7
    by_cases hf : f < 1 ∨ n < 2
    · have G : Hid (NextEnd sb n m none f w (.returned .nilFunc) w) := ⟨_, rfl, .inr (.inl ⟨rfl, hf, fun _ _ _ e => (by cases e)⟩), Below.refl _ _⟩
      clear qN
      by_cases hf1 : f < 1
      · go_enter Tryz.func58, Tryz.ntmps58
        go_wp2_with fail
        go_ret
        exact G.out
      · have I2 : (n : Int) < 2 := by omega
        go_enter Tryz.func58, Tryz.ntmps58
        go_wp2_with fail
        go_ret
        exact G.out
    · have I1 : ¬ f < 1 := fun e => hf (.inl e)
      have I2 : ¬ (n : Int) < 2 := fun e => hf (.inr (by omega))
      have G : Hid (NextEnd sb n m none f w (.returned (bndB sb)) w) := ⟨_, rfl, .inr (.inr (.inl ⟨rfl, by omega, by omega, .inl rfl⟩)), Below.refl _ _⟩
      clear qN hf
      go_enter Tryz.func58, Tryz.ntmps58
      go_wp2_with fail
      go_ret
      exact G.out
  | some p =>
    obtain ⟨mb, many, y⟩ := p
    obtain ⟨ab, cap, sv, us, S, Y, g1, g2, g3, g4, g5, g6, g7, g8, g9, g10, g11⟩ := h7
    subst g1
    have hb := g2.1.1.mg
    rw [List.length_map] at hb
    have d0 : w.cell? ⟨mb, 0, none⟩ = some (.int .i64 many) := by simp [World.cell?, hb]
    have d1 : w.cell? ⟨mb, 1, none⟩ = some (.slice (some ⟨ab, 0, none⟩) Y.length cap) := by simp [World.cell?, hb]
    have qE := qEmpty mb 1 Y.length cap _ w d1
    have hyY : Y.length = 0 ↔ y = 0 := by
      constructor
      · intro e; rw [← g8, List.eq_nil_of_length_eq_zero e]; rfl
      · intro e
        by_cases h0 : Y.length = 0
        · exact h0
        · have := flat_pos g2.1.inOrder (by omega); omega
    by_cases hy : y = 0
    · have qE' : Hid (Calls Tryz.prog 82 #[.pointer (some ⟨mb, 1, none⟩)] w fun e w' => e = .returned (.bool true) ∧ w' = w) := by
        rw [hyY.2 hy] at qE; exact qE
      have G : Hid (NextEnd sb n m (some (mb, many, y)) f w (.returned (bndE sb)) w) := ⟨_, rfl, .inl ⟨rfl, mb, many, by rw [hy]⟩, Below.refl _ _⟩
      clear h1 h2 h3 h4 h5 h6 g2 g3 g4 g5 g6 g7 g8 g9 g10 g11 hb d0 d1 qE hyY hy qN
      go_enter Tryz.func58, Tryz.ntmps58
      go_wp2_with fail
      refine qE'.out.mono ?_
      rintro e w2 ⟨rfl, rfl⟩
      clear qE'
      go_wp2_with fail
      go_ret
      exact G.out
    · have qE' : Hid (Calls Tryz.prog 82 #[.pointer (some ⟨mb, 1, none⟩)] w fun e w' => e = .returned (.bool false) ∧ w' = w) := by
        have e0 : (Y.length == 0) = false := by simp; exact fun e => hy (hyY.1 (by rw [e]; rfl))
        rw [e0] at qE; exact qE
      have hy0 : 0 < y := by omega
      have qL := spLate sb mb n many cb b0 w c0 c1 d0
      have HE : Hid (∀ w', Below w.heap.size w w' → Calls Tryz.prog 85 #[.pointer (some ⟨sb.b, 1, none⟩)] w' fun e w'' => e = .returned (.int .i64 m) ∧ w'' = w') := fun w' hB => spEntries F sb A n m _ w' (HX.out.on hB) (by omega)
      clear h1 h2 h3 h4 h5 h6 g2 g3 g4 g5 g6 g7 g8 g9 g10 g11 hb d0 d1 qE hyY hy qN
      by_cases hf : f < 1 ∨ n < 2
      · have G : Hid (NextEnd sb n m (some (mb, many, y)) f w (.returned .nilFunc) w) := ⟨_, rfl, .inr (.inl ⟨rfl, hf, fun _ _ _ e => (by cases e; exact hy0)⟩), Below.refl _ _⟩
        clear HE qL
        by_cases hf1 : f < 1
        · go_enter Tryz.func58, Tryz.ntmps58
          go_wp2_with fail
          refine qE'.out.mono ?_
          rintro e w2 ⟨rfl, rfl⟩
          clear qE'
          go_wp2_with fail
          go_ret
          exact G.out
        · have I2 : (n : Int) < 2 := by omega
          go_enter Tryz.func58, Tryz.ntmps58
          go_wp2_with fail
          refine qE'.out.mono ?_
          rintro e w2 ⟨rfl, rfl⟩
          clear qE'
          go_wp2_with fail
          go_ret
          exact G.out
      · have I1 : ¬ f < 1 := fun e => hf (.inl e)
        have I2 : ¬ (n : Int) < 2 := fun e => hf (.inr (by omega))
        have HC : Hid (∀ w', Below w.heap.size w w' → w'.cell? ⟨sb.b, 2, none⟩ = some (.pointer (some ⟨mb, 0, none⟩))) := fun w' hB => cell_on c1 hB
        by_cases hl : many < n
        · have qL' : Hid (Calls Tryz.prog 84 #[.pointer (some ⟨sb.b, 1, none⟩)] w fun e w' => e = .returned (.bool true) ∧ Below w.heap.size w w') := by rw [decide_eq_true hl] at qL; exact qL
          by_cases hmf : (m : Int) ≤ f
          · have G : Hid (∀ w', Below w.heap.size w w' → NextEnd sb n m (some (mb, many, y)) f w (.returned (bndB sb)) w') := fun w' hB => ⟨_, rfl, .inr (.inr (.inl ⟨rfl, by omega, by omega, .inr ⟨mb, many, y, rfl, hy0, hl, hmf⟩⟩)), hB⟩
            clear qL hf
            go_enter Tryz.func58, Tryz.ntmps58
            go_wp2_with fail
            refine qE'.out.mono ?_
            rintro e w2 ⟨rfl, rfl⟩
            clear qE'
            go_wp2_with fail
            refine qL'.out.mono ?_
            rintro e w3 ⟨rfl, hb3⟩
            have q4 := HE.out w3 hb3
            have G3 : Hid (NextEnd sb n m (some (mb, many, y)) f w2 (.returned (bndB sb)) w3) := G.out w3 hb3
            have HC3 := HC.out w3 hb3
            clear qL' HE G hb3 c0 c1
            go_wp2_with fail
            refine q4.mono ?_
            rintro e w4 ⟨rfl, rfl⟩
            clear q4
            go_wp2_with fail
            go_ret
            exact G3.out
          · have G : Hid (∀ w', Below w.heap.size w w' → NextEnd sb n m (some (mb, many, y)) f w (.returned (bndG mb)) w') := fun w' hB => ⟨_, rfl, .inr (.inr (.inr ⟨mb, many, y, rfl, by omega, by omega, rfl, hy0, fun e => hmf e.2⟩)), hB⟩
            clear qL hf
            go_enter Tryz.func58, Tryz.ntmps58
            go_wp2_with fail
            refine qE'.out.mono ?_
            rintro e w2 ⟨rfl, rfl⟩
            clear qE'
            go_wp2_with fail
            refine qL'.out.mono ?_
            rintro e w3 ⟨rfl, hb3⟩
            have q4 := HE.out w3 hb3
            have G3 : Hid (NextEnd sb n m (some (mb, many, y)) f w2 (.returned (bndG mb)) w3) := G.out w3 hb3
            have HC3 := HC.out w3 hb3
            clear qL' HE G hb3 c0 c1
            go_wp2_with fail
            refine q4.mono ?_
            rintro e w4 ⟨rfl, rfl⟩
            clear q4
            go_wp2_with fail
            go_ret
            exact G3.out
        · have qL' : Hid (Calls Tryz.prog 84 #[.pointer (some ⟨sb.b, 1, none⟩)] w fun e w' => e = .returned (.bool false) ∧ Below w.heap.size w w') := by rw [decide_eq_false hl] at qL; exact qL
          have G : Hid (∀ w', Below w.heap.size w w' → NextEnd sb n m (some (mb, many, y)) f w (.returned (bndG mb)) w') := fun w' hB => ⟨_, rfl, .inr (.inr (.inr ⟨mb, many, y, rfl, by omega, by omega, rfl, hy0, fun e => hl e.1⟩)), hB⟩
          clear qL hf HE
          go_enter Tryz.func58, Tryz.ntmps58
          go_wp2_with fail
          refine qE'.out.mono ?_
          rintro e w2 ⟨rfl, rfl⟩
          clear qE'
          go_wp2_with fail
          refine qL'.out.mono ?_
          rintro e w3 ⟨rfl, hb3⟩
          have G3 : Hid (NextEnd sb n m (some (mb, many, y)) f w2 (.returned (bndG mb)) w3) := G.out w3 hb3
          have HC3 := HC.out w3 hb3
          clear qL' G hb3 c0 c1
          go_wp2_with fail
          go_ret
          exact G3.out
end Go.Proofs.YtglbipnppldkmaaGreatDoor
