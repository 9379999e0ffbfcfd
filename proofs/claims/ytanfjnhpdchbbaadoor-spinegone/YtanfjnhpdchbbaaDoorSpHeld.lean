/- What a spine's put and held answer. -/
import Derived.Test.YtanfjnhpdchbbaaDoorPackBatch
namespace Go.Proofs.YtanfjnhpdchbbaaDoor
open Go.RowKit Go.Sort
set_option maxRecDepth 100000
theorem spPut0 (al az : Option Addr) (nl cl cz : Nat) (w : World) :
    Calls Tryd.prog 36 #[.slice al nl cl, .slice az 0 cz] w fun e w' => e = .returned (.slice al nl cl) ∧ w' = w := by
  go_enter Tryd.func36, Tryd.ntmps36
  go_wp2_with fail
  go_ret
  exact ⟨rfl, rfl⟩
/-- Where put ends. -/
def PutIs (w : World) (vl vz : Value) (vs : List Value) (v' : Value) (w' : World) : Prop :=
  w'.ownsRow 0 32 1 v' (vs.length + 1) (vs ++ [vz]) ∧ w.grownBy w' vl.ownBlock ∧ (v'.ownBlock = vl.ownBlock ∨ ∃ k, v'.ownBlock = some k ∧ w.heap.size ≤ k)
set_option maxHeartbeats 2000000 in
theorem spPut1 (vl : Value) (vs : List Value) (az : Option Addr) (nz cz : Nat) (w : World) (h : w.ownsRow 0 32 1 vl vs.length vs) (hn : 0 < nz) (hl : vs.length ≤ 65536) :
    Calls Tryd.prog 36 #[vl, .slice az nz cz] w fun e w' => ∃ v', e = .returned v' ∧ PutIs w vl (.slice az nz cz) vs v' w' := by
  obtain ⟨i0, hi0, hz0, hz1, hz2⟩ := info_parts info_list
  obtain ⟨al, cl, rfl⟩ := own_form h
  have HO : Hid ((w.alloc (.cells #[.slice az nz cz] 32)).ownsRow 0 32 1 (.slice al vs.length cl) vs.length vs) := own_on h one_box
  have I0 : ((nz : Int) == 0) = false := by simp; omega
  have H : Hid (∀ v' w', w'.ownsRow 0 32 1 v' (vs.length + 1) (vs ++ [.slice az nz cz]) → (w.alloc (.cells #[.slice az nz cz] 32)).grownBy w' (Value.ownBlock (.slice al vs.length cl)) → (v'.ownBlock = Value.ownBlock (.slice al vs.length cl) ∨ v'.ownBlock = some (w.alloc (.cells #[.slice az nz cz] 32)).heap.size) → PutIs w (.slice al vs.length cl) (.slice az nz cz) vs v' w') := fun v' w' g1 g2 g3 =>
    ⟨g1, grown_box g2, g3.elim .inl (fun e => .inr ⟨_, e, by simp⟩)⟩
  clear h
  go_enter Tryd.func36, Tryd.ntmps36
  go_wp2_with (first | (at_builtin; refine wpList_append_own_at _ rfl _ _ 28 rfl 0 32 i0 (.slice none 0 0) 1 24 Tryd.underlying28 hi0 hz0 hz1 hz2 rfl (by decide) _ vs.length vs rfl HO.out ⟨w.heap.size, 0, none⟩ 1 1 [.slice az nz cz] rfl rfl (cell_one_new _ _ _) (by simp [Value.oneCell']) (by unfold maxLen; omega) (by omega) (Nat.zero_le _) ?_; intro v5 w5 hown5 hg5 _ hat5; have R5 : Hid (PutIs w (.slice al vs.length cl) (.slice az nz cz) vs v5 w5) := H.out _ _ hown5 hg5 hat5; clear hown5 hg5 hat5 H HO) | fail)
  go_ret
  exact ⟨_, rfl, R5.out⟩
/-- How far held has come. -/
def HeldTo (w : World) (A Z : List Ent) (j : Nat) (v : Value) (us : List VEnt) (wr : World) : Prop :=
  wr.ownsRow w.heap.size 50 2 v us.length (es us) ∧ Reads w us (heldZ A (Z.take j)) ∧ Below w.heap.size w wr
theorem HeldTo.on {w : World} {A Z : List Ent} {j : Nat} {v : Value} {us : List VEnt} {wr w' : World} (h : HeldTo w A Z j v us wr) (hB : Below wr.heap.size wr w') : HeldTo w A Z j v us w' :=
  ⟨own_on h.1 hB, h.2.1, h.2.2.trans (hB.mono h.2.2.size)⟩
theorem HeldTo.zero {w : World} {A Z : List Ent} {j : Nat} {v : Value} {us : List VEnt} {wr : World} (h : HeldTo w A Z j v us wr) (hj : j < Z.length) (h0 : wt Z[j].1 A = 0) : HeldTo w A Z (j + 1) v us wr :=
  ⟨h.1, by rw [List.take_succ_eq_append_getElem hj, heldZ_snoc, if_pos h0, List.append_nil]; exact h.2.1, h.2.2⟩
theorem HeldTo.more {w : World} {A Z : List Ent} {j : Nat} {v v' vr : Value} {us : List VEnt} {wr w' : World} {o : Obj} (h : HeldTo w A Z j v us wr) (hj : j < Z.length) (h0 : wt Z[j].1 A ≠ 0) (hr : RowIs w vr Z[j].1)
    (g1 : w'.ownsRow w.heap.size 50 2 v' (us.length + 1) (es us ++ ec (vr, wt Z[j].1 A))) (g2 : (wr.alloc o).grownBy w' v.ownBlock) : HeldTo w A Z (j + 1) v' (us ++ [(vr, wt Z[j].1 A)]) w' :=
  ⟨by rw [List.length_append, es_snoc]; exact g1, by rw [List.take_succ_eq_append_getElem hj, heldZ_snoc, if_neg h0]; exact h.2.1.snoc hr _, h.2.2.grown (grown_box g2) h.2.2.size (fun k e => (h.1.lt k e).1)⟩
set_option maxHeartbeats 8000000 in
theorem spHeld (F : Nat → Prop) (sb : Nat) (A : List Ent) (n m : Nat) (st : Option (Nat × Nat × Nat)) (Z : List Ent) (v : Value) (w : World) (h : SpX F sb A n m st w) (hv : EntsIs w v Z) (hz : Z.length ≤ 60000) :
    Calls Tryd.prog 35 #[.pointer (some ⟨sb, 0, none⟩), v] w fun e w' => ∃ v', e = .returned v' ∧ EntsIs w' v' (heldZ A Z) ∧ Below w.heap.size w w' := by
  obtain ⟨i0, hi0, hz0, hz1, hz2⟩ := info_parts info_entry
  obtain ⟨a0, c0, rfl⟩ := hv.form
  have HX : Hid (SpX F sb A n m st w) := h
  have HV : Hid (EntsIs w (.slice a0 Z.length c0) Z) := hv
  have F0 : Hid (HeldTo w A Z 0 (.slice none 0 0) [] w) := ⟨World.ownsRow_nil _ _ _ _, Reads.nil _, Below.refl _ _⟩
  have HU : Hid (∀ j us v wr, j ≤ Z.length → HeldTo w A Z j v us wr → us.length ≤ Z.length) := fun j us v wr hj h => by
    rw [h.2.1.1]; have := heldZ_len A (Z.take j); rw [List.length_take] at this; omega
  clear h hv
  go_enter Tryd.func35, Tryd.ntmps35
  go_wp2_with fail
  go_loopw [5, 11] (fun s5 s11 wr => ∃ (j : Nat) (us : List VEnt), j ≤ Z.length ∧ s11 = .int .i64 j ∧ Hid (HeldTo w A Z j s5 us wr)) (fun _ i _ => Z.length - (intOf i).toNat)
  case atStart => exact ⟨0, [], by omega, rfl, F0⟩
  case round =>
    clear F0
    obtain ⟨j, us, hj, rfl, hT⟩ := hrel
    by_cases k1 : j < Z.length
    · have I1 : (j : Int) < (Z.length : Int) := by omega
      obtain ⟨b, o, a1, c1, rfl, x1, x2, x3⟩ := HV.out.at j k1
      have y1 := cell_on x1 (hT.out.2.2)
      have y2 := cell_on x2 (hT.out.2.2)
      have hul := HU.out j us _ wr hj hT.out
      obtain ⟨av, cv, hv⟩ := own_form hT.out.1
      subst hv
      obtain ⟨W, hW⟩ : ∃ W, W = wr.alloc (.cells #[.slice a1 Z[j].1.length c1, .int .i64 Z[j].2] 50) := ⟨_, rfl⟩
      have bW : Below wr.heap.size wr W := by rw [hW]; exact one_box
      have hT1 : HeldTo w A Z j (.slice av us.length cv) us W := hT.out.on bW
      have q := spGetX F sb A n m st Z[j].1 _ W (HX.out.on hT1.2.2) (x3.on hT1.2.2)
      have hWc : W.cell? ⟨wr.heap.size, 0, none⟩ = some (.slice a1 Z[j].1.length c1) ∧ W.cell? ⟨wr.heap.size, 1, none⟩ = some (.int .i64 Z[j].2) := by
        rw [hW]; exact ⟨by rw [World.cell?_alloc_at _ _ _ _ rfl]; rfl, by rw [World.cell?_alloc_at _ _ _ _ rfl]; rfl⟩
      have HC : Hid (∀ w2, Below W.heap.size W w2 → w2.cell? ⟨wr.heap.size, 0, none⟩ = some (.slice a1 Z[j].1.length c1)) := fun w2 hb => cell_on hWc.1 hb
      have HT1 : Hid (HeldTo w A Z j (.slice av us.length cv) us W) := hT1
      have HR : Hid (RowIs w (.slice a1 Z[j].1.length c1) Z[j].1) := x3
      have HW : Hid (wr.alloc (.cells #[.slice a1 Z[j].1.length c1, .int .i64 Z[j].2] 50) = W) := hW.symm
      have H0 : Hid (∀ w2 us v, wt Z[j].1 A = 0 → HeldTo w A Z j v us w2 → HeldTo w A Z (j + 1) v us w2) := fun w2 us v e h => h.zero k1 e
      have H1 : Hid (∀ w2 us v v' w' o, wt Z[j].1 A ≠ 0 → HeldTo w A Z j v us w2 → w'.ownsRow w.heap.size 50 2 v' (us.length + 1) (es us ++ ec (.slice a1 Z[j].1.length c1, wt Z[j].1 A)) → (w2.alloc o).grownBy w' v.ownBlock → HeldTo w A Z (j + 1) v' (us ++ [(.slice a1 Z[j].1.length c1, wt Z[j].1 A)]) w') := fun w2 us v v' w' o e h g1 g2 => h.more k1 e x3 g1 g2
      clear hT hT1 x1 x2 x3 hW bW hWc
      generalize Z[j].1.length = n3 at *
      generalize Z[j].2 = k3 at *
      generalize wt Z[j].1 A = g3 at *
      go_wp2_with fail
      rw [HW.out]
      refine q.mono ?_
      rintro e w2 ⟨rfl, hb2⟩
      have hT2 : HeldTo w A Z j (.slice av us.length cv) us w2 := HT1.out.on hb2
      have hc2 := HC.out w2 hb2
      clear q HT1 HC hb2 y1 y2 HW
      by_cases h0 : g3 = 0
      · have G : Hid (HeldTo w A Z (j + 1) (.slice av us.length cv) us w2) := H0.out _ _ _ h0 hT2
        clear hT2 H0 H1
        subst h0
        go_wp2_with fail
        go_roundw
        case rel => exact ⟨j + 1, us, by omega, by go_num, G⟩
        case measure => simp [intOf]; omega
      · have b0 : (g3 != 0) = true := by simpa using h0
        have HO : Hid (w2.ownsRow w.heap.size 50 2 (.slice av us.length cv) us.length (es us)) := hT2.1
        have HS : w.heap.size ≤ w2.heap.size := hT2.2.2.size
        have G : Hid (∀ v' w' o, w'.ownsRow w.heap.size 50 2 v' (us.length + 1) (es us ++ ec (.slice a1 n3 c1, g3)) → (w2.alloc o).grownBy w' (Value.ownBlock (.slice av us.length cv)) → HeldTo w A Z (j + 1) v' (us ++ [(.slice a1 n3 c1, g3)]) w') := fun v' w' o g1 g2 => H1.out _ _ _ _ _ o h0 hT2 g1 g2
        clear hT2 H0 H1
        go_wp2_with (first | (at_builtin; refine wpList_append_own _ rfl _ _ 32 rfl w.heap.size 50 i0 (.agg #[.slice none 0 0, .int .i64 0]) 2 32 Tryd.underlying32 hi0 hz0 hz1 hz2 rfl (by decide) _ us.length (es us) rfl (own_on HO.out one_box) ⟨w2.heap.size, 0, none⟩ 1 1 (ec (.slice a1 n3 c1, g3)) rfl rfl (cell_two_new _ _ _ _) (by simp [ec, Value.oneCell']) (by unfold maxLen; omega) (by omega) (by simp; omega) ?_; intro v5 w5 hown5 hg5 _; have R5 : Hid (HeldTo w A Z (j + 1) v5 (us ++ [(.slice a1 n3 c1, g3)]) w5) := G.out _ _ _ hown5 hg5; clear hown5 hg5 G HO) | fail)
        go_roundw
        case rel => exact ⟨j + 1, _, by omega, by go_num, R5⟩
        case measure => simp [intOf]; omega
    · have I1 : ¬ (j : Int) < (Z.length : Int) := by omega
      obtain rfl : j = Z.length := by omega
      have F : Hid (EntsIs wr u5 (heldZ A Z) ∧ Below w.heap.size w wr) := ⟨⟨us, EntsAt.of_own hT.out.1, by have := hT.out.2.1.on hT.out.2.2; rwa [List.take_length] at this⟩, hT.out.2.2⟩
      obtain ⟨av, cv, hv⟩ := own_form hT.out.1
      subst hv
      clear hT
      go_wp2_with fail
      go_ret
      exact ⟨_, rfl, F.out⟩
end Go.Proofs.YtanfjnhpdchbbaaDoor
