/- What row.Pick answers of rows in memory: it makes room for all, then takes one behind the other. -/
import Derived.Test.YtaccinophamgmaaDoorPackRow
import Derived.Test.YtaccinophamgmaaDoorPackPut
namespace Go.Proofs.YtaccinophamgmaaDoor
open Go.RowKit
set_option maxRecDepth 100000
theorem IntsIs.at0 {w : World} {a : Option Addr} {n cap : Nat} {l : List Int} (h : IntsIs w (.slice a n cap) l) (i : Nat) (hi : i < l.length) : ∃ b o, a = some ⟨b, o, none⟩ ∧ w.cell? ⟨b, o + i, none⟩ = some (.int .i64 l[i]) := by
  rcases h with ⟨_, _, _, rfl⟩ | ⟨b', o', cap', e, _, _, h3, h4⟩
  · simp at hi
  · simp only [Value.slice.injEq] at e
    exact ⟨b', o', e.1, h4 i hi⟩
set_option maxHeartbeats 2000000 in
theorem rowPick_at (l : List Val) (ks : List Int) (a0 b0 : Option Addr) (cap0 cap : Nat) (w : World) (hn : ks.length ≤ 65536) (ha : RowIs w (.slice a0 l.length cap0) l) (hb : IntsIs w (.slice b0 ks.length cap) ks) :
    Calls Tryd.prog 45 #[.slice a0 l.length cap0, .slice b0 ks.length cap] w fun e w' => ∃ v, e = .returned (.tuple #[v, .bool (allIn l ks)]) ∧ w'.ownsRow w.heap.size 30 3 v (pk l ks).length (rc (pk l ks)) ∧ Below w.heap.size w w' := by
  have la := ha.le
  unfold maxLen at la
  obtain ⟨i0, hi, hz0, hz1, hz2⟩ := info_parts info_value
  have Ha : Hid (RowIs w (.slice a0 l.length cap0) l) := ha
  have Hb : Hid (IntsIs w (.slice b0 ks.length cap) ks) := hb
  have H0 : Hid (∀ w1, w1.ownsRow w.heap.size 30 3 (.slice (some ⟨w.heap.size, 0, none⟩) 0 ks.length) 0 [] → w.grownBy w1 none → PickTo l ks w 0 (.slice (some ⟨w.heap.size, 0, none⟩) 0 ks.length) w1) := fun w1 g1 g2 => ⟨by simp [allIn], by simpa [rc] using g1, (Below.refl _ _).grown g2 (Nat.le_refl _) (fun k e => by cases e)⟩
  clear ha hb
  go_enter Tryd.func45, Tryd.ntmps45
  go_wp2_with (first | (at_make; refine wpList_make_own _ rfl _ _ 50 rfl w.heap.size 30 i0 (.agg #[.int .i64 0, .int .i64 0, .string ⟨#[]⟩]) 3 Tryd.underlying50 hi hz0 hz1 .i64 .i64 _ ks.length rfl rfl rfl (by rw [hz2]; omega) (by unfold maxLen; omega) (Nat.le_refl _) ?_; intro w1 hown1 hg1; have hs1 := H0.out _ hown1 hg1; clear hown1 hg1) | fail)
  go_loopw [6, 14] (fun v i wr => ∃ j : Nat, j ≤ ks.length ∧ i = .int .i64 j ∧ PickTo l ks w j v wr) (fun _ i _ => ks.length - (intOf i).toNat)
  case atStart => exact ⟨0, by omega, rfl, hs1⟩
  case round =>
    obtain ⟨j, hj, rfl, hso⟩ := hrel
    clear hs1
    by_cases hlt : j < ks.length
    · obtain ⟨h1, h2, h3⟩ := hso
      have I1 : (j : Int) < (ks.length : Int) := by omega
      obtain ⟨b, o, rfl, hk⟩ := (Hb.out.on h3).at0 j hlt
      have HN : Hid (inR l ks[j] = false → allIn l ks = false) := allIn_not hlt
      have HY : Hid (inR l ks[j] = true → allIn l (ks.take (j + 1)) = true) := fun h => by rw [allIn_snoc hlt, h1, h]; rfl
      have HM : Hid ((ks.take (j + 1)).map (atV l) = (ks.take j).map (atV l) ++ [atV l ks[j]]) := map_snoc hlt
      have HO : Hid (wr.ownsRow w.heap.size 30 3 u6 j (rc ((ks.take j).map (atV l)))) := h2
      generalize ks[j] = k at *
      clear h1 h2
      by_cases k0 : k < 0
      · have hi0 : inR l k = false := by unfold inR; simp <;> omega
        have e1 := HN.out hi0
        have RN : Hid (pk l ks = []) := by show _ = _; unfold pk; rw [e1]; rfl
        have E1 : Hid (allIn l ks = false) := e1
        clear e1 hi0
        go_wp2_with fail
        go_ret2
        refine ⟨.slice none 0 0, ?_, ?_, h3⟩
        · rw [E1.out]; rfl
        · rw [RN.out]; exact World.ownsRow_nil _ _ _ _
      · by_cases k1 : k < (l.length : Int)
        · have hkl : k.toNat < l.length := by omega
          have hi1 : inR l k = true := by unfold inR; simp <;> omega
          obtain ⟨b1, o1, rfl, X⟩ := (Ha.out.on h3).at k.toNat hkl
          have X' : wr.cell? ⟨b1, o1 + k.toNat * 3, none⟩ = some (.int .i64 (atV l k).1) ∧ wr.cell? ⟨b1, o1 + k.toNat * 3 + 1, none⟩ = some (.int .i64 (atV l k).2.1) ∧ wr.cell? ⟨b1, o1 + k.toNat * 3 + 2, none⟩ = some (.string (atV l k).2.2) := by rw [atV_eq hkl]; exact ⟨X.1, X.2.1, X.2.2.1⟩
          obtain ⟨x1, x2, x3⟩ := X'
          clear X
          have I4 : 0 ≤ k := by omega
          have hz := h3.size
          have hrow := fun g hg => (HO.out.lt g hg).1
          have F : Hid (∀ v2 w2, w2.ownsRow w.heap.size 30 3 v2 (j + 1) (rc ((ks.take j).map (atV l)) ++ vc (atV l k)) → (wr.alloc (.cells #[.int .i64 (atV l k).1, .int .i64 (atV l k).2.1, .string (atV l k).2.2] 30)).grownBy w2 (Value.ownBlock u6) → PickTo l ks w (j + 1) v2 w2) := by
            intro v2 w2 g1 g2
            refine ⟨HY.out hi1, ?_, ?_⟩
            · rw [HM.out, rc_snoc]; exact g1
            · exact (h3.alloc hz _).grown g2 (by simp; omega) hrow
          generalize atV l k = x at *
          clear hi1 hrow
          go_wp2_with (first | (at_builtin; refine wpList_append_own _ rfl _ _ 50 rfl w.heap.size 30 i0 (.agg #[.int .i64 0, .int .i64 0, .string ⟨#[]⟩]) 3 32 Tryd.underlying50 hi hz0 hz1 hz2 rfl (by decide) _ j (rc ((ks.take j).map (atV l))) rfl (HO.out.alloc _) ⟨wr.heap.size, 0, none⟩ 1 1 (vc x) rfl rfl (cell_three_new _ _ _ _ _) (by simp [vc, Value.oneCell']) (by unfold maxLen; omega) (by omega) (by simp; omega) ?_; intro v2 w2 hown2 hg2 _; have hso2 := F.out _ _ hown2 hg2; clear hown2 hg2) | go_in)
          go_roundw
          case rel => exact ⟨j + 1, by omega, by go_num, hso2⟩
          case measure => simp [intOf]; omega
        · have hi0 : inR l k = false := by unfold inR; simp <;> omega
          have e1 := HN.out hi0
          have RN : Hid (pk l ks = []) := by show _ = _; unfold pk; rw [e1]; rfl
          have E1 : Hid (allIn l ks = false) := e1
          have I3 : (l.length : Int) ≤ k := by omega
          clear e1 hi0
          go_wp2_with fail
          go_ret2
          refine ⟨.slice none 0 0, ?_, ?_, h3⟩
          · rw [E1.out]; rfl
          · rw [RN.out]; exact World.ownsRow_nil _ _ _ _
    · obtain rfl : j = ks.length := by omega
      obtain ⟨h1, h2, h3⟩ := hso
      rw [List.take_length] at h1 h2
      have E1 : Hid (allIn l ks = true) := h1
      have HR : Hid (wr.ownsRow w.heap.size 30 3 u6 (pk l ks).length (rc (pk l ks))) := by
        show wr.ownsRow _ _ _ _ _ _
        unfold pk; rw [h1]; simp only [if_true]
        simpa using h2
      clear h1 h2
      go_wp2_with fail
      go_ret2
      refine ⟨u6, ?_, HR.out, h3⟩
      rw [E1.out]; rfl
/-- What it answers is the call's own. -/
theorem rowPickO (l : List Val) (ks : List Int) (va vb : Value) (w : World) (hn : ks.length ≤ 65536) (ha : RowIs w va l) (hb : IntsIs w vb ks) :
    Calls Tryd.prog 45 #[va, vb] w fun e w' => ∃ v, e = .returned (.tuple #[v, .bool (allIn l ks)]) ∧ w'.ownsRow w.heap.size 30 3 v (pk l ks).length (rc (pk l ks)) ∧ Below w.heap.size w w' := by
  obtain ⟨a0, cap0, rfl⟩ := ha.form
  obtain ⟨b0, cap, rfl⟩ := hb.form
  exact rowPick_at l ks a0 b0 cap0 cap w hn ha hb
theorem rowPick (l : List Val) (ks : List Int) (va vb : Value) (w : World) (hn : ks.length ≤ 65536) (ha : RowIs w va l) (hb : IntsIs w vb ks) :
    Calls Tryd.prog 45 #[va, vb] w fun e w' => ∃ v, e = .returned (.tuple #[v, .bool (allIn l ks)]) ∧ RowIs w' v (pk l ks) ∧ Below w.heap.size w w' := by
  refine (rowPickO l ks va vb w hn ha hb).mono ?_
  rintro e w' ⟨v, rfl, h1, h2⟩
  exact ⟨v, rfl, RowIs.of_own h1, h2⟩
end Go.Proofs.YtaccinophamgmaaDoor
