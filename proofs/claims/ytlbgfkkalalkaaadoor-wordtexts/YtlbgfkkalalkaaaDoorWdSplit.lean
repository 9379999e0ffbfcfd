/- The words of a text: word.Split and word.IsName. -/
import Derived.Test.YtlbgfkkalalkaaaDoorWdFirst
import Derived.Test.YtlbgfkkalalkaaaDoorWdOwn
import Derived.Laws.OwnMore
import Derived.OwnWalk
import Derived.RegionTactic
namespace Go.Proofs.YtlbgfkkalalkaaaDoor
open Go.RowKit Go.Sort
set_option maxRecDepth 100000

theorem fstW_z {l : List UInt8} {x : Wd} (h : fstW l = some x) (hl : l ≠ []) : 0 < x.z ∧ x.z ≤ l.length := by
  have h0 : 0 < l.length := List.length_pos_iff.2 hl
  have hd : (l.drop 1).length = l.length - 1 := List.length_drop
  have hnm : ∀ x, fstName l = some x → 0 < x.z ∧ x.z ≤ l.length := fun x h => by
    unfold fstName at h
    have := rn_le wIn l
    split at h
    · cases h
    · rename_i hn
      cases h
      exact ⟨by simp only; omega, this⟩
  have hnu : ∀ x, fstNum l = some x → 0 < x.z ∧ x.z ≤ l.length := fun x h => by
    unfold fstNum at h
    have := rn_le wDig (l.drop 1)
    split at h
    · cases h; exact ⟨by simp only; omega, by simp only; omega⟩
    · cases h
  have hst : ∀ x, fstStr l = some x → 0 < x.z ∧ x.z ≤ l.length := fun x h => by
    unfold fstStr at h
    have := clN_le (l.drop 1)
    split at h
    · cases h
    · split at h
      · cases h
      · cases h; exact ⟨by simp only; omega, by simp only; omega⟩
  have hmk : ∀ x, fstMark l = some x → 0 < x.z ∧ x.z ≤ l.length := fun x h => by
    unfold fstMark at h
    split at h
    · cases h
    · rename_i hz
      cases h
      refine ⟨by simp only; omega, ?_⟩
      simp only
      unfold mkSize
      split
      · rename_i h2
        have h2' : l.take 2 = [33, 61] ∨ l.take 2 = [60, 61] ∨ l.take 2 = [62, 61] := by simpa [mkTwo] using h2
        have e : (l.take 2).length = 2 := by rcases h2' with h | h | h <;> rw [h] <;> rfl
        rw [List.length_take] at e; omega
      · split <;> omega
  unfold fstW at h
  split at h
  · exact hnm x h
  · split at h
    · exact hnu x h
    · split at h
      · exact hst x h
      · exact hmk x h

theorem info_word : (Tryd.prog.info? 40).map (fun i => (i.zero, i.size, i.bytes)) = some (some (.agg #[.int .i64 0, .int .i64 0, .string ⟨#[]⟩, .int .i64 0]), 4, 40) := by kernel_rfl
/-- A word's cells. -/
def wc (x : Nat × Wd) : List Value := [.int .i64 x.2.k, .int .i64 x.1, .string ⟨x.2.t.toArray⟩, .int .i64 x.2.n]
def wcs (l : List (Nat × Wd)) : List Value := l.flatMap wc
theorem wcs_snoc (l : List (Nat × Wd)) (x : Nat × Wd) : wcs (l ++ [x]) = wcs l ++ wc x := by simp [wcs]
theorem cell_four_new (w : World) (x y z u : Value) (t : TypeId) : ∀ j v, [x, y, z, u][j]? = some v → (w.alloc (.cells #[x, y, z, u] t)).cell? ((⟨w.heap.size, 0, none⟩ : Addr).add j) = some v := by
  intro j v h
  rw [add_plain, World.cell?_alloc_at _ _ _ _ rfl, Nat.zero_add]
  simpa using h
theorem alloc_new (w : World) (o : Obj) : (w.alloc o).heap[w.heap.size]? = some o := by
  simp only [World.alloc]; simp
theorem alloc_new2 (w : World) (o p : Obj) : ((w.alloc o).alloc p).heap[w.heap.size + 1]? = some p := by
  have := alloc_new (w.alloc o) p
  simpa using this
/-- An error around a place. -/
def AtIs (base : Nat) (p : Int) (er : Value) (v : Value) (w : World) : Prop := ∃ N, v = .iface 46 (.pointer (some ⟨N, 0, none⟩)) ∧ base ≤ N ∧ w.heap[N]? = some (.cells #[.int .i64 p, er] 48 (0, 0))
/-- What Split answers of a text that is not too long. -/
def SplitIs (base : Nat) (er : Value) (a : Wds) (e : Ending) (w : World) : Prop :=
  match a with
  | .inl ws => ∃ v, e = .returned (.tuple #[v, .nilIface]) ∧ w.ownsRow base 40 4 v ws.length (wcs ws)
  | .inr p => ∃ v, e = .returned (.tuple #[.slice none 0 0, v]) ∧ AtIs base p er v w
set_option maxHeartbeats 2000000 in
theorem wSplitLong (s : ByteArray) (h4 : 4000 < s.size) (w : World) (te : TypeId) (pe : Value) (hc : w.cell? ⟨0, 0, none⟩ = some (.iface te pe)) :
    Calls Tryd.prog 8 #[.string s] w fun e w' => (∃ v, e = .returned (.tuple #[.slice none 0 0, v]) ∧ AtIs w.heap.size 4000 (.iface te pe) v w') ∧ Below w.heap.size w w' := by
  have I1 : (4000 : Int) < (s.size : Int) := by omega
  go_enter Tryd.func8, Tryd.ntmps8
  go_wp2_with fail
  go_region
  all_goals go_wp2_with fail
  all_goals go_ret2
  all_goals exact ⟨⟨_, rfl, _, rfl, Nat.le_refl _, alloc_new _ _⟩, one_box.drew⟩
set_option maxHeartbeats 8000000 in
theorem wSplit (s : ByteArray) (h4 : s.size ≤ 4000) (w : World) (hw : WdW w) (te : TypeId) (pe : Value) (hc : w.cell? ⟨1, 0, none⟩ = some (.iface te pe)) :
    Calls Tryd.prog 8 #[.string s] w fun e w' => SplitIs w.heap.size (.iface te pe) (spl 0 s.data.toList) e w' ∧ Below w.heap.size w w' := by
  obtain ⟨i0, hi, hz0, hz1, hz2⟩ := info_parts info_word
  have I1 : ¬ (4000 : Int) < (s.size : Int) := by omega
  have eg : ∀ args w, (callFunc 13 args).run Tryd.prog w = .ok (.enter 13 args) w := fun _ _ => by kernel_rfl
  have HC : Hid (∀ w', Below w.heap.size w w' → w'.cell? ⟨1, 0, none⟩ = some (.iface te pe)) := fun w' hb => cell_on hc hb
  have HW : Hid (∀ w', Below w.heap.size w w' → WdW w') := fun w' hb => hw.on hb
  have q0 : Hid (∀ w, Calls Tryd.prog 12 #[.string s, .func (.func 13) #[] #[]] w fun e w' => e = .returned (.int .i64 (rn wBlank s.data.toList)) ∧ w' = w) := fun w => wRun 13 wBlank s (by omega) w eg wBlankC
  have q1 : Hid (∀ at_ w, Calls Tryd.prog 12 #[.string (s.extract at_ s.size), .func (.func 13) #[] #[]] w fun e w' => e = .returned (.int .i64 (rn wBlank (s.data.toList.drop at_))) ∧ w' = w) := fun at_ w => by
    have ed : (s.extract at_ s.size).data.toList = s.data.toList.drop at_ := by rw [ext_drop]
    rw [← ed]
    exact wRun 13 wBlank _ (by simp [ByteArray.size_extract]; omega) w eg wBlankC
  obtain ⟨L, hL⟩ : ∃ L, L = s.data.toList := ⟨_, rfl⟩
  have HL : Hid (L = s.data.toList) := hL
  rw [← hL] at q0 ⊢
  have hsz : L.length = s.size := by rw [hL]; exact (Lib.size_eq s).symm
  have HS : Hid (L.length = s.size) := hsz
  have F0 : Hid (∀ at_, at_ = rn wBlank L → at_ ≤ s.size ∧ spl 0 L = preW [] (spl at_ (L.drop at_)) ∧ rn wBlank (L.drop at_) = 0) := fun at_ h => by
    subst h
    refine ⟨by rw [← hsz]; exact rn_le _ _, ?_, rn_rest _ _⟩
    rw [preW_nil]
    have := spl_skip 0 L
    rw [Nat.zero_add] at this; exact this.symm
  rw [← hL] at q1
  clear hL hsz hw hc eg
  generalize hR : spl 0 L = R at *
  clear hR
  obtain ⟨a0, ha0⟩ : ∃ a0, a0 = rn wBlank L := ⟨_, rfl⟩
  have G0 : Hid (a0 ≤ s.size ∧ R = preW [] (spl a0 (L.drop a0)) ∧ rn wBlank (L.drop a0) = 0) := F0.out a0 ha0
  rw [← ha0] at q0
  clear ha0 F0
  go_enter Tryd.func8, Tryd.ntmps8
  go_wp2_with (go_at_call 12; refine (q0.out _).mono ?_; rintro e w' ⟨rfl, rfl⟩)
  go_loopw [4, 5] (fun v s5 wr => ∃ (at_ : Nat) (ws : List (Nat × Wd)), s5 = .int .i64 at_ ∧ at_ ≤ s.size ∧ ws.length ≤ at_ ∧ Hid (R = preW ws (spl at_ (L.drop at_))) ∧ Hid (rn wBlank (L.drop at_) = 0) ∧ Hid (wr.ownsRow w'.heap.size 40 4 v ws.length (wcs ws)) ∧ Hid (Below w'.heap.size w' wr)) (fun _ s5 _ => s.size - (intOf s5).toNat)
  case atStart => exact ⟨a0, [], rfl, G0.out.1, Nat.zero_le _, G0.out.2.1, G0.out.2.2, World.ownsRow_nil _ _ _ _, Below.refl _ _⟩
  case round =>
    obtain ⟨at_, ws, rfl, h1, h2, hR, h0, hown, hB⟩ := hrel
    clear G0
    by_cases hlt : at_ < s.size
    · have I2 : (at_ : Int) < (s.size : Int) := by omega
      have ed : (s.extract at_ s.size).data.toList = L.drop at_ := by rw [ext_drop, HL.out]
      have hne : L.drop at_ ≠ [] := fun e => by have := congrArg List.length e; rw [List.length_drop, HS.out] at this; simp at this; omega
      have hd0 : (L.drop at_).drop (rn wBlank (L.drop at_)) = L.drop at_ := by rw [h0.out]; rfl
      have q2 : Hid (Calls Tryd.prog 14 #[.string (s.extract at_ s.size)] wr fun e w1 => e = wdA (fstW (L.drop at_)) ∧ Below wr.heap.size wr w1) := by
        rw [← ed]
        exact wFirst _ (by simp [ByteArray.size_extract]; omega) (by simp [ByteArray.size_extract]; omega) wr (HW.out wr hB.out)
      cases hx : fstW (L.drop at_) with
      | none =>
        have RB : Hid (R = .inr at_) := by show _ = _; rw [hR.out, spl_bad at_ _ (by rw [hd0]; exact hne) (by rw [hd0]; exact hx), h0.out]; rfl
        have hn : wdA none = .returned (.tuple #[.agg #[.int .i64 0, .int .i64 0, .string ⟨#[]⟩, .int .i64 0], .int .i64 0]) := rfl
        rw [hx, hn] at q2
        clear hn
        clear hx hR h0 hown HW HL HS ed hne hd0 q0 q1
        go_wp2_with fail
        refine q2.out.mono ?_
        rintro e w1 ⟨rfl, hb1⟩
        have B1 : Hid (Below w'.heap.size w' w1) := hB.out.trans (hb1.mono hB.out.size)
        have B2 : Hid (Below w'.heap.size w' (w1.alloc (.cells #[.int .i64 0, .int .i64 0, .string ⟨#[]⟩, .int .i64 0] 40))) := B1.out.alloc B1.out.size _
        have c2 := HC.out _ B2.out
        clear q2 hb1 HC hB
        go_wp2_with fail
        go_region
        all_goals go_wp2_with fail
        all_goals go_ret2
        all_goals exact ⟨by rw [RB.out]; exact ⟨_, rfl, _, rfl, (by have := B1.out.size; omega), alloc_new2 _ _ _⟩, (B2.out.alloc B2.out.size _).drew⟩
      | some x =>
        obtain ⟨z0, z1⟩ := fstW_z hx hne
        have RS : Hid (R = preW (ws ++ [(at_, x)]) (spl (at_ + x.z) (L.drop (at_ + x.z)))) := by
          show _ = _
          rw [hR.out, spl_one at_ _ x (by rw [hd0]; exact hne) (by rw [hd0]; exact hx) z0, h0.out, preW_preW]
          simp [List.drop_drop]
        rw [List.length_drop, HS.out] at z1
        have q3 : Hid (∀ w, Calls Tryd.prog 12 #[.string (s.extract (at_ + x.z) s.size), .func (.func 13) #[] #[]] w fun e w' => e = .returned (.int .i64 (rn wBlank (L.drop (at_ + x.z)))) ∧ w' = w) := q1.out (at_ + x.z)
        have q4 : at_ + x.z + rn wBlank (L.drop (at_ + x.z)) ≤ s.size := by
          have := rn_le wBlank (L.drop (at_ + x.z))
          rw [List.length_drop, HS.out] at this; omega
        have RT : Hid (∀ r, r = rn wBlank (L.drop (at_ + x.z)) → R = preW (ws ++ [(at_, x)]) (spl (at_ + x.z + r) (L.drop (at_ + x.z + r))) ∧ rn wBlank (L.drop (at_ + x.z + r)) = 0) := by
          rintro r rfl
          have e1 := spl_skip (at_ + x.z) (L.drop (at_ + x.z))
          have e2 := rn_rest wBlank (L.drop (at_ + x.z))
          rw [List.drop_drop] at e1 e2
          exact ⟨by rw [e1]; exact RS.out, e2⟩
        rw [hx] at q2
        obtain ⟨k, t, n, z⟩ := x
        simp only at z0 z1 q3 q4 RT
        have hn : wdA (some ⟨k, t, n, z⟩) = .returned (.tuple #[.agg #[.int .i64 k, .int .i64 0, .string ⟨t.toArray⟩, .int .i64 n], .int .i64 (z : Int)]) := rfl
        rw [hn] at q2
        generalize hr : rn wBlank (L.drop (at_ + z)) = r at *
        have RV : Hid (R = preW (ws ++ [(at_, ⟨k, t, n, z⟩)]) (spl (at_ + z + r) (L.drop (at_ + z + r))) ∧ rn wBlank (L.drop (at_ + z + r)) = 0) := RT.out r rfl
        have E1 : (z == 0) = false := by simp; omega
        have E2 : ((z : Int) == 0) = false := by simp; omega
        obtain ⟨m, hm⟩ : ∃ m, m = at_ + z := ⟨_, rfl⟩
        have E3 : (at_ : Int) + (z : Int) = (m : Int) := by omega
        have E4 : (m : Int) ≤ (s.size : Int) := by omega
        have E5 : (m : Int) + (r : Int) ≤ 4000 := by omega
        rw [← hm] at q3 q4 RV
        clear z1 hm hn hr RT RS hx hR h0 HW HL HS HC ed hne hd0 q0 q1
        go_wp2_with fail
        refine q2.out.mono ?_
        rintro e w1 ⟨rfl, hb1⟩
        have B1 : Hid (Below w'.heap.size w' w1) := hB.out.trans (hb1.mono hB.out.size)
        have O1 : Hid (w1.ownsRow w'.heap.size 40 4 u4 ws.length (wcs ws)) := ownW_on hown.out hb1
        clear q2 hb1 hB hown
        have HA : Hid (∀ v4 w4, w4.ownsRow w'.heap.size 40 4 v4 (ws.length + 1) (wcs ws ++ wc (at_, ⟨k, t, n, z⟩)) → ((w1.alloc (.cells (#[.int .i64 k, .int .i64 at_, .string ⟨t.toArray⟩, .int .i64 n]) 40)).alloc (.cells (#[.int .i64 k, .int .i64 at_, .string ⟨t.toArray⟩, .int .i64 n]) 40)).grownBy w4 (Value.ownBlock u4) → Hid (w4.ownsRow w'.heap.size 40 4 v4 (ws ++ [(at_, (⟨k, t, n, z⟩ : Wd))]).length (wcs (ws ++ [(at_, ⟨k, t, n, z⟩)]))) ∧ Hid (Below w'.heap.size w' w4)) := fun v4 w4 g1 g2 =>
          ⟨by rw [wcs_snoc, List.length_append]; exact g1, ((B1.out.alloc B1.out.size _).alloc (by have := B1.out.size; simp; omega) _).grown g2 (by have := B1.out.size; simp; omega) (fun k e => (O1.out.lt k e).1)⟩
        have hcl : Hid (∀ j u, (wc (at_, ⟨k, t, n, z⟩))[j]? = some u → ((w1.alloc (.cells (#[.int .i64 k, .int .i64 at_, .string ⟨t.toArray⟩, .int .i64 n]) 40)).alloc (.cells (#[.int .i64 k, .int .i64 at_, .string ⟨t.toArray⟩, .int .i64 n]) 40)).cell? ((⟨w1.heap.size + 1, 0, none⟩ : Addr).add j) = some u) := by
          have := cell_four_new (w1.alloc (.cells (#[.int .i64 k, .int .i64 at_, .string ⟨t.toArray⟩, .int .i64 n]) 40)) (.int .i64 k) (.int .i64 at_) (.string ⟨t.toArray⟩) (.int .i64 n) 40
          intro j u h
          have h2 := this j u h
          simpa using h2
        have hsz := B1.out.size
        go_wp2_with (first | (at_builtin; refine wpList_append_own _ rfl _ _ 34 rfl w'.heap.size 40 i0 (.agg #[.int .i64 0, .int .i64 0, .string ⟨#[]⟩, .int .i64 0]) 4 40 Tryd.underlying34 hi hz0 hz1 hz2 rfl (by decide) _ ws.length (wcs ws) rfl ((O1.out.alloc _).alloc _) ⟨w1.heap.size + 1, 0, none⟩ 1 1 (wc (at_, ⟨k, t, n, z⟩)) rfl rfl hcl.out (by simp [wc, Value.oneCell']) (by unfold maxLen; omega) (by omega) (by simp; omega) ?_; intro v4 w4 hown4 hg4 _; obtain ⟨O4, B4⟩ := HA.out _ _ hown4 hg4; clear hown4 hg4 HA hcl O1) | (go_at_call 12; refine (q3.out _).mono ?_; rintro e w5 ⟨rfl, rfl⟩) | fail)
        go_roundw
        case rel => exact ⟨m + r, _, by go_num, by omega, by rw [List.length_append]; show ws.length + 1 ≤ _; omega, RV.out.1, RV.out.2, O4, B4⟩
        case measure => simp only [intOf]; omega
    · obtain rfl : at_ = s.size := by omega
      have RE : Hid (R = .inl ws) := by
        show _ = _
        rw [hR.out, spl_end _ _ (by rw [h0.out, List.drop_zero, List.drop_of_length_le (by rw [HS.out]; exact Nat.le_refl _)])]
        simp [preW]
      have I0 : ¬ (s.size : Int) < (s.size : Int) := by omega
      clear hR h0 hlt HW HL HS HC q0 q1
      go_wp2_with fail
      go_ret2
      exact ⟨by rw [RE.out]; exact ⟨_, rfl, hown.out⟩, hB.out⟩
end Go.Proofs.YtlbgfkkalalkaaaDoor
