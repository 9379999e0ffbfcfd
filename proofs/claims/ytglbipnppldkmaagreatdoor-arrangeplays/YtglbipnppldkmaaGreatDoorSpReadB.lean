/- What a spine's All, Rows, Batches and Get answer, and how many entries there are. -/
import Derived.Test.YtglbipnppldkmaaGreatDoorPackSpineB
import Derived.Test.YtglbipnppldkmaaGreatDoorPackTakeB
import Derived.Test.YtglbipnppldkmaaGreatDoorZLookB
namespace Go.Proofs.YtglbipnppldkmaaGreatDoor
open Go.RowKit Go.Sort
set_option maxRecDepth 100000
set_option maxHeartbeats 1000000 in
theorem spAllX (F : Nat → Prop) (sb : Sb) (A : List Ent) (n m : Nat) (st : Option (Nat × Nat × Nat)) (a : Addr) (w : World) (h : SpX F sb A n m st w) (ho : OverAt a w) (hm : m ≤ 65536) :
    Calls Tryz.prog 39 #[.pointer (some ⟨sb.b, 1, none⟩)] w fun e w' => ∃ v, e = .returned v ∧ ZHas w.heap.size A v w' ∧ Below w.heap.size w w' := by
  obtain ⟨R, bv, pv, X, h1, h2, h3, h4, h5, h6, h7⟩ := h
  have q := mgAll X bv a w ho h1.ls (by omega)
  rw [h5, h6, ovE_t] at q
  have c0 := h1.c0
  obtain ⟨b0, c0', rfl⟩ := h1.ls.form
  clear h1 h2 h3 h4 h5 h6 h7 ho
  go_enter Tryz.func39, Tryz.ntmps39
  go_wp2_with fail
  refine q.mono ?_
  rintro e w1 ⟨v, rfl, z1, z2⟩
  have G : Hid (ZHas w.heap.size A v w1 ∧ Below w.heap.size w w1) := ⟨z1, z2⟩
  clear q z1 z2 c0
  go_wp2_with fail
  go_ret
  exact ⟨v, rfl, G.out⟩
theorem spBatchesX (F : Nat → Prop) (sb : Sb) (A : List Ent) (n m : Nat) (st : Option (Nat × Nat × Nat)) (w : World) (h : SpX F sb A n m st w) :
    Calls Tryz.prog 34 #[.pointer (some ⟨sb.b, 1, none⟩)] w fun e w' => e = .returned (.int .i64 n) ∧ w' = w := by
  obtain ⟨R, bv, pv, X, h1, h2, h3, h4, h5, h6, h7⟩ := h
  have c0 := h1.c0
  obtain ⟨b0, c0', rfl⟩ := h1.ls.form
  rw [h3] at c0
  clear h1 h2 h3 h4 h5 h6 h7
  go_enter Tryz.func34, Tryz.ntmps34
  go_wp2_with fail
  go_ret
  exact ⟨rfl, rfl⟩
/-- How far Get has come: as far as an int64 goes round. -/
def GetTo (X : List QEnt) (r : List Val) (j : Nat) (k : Int) : Prop := (k - wt r (flat (X.take j))) % 18446744073709551616 = 0 ∧ inI k = true
theorem flat_app (X Y : List QEnt) : flat (X ++ Y) = flat X ++ flat Y := by unfold flat; rw [List.flatMap_append]
theorem flat_take {X : List QEnt} {j : Nat} (h : j < X.length) : flat (X.take (j + 1)) = flat (X.take j) ++ X[j].2 := by
  rw [List.take_succ_eq_append_getElem h, flat_app]; simp [flat]
theorem GetTo.step {X : List QEnt} {r : List Val} {j : Nat} {k : Int} (h : GetTo X r j k) (hj : j < X.length) : GetTo X r (j + 1) (wrap64 (k + wt r X[j].2)) := by
  obtain ⟨h1, h2⟩ := h
  refine ⟨?_, by rw [inI_iff]; unfold wrap64; omega⟩
  rw [flat_take hj, wt_append]; unfold wrap64; omega
theorem GetTo.fin {X : List QEnt} {r : List Val} {k : Int} (h : GetTo X r X.length k) (ho : okZ (flat X) = true) : k = wt r (mkZ (flat X)) := by
  obtain ⟨h1, h2⟩ := h
  rw [List.take_length] at h1
  rw [wt_mkZ ho]
  exact mod_eq h2 ((okZ_iff _).1 ho r) h1
set_option maxHeartbeats 2000000 in
theorem spGetX (F : Nat → Prop) (sb : Sb) (A : List Ent) (n m : Nat) (st : Option (Nat × Nat × Nat)) (r : List Val) (vr : Value) (w : World) (h : SpX F sb A n m st w) (hr : RowIs w vr r) :
    Calls Tryz.prog 81 #[.pointer (some ⟨sb.b, 1, none⟩), vr] w fun e w' => e = .returned (.int .i64 (wt r A)) ∧ Below w.heap.size w w' := by
  obtain ⟨R, bv, pv, X, h1, h2, h3, h4, h5, h6, h7⟩ := h
  have c0 := h1.c0
  have hL := h1.2.2.2.2.2.2
  have HL : Hid (LsIs w bv X ∧ ∀ x ∈ X, IsZ x.2) := ⟨h1.ls, fun x hx => ⟨(h1.2.2.1 x hx).1.2.2.1, (h1.2.2.1 x hx).2⟩⟩
  have HR : Hid (RowIs w vr r) := hr
  have HE : Hid (∀ k, GetTo X r X.length k → k = wt r A) := fun k hk => by rw [← h6]; exact hk.fin h5
  obtain ⟨b0, c0', rfl⟩ := h1.ls.form
  obtain ⟨ar, cr, rfl⟩ := hr.form
  have G0 : Hid (GetTo X r 0 0) := ⟨by simp [flat, wt], rfl⟩
  clear h1 h2 h3 h4 h5 h6 h7 hr
  generalize r.length = rl at *
  go_enter Tryz.func81, Tryz.ntmps81
  go_wp2_with fail
  go_loopw [5, 13] (fun s5 s13 wr => ∃ (j : Nat) (k : Int), j ≤ X.length ∧ s13 = .int .i64 j ∧ s5 = .int .i64 k ∧ Hid (GetTo X r j k) ∧ Below w.heap.size w wr) (fun _ i _ => X.length - (intOf i).toNat)
  case atStart => exact ⟨0, 0, by omega, rfl, rfl, G0, Below.refl _ _⟩
  case round =>
    clear G0 c0
    obtain ⟨j, k, hj, rfl, rfl, hG, hB⟩ := hrel
    have HB : Hid (Below w.heap.size w wr) := hB
    by_cases k1 : j < X.length
    · have I1 : (j : Int) < (X.length : Int) := by omega
      obtain ⟨b, o, a', c', rfl, x1, x2⟩ := (HL.out.1.on hB).at j k1
      have hx := (HL.out.1.2.1 X[j] (List.getElem_mem k1))
      have q := zGet X[j].2 r X[j].1 _ wr hx.2.2.2 (HL.out.2 _ (List.getElem_mem k1)) (hx.1.on hB) (HR.out.on hB)
      rw [x2] at q
      have G1 : Hid (GetTo X r (j + 1) (wrap64 (k + wt r X[j].2))) := hG.out.step k1
      clear hx x2 hB hG
      generalize X[j].2.length = l3 at *
      generalize wt r X[j].2 = g3 at *
      go_wp2_with fail
      refine q.mono ?_
      rintro e w2 ⟨rfl, hb2⟩
      have HB2 : Hid (Below w.heap.size w w2) := HB.out.trans (hb2.mono HB.out.size)
      clear q hb2 HB x1
      go_wp2_with fail
      go_roundw
      case rel => exact ⟨j + 1, _, by omega, by go_num, rfl, G1, HB2.out⟩
      case measure => simp [intOf]; omega
    · have I1 : ¬ (j : Int) < (X.length : Int) := by omega
      obtain rfl : j = X.length := by omega
      have e := HE.out k hG.out
      subst e
      clear hB hG
      go_wp2_with fail
      go_ret
      exact ⟨rfl, HB.out⟩
set_option maxHeartbeats 2000000 in
theorem spEntries (F : Nat → Prop) (sb : Sb) (A : List Ent) (n m : Nat) (st : Option (Nat × Nat × Nat)) (w : World) (h : SpX F sb A n m st w) (hm : m ≤ 65536) :
    Calls Tryz.prog 85 #[.pointer (some ⟨sb.b, 1, none⟩)] w fun e w' => e = .returned (.int .i64 m) ∧ w' = w := by
  obtain ⟨R, bv, pv, X, h1, h2, h3, h4, h5, h6, h7⟩ := h
  have c0 := h1.c0
  have hL := h1.2.2.2.2.2.2
  have HL : Hid (LsIs w bv X) := h1.ls
  have HE : Hid (∀ j, j < X.length → (flat (X.take (j + 1))).length = (flat (X.take j)).length + X[j]!.2.length) := fun j hj => by rw [flat_take hj, List.length_append, getElem!_pos X j hj]
  have HM : Hid (∀ j, j ≤ X.length → (flat (X.take j)).length ≤ m) := fun j _ => by
    rw [← h4]
    conv => rhs; rw [← List.take_append_drop j X]
    rw [flat_app, List.length_append]; omega
  have HF : Hid ((flat (X.take X.length)).length = m) := by show _ = _; rw [List.take_length]; exact h4
  have G0 : (flat (X.take 0)).length = 0 := rfl
  obtain ⟨b0, c0', rfl⟩ := h1.ls.form
  clear h1 h2 h3 h4 h5 h6 h7
  go_enter Tryz.func85, Tryz.ntmps85
  go_wp2_with fail
  go_loopw [3, 11] (fun s5 s13 wr => ∃ (j : Nat), j ≤ X.length ∧ s13 = .int .i64 j ∧ s5 = .int .i64 (flat (X.take j)).length ∧ wr = w) (fun _ i _ => X.length - (intOf i).toNat)
  case atStart => exact ⟨0, by omega, rfl, rfl, rfl⟩
  case round =>
    clear G0 c0
    obtain ⟨j, hj, rfl, rfl, rfl⟩ := hrel
    by_cases k1 : j < X.length
    · have I1 : (j : Int) < (X.length : Int) := by omega
      obtain ⟨b, o, a', c', rfl, x1, x2⟩ := HL.out.at j k1
      have e1 := HE.out j k1
      rw [getElem!_pos X j k1] at e1
      have e2 := HM.out (j + 1) (by omega)
      have E1 : Hid ((flat (X.take (j + 1))).length = (flat (X.take j)).length + X[j].2.length) := e1
      rw [e1] at e2
      clear x2 e1
      generalize X[j].2.length = l3 at *
      generalize (flat (X.take j)).length = f3 at *
      go_wp2_with fail
      go_roundw
      case rel => exact ⟨j + 1, by omega, by go_num, by rw [E1.out]; go_num, trivial⟩
      case measure => simp [intOf]; omega
    · have I1 : ¬ (j : Int) < (X.length : Int) := by omega
      obtain rfl : j = X.length := by omega
      rw [HF.out]
      go_wp2_with fail
      go_ret
      exact ⟨rfl, rfl⟩
end Go.Proofs.YtglbipnppldkmaaGreatDoor
