/- Texts of one claim, one behind the other. -/
import Derived.Test.YtglbipnppldkmaaGreatDoorMakeRowB
import Derived.Test.YtglbipnppldkmaaGreatDoorPackPutB
import Derived.Test.YtglbipnppldkmaaGreatDoorPackPlainB
/- What the document's own Pick answers of rows in memory. -/
namespace Go.Proofs.YtglbipnppldkmaaGreatDoor
open Go.RowKit
set_option maxRecDepth 100000

/-- A slice that reads as these integers. -/
def IntsIs (w : World) (v : Value) (ks : List Int) : Prop :=
  (∃ a cap, v = .slice a 0 cap ∧ ks = []) ∨
  ∃ b o cap, v = .slice (some ⟨b, o, none⟩) ks.length cap ∧ ks.length ≤ cap ∧ cap ≤ maxLen ∧ b < w.heap.size ∧ ∀ i (h : i < ks.length), w.cell? ⟨b, o + i, none⟩ = some (.int .i64 ks[i])
theorem IntsIs.form {w : World} {v : Value} {l : List Int} (h : IntsIs w v l) : ∃ a cap, v = .slice a l.length cap := by
  rcases h with ⟨a, cap, rfl, rfl⟩ | ⟨b, o, cap, rfl, _⟩
  · exact ⟨a, cap, rfl⟩
  · exact ⟨_, cap, rfl⟩
theorem IntsIs.addr {w : World} {v : Value} {l : List Int} (h : IntsIs w v l) (hl : l ≠ []) : ∃ b o cap, v = .slice (some ⟨b, o, none⟩) l.length cap := by
  rcases h with ⟨_, _, _, e⟩ | ⟨b, o, cap, e, _⟩
  · exact absurd e hl
  · exact ⟨b, o, cap, e⟩
theorem IntsIs.le {w : World} {v : Value} {l : List Int} (h : IntsIs w v l) : l.length ≤ maxLen := by
  rcases h with ⟨_, _, _, rfl⟩ | ⟨b, o, cap, rfl, h1, h2, _⟩
  · exact Nat.zero_le _
  · omega
theorem IntsIs.on {w w' : World} {v : Value} {l : List Int} (h : IntsIs w v l) (hb : Below w.heap.size w w') : IntsIs w' v l := by
  rcases h with h | ⟨b, o, cap, rfl, h1, h2, h3, h4⟩
  · exact .inl h
  · exact .inr ⟨b, o, cap, rfl, h1, h2, Nat.lt_of_lt_of_le h3 hb.size, fun i hi => by rw [hb.cell (p := ⟨b, o + i, none⟩) h3]; exact h4 i hi⟩
theorem IntsIs.at {w : World} {b o n cap : Nat} {l : List Int} (h : IntsIs w (.slice (some ⟨b, o, none⟩) n cap) l) (i : Nat) (hi : i < l.length) : w.cell? ⟨b, o + i, none⟩ = some (.int .i64 l[i]) := by
  rcases h with ⟨_, _, _, rfl⟩ | ⟨b', o', cap', e, _, _, h3, h4⟩
  · simp at hi
  · simp only [Value.slice.injEq, Option.some.injEq, Addr.mk.injEq, and_true] at e
    obtain ⟨⟨rfl, rfl⟩, _⟩ := e
    exact h4 i hi
theorem IntsIs.of_row {w : World} {a : Option Addr} {len cap : Nat} {zs : List Int} (h : IsRow .i64 w a len cap zs) : IntsIs w (.slice a len cap) (zs.take len) := by
  rcases h with ⟨rfl, rfl, rfl, rfl⟩ | ⟨x, rfl, h1, h2, h3, h4, h5⟩
  · exact .inl ⟨none, 0, rfl, rfl⟩
  · by_cases e : len = 0
    · subst e; exact .inl ⟨_, _, rfl, by simp⟩
    · obtain ⟨b, o, spot⟩ := x
      have hspot : spot = none := by simpa [Addr.add] using World.cell?_spot (h4 0 (by omega))
      subst hspot
      have hl : (zs.take len).length = len := by simp; omega
      refine .inr ⟨b, o, cap, by rw [hl], by omega, h2, World.block_lt_of_cell? _ _ (h4 0 (by omega)), fun i hi => ?_⟩
      have := h4 i (by omega)
      rw [add_plain] at this
      rw [this]; simp only [hl] at hi
      simp [List.getD, show i < zs.length by omega]

/-- Is each a column? The columns that are picked. -/
def inR (l : List Val) (k : Int) : Bool := decide (0 ≤ k) && decide (k < (l.length : Int))
def allIn (l : List Val) (ks : List Int) : Bool := ks.all (inR l)
def atV (l : List Val) (k : Int) : Val := l.getD k.toNat (0, 0, ⟨#[]⟩)
def pk (l : List Val) (ks : List Int) : List Val := if allIn l ks then ks.map (atV l) else []
/-- How far a pick has come. -/
def PickTo (l : List Val) (ks : List Int) (w : World) (j : Nat) (v : Value) (wr : World) : Prop :=
  allIn l (ks.take j) = true ∧ wr.ownsRow w.heap.size 56 3 v j (rc ((ks.take j).map (atV l))) ∧ Below w.heap.size w wr
theorem allIn_snoc {l : List Val} {ks : List Int} {j : Nat} (h : j < ks.length) : allIn l (ks.take (j + 1)) = (allIn l (ks.take j) && inR l ks[j]) := by
  unfold allIn; rw [List.take_succ_eq_append_getElem h, List.all_append]; simp
theorem allIn_not {l : List Val} {ks : List Int} {j : Nat} (h : j < ks.length) (h' : inR l ks[j] = false) : allIn l ks = false := by
  unfold allIn; rw [List.all_eq_false]; exact ⟨ks[j], List.getElem_mem h, by simp [h']⟩
theorem map_snoc {l : List Val} {ks : List Int} {j : Nat} (h : j < ks.length) : (ks.take (j + 1)).map (atV l) = (ks.take j).map (atV l) ++ [atV l ks[j]] := by
  rw [List.take_succ_eq_append_getElem h, List.map_append]; rfl
theorem atV_eq {l : List Val} {k : Int} (h : k.toNat < l.length) : atV l k = l[k.toNat] := by simp [atV, List.getD, h]

set_option maxHeartbeats 2000000 in
theorem refPick_some (l : List Val) (ks : List Int) (b1 o1 cap0 b o cap : Nat) (w : World) (hn : ks.length ≤ 4294967296) (ha : RowIs w (.slice (some ⟨b1, o1, none⟩) l.length cap0) l) (hb : IntsIs w (.slice (some ⟨b, o, none⟩) ks.length cap) ks) :
    Calls Tryz.prog 11 #[.slice (some ⟨b1, o1, none⟩) l.length cap0, .slice (some ⟨b, o, none⟩) ks.length cap] w fun e w' => ∃ v, e = .returned (.tuple #[v, .bool (allIn l ks)]) ∧ w'.ownsRow w.heap.size 56 3 v (pk l ks).length (rc (pk l ks)) ∧ Below w.heap.size w w' := by
  have la := ha.le
  unfold maxLen at la
  obtain ⟨i0, hi, hz0, hz1, hz2⟩ := info_parts info_value
  have Ha : Hid (RowIs w (.slice (some ⟨b1, o1, none⟩) l.length cap0) l) := ha
  have Hb : Hid (IntsIs w (.slice (some ⟨b, o, none⟩) ks.length cap) ks) := hb
  have H0 : Hid (PickTo l ks w 0 (.slice none 0 0) w) := ⟨by simp [allIn], World.ownsRow_nil _ _ _ _, Below.refl _ _⟩
  clear ha hb
  go_enter Tryz.func11, Tryz.ntmps11
  go_wp2_with fail
  go_loopw [6, 7] (fun v i wr => ∃ j : Nat, j ≤ ks.length ∧ i = .int .i64 j ∧ PickTo l ks w j v wr) (fun _ i _ => ks.length - (intOf i).toNat)
  case atStart => exact ⟨0, by omega, rfl, H0.out⟩
  case round =>
    obtain ⟨j, hj, rfl, hso⟩ := hrel
    by_cases hlt : j < ks.length
    · obtain ⟨h1, h2, h3⟩ := hso
      have I1 : (j : Int) < (ks.length : Int) := by omega
      have hk := (Hb.out.on h3).at j hlt
      have HN : Hid (inR l ks[j] = false → allIn l ks = false) := allIn_not hlt
      have HY : Hid (inR l ks[j] = true → allIn l (ks.take (j + 1)) = true) := fun h => by rw [allIn_snoc hlt, h1, h]; rfl
      have HM : Hid ((ks.take (j + 1)).map (atV l) = (ks.take j).map (atV l) ++ [atV l ks[j]]) := map_snoc hlt
      have HO : Hid (wr.ownsRow w.heap.size 56 3 u6 j (rc ((ks.take j).map (atV l)))) := h2
      generalize ks[j] = k at *
      clear h1 h2
      by_cases k0 : k < 0
      · have hi0 : inR l k = false := by unfold inR; simp <;> omega
        have e1 := HN.out hi0
        have RN : Hid (pk l ks = []) := by show _ = _; unfold pk; rw [e1]; rfl
        have E1 : Hid (allIn l ks = false) := e1
        clear e1 hi0
        go_wp2_with fail
        go_ret2
        refine ⟨.slice none 0 0, ?_, ?_, h3⟩
        · rw [E1.out]; rfl
        · rw [RN.out]; exact World.ownsRow_nil _ _ _ _
      · by_cases k1 : k < (l.length : Int)
        · have hkl : k.toNat < l.length := by omega
          have hi1 : inR l k = true := by unfold inR; simp <;> omega
          have X := (Ha.out.on h3).at' k.toNat hkl
          have X' : wr.cell? ⟨b1, o1 + k.toNat * 3, none⟩ = some (.int .i64 (atV l k).1) ∧ wr.cell? ⟨b1, o1 + k.toNat * 3 + 1, none⟩ = some (.int .i64 (atV l k).2.1) ∧ wr.cell? ⟨b1, o1 + k.toNat * 3 + 2, none⟩ = some (.string (atV l k).2.2) := by rw [atV_eq hkl]; exact X
          obtain ⟨x1, x2, x3⟩ := X'
          clear X
          have I4 : 0 ≤ k := by omega
          have hz := h3.size
          have hrow := fun g hg => (HO.out.lt g hg).1
          have F : Hid (∀ v2 w2, w2.ownsRow w.heap.size 56 3 v2 (j + 1) (rc ((ks.take j).map (atV l)) ++ vc (atV l k)) → (wr.alloc (.cells #[.int .i64 (atV l k).1, .int .i64 (atV l k).2.1, .string (atV l k).2.2] 56)).grownBy w2 (Value.ownBlock u6) → PickTo l ks w (j + 1) v2 w2) := by
            intro v2 w2 g1 g2
            refine ⟨HY.out hi1, ?_, ?_⟩
            · rw [HM.out, rc_snoc]; exact g1
            · exact (h3.alloc hz _).grown g2 (by simp; omega) hrow
          generalize atV l k = x at *
          clear hi1 hrow
          go_wp2_with (first | (at_builtin; refine wpList_append_own _ rfl _ _ 33 rfl w.heap.size 56 i0 (.agg #[.int .i64 0, .int .i64 0, .string ⟨#[]⟩]) 3 32 Tryz.underlying33 hi hz0 hz1 hz2 rfl (by decide) _ j (rc ((ks.take j).map (atV l))) rfl (HO.out.alloc _) ⟨wr.heap.size, 0, none⟩ 1 1 (vc x) rfl rfl (cell_three_new _ _ _ _ _) (by simp [vc, Value.oneCell']) (by unfold maxLen; omega) (by omega) (by simp; omega) ?_; intro v2 w2 hown2 hg2 _; have hso2 := F.out _ _ hown2 hg2; clear hown2 hg2) | go_in)
          go_roundw
          case rel => exact ⟨j + 1, by omega, by go_num, hso2⟩
          case measure => simp [intOf]; omega
        · have hi0 : inR l k = false := by unfold inR; simp <;> omega
          have e1 := HN.out hi0
          have RN : Hid (pk l ks = []) := by show _ = _; unfold pk; rw [e1]; rfl
          have E1 : Hid (allIn l ks = false) := e1
          have I3 : (l.length : Int) ≤ k := by omega
          clear e1 hi0
          go_wp2_with fail
          go_ret2
          refine ⟨.slice none 0 0, ?_, ?_, h3⟩
          · rw [E1.out]; rfl
          · rw [RN.out]; exact World.ownsRow_nil _ _ _ _
    · obtain rfl : j = ks.length := by omega
      obtain ⟨h1, h2, h3⟩ := hso
      rw [List.take_length] at h1 h2
      have E1 : Hid (allIn l ks = true) := h1
      have HR : Hid (wr.ownsRow w.heap.size 56 3 u6 (pk l ks).length (rc (pk l ks))) := by
        show wr.ownsRow _ _ _ _ _ _
        unfold pk; rw [h1]; simp only [if_true]
        simpa using h2
      clear h1 h2
      go_wp2_with fail
      go_ret2
      refine ⟨u6, ?_, HR.out, h3⟩
      rw [E1.out]; rfl

set_option maxHeartbeats 2000000 in
theorem refPick_empty (a0 : Option Addr) (cap0 : Nat) (ks : List Int) (b o cap : Nat) (w : World) (hn : ks.length ≤ 4294967296) (hb : IntsIs w (.slice (some ⟨b, o, none⟩) ks.length cap) ks) :
    Calls Tryz.prog 11 #[.slice a0 0 cap0, .slice (some ⟨b, o, none⟩) ks.length cap] w fun e w' => ∃ v, e = .returned (.tuple #[v, .bool (allIn ([] : List Val) ks)]) ∧ w'.ownsRow w.heap.size 56 3 v (pk ([] : List Val) ks).length (rc (pk ([] : List Val) ks)) ∧ Below w.heap.size w w' := by
  obtain ⟨i0, hi, hz0, hz1, hz2⟩ := info_parts info_value
  have Hb : Hid (IntsIs w (.slice (some ⟨b, o, none⟩) ks.length cap) ks) := hb
  have H0 : Hid (PickTo ([] : List Val) ks w 0 (.slice none 0 0) w) := ⟨by simp [allIn], World.ownsRow_nil _ _ _ _, Below.refl _ _⟩
  clear hb
  go_enter Tryz.func11, Tryz.ntmps11
  go_wp2_with fail
  go_loopw [6, 7] (fun v i wr => ∃ j : Nat, j ≤ ks.length ∧ i = .int .i64 j ∧ PickTo ([] : List Val) ks w j v wr) (fun _ i _ => ks.length - (intOf i).toNat)
  case atStart => exact ⟨0, by omega, rfl, H0.out⟩
  case round =>
    obtain ⟨j, hj, rfl, hso⟩ := hrel
    by_cases hlt : j < ks.length
    · obtain ⟨h1, h2, h3⟩ := hso
      have I1 : (j : Int) < (ks.length : Int) := by omega
      have hk := (Hb.out.on h3).at j hlt
      have HN : Hid (inR ([] : List Val) ks[j] = false → allIn ([] : List Val) ks = false) := allIn_not hlt
      have HY : Hid (inR ([] : List Val) ks[j] = true → allIn ([] : List Val) (ks.take (j + 1)) = true) := fun h => by rw [allIn_snoc hlt, h1, h]; rfl
      have HM : Hid ((ks.take (j + 1)).map (atV ([] : List Val)) = (ks.take j).map (atV ([] : List Val)) ++ [atV ([] : List Val) ks[j]]) := map_snoc hlt
      have HO : Hid (wr.ownsRow w.heap.size 56 3 u6 j (rc ((ks.take j).map (atV ([] : List Val))))) := h2
      generalize ks[j] = k at *
      clear h1 h2
      by_cases k0 : k < 0
      · have hi0 : inR ([] : List Val) k = false := by unfold inR; simp <;> omega
        have e1 := HN.out hi0
        have RN : Hid (pk ([] : List Val) ks = []) := by show _ = _; unfold pk; rw [e1]; rfl
        have E1 : Hid (allIn ([] : List Val) ks = false) := e1
        clear e1 hi0
        go_wp2_with fail
        go_ret2
        refine ⟨.slice none 0 0, ?_, ?_, h3⟩
        · rw [E1.out]; rfl
        · rw [RN.out]; exact World.ownsRow_nil _ _ _ _
      · by_cases k1 : k < 0
        · omega
        · have hi0 : inR ([] : List Val) k = false := by unfold inR; simp <;> omega
          have e1 := HN.out hi0
          have RN : Hid (pk ([] : List Val) ks = []) := by show _ = _; unfold pk; rw [e1]; rfl
          have E1 : Hid (allIn ([] : List Val) ks = false) := e1
          have I3 : 0 ≤ k := by omega
          clear e1 hi0
          go_wp2_with fail
          go_ret2
          refine ⟨.slice none 0 0, ?_, ?_, h3⟩
          · rw [E1.out]; rfl
          · rw [RN.out]; exact World.ownsRow_nil _ _ _ _
    · obtain rfl : j = ks.length := by omega
      obtain ⟨h1, h2, h3⟩ := hso
      rw [List.take_length] at h1 h2
      have E1 : Hid (allIn ([] : List Val) ks = true) := h1
      have HR : Hid (wr.ownsRow w.heap.size 56 3 u6 (pk ([] : List Val) ks).length (rc (pk ([] : List Val) ks))) := by
        show wr.ownsRow _ _ _ _ _ _
        unfold pk; rw [h1]; simp only [if_true]
        simpa using h2
      clear h1 h2
      go_wp2_with fail
      go_ret2
      refine ⟨u6, ?_, HR.out, h3⟩
      rw [E1.out]; rfl

set_option maxHeartbeats 1000000 in
theorem refPick_none (a0 : Option Addr) (n cap0 : Nat) (b0 : Option Addr) (cap : Nat) (w : World) :
    Calls Tryz.prog 11 #[.slice a0 n cap0, .slice b0 0 cap] w fun e w' => e = .returned (.tuple #[.slice none 0 0, .bool true]) ∧ w' = w := by
  go_enter Tryz.func11, Tryz.ntmps11
  go_wp2_with fail
  go_loopw [6, 7] (fun v i wr => v = .slice none 0 0 ∧ i = .int .i64 0 ∧ wr = w) (fun _ _ _ => 0)
  case atStart => exact ⟨rfl, rfl, rfl⟩
  case round =>
    obtain ⟨rfl, rfl, rfl⟩ := hrel
    go_wp2_with fail
    go_ret2
    exact ⟨rfl, rfl⟩

/-- The document's Pick; what it answers is the call's own. -/
theorem refPickO (l : List Val) (ks : List Int) (va vb : Value) (w : World) (hn : ks.length ≤ 4294967296) (ha : RowIs w va l) (hb : IntsIs w vb ks) :
    Calls Tryz.prog 11 #[va, vb] w fun e w' => ∃ v, e = .returned (.tuple #[v, .bool (allIn l ks)]) ∧ w'.ownsRow w.heap.size 56 3 v (pk l ks).length (rc (pk l ks)) ∧ Below w.heap.size w w' := by
  obtain ⟨a0, cap0, ea⟩ := ha.form
  by_cases hk : ks = []
  · subst hk
    obtain ⟨b0, cap, eb⟩ := hb.form
    subst ea eb
    refine (refPick_none a0 l.length cap0 b0 cap w).mono ?_
    rintro e w' ⟨rfl, rfl⟩
    exact ⟨_, rfl, World.ownsRow_nil _ _ _ _, Below.refl _ _⟩
  · obtain ⟨b, o, cap, rfl⟩ := hb.addr hk
    by_cases hl : l = []
    · subst hl; subst ea
      exact refPick_empty a0 cap0 ks b o cap w hn hb
    · obtain ⟨b1, o1, cap1, rfl⟩ := ha.addr hl
      exact refPick_some l ks b1 o1 cap1 b o cap w hn ha hb
/-- The document's Pick. -/
theorem refPick (l : List Val) (ks : List Int) (va vb : Value) (w : World) (hn : ks.length ≤ 4294967296) (ha : RowIs w va l) (hb : IntsIs w vb ks) :
    Calls Tryz.prog 11 #[va, vb] w fun e w' => ∃ v, e = .returned (.tuple #[v, .bool (allIn l ks)]) ∧ RowIs w' v (pk l ks) ∧ Below w.heap.size w w' := by
  refine (refPickO l ks va vb w hn ha hb).mono ?_
  rintro e w' ⟨v, rfl, h1, h2⟩
  exact ⟨v, rfl, RowIs.of_own h1, h2⟩
end Go.Proofs.YtglbipnppldkmaaGreatDoor
/- What row.Pick answers of rows in memory: it makes room for all, then takes one behind the other. -/
namespace Go.Proofs.YtglbipnppldkmaaGreatDoor
open Go.RowKit
set_option maxRecDepth 100000
theorem IntsIs.at0 {w : World} {a : Option Addr} {n cap : Nat} {l : List Int} (h : IntsIs w (.slice a n cap) l) (i : Nat) (hi : i < l.length) : ∃ b o, a = some ⟨b, o, none⟩ ∧ w.cell? ⟨b, o + i, none⟩ = some (.int .i64 l[i]) := by
  rcases h with ⟨_, _, _, rfl⟩ | ⟨b', o', cap', e, _, _, h3, h4⟩
  · simp at hi
  · simp only [Value.slice.injEq] at e
    exact ⟨b', o', e.1, h4 i hi⟩
set_option maxHeartbeats 2000000 in
theorem rowPick_at (l : List Val) (ks : List Int) (a0 b0 : Option Addr) (cap0 cap : Nat) (w : World) (hn : ks.length ≤ 65536) (ha : RowIs w (.slice a0 l.length cap0) l) (hb : IntsIs w (.slice b0 ks.length cap) ks) :
    Calls Tryz.prog 32 #[.slice a0 l.length cap0, .slice b0 ks.length cap] w fun e w' => ∃ v, e = .returned (.tuple #[v, .bool (allIn l ks)]) ∧ w'.ownsRow w.heap.size 56 3 v (pk l ks).length (rc (pk l ks)) ∧ Below w.heap.size w w' := by
  have la := ha.le
  unfold maxLen at la
  obtain ⟨i0, hi, hz0, hz1, hz2⟩ := info_parts info_value
  have Ha : Hid (RowIs w (.slice a0 l.length cap0) l) := ha
  have Hb : Hid (IntsIs w (.slice b0 ks.length cap) ks) := hb
  have H0 : Hid (∀ w1, w1.ownsRow w.heap.size 56 3 (.slice (some ⟨w.heap.size, 0, none⟩) 0 ks.length) 0 [] → w.grownBy w1 none → PickTo l ks w 0 (.slice (some ⟨w.heap.size, 0, none⟩) 0 ks.length) w1) := fun w1 g1 g2 => ⟨by simp [allIn], by simpa [rc] using g1, (Below.refl _ _).grown g2 (Nat.le_refl _) (fun k e => by cases e)⟩
  clear ha hb
  go_enter Tryz.func32, Tryz.ntmps32
  go_wp2_with (first | (at_make; refine wpList_make_own _ rfl _ _ 33 rfl w.heap.size 56 i0 (.agg #[.int .i64 0, .int .i64 0, .string ⟨#[]⟩]) 3 Tryz.underlying33 hi hz0 hz1 .i64 .i64 _ ks.length rfl rfl rfl (by rw [hz2]; omega) (by unfold maxLen; omega) (Nat.le_refl _) ?_; intro w1 hown1 hg1; have hs1 := H0.out _ hown1 hg1; clear hown1 hg1) | fail)
  go_loopw [6, 14] (fun v i wr => ∃ j : Nat, j ≤ ks.length ∧ i = .int .i64 j ∧ PickTo l ks w j v wr) (fun _ i _ => ks.length - (intOf i).toNat)
  case atStart => exact ⟨0, by omega, rfl, hs1⟩
  case round =>
    obtain ⟨j, hj, rfl, hso⟩ := hrel
    clear hs1
    by_cases hlt : j < ks.length
    · obtain ⟨h1, h2, h3⟩ := hso
      have I1 : (j : Int) < (ks.length : Int) := by omega
      obtain ⟨b, o, rfl, hk⟩ := (Hb.out.on h3).at0 j hlt
      have HN : Hid (inR l ks[j] = false → allIn l ks = false) := allIn_not hlt
      have HY : Hid (inR l ks[j] = true → allIn l (ks.take (j + 1)) = true) := fun h => by rw [allIn_snoc hlt, h1, h]; rfl
      have HM : Hid ((ks.take (j + 1)).map (atV l) = (ks.take j).map (atV l) ++ [atV l ks[j]]) := map_snoc hlt
      have HO : Hid (wr.ownsRow w.heap.size 56 3 u6 j (rc ((ks.take j).map (atV l)))) := h2
      generalize ks[j] = k at *
      clear h1 h2
      by_cases k0 : k < 0
      · have hi0 : inR l k = false := by unfold inR; simp <;> omega
        have e1 := HN.out hi0
        have RN : Hid (pk l ks = []) := by show _ = _; unfold pk; rw [e1]; rfl
        have E1 : Hid (allIn l ks = false) := e1
        clear e1 hi0
        go_wp2_with fail
        go_ret2
        refine ⟨.slice none 0 0, ?_, ?_, h3⟩
        · rw [E1.out]; rfl
        · rw [RN.out]; exact World.ownsRow_nil _ _ _ _
      · by_cases k1 : k < (l.length : Int)
        · have hkl : k.toNat < l.length := by omega
          have hi1 : inR l k = true := by unfold inR; simp <;> omega
          obtain ⟨b1, o1, rfl, X⟩ := (Ha.out.on h3).at k.toNat hkl
          have X' : wr.cell? ⟨b1, o1 + k.toNat * 3, none⟩ = some (.int .i64 (atV l k).1) ∧ wr.cell? ⟨b1, o1 + k.toNat * 3 + 1, none⟩ = some (.int .i64 (atV l k).2.1) ∧ wr.cell? ⟨b1, o1 + k.toNat * 3 + 2, none⟩ = some (.string (atV l k).2.2) := by rw [atV_eq hkl]; exact ⟨X.1, X.2.1, X.2.2.1⟩
          obtain ⟨x1, x2, x3⟩ := X'
          clear X
          have I4 : 0 ≤ k := by omega
          have hz := h3.size
          have hrow := fun g hg => (HO.out.lt g hg).1
          have F : Hid (∀ v2 w2, w2.ownsRow w.heap.size 56 3 v2 (j + 1) (rc ((ks.take j).map (atV l)) ++ vc (atV l k)) → (wr.alloc (.cells #[.int .i64 (atV l k).1, .int .i64 (atV l k).2.1, .string (atV l k).2.2] 56)).grownBy w2 (Value.ownBlock u6) → PickTo l ks w (j + 1) v2 w2) := by
            intro v2 w2 g1 g2
            refine ⟨HY.out hi1, ?_, ?_⟩
            · rw [HM.out, rc_snoc]; exact g1
            · exact (h3.alloc hz _).grown g2 (by simp; omega) hrow
          generalize atV l k = x at *
          clear hi1 hrow
          go_wp2_with (first | (at_builtin; refine wpList_append_own _ rfl _ _ 33 rfl w.heap.size 56 i0 (.agg #[.int .i64 0, .int .i64 0, .string ⟨#[]⟩]) 3 32 Tryz.underlying33 hi hz0 hz1 hz2 rfl (by decide) _ j (rc ((ks.take j).map (atV l))) rfl (HO.out.alloc _) ⟨wr.heap.size, 0, none⟩ 1 1 (vc x) rfl rfl (cell_three_new _ _ _ _ _) (by simp [vc, Value.oneCell']) (by unfold maxLen; omega) (by omega) (by simp; omega) ?_; intro v2 w2 hown2 hg2 _; have hso2 := F.out _ _ hown2 hg2; clear hown2 hg2) | go_in)
          go_roundw
          case rel => exact ⟨j + 1, by omega, by go_num, hso2⟩
          case measure => simp [intOf]; omega
        · have hi0 : inR l k = false := by unfold inR; simp <;> omega
          have e1 := HN.out hi0
          have RN : Hid (pk l ks = []) := by show _ = _; unfold pk; rw [e1]; rfl
          have E1 : Hid (allIn l ks = false) := e1
          have I3 : (l.length : Int) ≤ k := by omega
          clear e1 hi0
          go_wp2_with fail
          go_ret2
          refine ⟨.slice none 0 0, ?_, ?_, h3⟩
          · rw [E1.out]; rfl
          · rw [RN.out]; exact World.ownsRow_nil _ _ _ _
    · obtain rfl : j = ks.length := by omega
      obtain ⟨h1, h2, h3⟩ := hso
      rw [List.take_length] at h1 h2
      have E1 : Hid (allIn l ks = true) := h1
      have HR : Hid (wr.ownsRow w.heap.size 56 3 u6 (pk l ks).length (rc (pk l ks))) := by
        show wr.ownsRow _ _ _ _ _ _
        unfold pk; rw [h1]; simp only [if_true]
        simpa using h2
      clear h1 h2
      go_wp2_with fail
      go_ret2
      refine ⟨u6, ?_, HR.out, h3⟩
      rw [E1.out]; rfl
/-- What it answers is the call's own. -/
theorem rowPickO (l : List Val) (ks : List Int) (va vb : Value) (w : World) (hn : ks.length ≤ 65536) (ha : RowIs w va l) (hb : IntsIs w vb ks) :
    Calls Tryz.prog 32 #[va, vb] w fun e w' => ∃ v, e = .returned (.tuple #[v, .bool (allIn l ks)]) ∧ w'.ownsRow w.heap.size 56 3 v (pk l ks).length (rc (pk l ks)) ∧ Below w.heap.size w w' := by
  obtain ⟨a0, cap0, rfl⟩ := ha.form
  obtain ⟨b0, cap, rfl⟩ := hb.form
  exact rowPick_at l ks a0 b0 cap0 cap w hn ha hb
theorem rowPick (l : List Val) (ks : List Int) (va vb : Value) (w : World) (hn : ks.length ≤ 65536) (ha : RowIs w va l) (hb : IntsIs w vb ks) :
    Calls Tryz.prog 32 #[va, vb] w fun e w' => ∃ v, e = .returned (.tuple #[v, .bool (allIn l ks)]) ∧ RowIs w' v (pk l ks) ∧ Below w.heap.size w w' := by
  refine (rowPickO l ks va vb w hn ha hb).mono ?_
  rintro e w' ⟨v, rfl, h1, h2⟩
  exact ⟨v, rfl, RowIs.of_own h1, h2⟩
end Go.Proofs.YtglbipnppldkmaaGreatDoor
/- Rows by a key, plainly: which keys there are, and what stands under each. -/
namespace Go.Proofs.YtglbipnppldkmaaGreatDoor
open Go.RowKit
set_option maxRecDepth 100000
/-- Is that the entry's key? -/
def kP (ks : List Int) (k : List Val) (e : Ent) : Bool := decide (cR (pk e.1 ks) k = 0)
theorem kP_iff {ks : List Int} {k : List Val} {e : Ent} : kP ks k e = true ↔ pk e.1 ks = k := by unfold kP; rw [decide_eq_true_eq, cR_zero]
/-- What stands under a key. -/
def under (ks : List Int) (k : List Val) (A : List Ent) : List Ent := A.filter (kP ks k)
/-- Each key that has entries, once, in order. -/
def KeysOf (ks : List Int) (A : List Ent) (K : List (List Val)) : Prop := K.Pairwise (fun a b => cR a b < 0) ∧ ∀ r, r ∈ K ↔ ∃ e ∈ A, pk e.1 ks = r
theorem sorted_uniq : ∀ {K K' : List (List Val)}, K.Pairwise (fun a b => cR a b < 0) → K'.Pairwise (fun a b => cR a b < 0) → (∀ r, r ∈ K ↔ r ∈ K') → K = K'
  | [], [], _, _, _ => rfl
  | [], b :: K', _, _, h => absurd ((h b).2 (by simp)) (by simp)
  | a :: K, [], _, _, h => absurd ((h a).1 (by simp)) (by simp)
  | a :: K, b :: K', h1, h2, h => by
    rw [List.pairwise_cons] at h1 h2
    have e : a = b := by
      rcases List.mem_cons.1 ((h a).1 (by simp)) with e | e
      · exact e
      · rcases List.mem_cons.1 ((h b).2 (by simp)) with e' | e'
        · exact e'.symm
        · have g1 := h2.1 a e
          have g2 := h1.1 b e'
          have := cR_anti a b
          omega
    subst e
    rw [sorted_uniq h1.2 h2.2 (fun r => ?_)]
    constructor
    · intro hr
      rcases List.mem_cons.1 ((h r).1 (List.mem_cons_of_mem _ hr)) with e | e
      · have := h1.1 r hr; rw [e, cR_self] at this; omega
      · exact e
    · intro hr
      rcases List.mem_cons.1 ((h r).2 (List.mem_cons_of_mem _ hr)) with e | e
      · have := h2.1 r hr; rw [e, cR_self] at this; omega
      · exact e
theorem KeysOf.uniq {ks : List Int} {A : List Ent} {K K' : List (List Val)} (h : KeysOf ks A K) (h' : KeysOf ks A K') : K = K' :=
  sorted_uniq h.1 h'.1 (fun r => (h.2 r).trans (h'.2 r).symm)
theorem KeysOf.nil (ks : List Int) : KeysOf ks [] [] := ⟨List.Pairwise.nil, fun r => by simp⟩
/-- One entry more, whose key is there. -/
theorem KeysOf.has {ks : List Int} {A : List Ent} {K : List (List Val)} (h : KeysOf ks A K) (e : Ent) (hk : pk e.1 ks ∈ K) : KeysOf ks (A ++ [e]) K := by
  refine ⟨h.1, fun r => ?_⟩
  constructor
  · intro hr
    obtain ⟨x, hx, e⟩ := (h.2 r).1 hr
    exact ⟨x, by simp [hx], e⟩
  · rintro ⟨x, hx, rfl⟩
    rcases List.mem_append.1 hx with hx | hx
    · exact (h.2 _).2 ⟨x, hx, rfl⟩
    · rw [List.mem_singleton.1 hx]; exact hk
/-- One entry more, whose key is not. -/
theorem KeysOf.ins {ks : List Int} {A : List Ent} {K : List (List Val)} (h : KeysOf ks A K) (e : Ent) (t : Nat) (h1 : ∀ i (hi : i < K.length), i < t → cR K[i] (pk e.1 ks) < 0) (h2 : ∀ i (hi : i < K.length), t ≤ i → 0 < cR K[i] (pk e.1 ks)) : KeysOf ks (A ++ [e]) (K.take t ++ [pk e.1 ks] ++ K.drop t) := by
  have m1 : ∀ a ∈ K.take t, cR a (pk e.1 ks) < 0 := fun a ha => by
    obtain ⟨i, hi, rfl⟩ := List.mem_iff_getElem.1 ha
    rw [List.length_take] at hi
    rw [List.getElem_take]; exact h1 i (by omega) (by omega)
  have m2 : ∀ a ∈ K.drop t, 0 < cR a (pk e.1 ks) := fun a ha => by
    obtain ⟨i, hi, rfl⟩ := List.mem_iff_getElem.1 ha
    rw [List.length_drop] at hi
    rw [List.getElem_drop]; exact h2 (t + i) (by omega) (by omega)
  have hp := h.1
  rw [← List.take_append_drop t K, List.pairwise_append] at hp
  refine ⟨?_, fun r => ?_⟩
  · rw [List.pairwise_append, List.pairwise_append]
    refine ⟨⟨hp.1, by simp, fun a ha b hb => by rw [List.mem_singleton.1 hb]; exact m1 a ha⟩, hp.2.1, fun a ha b hb => ?_⟩
    rcases List.mem_append.1 ha with ha | ha
    · exact hp.2.2 a ha b hb
    · rw [List.mem_singleton.1 ha]
      have := m2 b hb; have := cR_anti b (pk e.1 ks); omega
  · rw [List.append_assoc, List.mem_append, List.mem_append, List.mem_singleton]
    have hm : r ∈ K ↔ r ∈ K.take t ∨ r ∈ K.drop t := by rw [← List.mem_append, List.take_append_drop]
    constructor
    · intro hr
      rcases hr with hr | rfl | hr
      · obtain ⟨x, hx, e⟩ := (h.2 r).1 (hm.2 (.inl hr)); exact ⟨x, by simp [hx], e⟩
      · exact ⟨e, by simp, rfl⟩
      · obtain ⟨x, hx, e⟩ := (h.2 r).1 (hm.2 (.inr hr)); exact ⟨x, by simp [hx], e⟩
    · rintro ⟨x, hx, rfl⟩
      rcases List.mem_append.1 hx with hx | hx
      · rcases hm.1 ((h.2 _).2 ⟨x, hx, rfl⟩) with g | g
        · exact .inl g
        · exact .inr (.inr g)
      · rw [List.mem_singleton.1 hx]; exact .inr (.inl rfl)
/-- In a sorted list what lies behind one that is not less is not less, and is greater where that one is. -/
theorem sorted_from {K : List (List Val)} (h : K.Pairwise (fun a b => cR a b < 0)) {r : List Val} {t : Nat} (ht : t < K.length) (h0 : 0 < cR K[t] r) : ∀ i (hi : i < K.length), t ≤ i → 0 < cR K[i] r := fun i hi hle => by
  by_cases e : i = t
  · subst e; exact h0
  · have h1 := List.pairwise_iff_getElem.1 h t i ht hi (by omega)
    have h2 := cR_anti K[t] r
    have h3 := cR_lt_trans (a := r) (b := K[t]) (c := K[i]) (by omega) h1
    have h4 := cR_anti r K[i]
    omega
/-- What stands under all keys together is all of it. -/
theorem under_all {ks : List Int} : ∀ {K : List (List Val)} {A : List Ent}, K.Pairwise (fun a b => cR a b < 0) → (∀ e ∈ A, pk e.1 ks ∈ K) → (K.flatMap fun k => under ks k A).Perm A
  | [], A, _, h => by
    have : A = [] := by
      cases A with
      | nil => rfl
      | cons e A => exact absurd (h e (by simp)) (by simp)
    subst this; exact List.Perm.nil
  | k :: K, A, h1, h => by
    rw [List.pairwise_cons] at h1
    rw [List.flatMap_cons]
    have h2 : (K.flatMap fun k' => under ks k' A) = K.flatMap fun k' => under ks k' (A.filter (fun e => !kP ks k e)) := by
      rw [List.flatMap_def, List.flatMap_def]
      congr 1
      apply List.map_congr_left
      intro k' hk'
      unfold under
      rw [List.filter_filter]
      apply List.filter_congr
      intro e _
      cases hp : kP ks k' e with
      | false => simp
      | true =>
        have e1 := kP_iff.1 hp
        have : kP ks k e = false := by
          cases hq : kP ks k e with
          | false => rfl
          | true =>
            have e2 := kP_iff.1 hq
            have := h1.1 k' hk'
            rw [← e1, ← e2, cR_self] at this; omega
        simp [this]
    rw [h2]
    have ih := under_all (ks := ks) (A := A.filter (fun e => !kP ks k e)) h1.2 (fun e he => by
      obtain ⟨he1, he2⟩ := List.mem_filter.1 he
      rcases List.mem_cons.1 (h e he1) with g | g
      · have : kP ks k e = true := kP_iff.2 g
        rw [this] at he2; cases he2
      · exact g)
    exact (ih.append_left _).trans (List.filter_append_perm _ _)
theorem flat_ge {ks : List Int} {A : List Ent} : ∀ {K : List (List Val)}, (∀ k ∈ K, under ks k A ≠ []) → K.length ≤ (K.flatMap fun k => under ks k A).length
  | [], _ => by simp
  | k :: K, h => by
    rw [List.flatMap_cons, List.length_append, List.length_cons]
    have h1 := List.length_pos_iff.2 (h k (by simp))
    have h2 := flat_ge (K := K) (fun k hk => h k (List.mem_cons_of_mem _ hk))
    omega
theorem under_ne {ks : List Int} {A : List Ent} {K : List (List Val)} (h : KeysOf ks A K) : ∀ k ∈ K, under ks k A ≠ [] := fun k hk => by
  obtain ⟨e, he, hek⟩ := (h.2 k).1 hk
  exact List.ne_nil_of_mem (List.mem_filter.2 ⟨he, kP_iff.2 hek⟩)
/-- No more keys than entries, and none only of none. -/
theorem KeysOf.len {ks : List Int} {A : List Ent} {K : List (List Val)} (h : KeysOf ks A K) : K.length ≤ A.length ∧ (0 < K.length ↔ 0 < A.length) := by
  have h1 := flat_ge (under_ne h)
  have h2 := (under_all h.1 (fun e he => (h.2 _).2 ⟨e, he, rfl⟩)).length_eq
  refine ⟨by omega, fun _ => by omega, fun h0 => ?_⟩
  obtain ⟨e, he⟩ := List.exists_mem_of_length_pos h0
  exact List.length_pos_of_mem ((h.2 _).2 ⟨e, he, rfl⟩)
/-- One of two alike that stand side by side, as far as j. -/
def cpt {α : Type} (ps : List (α × List Val)) : Nat → List (α × List Val)
  | 0 => []
  | j + 1 => match ps[j]? with
    | none => cpt ps j
    | some x => if 0 < j ∧ (ps[j - 1]?).map (·.2) = some x.2 then cpt ps j else cpt ps j ++ [x]
theorem cpt_eq {α : Type} {ps : List (α × List Val)} {j : Nat} (h : j < ps.length) (h0 : 0 < j) (he : ps[j].2 = ps[j - 1].2) : cpt ps (j + 1) = cpt ps j := by
  simp only [cpt, List.getElem?_eq_getElem h]
  rw [if_pos ⟨h0, by rw [List.getElem?_eq_getElem (by omega)]; simp [he]⟩]
theorem cpt_ne {α : Type} {ps : List (α × List Val)} {j : Nat} (h : j < ps.length) (he : j = 0 ∨ ps[j].2 ≠ ps[j - 1].2) : cpt ps (j + 1) = cpt ps j ++ [ps[j]] := by
  simp only [cpt, List.getElem?_eq_getElem h]
  rw [if_neg]
  rintro ⟨h0, h1⟩
  rw [List.getElem?_eq_getElem (by omega)] at h1
  simp only [Option.map_some, Option.some.injEq] at h1
  rcases he with e | e
  · omega
  · exact e h1.symm
theorem cpt_len {α : Type} (ps : List (α × List Val)) : ∀ j, (cpt ps j).length ≤ j
  | 0 => by simp [cpt]
  | j + 1 => by
    have ih := cpt_len ps j
    simp only [cpt]
    split
    · omega
    · split
      · omega
      · simp; omega
theorem cpt_pos {α : Type} {ps : List (α × List Val)} : ∀ {j}, 0 < j → j ≤ ps.length → 0 < (cpt ps j).length
  | 0, h, _ => by omega
  | j + 1, _, h => by
    by_cases h0 : 0 < j
    · have ih := cpt_pos (ps := ps) h0 (by omega)
      simp only [cpt]
      split
      · exact ih
      · split
        · exact ih
        · simp
    · have : j = 0 := by omega
      subst this
      rw [cpt_ne (by omega) (.inl rfl)]; simp
theorem cpt_sub {α : Type} {ps : List (α × List Val)} : ∀ {j x}, x ∈ cpt ps j → x ∈ ps
  | 0, x, h => by simp [cpt] at h
  | j + 1, x, h => by
    simp only [cpt] at h
    split at h
    · exact cpt_sub h
    · rename_i y hy
      split at h
      · exact cpt_sub h
      · rcases List.mem_append.1 h with h | h
        · exact cpt_sub h
        · rw [List.mem_singleton.1 h]; exact List.mem_of_getElem? hy
/-- Of a sorted list: each once, in order. -/
theorem cpt_sorted {α : Type} {ps : List (α × List Val)} (hs : (ps.map (·.2)).Pairwise (fun a b => cR a b ≤ 0)) : ∀ {j}, j ≤ ps.length → ((cpt ps j).map (·.2)).Pairwise (fun a b => cR a b < 0) ∧ (∀ r, r ∈ (cpt ps j).map (·.2) ↔ r ∈ (ps.take j).map (·.2))
  | 0, _ => ⟨by simp [cpt], fun r => by simp [cpt]⟩
  | j + 1, hj => by
    obtain ⟨i1, i2⟩ := cpt_sorted hs (j := j) (by omega)
    have ht : (ps.take (j + 1)).map (·.2) = (ps.take j).map (·.2) ++ [ps[j].2] := by rw [List.take_succ_eq_append_getElem (by omega), List.map_append]; rfl
    by_cases he : j = 0 ∨ ps[j].2 ≠ ps[j - 1].2
    · rw [cpt_ne (by omega) he, List.map_append, ht]
      refine ⟨?_, fun r => by rw [List.mem_append, List.mem_append, i2 r]; simp⟩
      rw [List.pairwise_append]
      refine ⟨i1, by simp, fun a ha b hb => ?_⟩
      simp only [List.map_cons, List.map_nil, List.mem_singleton] at hb
      subst hb
      have hm := (i2 a).1 ha
      obtain ⟨x, hx, rfl⟩ := List.mem_map.1 hm
      obtain ⟨i, hi, rfl⟩ := List.mem_iff_getElem.1 hx
      rw [List.length_take] at hi
      rw [List.getElem_take]
      have hij : i < j := by omega
      have hg := List.pairwise_iff_getElem.1 hs
      have e1 := hg i (j - 1)
      have e2 := hg (j - 1) j (by rw [List.length_map]; omega) (by rw [List.length_map]; omega) (by omega)
      simp only [List.getElem_map] at e1 e2
      have hne : cR ps[j - 1].2 ps[j].2 ≠ 0 := fun e => by
        rcases he with e' | e'
        · omega
        · exact e' ((cR_zero _ _).1 e).symm
      by_cases hi' : i = j - 1
      · subst hi'; omega
      · have := e1 (by rw [List.length_map]; omega) (by rw [List.length_map]; omega) (by omega)
        by_cases h0 : cR ps[i].2 ps[j - 1].2 = 0
        · rw [(cR_zero _ _).1 h0]; omega
        · exact cR_lt_trans (b := ps[j - 1].2) (by omega) (by omega)
    · have h0 : 0 < j := by omega
      have h1 : ps[j].2 = ps[j - 1].2 := by
        by_cases e : ps[j].2 = ps[j - 1].2
        · exact e
        · exact absurd (.inr e) he
      rw [cpt_eq (by omega) h0 h1, ht]
      refine ⟨i1, fun r => ?_⟩
      rw [i2 r, List.mem_append, List.mem_singleton]
      constructor
      · exact .inl
      · rintro (h | rfl)
        · exact h
        · rw [h1]
          refine List.mem_map.2 ⟨ps[j - 1], ?_, rfl⟩
          rw [List.mem_take_iff_getElem]
          exact ⟨j - 1, by omega, rfl⟩
theorem cpt_all {α : Type} {ps : List (α × List Val)} : ∀ {j}, j ≤ ps.length → (∀ i (h : i < ps.length), 0 < i → i < j → ps[i].2 ≠ ps[i - 1].2) → cpt ps j = ps.take j
  | 0, _, _ => by simp [cpt]
  | j + 1, hj, h => by
    rw [cpt_ne (by omega) (by by_cases e : j = 0; exact .inl e; exact .inr (h j (by omega) (by omega) (by omega))), cpt_all (by omega) (fun i hi h0 h1 => h i hi h0 (by omega)), List.take_succ_eq_append_getElem (by omega)]
end Go.Proofs.YtglbipnppldkmaaGreatDoor
