/- What the document's own Pick answers of rows in memory. -/
import Derived.Test.YtiphnbpkliglcaaMakeRow
namespace Go.Proofs.Ytiphnbpkliglcaa
open Go.RowKit
set_option maxRecDepth 100000

/-- A slice that reads as these integers. -/
def IntsIs (w : World) (v : Value) (ks : List Int) : Prop :=
  (∃ a cap, v = .slice a 0 cap ∧ ks = []) ∨
  ∃ b o cap, v = .slice (some ⟨b, o, none⟩) ks.length cap ∧ ks.length ≤ cap ∧ cap ≤ maxLen ∧ b < w.heap.size ∧ ∀ i (h : i < ks.length), w.cell? ⟨b, o + i, none⟩ = some (.int .i64 ks[i])
theorem IntsIs.form {w : World} {v : Value} {l : List Int} (h : IntsIs w v l) : ∃ a cap, v = .slice a l.length cap := by
  rcases h with ⟨a, cap, rfl, rfl⟩ | ⟨b, o, cap, rfl, _⟩
  · exact ⟨a, cap, rfl⟩
  · exact ⟨_, cap, rfl⟩
theorem IntsIs.addr {w : World} {v : Value} {l : List Int} (h : IntsIs w v l) (hl : l ≠ []) : ∃ b o cap, v = .slice (some ⟨b, o, none⟩) l.length cap := by
  rcases h with ⟨_, _, _, e⟩ | ⟨b, o, cap, e, _⟩
  · exact absurd e hl
  · exact ⟨b, o, cap, e⟩
theorem IntsIs.le {w : World} {v : Value} {l : List Int} (h : IntsIs w v l) : l.length ≤ maxLen := by
  rcases h with ⟨_, _, _, rfl⟩ | ⟨b, o, cap, rfl, h1, h2, _⟩
  · exact Nat.zero_le _
  · omega
theorem IntsIs.on {w w' : World} {v : Value} {l : List Int} (h : IntsIs w v l) (hb : Below w.heap.size w w') : IntsIs w' v l := by
  rcases h with h | ⟨b, o, cap, rfl, h1, h2, h3, h4⟩
  · exact .inl h
  · exact .inr ⟨b, o, cap, rfl, h1, h2, Nat.lt_of_lt_of_le h3 hb.size, fun i hi => by rw [hb.cell (p := ⟨b, o + i, none⟩) h3]; exact h4 i hi⟩
theorem IntsIs.at {w : World} {b o n cap : Nat} {l : List Int} (h : IntsIs w (.slice (some ⟨b, o, none⟩) n cap) l) (i : Nat) (hi : i < l.length) : w.cell? ⟨b, o + i, none⟩ = some (.int .i64 l[i]) := by
  rcases h with ⟨_, _, _, rfl⟩ | ⟨b', o', cap', e, _, _, h3, h4⟩
  · simp at hi
  · simp only [Value.slice.injEq, Option.some.injEq, Addr.mk.injEq, and_true] at e
    obtain ⟨⟨rfl, rfl⟩, _⟩ := e
    exact h4 i hi
theorem IntsIs.of_row {w : World} {a : Option Addr} {len cap : Nat} {zs : List Int} (h : IsRow .i64 w a len cap zs) : IntsIs w (.slice a len cap) (zs.take len) := by
  rcases h with ⟨rfl, rfl, rfl, rfl⟩ | ⟨x, rfl, h1, h2, h3, h4, h5⟩
  · exact .inl ⟨none, 0, rfl, rfl⟩
  · by_cases e : len = 0
    · subst e; exact .inl ⟨_, _, rfl, by simp⟩
    · obtain ⟨b, o, spot⟩ := x
      have hspot : spot = none := by simpa [Addr.add] using World.cell?_spot (h4 0 (by omega))
      subst hspot
      have hl : (zs.take len).length = len := by simp; omega
      refine .inr ⟨b, o, cap, by rw [hl], by omega, h2, World.block_lt_of_cell? _ _ (h4 0 (by omega)), fun i hi => ?_⟩
      have := h4 i (by omega)
      rw [add_plain] at this
      rw [this]; simp only [hl] at hi
      simp [List.getD, show i < zs.length by omega]

/-- Is each a column? The columns that are picked. -/
def inR (l : List Val) (k : Int) : Bool := decide (0 ≤ k) && decide (k < (l.length : Int))
def allIn (l : List Val) (ks : List Int) : Bool := ks.all (inR l)
def atV (l : List Val) (k : Int) : Val := l.getD k.toNat (0, 0, ⟨#[]⟩)
def pk (l : List Val) (ks : List Int) : List Val := if allIn l ks then ks.map (atV l) else []
/-- How far a pick has come. -/
def PickTo (l : List Val) (ks : List Int) (w : World) (j : Nat) (v : Value) (wr : World) : Prop :=
  allIn l (ks.take j) = true ∧ wr.ownsRow w.heap.size 28 3 v j (rc ((ks.take j).map (atV l))) ∧ Below w.heap.size w wr
theorem allIn_snoc {l : List Val} {ks : List Int} {j : Nat} (h : j < ks.length) : allIn l (ks.take (j + 1)) = (allIn l (ks.take j) && inR l ks[j]) := by
  unfold allIn; rw [List.take_succ_eq_append_getElem h, List.all_append]; simp
theorem allIn_not {l : List Val} {ks : List Int} {j : Nat} (h : j < ks.length) (h' : inR l ks[j] = false) : allIn l ks = false := by
  unfold allIn; rw [List.all_eq_false]; exact ⟨ks[j], List.getElem_mem h, by simp [h']⟩
theorem map_snoc {l : List Val} {ks : List Int} {j : Nat} (h : j < ks.length) : (ks.take (j + 1)).map (atV l) = (ks.take j).map (atV l) ++ [atV l ks[j]] := by
  rw [List.take_succ_eq_append_getElem h, List.map_append]; rfl
theorem atV_eq {l : List Val} {k : Int} (h : k.toNat < l.length) : atV l k = l[k.toNat] := by simp [atV, List.getD, h]

set_option maxHeartbeats 2000000 in
theorem refPick_some (l : List Val) (ks : List Int) (b1 o1 cap0 b o cap : Nat) (w : World) (hn : ks.length ≤ 4294967296) (ha : RowIs w (.slice (some ⟨b1, o1, none⟩) l.length cap0) l) (hb : IntsIs w (.slice (some ⟨b, o, none⟩) ks.length cap) ks) :
    Calls Try.prog 10 #[.slice (some ⟨b1, o1, none⟩) l.length cap0, .slice (some ⟨b, o, none⟩) ks.length cap] w fun e w' => ∃ v, e = .returned (.tuple #[v, .bool (allIn l ks)]) ∧ w'.ownsRow w.heap.size 28 3 v (pk l ks).length (rc (pk l ks)) ∧ Below w.heap.size w w' := by
  have la := ha.le
  unfold maxLen at la
  obtain ⟨i0, hi, hz0, hz1, hz2⟩ := info_parts info_value
  have Ha : Hid (RowIs w (.slice (some ⟨b1, o1, none⟩) l.length cap0) l) := ha
  have Hb : Hid (IntsIs w (.slice (some ⟨b, o, none⟩) ks.length cap) ks) := hb
  have H0 : Hid (PickTo l ks w 0 (.slice none 0 0) w) := ⟨by simp [allIn], World.ownsRow_nil _ _ _ _, Below.refl _ _⟩
  clear ha hb
  go_enter Try.func10, Try.ntmps10
  go_wp2_with fail
  go_loopw [6, 7] (fun v i wr => ∃ j : Nat, j ≤ ks.length ∧ i = .int .i64 j ∧ PickTo l ks w j v wr) (fun _ i _ => ks.length - (intOf i).toNat)
  case atStart => exact ⟨0, by omega, rfl, H0.out⟩
  case round =>
    obtain ⟨j, hj, rfl, hso⟩ := hrel
    by_cases hlt : j < ks.length
    · obtain ⟨h1, h2, h3⟩ := hso
      have I1 : (j : Int) < (ks.length : Int) := by omega
      have hk := (Hb.out.on h3).at j hlt
      have HN : Hid (inR l ks[j] = false → allIn l ks = false) := allIn_not hlt
      have HY : Hid (inR l ks[j] = true → allIn l (ks.take (j + 1)) = true) := fun h => by rw [allIn_snoc hlt, h1, h]; rfl
      have HM : Hid ((ks.take (j + 1)).map (atV l) = (ks.take j).map (atV l) ++ [atV l ks[j]]) := map_snoc hlt
      have HO : Hid (wr.ownsRow w.heap.size 28 3 u6 j (rc ((ks.take j).map (atV l)))) := h2
      generalize ks[j] = k at *
      clear h1 h2
      by_cases k0 : k < 0
      · have hi0 : inR l k = false := by unfold inR; simp <;> omega
        have e1 := HN.out hi0
        have RN : Hid (pk l ks = []) := by show _ = _; unfold pk; rw [e1]; rfl
        have E1 : Hid (allIn l ks = false) := e1
        clear e1 hi0
        go_wp2_with fail
        go_ret2
        refine ⟨.slice none 0 0, ?_, ?_, h3⟩
        · rw [E1.out]; rfl
        · rw [RN.out]; exact World.ownsRow_nil _ _ _ _
      · by_cases k1 : k < (l.length : Int)
        · have hkl : k.toNat < l.length := by omega
          have hi1 : inR l k = true := by unfold inR; simp <;> omega
          have X := (Ha.out.on h3).at' k.toNat hkl
          have X' : wr.cell? ⟨b1, o1 + k.toNat * 3, none⟩ = some (.int .i64 (atV l k).1) ∧ wr.cell? ⟨b1, o1 + k.toNat * 3 + 1, none⟩ = some (.int .i64 (atV l k).2.1) ∧ wr.cell? ⟨b1, o1 + k.toNat * 3 + 2, none⟩ = some (.string (atV l k).2.2) := by rw [atV_eq hkl]; exact X
          obtain ⟨x1, x2, x3⟩ := X'
          clear X
          have I4 : 0 ≤ k := by omega
          have hz := h3.size
          have hrow := fun g hg => (HO.out.lt g hg).1
          have F : Hid (∀ v2 w2, w2.ownsRow w.heap.size 28 3 v2 (j + 1) (rc ((ks.take j).map (atV l)) ++ vc (atV l k)) → (wr.alloc (.cells #[.int .i64 (atV l k).1, .int .i64 (atV l k).2.1, .string (atV l k).2.2] 28)).grownBy w2 (Value.ownBlock u6) → PickTo l ks w (j + 1) v2 w2) := by
            intro v2 w2 g1 g2
            refine ⟨HY.out hi1, ?_, ?_⟩
            · rw [HM.out, rc_snoc]; exact g1
            · exact (h3.alloc hz _).grown g2 (by simp; omega) hrow
          generalize atV l k = x at *
          clear hi1 hrow
          go_wp2_with (first | (at_builtin; refine wpList_append_own _ rfl _ _ 34 rfl w.heap.size 28 i0 (.agg #[.int .i64 0, .int .i64 0, .string ⟨#[]⟩]) 3 32 Try.underlying34 hi hz0 hz1 hz2 rfl (by decide) _ j (rc ((ks.take j).map (atV l))) rfl (HO.out.alloc _) ⟨wr.heap.size, 0, none⟩ 1 1 (vc x) rfl rfl (cell_three_new _ _ _ _ _) (by simp [vc, Value.oneCell']) (by unfold maxLen; omega) (by omega) (by simp; omega) ?_; intro v2 w2 hown2 hg2 _; have hso2 := F.out _ _ hown2 hg2; clear hown2 hg2) | go_in)
          go_roundw
          case rel => exact ⟨j + 1, by omega, by go_num, hso2⟩
          case measure => simp [intOf]; omega
        · have hi0 : inR l k = false := by unfold inR; simp <;> omega
          have e1 := HN.out hi0
          have RN : Hid (pk l ks = []) := by show _ = _; unfold pk; rw [e1]; rfl
          have E1 : Hid (allIn l ks = false) := e1
          have I3 : (l.length : Int) ≤ k := by omega
          clear e1 hi0
          go_wp2_with fail
          go_ret2
          refine ⟨.slice none 0 0, ?_, ?_, h3⟩
          · rw [E1.out]; rfl
          · rw [RN.out]; exact World.ownsRow_nil _ _ _ _
    · obtain rfl : j = ks.length := by omega
      obtain ⟨h1, h2, h3⟩ := hso
      rw [List.take_length] at h1 h2
      have E1 : Hid (allIn l ks = true) := h1
      have HR : Hid (wr.ownsRow w.heap.size 28 3 u6 (pk l ks).length (rc (pk l ks))) := by
        show wr.ownsRow _ _ _ _ _ _
        unfold pk; rw [h1]; simp only [if_true]
        simpa using h2
      clear h1 h2
      go_wp2_with fail
      go_ret2
      refine ⟨u6, ?_, HR.out, h3⟩
      rw [E1.out]; rfl

set_option maxHeartbeats 2000000 in
theorem refPick_empty (a0 : Option Addr) (cap0 : Nat) (ks : List Int) (b o cap : Nat) (w : World) (hn : ks.length ≤ 4294967296) (hb : IntsIs w (.slice (some ⟨b, o, none⟩) ks.length cap) ks) :
    Calls Try.prog 10 #[.slice a0 0 cap0, .slice (some ⟨b, o, none⟩) ks.length cap] w fun e w' => ∃ v, e = .returned (.tuple #[v, .bool (allIn ([] : List Val) ks)]) ∧ w'.ownsRow w.heap.size 28 3 v (pk ([] : List Val) ks).length (rc (pk ([] : List Val) ks)) ∧ Below w.heap.size w w' := by
  obtain ⟨i0, hi, hz0, hz1, hz2⟩ := info_parts info_value
  have Hb : Hid (IntsIs w (.slice (some ⟨b, o, none⟩) ks.length cap) ks) := hb
  have H0 : Hid (PickTo ([] : List Val) ks w 0 (.slice none 0 0) w) := ⟨by simp [allIn], World.ownsRow_nil _ _ _ _, Below.refl _ _⟩
  clear hb
  go_enter Try.func10, Try.ntmps10
  go_wp2_with fail
  go_loopw [6, 7] (fun v i wr => ∃ j : Nat, j ≤ ks.length ∧ i = .int .i64 j ∧ PickTo ([] : List Val) ks w j v wr) (fun _ i _ => ks.length - (intOf i).toNat)
  case atStart => exact ⟨0, by omega, rfl, H0.out⟩
  case round =>
    obtain ⟨j, hj, rfl, hso⟩ := hrel
    by_cases hlt : j < ks.length
    · obtain ⟨h1, h2, h3⟩ := hso
      have I1 : (j : Int) < (ks.length : Int) := by omega
      have hk := (Hb.out.on h3).at j hlt
      have HN : Hid (inR ([] : List Val) ks[j] = false → allIn ([] : List Val) ks = false) := allIn_not hlt
      have HY : Hid (inR ([] : List Val) ks[j] = true → allIn ([] : List Val) (ks.take (j + 1)) = true) := fun h => by rw [allIn_snoc hlt, h1, h]; rfl
      have HM : Hid ((ks.take (j + 1)).map (atV ([] : List Val)) = (ks.take j).map (atV ([] : List Val)) ++ [atV ([] : List Val) ks[j]]) := map_snoc hlt
      have HO : Hid (wr.ownsRow w.heap.size 28 3 u6 j (rc ((ks.take j).map (atV ([] : List Val))))) := h2
      generalize ks[j] = k at *
      clear h1 h2
      by_cases k0 : k < 0
      · have hi0 : inR ([] : List Val) k = false := by unfold inR; simp <;> omega
        have e1 := HN.out hi0
        have RN : Hid (pk ([] : List Val) ks = []) := by show _ = _; unfold pk; rw [e1]; rfl
        have E1 : Hid (allIn ([] : List Val) ks = false) := e1
        clear e1 hi0
        go_wp2_with fail
        go_ret2
        refine ⟨.slice none 0 0, ?_, ?_, h3⟩
        · rw [E1.out]; rfl
        · rw [RN.out]; exact World.ownsRow_nil _ _ _ _
      · by_cases k1 : k < 0
        · omega
        · have hi0 : inR ([] : List Val) k = false := by unfold inR; simp <;> omega
          have e1 := HN.out hi0
          have RN : Hid (pk ([] : List Val) ks = []) := by show _ = _; unfold pk; rw [e1]; rfl
          have E1 : Hid (allIn ([] : List Val) ks = false) := e1
          have I3 : 0 ≤ k := by omega
          clear e1 hi0
          go_wp2_with fail
          go_ret2
          refine ⟨.slice none 0 0, ?_, ?_, h3⟩
          · rw [E1.out]; rfl
          · rw [RN.out]; exact World.ownsRow_nil _ _ _ _
    · obtain rfl : j = ks.length := by omega
      obtain ⟨h1, h2, h3⟩ := hso
      rw [List.take_length] at h1 h2
      have E1 : Hid (allIn ([] : List Val) ks = true) := h1
      have HR : Hid (wr.ownsRow w.heap.size 28 3 u6 (pk ([] : List Val) ks).length (rc (pk ([] : List Val) ks))) := by
        show wr.ownsRow _ _ _ _ _ _
        unfold pk; rw [h1]; simp only [if_true]
        simpa using h2
      clear h1 h2
      go_wp2_with fail
      go_ret2
      refine ⟨u6, ?_, HR.out, h3⟩
      rw [E1.out]; rfl

set_option maxHeartbeats 1000000 in
theorem refPick_none (a0 : Option Addr) (n cap0 : Nat) (b0 : Option Addr) (cap : Nat) (w : World) :
    Calls Try.prog 10 #[.slice a0 n cap0, .slice b0 0 cap] w fun e w' => e = .returned (.tuple #[.slice none 0 0, .bool true]) ∧ w' = w := by
  go_enter Try.func10, Try.ntmps10
  go_wp2_with fail
  go_loopw [6, 7] (fun v i wr => v = .slice none 0 0 ∧ i = .int .i64 0 ∧ wr = w) (fun _ _ _ => 0)
  case atStart => exact ⟨rfl, rfl, rfl⟩
  case round =>
    obtain ⟨rfl, rfl, rfl⟩ := hrel
    go_wp2_with fail
    go_ret2
    exact ⟨rfl, rfl⟩

/-- The document's Pick; what it answers is the call's own. -/
theorem refPickO (l : List Val) (ks : List Int) (va vb : Value) (w : World) (hn : ks.length ≤ 4294967296) (ha : RowIs w va l) (hb : IntsIs w vb ks) :
    Calls Try.prog 10 #[va, vb] w fun e w' => ∃ v, e = .returned (.tuple #[v, .bool (allIn l ks)]) ∧ w'.ownsRow w.heap.size 28 3 v (pk l ks).length (rc (pk l ks)) ∧ Below w.heap.size w w' := by
  obtain ⟨a0, cap0, ea⟩ := ha.form
  by_cases hk : ks = []
  · subst hk
    obtain ⟨b0, cap, eb⟩ := hb.form
    subst ea eb
    refine (refPick_none a0 l.length cap0 b0 cap w).mono ?_
    rintro e w' ⟨rfl, rfl⟩
    exact ⟨_, rfl, World.ownsRow_nil _ _ _ _, Below.refl _ _⟩
  · obtain ⟨b, o, cap, rfl⟩ := hb.addr hk
    by_cases hl : l = []
    · subst hl; subst ea
      exact refPick_empty a0 cap0 ks b o cap w hn hb
    · obtain ⟨b1, o1, cap1, rfl⟩ := ha.addr hl
      exact refPick_some l ks b1 o1 cap1 b o cap w hn ha hb
/-- The document's Pick. -/
theorem refPick (l : List Val) (ks : List Int) (va vb : Value) (w : World) (hn : ks.length ≤ 4294967296) (ha : RowIs w va l) (hb : IntsIs w vb ks) :
    Calls Try.prog 10 #[va, vb] w fun e w' => ∃ v, e = .returned (.tuple #[v, .bool (allIn l ks)]) ∧ RowIs w' v (pk l ks) ∧ Below w.heap.size w w' := by
  refine (refPickO l ks va vb w hn ha hb).mono ?_
  rintro e w' ⟨v, rfl, h1, h2⟩
  exact ⟨v, rfl, RowIs.of_own h1, h2⟩
end Go.Proofs.Ytiphnbpkliglcaa
