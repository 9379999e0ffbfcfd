/- What a spine's end answers, no list behind. -/
import Derived.Test.YtglbipnppldkmaaGreatDoorPackTurnB
namespace Go.Proofs.YtglbipnppldkmaaGreatDoor
open Go.RowKit Go.Sort
set_option maxRecDepth 100000
set_option maxHeartbeats 8000000 in
theorem spEnd1 (F : Nat → Prop) (sb : Sb) (A : List Ent) (n m mb many : Nat) (f : Int) (w : World) (R : World) (X : List QEnt) (bb cb ab cap : Nat) (sv : Value) (us : List VEnt) (S : List Ent)
    (h1 : SpAt R sb (.slice (some ⟨bb, 0, none⟩) n cb) (.pointer (some ⟨mb, 0, none⟩)) X w) (h2 : Foot R F sb (.slice (some ⟨bb, 0, none⟩) n cb) w) (h3 : X.length = n) (h4 : (flat X).length = m) (h5 : okZ (flat X) = true) (h6 : mkZ (flat X) = A)
    (g2 : MgAt R mb ab cap many sv us S [] w) (g5 : ∀ k, sv.ownBlock = some k → F k) (g7 : MgSum (flat (X.take many)) S []) (g9 : 1 ≤ many) (g10 : many ≤ X.length) (g11 : ∀ r, inI (wt r (flat (X.take many))) = true) (hm : m ≤ 30000) (hc : cb = many) :
    Calls Tryz.prog 83 #[.pointer (some ⟨sb.b, 1, none⟩), .int .i64 f] w fun e w' => e = .returned (.int .i64 0) ∧ EndIs F sb A n m many w w' := by
  obtain ⟨i0, hi0, hz0, hz1, hz2⟩ := info_parts info_list
  have c0 := h1.c0
  have c1 := h1.c1
  have hmb := g2.1.1.mg
  obtain ⟨az, cz, e0⟩ := own_form g2.2.2.1
  have d0 : w.cell? ⟨mb, 0, none⟩ = some (.int .i64 many) := by simp [World.cell?, hmb]
  have d2 : w.cell? ⟨mb, 2, none⟩ = some (.slice az us.length cz) := by simp [World.cell?, hmb, e0]
  have hcap : n ≤ cb ∧ cb ≤ maxLen := by
    rcases h1.2.1.2 with ⟨e, _⟩ | ⟨g', cp, cur, e, _, k2, k3, k4, k5, k6⟩
    · cases e
    · simp only [Value.slice.injEq] at e
      rw [e.2.2]; exact ⟨by omega, k4⟩
  have hmn : many ≤ n := by omega
  have hXl := h1.2.2.2.2.2.2
  obtain ⟨s, hs⟩ : ∃ s : List Value, s = if us.length = 0 then [] else [.slice az us.length cz] := ⟨_, rfl⟩
  have hsl : s.length ≤ 1 := by rw [hs]; split <;> simp
  have HQ : Hid (∀ w', Calls Tryz.prog 57 #[.slice none 0 0, .slice az us.length cz] w' fun e w'' => ∃ v, e = .returned v ∧ PutN w' s v w'') := fun w' => spPutN az us.length cz w' s hs
  have HC : Hid (∀ w', Below w.heap.size w w' → w'.cell? ⟨sb.b, 1, none⟩ = some (.slice (some ⟨bb, 0, none⟩) n cb) ∧ w'.cell? ⟨sb.b, 2, none⟩ = some (.pointer (some ⟨mb, 0, none⟩)) ∧ w'.cell? ⟨mb, 0, none⟩ = some (.int .i64 many) ∧ w'.cell? ⟨mb, 2, none⟩ = some (.slice az us.length cz)) := fun w' hB => ⟨cell_on c0 hB, cell_on c1 hB, cell_on d0 hB, cell_on d2 hB⟩
  have HB : Hid (∀ (w0 w1 : World) (v : Value), Below w.heap.size w w0 → PutN w0 s v w1 → Below w.heap.size w w1 ∧ w1.ownsRow 0 29 1 v s.length s ∧ ∀ k, v.ownBlock = some k → w.heap.size ≤ k) := fun w0 w1 v hB hp =>
    ⟨hB.grown hp.2.1 hB.size (fun k e => (by cases e)), hp.1, fun k e => Nat.le_trans hB.size (hp.2.2 k e)⟩
  have HF : Hid (∀ (w1 w4 : World) (v v2 : Value), Below w.heap.size w w1 → (∀ k, v.ownBlock = some k → w.heap.size ≤ k) → w4.ownsRow 0 29 1 v2 (s.length + 0) (s ++ []) → w1.grownBy w4 v.ownBlock → (v2.ownBlock = v.ownBlock ∨ v2.ownBlock = some w1.heap.size) → (w4.cell? ⟨sb.b, 1, none⟩ = some (.slice (some ⟨bb, 0, none⟩) n cb) ∧ w4.frozen? ⟨sb.b, 1, none⟩ = false ∧ (w4.setCell ⟨sb.b, 1, none⟩ v2).cell? ⟨sb.b, 2, none⟩ = some (.pointer (some ⟨mb, 0, none⟩)) ∧ (w4.setCell ⟨sb.b, 1, none⟩ v2).frozen? ⟨sb.b, 2, none⟩ = false) ∧ EndIs F sb A n m many w ((w4.setCell ⟨sb.b, 1, none⟩ v2).setCell ⟨sb.b, 2, none⟩ (.pointer none))) := fun w1 w4 v v2 hB hv ho hg hat => by
    have hB4 : Below w.heap.size w w4 := hB.grown hg hB.size hv
    have hd0 : (X.drop many).map (·.1) = [] := List.eq_nil_of_length_eq_zero (by rw [List.length_map, List.length_drop]; omega)
    have hn0 : n - many = 0 := by omega
    have ho' : w4.ownsRow 0 29 1 v2 (s.length + (n - many)) (s ++ (X.drop many).map (·.1)) := by rw [hd0, hn0]; exact ho
    have hb4 : w4.heap[sb.b]? = some (.cells #[sb.cv, .slice (some ⟨bb, 0, none⟩) n cb, .pointer (some ⟨mb, 0, none⟩)] 67 (0, 0)) := by rw [hB4.block sb.b (h2.2.1 sb.b h2.2.2.1)]; exact h1.1
    have hb5 := heap_set_at (o := 1) (u := v2) hb4
    refine ⟨⟨by simp [World.cell?, hb4], by simp [World.frozen?, hb4], by simp [World.cell?, hb5], by simp [World.frozen?, hb5]⟩, ?_⟩
    refine SpX.ended h1 h2 h3 h4 h5 h6 g2 g5 g7 g9 g10 g11 hm (by rw [hs, e0]) ho' hB4 (fun k e => ?_)
    rcases hat with hat | hat
    · rw [hat] at e; exact hv k e
    · rw [hat] at e; cases e; exact hB.size
  have hcm := hcap.2
  have hcl := hcap.1
  unfold maxLen at hcm
  have hn65 : n ≤ 65536 := by omega
  clear h1 h2 h3 h4 h5 h6 g2 g5 g7 g9 g10 g11 hm hcap hmb c0 c1 d0 d2 hs e0 hXl
  obtain ⟨c0, c1, d0, d2⟩ := HC.out w (Below.refl _ _)
  obtain rfl : many = n := by omega
  subst hc
  generalize us.length = ul at *
  go_enter Tryz.func83, Tryz.ntmps83
  go_wp2_with fail
  go_region_law (first
    | (refine step_append_at _ (by rfl) (.tmp 13) (.tmp 25) 62 (by rfl) 0 29 i0 (.slice none 0 0) 1 24 Tryz.underlying62 hi0 hz0 hz1 hz2 rfl (by decide) _ s.length s (by rfl) O7.out ⟨bb, 0, none⟩ 0 0 [] (by rfl) rfl (fun j u hu => by simp at hu) (fun u hu => by cases hu) (by unfold maxLen; omega) (by omega) (Nat.zero_le _) ?_; intro v5 w5 hown5 hg5 hat5; obtain ⟨⟨y1, y2, y3, y4⟩, y5⟩ := HF.out _ _ _ _ B7.out V7.out hown5 hg5 hat5; obtain ⟨a5, cc5, e5⟩ := own_form hown5; rw [Nat.add_zero] at e5; subst e5; have Y5 : Hid _ := y5; clear hown5 hg5 hat5 y5)
    | (refine step_call2e (by rfl) 57 (.const (.slice none 0 0)) (.tmp 12) 62 29 (by rfl) (enters_of Tryz.func57 (by kernel_rfl) rfl) _ _ (by rfl) (by rfl) _ (HQ.out _) ?_; intro v7 w7 p7; obtain ⟨b7, o7, n7⟩ := HB.out _ _ _ ((Below.refl _ _).drew) p7; obtain ⟨a7, cc7, e7⟩ := own_form o7; subst e7; obtain ⟨C0, C1, D0, D2⟩ := HC.out _ b7; have B7 : Hid _ := b7; have O7 : Hid _ := o7; have V7 : Hid _ := n7; clear p7 b7 o7 n7))
  all_goals (go_wp2_with fail; go_ret; exact ⟨rfl, Y5.out⟩)
end Go.Proofs.YtglbipnppldkmaaGreatDoor
