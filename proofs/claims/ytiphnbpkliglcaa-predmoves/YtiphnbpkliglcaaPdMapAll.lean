/- What pred.mapAll answers, and so pred.Map of predicates of whatever depth. -/
import Derived.Test.YtiphnbpkliglcaaPdMap
namespace Go.Proofs.Ytiphnbpkliglcaa
open Go.RowKit Go.Sort
set_option maxRecDepth 100000
set_option linter.unusedVariables false
attribute [local go_sem ↓] Go.wp_at_zero Go.wp_at_succ
/-- How far a list has come: j of them, in memory of the call's own. -/
def MapTo (cols : List Int) (l : List Pd) (m : Nat) (w : World) (j : Nat) (v : Value) (wr : World) : Prop :=
  ∃ ps : List PEnt, ps.length = j ∧ wr.ownsRow w.heap.size 31 8 v j (pcs ps) ∧ ps.map (·.1) = (l.take j).map (mpP cols) ∧ (∀ e ∈ ps, PdL (fun k => w.heap.size ≤ k ∧ v.ownBlock ≠ some k) m wr e.2 e.1.l) ∧ Below w.heap.size w wr
theorem MapTo.push {cols : List Int} {l : List Pd} {m j : Nat} {w wr w7 w8 : World} {v v8 s' : Value} {P : Pd} {ps : List PEnt} (h1 : ps.length = j) (h2 : wr.ownsRow w.heap.size 31 8 v j (pcs ps)) (h3 : ps.map (·.1) = (l.take j).map (mpP cols)) (h4 : ∀ e ∈ ps, PdL (fun k => w.heap.size ≤ k ∧ v.ownBlock ≠ some k) m wr e.2 e.1.l) (h5 : Below w.heap.size w wr)
    (hj : j < l.length) (hP : P = mpP cols l[j]) (b7 : Below wr.heap.size wr w7) (g2 : PdL (fun k => wr.heap.size ≤ k) m w7 s' P.l)
    (o8 : w8.ownsRow w.heap.size 31 8 v8 (j + 1) (pcs ps ++ hc P s')) (b8 : (w7.alloc (.cells (hc P s').toArray 31)).grownBy w8 v.ownBlock) (e8 : v8.ownBlock = v.ownBlock ∨ v8.ownBlock = some (w7.alloc (.cells (hc P s').toArray 31)).heap.size) :
    MapTo cols l m w (j + 1) v8 w8 := by
  have hv : ∀ k, v.ownBlock = some k → w.heap.size ≤ k ∧ k < wr.heap.size := fun k e => h2.lt k e
  have hz := h5.size
  have hz7 := b7.size
  have hb : Below wr.heap.size wr (w7.alloc (.cells (hc P s').toArray 31)) := b7.trans (one_box.mono hz7)
  have hz8 : w7.heap.size + 1 ≤ w8.heap.size := by have := b8.size; simpa using this
  have n8 : ∀ k, v8.ownBlock = some k → v.ownBlock = some k ∨ k = w7.heap.size + 1 := fun k e => by
    rcases e8 with e8 | e8
    · exact .inl (by rw [← e8]; exact e)
    · right; rw [e8] at e; simpa using e.symm
  refine ⟨ps ++ [(P, s')], by simp [h1], ?_, ?_, ?_, ?_⟩
  · rw [pcs_snoc]; exact o8
  · rw [List.map_append, h3, List.take_succ_eq_append_getElem hj, List.map_append, hP]; rfl
  · intro e he
    rcases List.mem_append.1 he with he | he
    · have r1 := (h4 e he).on hb
      have r2 : PdL (fun k => (w.heap.size ≤ k ∧ v.ownBlock ≠ some k) ∧ k < w7.heap.size + 1) m (w7.alloc (.cells (hc P s').toArray 31)) e.2 e.1.l := r1.mono (fun k hk hl => ⟨hk, by simpa using hl⟩)
      have r3 := r2.grown b8 (fun k e h => h.1.2 e)
      refine r3.mono (fun k hk _ => ⟨hk.1.1, fun e => ?_⟩)
      rcases n8 k e with h | h
      · exact hk.1.2 h
      · omega
    · rw [List.mem_singleton.1 he]
      have q : PdL (fun k => wr.heap.size ≤ k ∧ k < w7.heap.size) m w7 s' P.l := g2.mono (fun k hk hl => ⟨hk, hl⟩)
      have r2 : PdL (fun k => wr.heap.size ≤ k ∧ k < w7.heap.size + 1) m (w7.alloc (.cells (hc P s').toArray 31)) s' P.l := (q.on one_box).mono (fun k hk _ => ⟨hk.1, by omega⟩)
      have r3 := r2.grown b8 (fun k e h => by have := hv k e; omega)
      refine r3.mono (fun k hk _ => ⟨by omega, fun e => ?_⟩)
      rcases n8 k e with h | h
      · have := hv k h; omega
      · omega
  · exact (h5.trans (hb.mono hz)).grown b8 (by simp; omega) (fun k e => (hv k e).1)
set_option maxHeartbeats 4000000 in
theorem predMapAll (n : Nat) (ih : ∀ m, n = m + 1 → MapAt m) (F : Nat → Prop) (sv cv : Value) (l : List Pd) (cols : List Int) (w : World) (h : PdL F n w sv l) (hs : ∀ m, n = m + 1 → ∀ q ∈ l, Slim m q) (hl : l.length ≤ 65536) (hc' : IntsIs w cv cols) :
    Calls Try.prog 20 #[sv, cv] w fun e w' => ∃ v, e = .returned v ∧ PdL (fun k => w.heap.size ≤ k) n w' v (l.map (mpP cols)) ∧ Below w.heap.size w w' := by
  obtain ⟨a0, cap0, rfl⟩ := h.form
  obtain ⟨a1, cap1, rfl⟩ := hc'.form
  by_cases h0 : l = []
  · subst h0
    have HN : Hid (PdL (fun k => w.heap.size ≤ k) n w (.slice none 0 0) (([] : List Pd).map (mpP cols))) := PdL.nil _ _ _ _ _
    clear h hc' hs ih
    go_enter Try.func20, Try.ntmps20
    go_wp2_with fail
    go_ret
    exact ⟨_, rfl, HN.out, Below.refl _ _⟩
  obtain ⟨m, rfl⟩ : ∃ m, n = m + 1 := by
    cases n with
    | zero => obtain ⟨_, e⟩ := h; exact absurd e h0
    | succ m => exact ⟨m, rfl⟩
  have hn0 : 0 < l.length := List.length_pos_iff.2 h0
  obtain ⟨i0, hi, hz0, hz1, hz2⟩ := info_parts info_pred
  have b0 : ((l.length : Int) == 0) = false := beq_false_of_ne (by omega)
  have H : Hid (PdL F (m + 1) w (.slice a0 l.length cap0) l) := h
  have HC : Hid (IntsIs w (.slice a1 cols.length cap1) cols) := hc'
  have IH : Hid (MapAt m) := ih m rfl
  have HS : Hid (∀ q ∈ l, Slim m q) := hs m rfl
  have H0 : Hid (∀ w1, w1.ownsRow w.heap.size 31 8 (.slice (some ⟨w.heap.size, 0, none⟩) 0 l.length) 0 [] → w.grownBy w1 none → MapTo cols l m w 0 (.slice (some ⟨w.heap.size, 0, none⟩) 0 l.length) w1) := fun w1 g1 g2 => ⟨[], rfl, g1, rfl, fun e he => (by cases he), (Below.refl _ _).grown g2 (Nat.le_refl _) (fun k e => by cases e)⟩
  clear h hc' ih hs h0
  go_enter Try.func20, Try.ntmps20
  go_wp2_with (first | (at_make; refine wpList_make_own _ rfl _ _ 29 rfl w.heap.size 31 i0 (.agg #[.int .i64 0, .int .i64 0, .int .i64 0, .int .i64 0, .int .i64 0, .int .i64 0, .string ⟨#[]⟩, .slice none 0 0]) 8 Try.underlying29 hi hz0 hz1 .i64 .i64 _ l.length rfl rfl rfl (by rw [hz2]; omega) (by unfold maxLen; omega) (Nat.le_refl _) ?_; intro w1 hown1 hg1; have hs1 : Hid _ := H0.out _ hown1 hg1; clear hown1 hg1) | fail)
  go_loopw [5, 16] (fun v i wr => ∃ j : Nat, j ≤ l.length ∧ i = .int .i64 j ∧ Hid (MapTo cols l m w j v wr)) (fun _ i _ => l.length - (intOf i).toNat)
  case atStart => exact ⟨0, by omega, rfl, hs1.out⟩
  case round =>
    clear hs1 H0
    obtain ⟨j, hj, rfl, hso⟩ := hrel
    by_cases hlt : j < l.length
    · obtain ⟨ps, h1, h2, h3, h4, h5⟩ := hso.out
      obtain ⟨m', b, o, s, hm, hab, ⟨x0, x1, x2, x3, x4, x5, x6, x7⟩, hp, hbs⟩ := (H.out.on h5).at j hlt
      obtain rfl : m = m' := by omega
      obtain ⟨as1, cs1, hs1⟩ := hp.form
      have I1 : (j : Int) < (l.length : Int) := by omega
      have hz5 := h5.size
      have HP : Hid (∀ w7 w8 v8 P s', P = mpP cols l[j] → Below wr.heap.size wr w7 → PdL (fun k => wr.heap.size ≤ k) m w7 s' P.l → w8.ownsRow w.heap.size 31 8 v8 (j + 1) (pcs ps ++ hc P s') → (w7.alloc (.cells (hc P s').toArray 31)).grownBy w8 (Value.ownBlock u5) → (v8.ownBlock = Value.ownBlock u5 ∨ v8.ownBlock = some (w7.alloc (.cells (hc P s').toArray 31)).heap.size) → MapTo cols l m w (j + 1) v8 w8) := fun w7 w8 v8 P s' e1 e2 e3 e4 e5 e6 => MapTo.push h1 h2 h3 h4 h5 hlt e1 e2 e3 e4 e5 e6
      have HQ : Hid (∀ W, Below wr.heap.size wr W → Calls Try.prog 11 #[.agg #[.int .i64 l[j].k, .int .i64 l[j].c, .int .i64 l[j].o, .int .i64 l[j].d, .int .i64 l[j].v.1, .int .i64 l[j].v.2.1, .string l[j].v.2.2, s], .slice a1 cols.length cap1] W (MapEnd cols m l[j] W)) := fun W hW => IH.out F l[j] s _ cols W (HS.out _ (List.getElem_mem hlt)) (hp.on hW) ((HC.out.on h5).on hW)
      have O5 : Hid (wr.ownsRow w.heap.size 31 8 u5 j (pcs ps)) := h2
      have hsz : Hid (w.heap.size ≤ wr.heap.size) := hz5
      subst hab hs1
      clear h1 h2 h3 h4 h5 hso hp hm
      generalize l[j] = q at *
      go_wp2_with fail
      refine (HQ.out _ one_box).mono ?_
      rintro e w7 ⟨s', rfl, g2, b7⟩
      have B7 : Hid (Below wr.heap.size wr w7) := one_box.trans (b7.mono (by simp))
      have G2 : Hid (PdL (fun k => wr.heap.size ≤ k) m w7 s' (mpP cols q).l) := g2.mono (fun k hk _ => by simp at hk; omega)
      obtain ⟨as7, cs7, hs7⟩ := g2.form
      have O7 : Hid (w7.ownsRow w.heap.size 31 8 u5 j (pcs ps)) := own_onP O5.out B7.out
      have z7 : Hid (w.heap.size ≤ w7.heap.size) := Nat.le_trans hsz.out B7.out.size
      have HP7 : Hid (∀ w8 v8, w8.ownsRow w.heap.size 31 8 v8 (j + 1) (pcs ps ++ hc (mpP cols q) s') → (w7.alloc (.cells (hc (mpP cols q) s').toArray 31)).grownBy w8 (Value.ownBlock u5) → (v8.ownBlock = Value.ownBlock u5 ∨ v8.ownBlock = some (w7.alloc (.cells (hc (mpP cols q) s').toArray 31)).heap.size) → MapTo cols l m w (j + 1) v8 w8) := fun w8 v8 e4 e5 e6 => HP.out w7 w8 v8 _ s' rfl B7.out G2.out e4 e5 e6
      unfold pv
      clear HQ HP b7 g2 G2 O5 x0 x1 x2 x3 x4 x5 x6 x7
      generalize mpP cols q = P at *
      subst hs7
      go_wp2_with (first | (at_builtin; refine wpList_append_own_at _ rfl _ _ 29 rfl w.heap.size 31 i0 (.agg #[.int .i64 0, .int .i64 0, .int .i64 0, .int .i64 0, .int .i64 0, .int .i64 0, .string ⟨#[]⟩, .slice none 0 0]) 8 88 Try.underlying29 hi hz0 hz1 hz2 rfl (by decide) _ j (pcs ps) rfl (O7.out.alloc _) ⟨w7.heap.size, 0, none⟩ 1 1 (hc P (.slice as7 P.l.length cs7)) rfl rfl (cell_new_of _ _ _) (by simp [hc, Value.oneCell']) (by unfold maxLen; omega) (by omega) (by have := z7.out; simp; omega) ?_; intro v8 w8 o8 g8 _ e8; have hso2 : Hid _ := HP7.out _ _ o8 g8 e8; clear o8 g8 e8) | fail)
      go_roundw
      case rel => exact ⟨j + 1, by omega, by go_num, hso2.out⟩
      case measure => simp [intOf]; omega
    · obtain rfl : j = l.length := by omega
      obtain ⟨ps, h1, h2, h3, h4, h5⟩ := hso.out
      have I1 : ¬ (l.length : Int) < (l.length : Int) := by omega
      have FIN : Hid (PdL (fun k => w.heap.size ≤ k) (m + 1) wr u5 (l.map (mpP cols)) ∧ Below w.heap.size w wr) := by
        refine ⟨?_, h5⟩
        rw [List.take_length] at h3
        rw [← h3]
        exact PdL.of_own (by rw [h1]; exact h2) (fun k e => (h2.lt k e).1) (fun e he => (h4 e he).mono (fun k hk _ => hk.1))
      clear h1 h2 h3 h4 h5 hso
      go_wp2_with fail
      go_ret
      exact ⟨_, rfl, FIN.out.1, FIN.out.2⟩
end Go.Proofs.Ytiphnbpkliglcaa
