/- What the statements' own makers of z-sets answer: some z-set, of any weights or of small ones. -/
import Derived.Test.YtmpochhcokmaiaaMakeEnts
import Derived.Test.YtmpochhcokmaiaaZMake
namespace Go.Proofs.Ytmpochhcokmaiaa
open Go.RowKit Go.Sort
set_option maxRecDepth 100000

theorem mkZ_fits (l : List Ent) : ∀ e ∈ mkZ l, inI e.2 = true := by
  intro e he
  unfold mkZ at he
  split at he
  · rename_i h
    unfold okZ fitsZ at h
    exact List.all_eq_true.1 h e (List.mem_filter.1 he).1
  · cases he
theorem mkZ_len (l : List Ent) : (mkZ l).length ≤ l.length := by
  have h1 := gat_len l
  unfold mkZ
  split
  · have h2 := List.length_filter_le (fun e : Ent => e.2 != 0) (gat l)
    unfold nzZ; omega
  · simp
theorem mkZ_rows (l : List Ent) : ∀ e ∈ mkZ l, ∃ x ∈ l, x.1 = e.1 := by
  intro e he
  by_cases h : okZ l = true
  · have h1 := wt_mem (mkZ_isZ l).1 he
    have h2 := (mkZ_isZ l).2 e he
    rw [wt_mkZ h] at h1
    exact mem_of_wt (by rw [h1]; exact h2)
  · unfold mkZ at he
    rw [if_neg h] at he
    cases he
theorem mkZ_ok {l : List Ent} (h : ∀ e ∈ l, e.1.length ≤ 65536) : ∀ e ∈ mkZ l, inI e.2 = true ∧ e.1.length ≤ 65536 := by
  intro e he
  obtain ⟨x, hx, e'⟩ := mkZ_rows l e he
  exact ⟨mkZ_fits l e he, by rw [← e']; exact h x hx⟩
/-- A block of values. -/
def ValB (k : Nat) (w : World) : Prop := ∃ c fz, w.heap[k]? = some (.cells c 39 fz)
def isV : Obj → Bool
  | .cells _ t _ => t == 39
  | _ => false
/-- A world with nothing but blocks of values from a bound on. -/
def above (base : Nat) (w : World) : World := { w with heap := w.heap.mapIdx fun k o => if base ≤ k ∧ isV o = true then o else .cells #[] 0 (0, 0) }
theorem above_size (base : Nat) (w : World) : (above base w).heap.size = w.heap.size := by simp [above]
theorem above_block {base : Nat} {w : World} {k : Nat} (h : base ≤ k) (hv : ValB k w) : (above base w).heap[k]? = w.heap[k]? := by
  obtain ⟨c, fz, e⟩ := hv
  show (w.heap.mapIdx _)[k]? = _
  rw [Array.getElem?_mapIdx, e]
  simp [h, isV]
theorem above_cell {base : Nat} {w : World} {b o : Nat} (h : base ≤ b) (hv : ValB b w) : (above base w).cell? ⟨b, o, none⟩ = w.cell? ⟨b, o, none⟩ := World.cell?_of_block (above_block h hv)
theorem above_some {base : Nat} {w : World} {b o : Nat} {u : Value} (h : (above base w).cell? ⟨b, o, none⟩ = some u) : base ≤ b ∧ ValB b w := by
  have h1 : (above base w).heap[b]? = (w.heap[b]?).map fun x => if base ≤ b ∧ isV x = true then x else Obj.cells #[] 0 (0, 0) := by
    show (w.heap.mapIdx _)[b]? = _
    rw [Array.getElem?_mapIdx]
  unfold World.cell? at h
  rw [h1] at h
  cases e : w.heap[b]? with
  | none => rw [e] at h; simp at h
  | some x =>
    rw [e] at h
    by_cases hc : base ≤ b ∧ isV x = true
    · refine ⟨hc.1, ?_⟩
      cases x with
      | cells c t fz =>
        have : t = 39 := by have := hc.2; simpa [isV] using this
        exact ⟨c, fz, by rw [e, this]⟩
      | _ => have := hc.2; simp [isV] at this
    · simp [hc] at h
/-- A row that is read above a bound: it is read, and lies above, in a block of values. -/
theorem row_above {base : Nat} {w : World} {v : Value} {r : List Val} (h : RowIs (above base w) v r) : RowIs w v r ∧ (r = [] ∨ ∀ k, v.ownBlock = some k → base ≤ k ∧ ValB k w) := by
  rcases h with ⟨a, cap, rfl, rfl⟩ | ⟨b, o, cap, rfl, h1, h2, h3, h4⟩
  · exact ⟨.inl ⟨a, cap, rfl, rfl⟩, .inl rfl⟩
  · by_cases hr : r = []
    · subst hr; exact ⟨.inl ⟨_, cap, rfl, rfl⟩, .inl rfl⟩
    · have hl : 0 < r.length := List.length_pos_iff.2 hr
      obtain ⟨hb, hv⟩ := above_some (h4 0 hl).1
      rw [above_size] at h3
      refine ⟨.inr ⟨b, o, cap, rfl, h1, h2, h3, fun i hi => ?_⟩, .inr (fun k hk => by cases hk; exact ⟨hb, hv⟩)⟩
      have := h4 i hi
      rw [above_cell hb hv, above_cell hb hv, above_cell hb hv] at this
      exact this
theorem own_above {base : Nat} {w : World} {s : Nat} {v : Value} {n : Nat} {xs : List Value} (h : w.ownsRow base 39 s v n xs) : (above base w).ownsRow base 39 s v n xs := by
  obtain ⟨h1, h2 | ⟨g, cap, cur, hv, hg, hh, r⟩⟩ := h
  · exact ⟨h1, .inl h2⟩
  · exact ⟨h1, .inr ⟨g, cap, cur, hv, hg, by rw [above_block hg ⟨cur, (0, 0), hh⟩]; exact hh, r⟩⟩
theorem own_val {base : Nat} {w : World} {s : Nat} {v : Value} {n : Nat} {xs : List Value} (h : w.ownsRow base 39 s v n xs) : ∀ k, v.ownBlock = some k → base ≤ k ∧ ValB k w := fun k hk => by
  refine ⟨(h.lt k hk).1, ?_⟩
  rcases h.2 with ⟨rfl, _⟩ | ⟨g, cap, cur, rfl, _, hh, _⟩
  · cases hk
  · cases hk; exact ⟨cur, (0, 0), hh⟩
theorem ValB.on {k : Nat} {w w' : World} (h : ValB k w) (hb : Below w.heap.size w w') : ValB k w' := by
  obtain ⟨c, fz, e⟩ := h
  exact ⟨c, fz, by rw [hb.block k (Array.getElem?_eq_some_iff.1 e).1]; exact e⟩
theorem OwnRows.above {base : Nat} {w : World} {us : List VEnt} {l : List Ent} (h : OwnRows base w us l) : OwnRows base (above base w) us l := ⟨h.1, fun i a b => ⟨own_above (h.2 i a b).1, (h.2 i a b).2⟩⟩
/-- Entries that a call owns, their rows new, too. -/
def EntsNew (base : Nat) (l : List Ent) (v : Value) (w : World) : Prop :=
  ∃ us, w.ownsRow base 36 2 v us.length (es us) ∧ Reads w us l ∧ ∀ i (h : i < us.length) (h' : i < l.length), l[i].1 = [] ∨ ∀ k, us[i].1.ownBlock = some k → base ≤ k ∧ ValB k w
theorem EntsNew.ents {base : Nat} {l : List Ent} {v : Value} {w : World} (h : EntsNew base l v w) : EntsIs w v l := by
  obtain ⟨us, h1, h2, _⟩ := h; exact ⟨us, EntsAt.of_own h1, h2⟩
theorem EntsNew.on {base : Nat} {l : List Ent} {v : Value} {w w' : World} (h : EntsNew base l v w) (hb : Below w.heap.size w w') : EntsNew base l v w' := by
  obtain ⟨us, h1, h2, h3⟩ := h
  refine ⟨us, own_on h1 hb, h2.on hb, fun i a b => ?_⟩
  rcases h3 i a b with e | e
  · exact .inl e
  · exact .inr (fun k hk => ⟨(e k hk).1, (e k hk).2.on hb⟩)
theorem EntsNew.but {S base : Nat} {l : List Ent} {v : Value} {w w' : World} (h : EntsNew base l v w) (hb : But S w w') (hS : S < base) : EntsNew base l v w' := by
  obtain ⟨us, h1, h2, h3⟩ := h
  refine ⟨us, own_but h1 hb hS, ⟨h2.1, fun i a b => ⟨?_, (h2.2 i a b).2⟩⟩, fun i a b => ?_⟩
  · have hr := (h2.2 i a b).1
    rcases h3 i a b with e | e
    · obtain ⟨a0, c0, ef⟩ := hr.form
      rw [ef, e]; exact .inl ⟨a0, c0, rfl, rfl⟩
    · exact hr.but hb (fun e' => by have := (e S e').1; omega)
  · rcases h3 i a b with e | e
    · exact .inl e
    · refine .inr (fun k hk => ⟨(e k hk).1, ?_⟩)
      obtain ⟨c, fz, ek⟩ := (e k hk).2
      exact ⟨c, fz, by rw [hb.2.2.2.2 k (by have := (e k hk).1; omega) (Array.getElem?_eq_some_iff.1 ek).1]; exact ek⟩
theorem EntsNew.mono {base base' : Nat} {l : List Ent} {v : Value} {w : World} (h : EntsNew base' l v w) (hb : base ≤ base') : EntsNew base l v w := by
  obtain ⟨us, h1, h2, h3⟩ := h
  refine ⟨us, own_mono h1 hb, h2, fun i a b => ?_⟩
  rcases h3 i a b with e | e
  · exact .inl e
  · exact .inr (fun k hk => ⟨Nat.le_trans hb (e k hk).1, (e k hk).2⟩)
theorem EntsNew.of_own {base : Nat} {us : List VEnt} {l : List Ent} {v : Value} {w : World} (h : w.ownsRow base 36 2 v us.length (es us)) (hr : OwnRows base w us l) : EntsNew base l v w :=
  ⟨us, h, hr.reads, fun i a b => .inr (own_val (hr.2 i a b).1)⟩
theorem EntsN.new {base base' : Nat} {l : List Ent} {v : Value} {w w' : World} (h : EntsN base' (above base w) l v w') (hb : Below w.heap.size w w') (hle : base ≤ base') : EntsNew base l v w' := by
  obtain ⟨us, h1, h2⟩ := h
  exact ⟨us, own_mono h1 hle, ⟨h2.1, fun i a b => ⟨((row_above (h2.2 i a b).1).1).on hb, (h2.2 i a b).2⟩⟩, fun i a b => by
    rcases (row_above (h2.2 i a b).1).2 with e | e
    · exact .inl e
    · exact .inr (fun k hk => ⟨(e k hk).1, (e k hk).2.on hb⟩)⟩
/-- Some z-set, and the maker some numbers on. -/
def ZMade (S : Nat) (a : Option Addr) (len cap : Nat) (zs : List Int) (p T most : Nat) (w : World) (z : List Ent) (v : Value) (w' : World) : Prop :=
  ∃ p', IsZ z ∧ (∀ e ∈ z, inI e.2 = true ∧ e.1.length ≤ 65536) ∧ z.length ≤ most ∧ EntsNew w.heap.size z v w' ∧ p' ≤ p + 1 + T * most ∧ SeqAt S a len cap zs p' w' ∧ But S w w'
theorem tmod_small (n : Int) : -100 < n.tmod 100 ∧ n.tmod 100 < 100 := by
  have h1 := Int.tmod_lt_of_pos n (by decide : (0 : Int) < 100)
  have h2 := Int.tmod_lt_of_pos (-n) (by decide : (0 : Int) < 100)
  rw [Int.neg_tmod] at h2
  omega
theorem wt_small (r : List Val) : ∀ (l : List Ent), (∀ e ∈ l, -100 < e.2 ∧ e.2 < 100) → -(100 * (l.length : Int)) ≤ wt r l ∧ wt r l ≤ 100 * (l.length : Int)
  | [], _ => by simp [wt]
  | e :: l, h => by
    have h1 := wt_small r l (fun x hx => h x (by simp [hx]))
    have h2 := h e (by simp)
    simp only [wt, List.length_cons]
    split <;> omega
/-- The first j entries' weights cut. -/
def cutE (e : Ent) : Ent := (e.1, e.2.tmod 100)
def cutV (e : VEnt) : VEnt := (e.1, e.2.tmod 100)
def cutTo {α : Type} (f : α → α) (l : List α) (j : Nat) : List α := (l.take j).map f ++ l.drop j
theorem cutTo_len {α : Type} (f : α → α) (l : List α) (j : Nat) : (cutTo f l j).length = l.length := by unfold cutTo; simp; omega
theorem cutTo_at {α : Type} (f : α → α) (l : List α) (j : Nat) (h : j < l.length) : (cutTo f l j)[j]? = some l[j] := by
  unfold cutTo
  rw [List.getElem?_append_right (by simp; omega), List.getElem?_drop]
  simp [Nat.min_eq_left (Nat.le_of_lt h), h]
theorem cutTo_step {α : Type} (f : α → α) (l : List α) (j : Nat) (h : j < l.length) : (cutTo f l j).set j (f l[j]) = cutTo f l (j + 1) := by
  unfold cutTo
  have e1 : ((l.take j).map f).length = j := by simp; omega
  rw [List.take_succ_eq_append_getElem h, List.map_append, List.set_append, if_neg (by omega), e1, Nat.sub_self, List.drop_eq_getElem_cons h, List.set_cons_zero, List.append_assoc]
  rfl
theorem cutTo_all {α : Type} (f : α → α) (l : List α) : cutTo f l l.length = l.map f := by unfold cutTo; simp
theorem es_setw (l : List VEnt) (i : Nat) (h : i < l.length) (k : Int) : es (l.set i (l[i].1, k)) = (es l).set (i * 2 + 1) (.int .i64 k) := by
  induction l generalizing i with
  | nil => simp at h
  | cons a l ih =>
    cases i with
    | zero => rfl
    | succ i =>
      have ih' := ih i (by simpa using h)
      rw [List.set_cons_succ, es_cons, es_cons]
      simp only [List.getElem_cons_succ]
      rw [ih', show (i + 1) * 2 + 1 = (i * 2 + 1) + 2 by omega, List.set_append, if_neg (by simp [ec])]
      congr 1
theorem OwnRows.cut {base : Nat} {w : World} {us : List VEnt} {l : List Ent} (h : OwnRows base w us l) : OwnRows base w (us.map cutV) (l.map cutE) := by
  refine ⟨by simp [h.1], fun i h1 h2 => ?_⟩
  simp only [List.length_map] at h1 h2
  simp only [List.getElem_map, cutV, cutE]
  exact ⟨(h.2 i h1 h2).1, by rw [(h.2 i h1 h2).2]⟩
/-- How far the cutting of weights has come. -/
def CutTo (S : Nat) (a : Option Addr) (len cap : Nat) (zs : List Int) (p' : Nat) (w : World) (us : List VEnt) (l : List Ent) (v : Value) (j : Nat) (wr : World) : Prop :=
  wr.ownsRow w.heap.size 36 2 v us.length (es (cutTo cutV us j)) ∧ OwnRows w.heap.size wr us l ∧ SeqAt S a len cap zs p' wr ∧ But S w wr
set_option maxHeartbeats 4000000 in
theorem makeSet (S : Nat) (a : Option Addr) (len cap : Nat) (zs : List Int) (p : Nat) (C n ccap : Nat) (ks : List Int) (most : Nat) (w : World) (h : SeqAt S a len cap zs p w) (hp : p + 1 + (4 * n + 2) * most ≤ 4294967280) (hmost : most ≤ 65535)
    (hc : ColsAt C ks w) (hC : C ≠ S) (hn4 : n ≤ 65536) (hn : n ≤ ks.length) (hk : ∀ i (h : i < ks.length), ks[i] = 0 ∨ ks[i] = 1 ∨ ks[i] = 2 ∨ ks[i] = 3) :
    Calls Try.prog 6 #[.pointer (some ⟨S, 0, none⟩), .slice (some ⟨C, 0, none⟩) n ccap, .int .i64 most] w fun e w' => ∃ v z, e = .returned v ∧ ZMade S a len cap zs p (4 * n + 2) most w z v w' ∧ (∀ r, -(100 * (most : Int)) ≤ wt r z ∧ wt r z ≤ 100 * (most : Int)) ∧ ∀ e ∈ z, e.1.length = n ∧ OkR ks e.1 := by
  have q1 := makeEntries S a len cap zs p C n ccap ks most w h hp hmost hc hC hn hk
  have HS : Hid (S < w.heap.size) := h.2.2.2.1
  clear h hc hk
  go_enter Try.func6, Try.ntmps6
  go_wp2_with fail
  refine q1.mono ?_
  rintro e w1 ⟨v, rfl, l, us, p', e1, e2, e3, e4, e5, e6, e7⟩
  obtain ⟨av, capv, rfl⟩ := own_form e3
  have EL : Hid (∀ e ∈ l.map cutE, e.1.length ≤ 65536) := fun e he => by obtain ⟨x, hx, rfl⟩ := List.mem_map.1 he; have := (e2 x hx).2.1; show x.1.length ≤ 65536; omega
  have EK : Hid (∀ e ∈ mkZ (l.map cutE), e.1.length = n ∧ OkR ks e.1) := fun e he => by
    obtain ⟨y, hy, hr⟩ := mkZ_rows _ e he
    obtain ⟨x, hx, rfl⟩ := List.mem_map.1 hy
    have := e2 x hx
    rw [← hr]; exact ⟨by show x.1.length = n; omega, this.2.2⟩
  have E5 : Hid (p' + (4 * n + 2) * 0 ≤ p + 1 + (4 * n + 2) * most) := e5
  have E4 : Hid (us.length = l.length) := e4.1
  have hul : us.length ≤ most := by rw [e4.1]; omega
  have F0 : Hid (CutTo S a len cap zs p' w us l (.slice av us.length capv) 0 w1) := ⟨by simpa [cutTo] using e3, e4, e6, e7⟩
  clear q1 e2 e3 e4 e5 e6 e7 hp
  go_wp2_with fail
  go_loopw [8] (fun i wr => ∃ j : Nat, j ≤ us.length ∧ i = .int .i64 j ∧ CutTo S a len cap zs p' w us l (.slice av us.length capv) j wr) (fun i _ => us.length - (intOf i).toNat)
  case atStart => exact ⟨0, by omega, rfl, F0.out⟩
  case round =>
    obtain ⟨j, hj, rfl, c1, c2, c3, c4⟩ := hrel
    clear F0
    by_cases k1 : j < us.length
    · have I1 : (j : Int) < (us.length : Int) := by omega
      obtain ⟨g, cap', cur, hv, hg0, _⟩ : ∃ g cap' cur, (Value.slice av us.length capv) = .slice (some ⟨g, 0, none⟩) us.length cap' ∧ w.heap.size ≤ g ∧ wr.heap[g]? = some (.cells cur 36 (0, 0)) := by
        rcases c1.2 with ⟨_, e⟩ | ⟨g, cap', cur, hv, q1, q2, _⟩
        · omega
        · exact ⟨g, cap', cur, hv, q1, q2⟩
      simp only [Value.slice.injEq, true_and] at hv
      obtain ⟨rfl, rfl⟩ := hv
      have hcl : j < (cutTo cutV us j).length := by rw [cutTo_len]; exact k1
      have hce : (cutTo cutV us j)[j] = us[j] := by have := cutTo_at cutV us j k1; rw [List.getElem?_eq_getElem hcl] at this; exact Option.some.inj this
      have x2 : wr.cell? ⟨g, j * 2 + 1, none⟩ = some (.int .i64 us[j].2) := by rw [c1.cellAt _ (by omega), (es_at _ j hcl).2, hce]
      have fz : wr.frozen? ⟨g, j * 2 + 1, none⟩ = false := c1.frozenAt _
      have F : Hid (CutTo S a len cap zs p' w us l (.slice (some ⟨g, 0, none⟩) us.length capv) (j + 1) (wr.setCell ⟨g, j * 2 + 1, none⟩ (.int .i64 (us[j].2.tmod 100)))) := by
        obtain ⟨s1, s2⟩ := c1.stored (j * 2 + 1) (.int .i64 (us[j].2.tmod 100))
        refine ⟨?_, c2.grown c1 (v := .slice (some ⟨g, 0, none⟩) us.length capv) s2, c3.put (by have := HS.out; omega) _ _, c4.put hg0 _ _⟩
        have hse := es_setw (cutTo cutV us j) j hcl (us[j].2.tmod 100)
        rw [hce] at hse
        rw [← cutTo_step cutV us j k1]
        show World.ownsRow _ _ _ _ _ _ (es ((cutTo cutV us j).set j (us[j].1, us[j].2.tmod 100)))
        rw [hse]; exact s1
      generalize us[j].2 = i1 at *
      clear c1 c2 c3 c4 hcl hce
      go_wp2_with fail
      go_roundw
      case rel => exact ⟨j + 1, by omega, by go_num, F.out⟩
      case measure => simp [intOf]; omega
    · have I1 : ¬ (j : Int) < (us.length : Int) := by omega
      obtain rfl : j = us.length := by omega
      rw [cutTo_all] at c1
      have hsm : ∀ e ∈ l.map cutE, -100 < e.2 ∧ e.2 < 100 := fun e he => by
        obtain ⟨x, _, rfl⟩ := List.mem_map.1 he; exact tmod_small x.2
      have q2 := refMakeR (l.map cutE) (.slice av us.length capv) wr (above w.heap.size wr) (fun _ _ h => (row_above h).1) (by simp; omega) (fun e he => by have := hsm e he; unfold inI; simp; omega) ⟨us.map cutV, EntsAt.of_own (by rw [List.length_map]; exact c1), c2.cut.above.reads⟩ _ rfl
      have hw1 := c4.size
      have HW : Hid (okZ (l.map cutE) = true) := (okZ_iff _).2 (fun r => by have := wt_small r _ hsm; simp at this; unfold inI; simp; omega)
      have HL : Hid (∀ r, -(100 * (most : Int)) ≤ wt r (mkZ (l.map cutE)) ∧ wt r (mkZ (l.map cutE)) ≤ 100 * (most : Int)) := fun r => by
        have := wt_small r _ hsm
        rw [wt_mkZ HW.out]
        simp at this; omega
      have hml : (mkZ (l.map cutE)).length ≤ most := by have := mkZ_len (l.map cutE); simp at this; omega
      have C3 : Hid (SeqAt S a len cap zs p' wr) := c3
      have C4 : Hid (But S w wr) := c4
      generalize (if okZ (l.map cutE) then (0 : Int) else 107) = cc at *
      clear c1 c2 c3 c4 hsm HW
      go_wp2_with fail
      refine q2.mono ?_
      rintro e w2 ⟨v2, rfl, h1, h2⟩
      have hf : Hid (ZMade S a len cap zs p (4 * n + 2) most w (mkZ (l.map cutE)) v2 w2) := ⟨p', mkZ_isZ _, mkZ_ok EL.out, hml, h1.new h2 hw1, by have := E5.out; simpa using this, C3.out.on h2, C4.out.trans (But.of_below h2)⟩
      clear q2 h1 h2
      go_wp2_with fail
      go_ret
      exact ⟨_, _, rfl, hf.out, HL.out, EK.out⟩
end Go.Proofs.Ytmpochhcokmaiaa
