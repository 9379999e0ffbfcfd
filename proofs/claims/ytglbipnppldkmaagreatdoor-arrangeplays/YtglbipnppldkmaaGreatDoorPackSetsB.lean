/- Texts of one claim, one behind the other. -/
import Derived.Test.YtglbipnppldkmaaGreatDoorMakeEntsB
import Derived.Test.YtglbipnppldkmaaGreatDoorPackMakeB
import Derived.Test.YtglbipnppldkmaaGreatDoorPackPlainB
import Derived.Test.YtglbipnppldkmaaGreatDoorOnB
/- What the statements' own makers of z-sets answer: some z-set, of any weights or of small ones. -/
namespace Go.Proofs.YtglbipnppldkmaaGreatDoor
open Go.RowKit Go.Sort
set_option maxRecDepth 100000

theorem mkZ_fits (l : List Ent) : ∀ e ∈ mkZ l, inI e.2 = true := by
  intro e he
  unfold mkZ at he
  split at he
  · rename_i h
    unfold okZ fitsZ at h
    exact List.all_eq_true.1 h e (List.mem_filter.1 he).1
  · cases he
theorem mkZ_len (l : List Ent) : (mkZ l).length ≤ l.length := by
  have h1 := gat_len l
  unfold mkZ
  split
  · have h2 := List.length_filter_le (fun e : Ent => e.2 != 0) (gat l)
    unfold nzZ; omega
  · simp
theorem mkZ_rows (l : List Ent) : ∀ e ∈ mkZ l, ∃ x ∈ l, x.1 = e.1 := by
  intro e he
  by_cases h : okZ l = true
  · have h1 := wt_mem (mkZ_isZ l).1 he
    have h2 := (mkZ_isZ l).2 e he
    rw [wt_mkZ h] at h1
    exact mem_of_wt (by rw [h1]; exact h2)
  · unfold mkZ at he
    rw [if_neg h] at he
    cases he
theorem mkZ_ok {l : List Ent} (h : ∀ e ∈ l, e.1.length ≤ 65536) : ∀ e ∈ mkZ l, inI e.2 = true ∧ e.1.length ≤ 65536 := by
  intro e he
  obtain ⟨x, hx, e'⟩ := mkZ_rows l e he
  exact ⟨mkZ_fits l e he, by rw [← e']; exact h x hx⟩
/-- A block of values. -/
def ValB (k : Nat) (w : World) : Prop := ∃ c fz, w.heap[k]? = some (.cells c 56 fz)
def isV : Obj → Bool
  | .cells _ t _ => t == 56
  | _ => false
/-- A world with nothing but blocks of values from a bound on. -/
def above (base : Nat) (w : World) : World := { w with heap := w.heap.mapIdx fun k o => if base ≤ k ∧ isV o = true then o else .cells #[] 0 (0, 0) }
theorem above_size (base : Nat) (w : World) : (above base w).heap.size = w.heap.size := by simp [above]
theorem above_block {base : Nat} {w : World} {k : Nat} (h : base ≤ k) (hv : ValB k w) : (above base w).heap[k]? = w.heap[k]? := by
  obtain ⟨c, fz, e⟩ := hv
  show (w.heap.mapIdx _)[k]? = _
  rw [Array.getElem?_mapIdx, e]
  simp [h, isV]
theorem above_cell {base : Nat} {w : World} {b o : Nat} (h : base ≤ b) (hv : ValB b w) : (above base w).cell? ⟨b, o, none⟩ = w.cell? ⟨b, o, none⟩ := World.cell?_of_block (above_block h hv)
theorem above_some {base : Nat} {w : World} {b o : Nat} {u : Value} (h : (above base w).cell? ⟨b, o, none⟩ = some u) : base ≤ b ∧ ValB b w := by
  have h1 : (above base w).heap[b]? = (w.heap[b]?).map fun x => if base ≤ b ∧ isV x = true then x else Obj.cells #[] 0 (0, 0) := by
    show (w.heap.mapIdx _)[b]? = _
    rw [Array.getElem?_mapIdx]
  unfold World.cell? at h
  rw [h1] at h
  cases e : w.heap[b]? with
  | none => rw [e] at h; simp at h
  | some x =>
    rw [e] at h
    by_cases hc : base ≤ b ∧ isV x = true
    · refine ⟨hc.1, ?_⟩
      cases x with
      | cells c t fz =>
        have : t = 56 := by have := hc.2; simpa [isV] using this
        exact ⟨c, fz, by rw [e, this]⟩
      | _ => have := hc.2; simp [isV] at this
    · simp [hc] at h
/-- A row that is read above a bound: it is read, and lies above, in a block of values. -/
theorem row_above {base : Nat} {w : World} {v : Value} {r : List Val} (h : RowIs (above base w) v r) : RowIs w v r ∧ (r = [] ∨ ∀ k, v.ownBlock = some k → base ≤ k ∧ ValB k w) := by
  rcases h with ⟨a, cap, rfl, rfl⟩ | ⟨b, o, cap, rfl, h1, h2, h3, h4⟩
  · exact ⟨.inl ⟨a, cap, rfl, rfl⟩, .inl rfl⟩
  · by_cases hr : r = []
    · subst hr; exact ⟨.inl ⟨_, cap, rfl, rfl⟩, .inl rfl⟩
    · have hl : 0 < r.length := List.length_pos_iff.2 hr
      obtain ⟨hb, hv⟩ := above_some (h4 0 hl).1
      rw [above_size] at h3
      refine ⟨.inr ⟨b, o, cap, rfl, h1, h2, h3, fun i hi => ?_⟩, .inr (fun k hk => by cases hk; exact ⟨hb, hv⟩)⟩
      have := h4 i hi
      rw [above_cell hb hv, above_cell hb hv, above_cell hb hv] at this
      exact this
theorem own_above {base : Nat} {w : World} {s : Nat} {v : Value} {n : Nat} {xs : List Value} (h : w.ownsRow base 56 s v n xs) : (above base w).ownsRow base 56 s v n xs := by
  obtain ⟨h1, h2 | ⟨g, cap, cur, hv, hg, hh, r⟩⟩ := h
  · exact ⟨h1, .inl h2⟩
  · exact ⟨h1, .inr ⟨g, cap, cur, hv, hg, by rw [above_block hg ⟨cur, (0, 0), hh⟩]; exact hh, r⟩⟩
theorem own_val {base : Nat} {w : World} {s : Nat} {v : Value} {n : Nat} {xs : List Value} (h : w.ownsRow base 56 s v n xs) : ∀ k, v.ownBlock = some k → base ≤ k ∧ ValB k w := fun k hk => by
  refine ⟨(h.lt k hk).1, ?_⟩
  rcases h.2 with ⟨rfl, _⟩ | ⟨g, cap, cur, rfl, _, hh, _⟩
  · cases hk
  · cases hk; exact ⟨cur, (0, 0), hh⟩
theorem ValB.on {k : Nat} {w w' : World} (h : ValB k w) (hb : Below w.heap.size w w') : ValB k w' := by
  obtain ⟨c, fz, e⟩ := h
  exact ⟨c, fz, by rw [hb.block k (Array.getElem?_eq_some_iff.1 e).1]; exact e⟩
theorem OwnRows.above {base : Nat} {w : World} {us : List VEnt} {l : List Ent} (h : OwnRows base w us l) : OwnRows base (above base w) us l := ⟨h.1, fun i a b => ⟨own_above (h.2 i a b).1, (h.2 i a b).2⟩⟩
/-- Entries that a call owns, their rows new, too. -/
def EntsNew (base : Nat) (l : List Ent) (v : Value) (w : World) : Prop :=
  ∃ us, w.ownsRow base 37 2 v us.length (es us) ∧ Reads w us l ∧ ∀ i (h : i < us.length) (h' : i < l.length), l[i].1 = [] ∨ ∀ k, us[i].1.ownBlock = some k → base ≤ k ∧ ValB k w
theorem EntsNew.ents {base : Nat} {l : List Ent} {v : Value} {w : World} (h : EntsNew base l v w) : EntsIs w v l := by
  obtain ⟨us, h1, h2, _⟩ := h; exact ⟨us, EntsAt.of_own h1, h2⟩
theorem EntsNew.on {base : Nat} {l : List Ent} {v : Value} {w w' : World} (h : EntsNew base l v w) (hb : Below w.heap.size w w') : EntsNew base l v w' := by
  obtain ⟨us, h1, h2, h3⟩ := h
  refine ⟨us, own_on h1 hb, h2.on hb, fun i a b => ?_⟩
  rcases h3 i a b with e | e
  · exact .inl e
  · exact .inr (fun k hk => ⟨(e k hk).1, (e k hk).2.on hb⟩)
theorem EntsNew.but {S base : Nat} {l : List Ent} {v : Value} {w w' : World} (h : EntsNew base l v w) (hb : But S w w') (hS : S < base) : EntsNew base l v w' := by
  obtain ⟨us, h1, h2, h3⟩ := h
  refine ⟨us, own_but h1 hb hS, ⟨h2.1, fun i a b => ⟨?_, (h2.2 i a b).2⟩⟩, fun i a b => ?_⟩
  · have hr := (h2.2 i a b).1
    rcases h3 i a b with e | e
    · obtain ⟨a0, c0, ef⟩ := hr.form
      rw [ef, e]; exact .inl ⟨a0, c0, rfl, rfl⟩
    · exact hr.but hb (fun e' => by have := (e S e').1; omega)
  · rcases h3 i a b with e | e
    · exact .inl e
    · refine .inr (fun k hk => ⟨(e k hk).1, ?_⟩)
      obtain ⟨c, fz, ek⟩ := (e k hk).2
      exact ⟨c, fz, by rw [hb.2.2.2.2 k (by have := (e k hk).1; omega) (Array.getElem?_eq_some_iff.1 ek).1]; exact ek⟩
theorem EntsNew.mono {base base' : Nat} {l : List Ent} {v : Value} {w : World} (h : EntsNew base' l v w) (hb : base ≤ base') : EntsNew base l v w := by
  obtain ⟨us, h1, h2, h3⟩ := h
  refine ⟨us, own_mono h1 hb, h2, fun i a b => ?_⟩
  rcases h3 i a b with e | e
  · exact .inl e
  · exact .inr (fun k hk => ⟨Nat.le_trans hb (e k hk).1, (e k hk).2⟩)
theorem EntsNew.of_own {base : Nat} {us : List VEnt} {l : List Ent} {v : Value} {w : World} (h : w.ownsRow base 37 2 v us.length (es us)) (hr : OwnRows base w us l) : EntsNew base l v w :=
  ⟨us, h, hr.reads, fun i a b => .inr (own_val (hr.2 i a b).1)⟩
theorem EntsN.new {base base' : Nat} {l : List Ent} {v : Value} {w w' : World} (h : EntsN base' (above base w) l v w') (hb : Below w.heap.size w w') (hle : base ≤ base') : EntsNew base l v w' := by
  obtain ⟨us, h1, h2⟩ := h
  exact ⟨us, own_mono h1 hle, ⟨h2.1, fun i a b => ⟨((row_above (h2.2 i a b).1).1).on hb, (h2.2 i a b).2⟩⟩, fun i a b => by
    rcases (row_above (h2.2 i a b).1).2 with e | e
    · exact .inl e
    · exact .inr (fun k hk => ⟨(e k hk).1, (e k hk).2.on hb⟩)⟩
/-- Some z-set, and the maker some numbers on. -/
def ZMade (S : Nat) (a : Option Addr) (len cap : Nat) (zs : List Int) (p T most : Nat) (w : World) (z : List Ent) (v : Value) (w' : World) : Prop :=
  ∃ p', IsZ z ∧ (∀ e ∈ z, inI e.2 = true ∧ e.1.length ≤ 65536) ∧ z.length ≤ most ∧ EntsNew w.heap.size z v w' ∧ p' ≤ p + 1 + T * most ∧ SeqAt S a len cap zs p' w' ∧ But S w w'
set_option maxHeartbeats 2000000 in
theorem makeWide (S : Nat) (a : Option Addr) (len cap : Nat) (zs : List Int) (p : Nat) (C n ccap : Nat) (ks : List Int) (most : Nat) (w : World) (h : SeqAt S a len cap zs p w) (hp : p + 1 + (4 * n + 2) * most ≤ 4294967280) (hmost : most ≤ 65535)
    (hc : ColsAt C ks w) (hC : C ≠ S) (hn4 : n ≤ 65536) (hn : n ≤ ks.length) (hk : ∀ i (h : i < ks.length), ks[i] = 0 ∨ ks[i] = 1 ∨ ks[i] = 2 ∨ ks[i] = 3) :
    Calls Tryz.prog 9 #[.pointer (some ⟨S, 0, none⟩), .slice (some ⟨C, 0, none⟩) n ccap, .int .i64 most] w fun e w' => ∃ v z, e = .returned v ∧ ZMade S a len cap zs p (4 * n + 2) most w z v w' ∧ ∀ e ∈ z, e.1.length = n ∧ OkR ks e.1 := by
  have q1 := makeEntries S a len cap zs p C n ccap ks most w h hp hmost hc hC hn hk
  clear h hc hk
  go_enter Tryz.func9, Tryz.ntmps9
  go_wp2_with fail
  refine q1.mono ?_
  rintro e w1 ⟨v, rfl, l, us, p', e1, e2, e3, e4, e5, e6, e7⟩
  have q2 := refMakeR l v w1 (above w.heap.size w1) (fun _ _ h => (row_above h).1) (by omega) (fun e he => (e2 e he).1) ⟨us, EntsAt.of_own e3, e4.above.reads⟩ _ rfl
  have hw1 := e7.size
  have EL : Hid (∀ e ∈ l, e.1.length ≤ 65536) := fun e he => by have := (e2 e he).2.1; omega
  have EK : Hid (∀ e ∈ mkZ l, e.1.length = n ∧ OkR ks e.1) := fun e he => by
    obtain ⟨x, hx, hr⟩ := mkZ_rows l e he
    have := e2 x hx
    rw [← hr]; exact ⟨by omega, this.2.2⟩
  have E5 : Hid (p' + (4 * n + 2) * 0 ≤ p + 1 + (4 * n + 2) * most) := e5
  have E6 : Hid (SeqAt S a len cap zs p' w1) := e6
  have E7 : Hid (But S w w1) := e7
  generalize (if okZ l then (0 : Int) else 107) = c at *
  clear q1 e2 e3 e4 e5 e6 e7 hp
  go_wp2_with fail
  refine q2.mono ?_
  rintro e w2 ⟨v2, rfl, h1, h2⟩
  have hf : Hid (ZMade S a len cap zs p (4 * n + 2) most w (mkZ l) v2 w2) := ⟨p', mkZ_isZ l, mkZ_ok EL.out, by have := mkZ_len l; omega, h1.new h2 hw1, by have := E5.out; simpa using this, E6.out.on h2, E7.out.trans (But.of_below h2)⟩
  clear q2 h1 h2
  go_wp2_with fail
  go_ret
  exact ⟨_, _, rfl, hf.out, EK.out⟩
theorem tmod_small (n : Int) : -100 < n.tmod 100 ∧ n.tmod 100 < 100 := by
  have h1 := Int.tmod_lt_of_pos n (by decide : (0 : Int) < 100)
  have h2 := Int.tmod_lt_of_pos (-n) (by decide : (0 : Int) < 100)
  rw [Int.neg_tmod] at h2
  omega
theorem wt_small (r : List Val) : ∀ (l : List Ent), (∀ e ∈ l, -100 < e.2 ∧ e.2 < 100) → -(100 * (l.length : Int)) ≤ wt r l ∧ wt r l ≤ 100 * (l.length : Int)
  | [], _ => by simp [wt]
  | e :: l, h => by
    have h1 := wt_small r l (fun x hx => h x (by simp [hx]))
    have h2 := h e (by simp)
    simp only [wt, List.length_cons]
    split <;> omega
/-- The first j entries' weights cut. -/
def cutE (e : Ent) : Ent := (e.1, e.2.tmod 100)
def cutV (e : VEnt) : VEnt := (e.1, e.2.tmod 100)
def cutTo {α : Type} (f : α → α) (l : List α) (j : Nat) : List α := (l.take j).map f ++ l.drop j
theorem cutTo_len {α : Type} (f : α → α) (l : List α) (j : Nat) : (cutTo f l j).length = l.length := by unfold cutTo; simp; omega
theorem cutTo_at {α : Type} (f : α → α) (l : List α) (j : Nat) (h : j < l.length) : (cutTo f l j)[j]? = some l[j] := by
  unfold cutTo
  rw [List.getElem?_append_right (by simp; omega), List.getElem?_drop]
  simp [Nat.min_eq_left (Nat.le_of_lt h), h]
theorem cutTo_step {α : Type} (f : α → α) (l : List α) (j : Nat) (h : j < l.length) : (cutTo f l j).set j (f l[j]) = cutTo f l (j + 1) := by
  unfold cutTo
  have e1 : ((l.take j).map f).length = j := by simp; omega
  rw [List.take_succ_eq_append_getElem h, List.map_append, List.set_append, if_neg (by omega), e1, Nat.sub_self, List.drop_eq_getElem_cons h, List.set_cons_zero, List.append_assoc]
  rfl
theorem cutTo_all {α : Type} (f : α → α) (l : List α) : cutTo f l l.length = l.map f := by unfold cutTo; simp
theorem es_setw (l : List VEnt) (i : Nat) (h : i < l.length) (k : Int) : es (l.set i (l[i].1, k)) = (es l).set (i * 2 + 1) (.int .i64 k) := by
  induction l generalizing i with
  | nil => simp at h
  | cons a l ih =>
    cases i with
    | zero => rfl
    | succ i =>
      have ih' := ih i (by simpa using h)
      rw [List.set_cons_succ, es_cons, es_cons]
      simp only [List.getElem_cons_succ]
      rw [ih', show (i + 1) * 2 + 1 = (i * 2 + 1) + 2 by omega, List.set_append, if_neg (by simp [ec])]
      congr 1
theorem OwnRows.cut {base : Nat} {w : World} {us : List VEnt} {l : List Ent} (h : OwnRows base w us l) : OwnRows base w (us.map cutV) (l.map cutE) := by
  refine ⟨by simp [h.1], fun i h1 h2 => ?_⟩
  simp only [List.length_map] at h1 h2
  simp only [List.getElem_map, cutV, cutE]
  exact ⟨(h.2 i h1 h2).1, by rw [(h.2 i h1 h2).2]⟩
/-- How far the cutting of weights has come. -/
def CutTo (S : Nat) (a : Option Addr) (len cap : Nat) (zs : List Int) (p' : Nat) (w : World) (us : List VEnt) (l : List Ent) (v : Value) (j : Nat) (wr : World) : Prop :=
  wr.ownsRow w.heap.size 37 2 v us.length (es (cutTo cutV us j)) ∧ OwnRows w.heap.size wr us l ∧ SeqAt S a len cap zs p' wr ∧ But S w wr
set_option maxHeartbeats 4000000 in
theorem makeSet (S : Nat) (a : Option Addr) (len cap : Nat) (zs : List Int) (p : Nat) (C n ccap : Nat) (ks : List Int) (most : Nat) (w : World) (h : SeqAt S a len cap zs p w) (hp : p + 1 + (4 * n + 2) * most ≤ 4294967280) (hmost : most ≤ 65535)
    (hc : ColsAt C ks w) (hC : C ≠ S) (hn4 : n ≤ 65536) (hn : n ≤ ks.length) (hk : ∀ i (h : i < ks.length), ks[i] = 0 ∨ ks[i] = 1 ∨ ks[i] = 2 ∨ ks[i] = 3) :
    Calls Tryz.prog 8 #[.pointer (some ⟨S, 0, none⟩), .slice (some ⟨C, 0, none⟩) n ccap, .int .i64 most] w fun e w' => ∃ v z, e = .returned v ∧ ZMade S a len cap zs p (4 * n + 2) most w z v w' ∧ (∀ r, -(100 * (most : Int)) ≤ wt r z ∧ wt r z ≤ 100 * (most : Int)) ∧ ∀ e ∈ z, e.1.length = n ∧ OkR ks e.1 := by
  have q1 := makeEntries S a len cap zs p C n ccap ks most w h hp hmost hc hC hn hk
  have HS : Hid (S < w.heap.size) := h.2.2.2.1
  clear h hc hk
  go_enter Tryz.func8, Tryz.ntmps8
  go_wp2_with fail
  refine q1.mono ?_
  rintro e w1 ⟨v, rfl, l, us, p', e1, e2, e3, e4, e5, e6, e7⟩
  obtain ⟨av, capv, rfl⟩ := own_form e3
  have EL : Hid (∀ e ∈ l.map cutE, e.1.length ≤ 65536) := fun e he => by obtain ⟨x, hx, rfl⟩ := List.mem_map.1 he; have := (e2 x hx).2.1; show x.1.length ≤ 65536; omega
  have EK : Hid (∀ e ∈ mkZ (l.map cutE), e.1.length = n ∧ OkR ks e.1) := fun e he => by
    obtain ⟨y, hy, hr⟩ := mkZ_rows _ e he
    obtain ⟨x, hx, rfl⟩ := List.mem_map.1 hy
    have := e2 x hx
    rw [← hr]; exact ⟨by show x.1.length = n; omega, this.2.2⟩
  have E5 : Hid (p' + (4 * n + 2) * 0 ≤ p + 1 + (4 * n + 2) * most) := e5
  have E4 : Hid (us.length = l.length) := e4.1
  have hul : us.length ≤ most := by rw [e4.1]; omega
  have F0 : Hid (CutTo S a len cap zs p' w us l (.slice av us.length capv) 0 w1) := ⟨by simpa [cutTo] using e3, e4, e6, e7⟩
  clear q1 e2 e3 e4 e5 e6 e7 hp
  go_wp2_with fail
  go_loopw [8] (fun i wr => ∃ j : Nat, j ≤ us.length ∧ i = .int .i64 j ∧ CutTo S a len cap zs p' w us l (.slice av us.length capv) j wr) (fun i _ => us.length - (intOf i).toNat)
  case atStart => exact ⟨0, by omega, rfl, F0.out⟩
  case round =>
    obtain ⟨j, hj, rfl, c1, c2, c3, c4⟩ := hrel
    clear F0
    by_cases k1 : j < us.length
    · have I1 : (j : Int) < (us.length : Int) := by omega
      obtain ⟨g, cap', cur, hv, hg0, _⟩ : ∃ g cap' cur, (Value.slice av us.length capv) = .slice (some ⟨g, 0, none⟩) us.length cap' ∧ w.heap.size ≤ g ∧ wr.heap[g]? = some (.cells cur 37 (0, 0)) := by
        rcases c1.2 with ⟨_, e⟩ | ⟨g, cap', cur, hv, q1, q2, _⟩
        · omega
        · exact ⟨g, cap', cur, hv, q1, q2⟩
      simp only [Value.slice.injEq, true_and] at hv
      obtain ⟨rfl, rfl⟩ := hv
      have hcl : j < (cutTo cutV us j).length := by rw [cutTo_len]; exact k1
      have hce : (cutTo cutV us j)[j] = us[j] := by have := cutTo_at cutV us j k1; rw [List.getElem?_eq_getElem hcl] at this; exact Option.some.inj this
      have x2 : wr.cell? ⟨g, j * 2 + 1, none⟩ = some (.int .i64 us[j].2) := by rw [c1.cellAt _ (by omega), (es_at _ j hcl).2, hce]
      have fz : wr.frozen? ⟨g, j * 2 + 1, none⟩ = false := c1.frozenAt _
      have F : Hid (CutTo S a len cap zs p' w us l (.slice (some ⟨g, 0, none⟩) us.length capv) (j + 1) (wr.setCell ⟨g, j * 2 + 1, none⟩ (.int .i64 (us[j].2.tmod 100)))) := by
        obtain ⟨s1, s2⟩ := c1.stored (j * 2 + 1) (.int .i64 (us[j].2.tmod 100))
        refine ⟨?_, c2.grown c1 (v := .slice (some ⟨g, 0, none⟩) us.length capv) s2, c3.put (by have := HS.out; omega) _ _, c4.put hg0 _ _⟩
        have hse := es_setw (cutTo cutV us j) j hcl (us[j].2.tmod 100)
        rw [hce] at hse
        rw [← cutTo_step cutV us j k1]
        show World.ownsRow _ _ _ _ _ _ (es ((cutTo cutV us j).set j (us[j].1, us[j].2.tmod 100)))
        rw [hse]; exact s1
      generalize us[j].2 = i1 at *
      clear c1 c2 c3 c4 hcl hce
      go_wp2_with fail
      go_roundw
      case rel => exact ⟨j + 1, by omega, by go_num, F.out⟩
      case measure => simp [intOf]; omega
    · have I1 : ¬ (j : Int) < (us.length : Int) := by omega
      obtain rfl : j = us.length := by omega
      rw [cutTo_all] at c1
      have hsm : ∀ e ∈ l.map cutE, -100 < e.2 ∧ e.2 < 100 := fun e he => by
        obtain ⟨x, _, rfl⟩ := List.mem_map.1 he; exact tmod_small x.2
      have q2 := refMakeR (l.map cutE) (.slice av us.length capv) wr (above w.heap.size wr) (fun _ _ h => (row_above h).1) (by simp; omega) (fun e he => by have := hsm e he; unfold inI; simp; omega) ⟨us.map cutV, EntsAt.of_own (by rw [List.length_map]; exact c1), c2.cut.above.reads⟩ _ rfl
      have hw1 := c4.size
      have HW : Hid (okZ (l.map cutE) = true) := (okZ_iff _).2 (fun r => by have := wt_small r _ hsm; simp at this; unfold inI; simp; omega)
      have HL : Hid (∀ r, -(100 * (most : Int)) ≤ wt r (mkZ (l.map cutE)) ∧ wt r (mkZ (l.map cutE)) ≤ 100 * (most : Int)) := fun r => by
        have := wt_small r _ hsm
        rw [wt_mkZ HW.out]
        simp at this; omega
      have hml : (mkZ (l.map cutE)).length ≤ most := by have := mkZ_len (l.map cutE); simp at this; omega
      have C3 : Hid (SeqAt S a len cap zs p' wr) := c3
      have C4 : Hid (But S w wr) := c4
      generalize (if okZ (l.map cutE) then (0 : Int) else 107) = cc at *
      clear c1 c2 c3 c4 hsm HW
      go_wp2_with fail
      refine q2.mono ?_
      rintro e w2 ⟨v2, rfl, h1, h2⟩
      have hf : Hid (ZMade S a len cap zs p (4 * n + 2) most w (mkZ (l.map cutE)) v2 w2) := ⟨p', mkZ_isZ _, mkZ_ok EL.out, hml, h1.new h2 hw1, by have := E5.out; simpa using this, C3.out.on h2, C4.out.trans (But.of_below h2)⟩
      clear q2 h1 h2
      go_wp2_with fail
      go_ret
      exact ⟨_, _, rfl, hf.out, HL.out, EK.out⟩
end Go.Proofs.YtglbipnppldkmaaGreatDoor
/- Z-sets that a call owns: the list and its rows. -/
namespace Go.Proofs.YtglbipnppldkmaaGreatDoor
open Go.RowKit Go.Sort
set_option maxRecDepth 100000
/-- Entries that may be handed in. -/
def EOk (l : List Ent) : Prop := ∀ e ∈ l, inI e.2 = true ∧ e.1.length ≤ 65536
/-- A z-set under way: a list of the call's own, rows of its own. -/
def ZOwn (base : Nat) (us : List VEnt) (l : List Ent) (v : Value) (w : World) : Prop := w.ownsRow base 37 2 v us.length (es us) ∧ OwnRows base w us l
theorem ZOwn.ents {base : Nat} {us : List VEnt} {l : List Ent} {v : Value} {w : World} (h : ZOwn base us l v w) : EntsIs w v l := ⟨us, EntsAt.of_own h.1, h.2.reads⟩
theorem ZOwn.on {base : Nat} {us : List VEnt} {l : List Ent} {v : Value} {w w' : World} (h : ZOwn base us l v w) (hb : Below w.heap.size w w') : ZOwn base us l v w' := ⟨own_on h.1 hb, h.2.on hb⟩
theorem ZOwn.nil (base : Nat) (w : World) : ZOwn base [] [] (.slice none 0 0) w := ⟨World.ownsRow_nil _ _ _ _, rfl, fun i h => by simp at h⟩
/-- A z-set of the call's own. -/
def ZHas (base : Nat) (l : List Ent) (v : Value) (w : World) : Prop := ∃ us, ZOwn base us l v w
theorem ZHas.ents {base : Nat} {l : List Ent} {v : Value} {w : World} (h : ZHas base l v w) : EntsIs w v l := by obtain ⟨us, h⟩ := h; exact h.ents
theorem ZHas.on {base : Nat} {l : List Ent} {v : Value} {w w' : World} (h : ZHas base l v w) (hb : Below w.heap.size w w') : ZHas base l v w' := by obtain ⟨us, h⟩ := h; exact ⟨us, h.on hb⟩
theorem ZOwn.mono {base base' : Nat} {us : List VEnt} {l : List Ent} {v : Value} {w : World} (h : ZOwn base' us l v w) (hb : base ≤ base') : ZOwn base us l v w :=
  ⟨own_mono h.1 hb, h.2.1, fun i h1 h2 => ⟨own_mono (h.2.2 i h1 h2).1 hb, (h.2.2 i h1 h2).2⟩⟩
theorem own_keep {base : Nat} {w w' : World} {e : TypeId} {s : Nat} {v : Value} {n : Nat} {xs : List Value} {g : Option Nat} (h : w.ownsRow base e s v n xs) (hg : w.grownBy w' g) (hlt : ∀ k, g = some k → k < base) : w'.ownsRow base e s v n xs := by
  refine h.kept hg ?_
  cases hv : v.ownBlock with
  | none => exact .inl rfl
  | some k => exact .inr (fun e' => by have h1 := (h.lt k hv).1; have h2 := hlt k e'.symm; omega)
theorem ZHas.keep {base : Nat} {l : List Ent} {v : Value} {w w' : World} {g : Option Nat} (h : ZHas base l v w) (hg : w.grownBy w' g) (hlt : ∀ k, g = some k → k < base) : ZHas base l v w' := by
  obtain ⟨us, h1, h2⟩ := h
  exact ⟨us, own_keep h1 hg hlt, h2.1, fun i a b => ⟨own_keep (h2.2 i a b).1 hg hlt, (h2.2 i a b).2⟩⟩
theorem ZHas.new {base : Nat} {l : List Ent} {v : Value} {w : World} (h : ZHas base l v w) : EntsNew base l v w := by
  obtain ⟨us, h1, h2⟩ := h; exact EntsNew.of_own h1 h2
end Go.Proofs.YtglbipnppldkmaaGreatDoor
/- A queue of z-sets in memory: its header, its list; what is left of each reads as it did. -/
namespace Go.Proofs.YtglbipnppldkmaaGreatDoor
open Go.RowKit Go.Sort
set_option maxRecDepth 100000

/-- But for two blocks the world is as it was. -/
def Off (a b : Nat) (w w' : World) : Prop :=
  w'.os = w.os ∧ w'.tape = w.tape ∧ w'.output = w.output ∧ w.heap.size ≤ w'.heap.size ∧ ∀ k, k ≠ a → k ≠ b → k < w.heap.size → w'.heap[k]? = w.heap[k]?
theorem Off.refl (a b : Nat) (w : World) : Off a b w w := ⟨rfl, rfl, rfl, Nat.le_refl _, fun _ _ _ _ => rfl⟩
theorem Off.trans {a b : Nat} {x y z : World} (h : Off a b x y) (k : Off a b y z) : Off a b x z :=
  ⟨k.1.trans h.1, k.2.1.trans h.2.1, k.2.2.1.trans h.2.2.1, Nat.le_trans h.2.2.2.1 k.2.2.2.1, fun i h1 h2 h3 => (k.2.2.2.2 i h1 h2 (Nat.lt_of_lt_of_le h3 h.2.2.2.1)).trans (h.2.2.2.2 i h1 h2 h3)⟩
theorem Off.size {a b : Nat} {w w' : World} (h : Off a b w w') : w.heap.size ≤ w'.heap.size := h.2.2.2.1
theorem Off.of_below {a b : Nat} {w w' : World} (h : Below w.heap.size w w') : Off a b w w' := ⟨h.os, h.tape, h.output, h.size, fun i _ _ h2 => h.block i h2⟩
theorem Off.of_l {a b : Nat} {w w' : World} (h : But a w w') : Off a b w w' := ⟨h.1, h.2.1, h.2.2.1, h.2.2.2.1, fun i h1 _ h2 => h.2.2.2.2 i h1 h2⟩
theorem Off.of_r {a b : Nat} {w w' : World} (h : But b w w') : Off a b w w' := ⟨h.1, h.2.1, h.2.2.1, h.2.2.2.1, fun i _ h1 h2 => h.2.2.2.2 i h1 h2⟩
theorem Off.below {a b B : Nat} {w w' : World} (h : Off a b w w') (ha : B ≤ a) (hb : B ≤ b) (hS : B ≤ w.heap.size) : Below B w w' := ⟨h.1, h.2.1, h.2.2.1, h.2.2.2.1, fun k hk => h.2.2.2.2 k (by omega) (by omega) (by omega)⟩
theorem Off.cell {a b : Nat} {w w' : World} (h : Off a b w w') {p : Addr} {v : Value} (hc : w.cell? p = some v) (h1 : p.block ≠ a) (h2 : p.block ≠ b) : w'.cell? p = some v := by
  rw [World.cell?_of_block (w := w) (h.2.2.2.2 p.block h1 h2 (World.block_lt_of_cell? _ _ hc))]; exact hc
theorem Off.own {a b base : Nat} {w w' : World} {e : TypeId} {s : Nat} {v : Value} {n : Nat} {xs : List Value} (h : Off a b w w') (ho : w.ownsRow base e s v n xs) (h1 : v.ownBlock ≠ some a) (h2 : v.ownBlock ≠ some b) : w'.ownsRow base e s v n xs := by
  refine ⟨ho.1, ?_⟩
  rcases ho.2 with hn | ⟨g, cap, cur, rfl, hb, hgg, rest⟩
  · exact .inl hn
  · refine .inr ⟨g, cap, cur, rfl, hb, ?_, rest⟩
    rw [h.2.2.2.2 g (fun e => h1 (by rw [e]; rfl)) (fun e => h2 (by rw [e]; rfl)) (Array.getElem?_eq_some_iff.1 hgg).1]
    exact hgg
theorem Off.own_lt {a b base : Nat} {w w' : World} {e : TypeId} {s : Nat} {v : Value} {n : Nat} {xs : List Value} (h : Off a b w w') (ho : w.ownsRow base e s v n xs) (h1 : a < base) (h2 : b < base) : w'.ownsRow base e s v n xs :=
  h.own ho (fun e => by have := (ho.lt a e).1; omega) (fun e => by have := (ho.lt b e).1; omega)
theorem Off.row {a b : Nat} {w w' : World} {v : Value} {l : List Val} (hb : Off a b w w') (h : RowIs w v l) (h1 : v.ownBlock ≠ some a) (h2 : v.ownBlock ≠ some b) : RowIs w' v l := by
  rcases h with h | ⟨g, o, cap, rfl, g1, g2, g3, g4⟩
  · exact .inl h
  · have n1 : g ≠ a := fun e => h1 (by rw [e]; rfl)
    have n2 : g ≠ b := fun e => h2 (by rw [e]; rfl)
    refine .inr ⟨g, o, cap, rfl, g1, g2, Nat.lt_of_lt_of_le g3 hb.size, fun i hi => ?_⟩
    obtain ⟨c1, c2, c3⟩ := g4 i hi
    exact ⟨hb.cell c1 n1 n2, hb.cell c2 n1 n2, hb.cell c3 n1 n2⟩
theorem Off.ents {a b : Nat} {w w' w0 : World} {v : Value} {l : List Ent} (hb : Off a b w w') (h : EntsR w w0 v l) (h1 : v.ownBlock ≠ some a) (h2 : v.ownBlock ≠ some b) : EntsR w' w0 v l := by
  obtain ⟨vs, h3, h4⟩ := h
  refine ⟨vs, ?_, h4⟩
  rcases h3 with h3 | ⟨g, o, cap, rfl, g1, g2, g3, g4⟩
  · exact .inl h3
  · have n1 : g ≠ a := fun e => h1 (by rw [e]; rfl)
    have n2 : g ≠ b := fun e => h2 (by rw [e]; rfl)
    refine .inr ⟨g, o, cap, rfl, g1, g2, Nat.lt_of_lt_of_le g3 hb.size, fun i hi => ?_⟩
    obtain ⟨c1, c2⟩ := g4 i hi
    exact ⟨hb.cell c1 n1 n2, hb.cell c2 n1 n2⟩
/-- What is read in one world is there in the other. -/
def Sees (R w : World) : Prop := R.heap.size ≤ w.heap.size ∧ ∀ p v, R.cell? p = some v → w.cell? p = some v
/-- Nothing is read in that block. -/
def Free (R : World) (k : Nat) : Prop := ∀ p v, R.cell? p = some v → p.block ≠ k
theorem Sees.refl (w : World) : Sees w w := ⟨Nat.le_refl _, fun _ _ h => h⟩
theorem Sees.trans {a b c : World} (h : Sees a b) (k : Sees b c) : Sees a c := ⟨Nat.le_trans h.1 k.1, fun p v hp => k.2 p v (h.2 p v hp)⟩
theorem Sees.on {R w w' : World} (h : Sees R w) (hB : Below w.heap.size w w') : Sees R w' := ⟨Nat.le_trans h.1 hB.size, fun p v hp => cell_on (h.2 p v hp) hB⟩
theorem Sees.of_below {w w' : World} (hB : Below w.heap.size w w') : Sees w w' := (Sees.refl w).on hB
theorem free_le {R : World} {k : Nat} (h : R.heap.size ≤ k) : Free R k := fun p v hp e => by have := World.block_lt_of_cell? _ _ hp; omega
theorem Sees.at {R w w' : World} (h : Sees R w) (hs : w.heap.size ≤ w'.heap.size) (hk : ∀ k, ¬ Free R k → k < w.heap.size → w'.heap[k]? = w.heap[k]?) : Sees R w' := by
  refine ⟨Nat.le_trans h.1 hs, fun p v hp => ?_⟩
  have h1 := h.2 p v hp
  rw [World.cell?_of_block (w := w) (hk p.block (fun hf => hf p v hp rfl) (World.block_lt_of_cell? _ _ h1))]
  exact h1
theorem Sees.set {R w : World} (h : Sees R w) {b o : Nat} (hf : Free R b) (u : Value) : Sees R (w.setCell ⟨b, o, none⟩ u) :=
  h.at (by simp [World.setCell]) (fun k hk _ => Below.heap_setCell _ _ _ _ (fun e => hk (e ▸ hf)))
theorem Sees.grown {R w w' : World} {g : Option Nat} (h : Sees R w) (hg : w.grownBy w' g) (hf : ∀ k, g = some k → Free R k) : Sees R w' :=
  h.at hg.size (fun k hk hl => hg.block k hl (fun e => hk (hf k e.symm)))
theorem Sees.off {R w w' : World} {a b : Nat} (h : Sees R w) (hO : Off a b w w') (ha : Free R a) (hb : Free R b) : Sees R w' :=
  h.at hO.size (fun k hk hl => hO.2.2.2.2 k (fun e => hk (e ▸ ha)) (fun e => hk (e ▸ hb)) hl)
theorem RowIs.sees {R w : World} {v : Value} {l : List Val} (h : RowIs R v l) (hs : Sees R w) : RowIs w v l := by
  rcases h with h | ⟨g, o, cap, rfl, g1, g2, g3, g4⟩
  · exact .inl h
  · exact .inr ⟨g, o, cap, rfl, g1, g2, Nat.lt_of_lt_of_le g3 hs.1, fun i hi => ⟨hs.2 _ _ (g4 i hi).1, hs.2 _ _ (g4 i hi).2.1, hs.2 _ _ (g4 i hi).2.2⟩⟩
theorem Reads.sees {R w : World} {vs : List VEnt} {l : List Ent} (h : Reads R vs l) (hs : Sees R w) : Reads w vs l := ⟨h.1, fun i h1 h2 => ⟨(h.2 i h1 h2).1.sees hs, (h.2 i h1 h2).2⟩⟩
theorem EntsAt.sees {R w : World} {v : Value} {l : List VEnt} (h : EntsAt R v l) (hs : Sees R w) : EntsAt w v l := by
  rcases h with h | ⟨b, o, cap, rfl, h1, h2, h3, h4⟩
  · exact .inl h
  · exact .inr ⟨b, o, cap, rfl, h1, h2, Nat.lt_of_lt_of_le h3 hs.1, fun i hi => ⟨hs.2 _ _ (h4 i hi).1, hs.2 _ _ (h4 i hi).2⟩⟩
theorem EntsIs.sees {R w : World} {v : Value} {l : List Ent} (h : EntsIs R v l) (hs : Sees R w) : EntsIs w v l := by
  obtain ⟨vs, h1, h2⟩ := h; exact ⟨vs, h1.sees hs, h2.sees hs⟩
/-- Where a queue's header stands: the block's type, the place in it, the other cells. -/
structure Hd where
  t : TypeId
  o : Nat
  cs : Array Value
/-- A queue: a header of one slice, its list of slices. -/
def QAt (hb : Nat) (tH : Hd) (ab cap : Nat) (vs : List Value) (w : World) : Prop :=
  w.heap[hb]? = some (.cells (tH.cs.setIfInBounds tH.o (.slice (some ⟨ab, 0, none⟩) vs.length cap)) tH.t (0, 0)) ∧ w.ownsRow 0 29 1 (.slice (some ⟨ab, 0, none⟩) vs.length cap) vs.length vs ∧ tH.t ≠ 29 ∧ tH.o < tH.cs.size
theorem QAt.block {hb : Nat} {tH : Hd} {ab cap : Nat} {vs : List Value} {w : World} (h : QAt hb tH ab cap vs w) : ∃ cur, w.heap[ab]? = some (.cells cur 29 (0, 0)) ∧ vs.length ≤ cap ∧ cap ≤ maxLen ∧ cur.size = cap ∧ cur.toList.take vs.length = vs := by
  rcases h.2.1.2 with ⟨e, _⟩ | ⟨g, c, cur, e, _, h2, h3, h4, h5, h6⟩
  · cases e
  · simp only [Value.slice.injEq, Option.some.injEq, Addr.mk.injEq, and_true, true_and] at e
    obtain ⟨rfl, rfl⟩ := e
    exact ⟨cur, h2, h3, h4, by omega, by simpa using h6⟩
theorem QAt.ne {hb : Nat} {tH : Hd} {ab cap : Nat} {vs : List Value} {w : World} (h : QAt hb tH ab cap vs w) : hb ≠ ab := by
  obtain ⟨cur, h2, _⟩ := h.block
  intro e
  subst e
  have := h.1
  rw [h2] at this
  simp only [Option.some.injEq, Obj.cells.injEq] at this
  exact h.2.2.1 this.2.1.symm
theorem QAt.lt {hb : Nat} {tH : Hd} {ab cap : Nat} {vs : List Value} {w : World} (h : QAt hb tH ab cap vs w) : hb < w.heap.size ∧ ab < w.heap.size := by
  obtain ⟨cur, h2, _⟩ := h.block
  exact ⟨(Array.getElem?_eq_some_iff.1 h.1).1, (Array.getElem?_eq_some_iff.1 h2).1⟩
theorem QAt.cell {hb : Nat} {tH : Hd} {ab cap : Nat} {vs : List Value} {w : World} (h : QAt hb tH ab cap vs w) : w.cell? ⟨hb, tH.o, none⟩ = some (.slice (some ⟨ab, 0, none⟩) vs.length cap) := by
  simp [World.cell?, h.1, h.2.2.2]
theorem QAt.frozen {hb : Nat} {tH : Hd} {ab cap : Nat} {vs : List Value} {w : World} (h : QAt hb tH ab cap vs w) : w.frozen? ⟨hb, tH.o, none⟩ = false := by
  simp [World.frozen?, h.1]
theorem QAt.at {hb : Nat} {tH : Hd} {ab cap : Nat} {vs : List Value} {w : World} (h : QAt hb tH ab cap vs w) (i : Nat) (hi : i < vs.length) : w.cell? ⟨ab, i, none⟩ = some vs[i] := by
  rw [h.2.1.cellAt i (by omega)]; exact List.getElem?_eq_getElem hi
theorem QAt.fz {hb : Nat} {tH : Hd} {ab cap : Nat} {vs : List Value} {w : World} (h : QAt hb tH ab cap vs w) (i : Nat) : w.frozen? ⟨ab, i, none⟩ = false := h.2.1.frozenAt i
theorem QAt.on {hb : Nat} {tH : Hd} {ab cap : Nat} {vs : List Value} {w w' : World} (h : QAt hb tH ab cap vs w) (hB : Below w.heap.size w w') : QAt hb tH ab cap vs w' :=
  ⟨by rw [hB.block hb h.lt.1]; exact h.1, own_on h.2.1 hB, h.2.2⟩
theorem QAt.put {hb : Nat} {tH : Hd} {ab cap : Nat} {vs : List Value} {w : World} (h : QAt hb tH ab cap vs w) (i : Nat) (u : Value) : QAt hb tH ab cap (vs.set i u) (w.setCell ⟨ab, i, none⟩ u) := by
  obtain ⟨s1, s2⟩ := h.2.1.stored i u
  refine ⟨?_, by rw [List.length_set]; exact s1, h.2.2⟩
  rw [Below.heap_setCell _ _ _ _ h.ne, List.length_set]; exact h.1
theorem heap_set_at {w : World} {b o : Nat} {u : Value} {cs : Array Value} {t : TypeId} {fz : Nat × Nat} (h : w.heap[b]? = some (.cells cs t fz)) : (w.setCell ⟨b, o, none⟩ u).heap[b]? = some (.cells (cs.set! o u) t fz) := by
  simp only [World.setCell, Array.getElem?_modify]
  rw [if_pos trivial, h]; rfl
theorem QAt.cut {hb : Nat} {tH : Hd} {ab cap : Nat} {vs : List Value} {w : World} (h : QAt hb tH ab cap vs w) (k : Nat) (hk : k ≤ vs.length) : QAt hb tH ab cap (vs.take k) (w.setCell ⟨hb, tH.o, none⟩ (.slice (some ⟨ab, 0, none⟩) k cap)) := by
  obtain ⟨cur, b1, b2, b3, b4, b5⟩ := h.block
  have hl : (vs.take k).length = k := by rw [List.length_take]; omega
  refine ⟨?_, ?_, h.2.2⟩
  · rw [heap_set_at h.1, hl, Array.set!_eq_setIfInBounds, Array.setIfInBounds_setIfInBounds]
  · rw [hl]
    refine ⟨by rw [hl]; omega, .inr ⟨ab, cap, cur, rfl, Nat.zero_le _, ?_, by omega, b3, by omega, ?_⟩⟩
    · rw [Below.heap_setCell _ _ _ _ (fun e => h.ne e.symm)]; exact b1
    · rw [← b5, List.take_take]; congr 1; omega
theorem QAt.base {hb : Nat} {tH : Hd} {ab cap base : Nat} {vs : List Value} {w : World} (h : QAt hb tH ab cap vs w) (hb' : base ≤ ab) : w.ownsRow base 29 1 (.slice (some ⟨ab, 0, none⟩) vs.length cap) vs.length vs := by
  obtain ⟨cur, b1, b2, b3, b4, b5⟩ := h.block
  exact ⟨by omega, .inr ⟨ab, cap, cur, rfl, hb', b1, b2, b3, by omega, by simpa using b5⟩⟩
theorem QAt.ne_own {hb : Nat} {tH : Hd} {ab cap base : Nat} {vs : List Value} {w : World} {e : TypeId} {s : Nat} {v : Value} {n : Nat} {xs : List Value} (h : QAt hb tH ab cap vs w) (ho : w.ownsRow base e s v n xs) (h1 : e ≠ tH.t) (h2 : e ≠ 29) : v.ownBlock ≠ some hb ∧ v.ownBlock ≠ some ab := by
  obtain ⟨cur, b1, _⟩ := h.block
  rcases ho.2 with ⟨rfl, _⟩ | ⟨g, c, cur', rfl, _, k2, _⟩
  · exact ⟨fun e' => (by cases e'), fun e' => (by cases e')⟩
  · refine ⟨fun e' => ?_, fun e' => ?_⟩
    · have : g = hb := Option.some.inj e'
      subst this
      have := h.1
      rw [k2] at this
      simp only [Option.some.injEq, Obj.cells.injEq] at this
      exact h1 this.2.1
    · have : g = ab := Option.some.inj e'
      subst this
      rw [k2] at b1
      simp only [Option.some.injEq, Obj.cells.injEq] at b1
      exact h2 b1.2.1
/-- What a call owns stays, while a queue turns. -/
theorem QAt.own {hb : Nat} {tH : Hd} {ab cap base : Nat} {vs : List Value} {w w' : World} {e : TypeId} {s : Nat} {v : Value} {n : Nat} {xs : List Value} (h : QAt hb tH ab cap vs w) (hO : Off hb ab w w') (ho : w.ownsRow base e s v n xs) (h1 : e ≠ tH.t) (h2 : e ≠ 29) : w'.ownsRow base e s v n xs :=
  hO.own ho (h.ne_own ho h1 h2).1 (h.ne_own ho h1 h2).2
theorem QAt.zown {hb : Nat} {tH : Hd} {ab cap base : Nat} {vs : List Value} {us : List VEnt} {l : List Ent} {v : Value} {w w' : World} (h : QAt hb tH ab cap vs w) (hO : Off hb ab w w') (h1 : 37 ≠ tH.t) (h2 : 56 ≠ tH.t) (ho : ZOwn base us l v w) : ZOwn base us l v w' :=
  ⟨h.own hO ho.1 h1 (by decide), ho.2.1, fun i a b => ⟨h.own hO (ho.2.2 i a b).1 h2 (by decide), (ho.2.2 i a b).2⟩⟩
theorem QAt.zhas {hb : Nat} {tH : Hd} {ab cap base : Nat} {vs : List Value} {l : List Ent} {v : Value} {w w' : World} (h : QAt hb tH ab cap vs w) (hO : Off hb ab w w') (h1 : 37 ≠ tH.t) (h2 : 56 ≠ tH.t) (ho : ZHas base l v w) : ZHas base l v w' := by
  obtain ⟨us, ho⟩ := ho; exact ⟨us, h.zown hO h1 h2 ho⟩
theorem QAt.grown {hb : Nat} {tH : Hd} {ab cap : Nat} {vs : List Value} {w w' : World} {g : Option Nat} (h : QAt hb tH ab cap vs w) (hg : w.grownBy w' g) (h1 : g ≠ some hb) (h2 : g ≠ some ab) : QAt hb tH ab cap vs w' := by
  obtain ⟨cur, b1, b2, b3, b4, b5⟩ := h.block
  exact ⟨by rw [hg.block hb h.lt.1 (fun e => h1 e.symm)]; exact h.1, h.2.1.kept hg (.inr (fun e => h2 e.symm)), h.2.2⟩
theorem Off.grown {a b : Nat} {w x w' : World} {g : Option Nat} (h : Off a b w x) (hg : x.grownBy w' g) (hk : ∀ k, g = some k → w.heap.size ≤ k) : Off a b w w' :=
  ⟨hg.os.trans h.1, hg.tape.trans h.2.1, hg.output.trans h.2.2.1, Nat.le_trans h.2.2.2.1 hg.size, fun k h1 h2 h3 => (hg.block k (Nat.lt_of_lt_of_le h3 h.2.2.2.1) (fun e => by have := hk k e.symm; omega)).trans (h.2.2.2.2 k h1 h2 h3)⟩
/-- What is left of a z-set, and how it reads. -/
def QOk (w0 : World) (x : QEnt) : Prop := EntsIs w0 x.1 x.2 ∧ x.2 ≠ [] ∧ SortedZ x.2 ∧ EOk x.2 ∧ x.2.length ≤ 65536
/-- A queue, its lists all read in a world that came before. -/
def QIs (w0 : World) (hb : Nat) (tH : Hd) (ab cap : Nat) (X : List QEnt) (w : World) : Prop :=
  QAt hb tH ab cap (X.map (·.1)) w ∧ (∀ x ∈ X, QOk w0 x) ∧ Sees w0 w ∧ Free w0 hb ∧ Free w0 ab ∧ X.length ≤ 65536
theorem QIs.on {w0 : World} {hb : Nat} {tH : Hd} {ab cap : Nat} {X : List QEnt} {w w' : World} (h : QIs w0 hb tH ab cap X w) (hB : Below w.heap.size w w') : QIs w0 hb tH ab cap X w' :=
  ⟨h.1.on hB, h.2.1, h.2.2.1.on hB, h.2.2.2⟩
theorem QIs.grown {w0 : World} {hb : Nat} {tH : Hd} {ab cap : Nat} {X : List QEnt} {w w' : World} {g : Option Nat} (h : QIs w0 hb tH ab cap X w) (hg : w.grownBy w' g) (h1 : g ≠ some hb) (h2 : g ≠ some ab) (h3 : ∀ k, g = some k → Free w0 k) : QIs w0 hb tH ab cap X w' :=
  ⟨h.1.grown hg h1 h2, h.2.1, h.2.2.1.grown hg h3, h.2.2.2⟩
theorem map_set_fst (X : List QEnt) (i : Nat) (x : QEnt) : (X.set i x).map (·.1) = (X.map (·.1)).set i x.1 := by rw [List.map_set]
theorem QIs.put {w0 : World} {hb : Nat} {tH : Hd} {ab cap : Nat} {X : List QEnt} {w : World} (h : QIs w0 hb tH ab cap X w) (i : Nat) (x : QEnt) (hx : QOk w0 x) : QIs w0 hb tH ab cap (X.set i x) (w.setCell ⟨ab, i, none⟩ x.1) := by
  refine ⟨by rw [map_set_fst]; exact h.1.put i x.1, fun y hy => ?_, h.2.2.1.set h.2.2.2.2.1 _, h.2.2.2.1, h.2.2.2.2.1, by rw [List.length_set]; exact h.2.2.2.2.2⟩
  rcases List.mem_or_eq_of_mem_set hy with hy | rfl
  · exact h.2.1 y hy
  · exact hx
theorem QIs.get {w0 : World} {hb : Nat} {tH : Hd} {ab cap : Nat} {X : List QEnt} {w : World} (h : QIs w0 hb tH ab cap X w) {i : Nat} (hi : i < X.length) : QOk w0 (X.getD i qD) ∧ w.cell? ⟨ab, i, none⟩ = some (X.getD i qD).1 := by
  have e : X.getD i qD = X[i] := by rw [List.getD_eq_getElem?_getD, List.getElem?_eq_getElem hi]; rfl
  rw [e]
  refine ⟨h.2.1 _ (List.getElem_mem hi), ?_⟩
  have := h.1.at i (by simpa using hi)
  simpa using this
theorem QIs.sw {w0 : World} {hb : Nat} {tH : Hd} {ab cap : Nat} {X : List QEnt} {w : World} (h : QIs w0 hb tH ab cap X w) {i j : Nat} (hi : i < X.length) (hj : j < X.length) :
    QIs w0 hb tH ab cap (sw X i j) ((w.setCell ⟨ab, i, none⟩ (X.getD j qD).1).setCell ⟨ab, j, none⟩ (X.getD i qD).1) :=
  (h.put i _ (h.get hj).1).put j _ (h.get hi).1
theorem QIs.cut {w0 : World} {hb : Nat} {tH : Hd} {ab cap : Nat} {X : List QEnt} {w : World} (h : QIs w0 hb tH ab cap X w) (k : Nat) (hk : k ≤ X.length) : QIs w0 hb tH ab cap (X.take k) (w.setCell ⟨hb, tH.o, none⟩ (.slice (some ⟨ab, 0, none⟩) k cap)) := by
  refine ⟨?_, fun x hx => h.2.1 x (List.mem_of_mem_take hx), h.2.2.1.set h.2.2.2.1 _, h.2.2.2.1, h.2.2.2.2.1, by have := h.2.2.2.2.2; rw [List.length_take]; omega⟩
  have := h.1.cut k (by simpa using hk)
  rwa [← List.map_take] at this
/-- What a place of it begins with. -/
theorem QIs.head {w0 : World} {hb : Nat} {tH : Hd} {ab cap : Nat} {X : List QEnt} {w : World} (h : QIs w0 hb tH ab cap X w) {i : Nat} (hi : i < X.length) :
    ∃ b o n c a' c' k, (X.getD i qD).1 = .slice (some ⟨b, o, none⟩) n c ∧ 0 < n ∧ n ≤ 65536 ∧ w.cell? ⟨ab, i, none⟩ = some (.slice (some ⟨b, o, none⟩) n c) ∧ w.cell? ⟨b, o, none⟩ = some (.slice a' (kf X i).length c') ∧ w.cell? ⟨b, o + 1, none⟩ = some (.int .i64 k) ∧ RowIs w (.slice a' (kf X i).length c') (kf X i) := by
  obtain ⟨⟨q1, q2, q3, q4, q5⟩, hc⟩ := h.get hi
  unfold kf
  generalize X.getD i qD = x at *
  obtain ⟨v, l⟩ := x
  cases l with
  | nil => exact absurd rfl q2
  | cons e l =>
    simp only at q1 q5 hc ⊢
    obtain ⟨a, c, rfl⟩ := q1.form
    obtain ⟨b, o, a', c', rfl, x1, x2, x3⟩ := (q1.sees h.2.2.1).at 0 (by simp)
    simp only [List.getElem_cons_zero, Nat.zero_mul, Nat.add_zero] at x1 x2 x3
    exact ⟨b, o, _, c, a', c', e.2, rfl, by simp, by simpa using q5, hc, x1, x2, x3⟩
/-- The first row of the first one, in the world that came before. -/
theorem QIs.head0 {w0 : World} {hb : Nat} {tH : Hd} {ab cap : Nat} {x : QEnt} {T : List QEnt} {w : World} (h : QIs w0 hb tH ab cap (x :: T) w) :
    ∃ b o c a' c' e l, x = (.slice (some ⟨b, o, none⟩) (e :: l).length c, e :: l) ∧ (e :: l).length ≤ c ∧ c ≤ maxLen ∧ (e :: l).length ≤ 65536 ∧ EntsIs w0 (.slice (some ⟨b, o, none⟩) (e :: l).length c) (e :: l) ∧ SortedZ (e :: l) ∧ EOk (e :: l) ∧
      w.cell? ⟨ab, 0, none⟩ = some (.slice (some ⟨b, o, none⟩) (e :: l).length c) ∧ w.cell? ⟨b, o, none⟩ = some (.slice a' e.1.length c') ∧ w.cell? ⟨b, o + 1, none⟩ = some (.int .i64 e.2) ∧ RowIs w0 (.slice a' e.1.length c') e.1 := by
  obtain ⟨⟨q1, q2, q3, q4, q5⟩, hc⟩ := h.get (show 0 < (x :: T).length by simp)
  simp only [List.getD_cons_zero] at q1 q2 q3 q4 q5 hc
  obtain ⟨v, l⟩ := x
  cases l with
  | nil => exact absurd rfl q2
  | cons e l =>
    simp only at q1 q3 q4 q5 hc
    obtain ⟨a, c, rfl⟩ := q1.form
    obtain ⟨b, o, a', c', rfl, x1, x2, x3⟩ := q1.at 0 (by simp)
    simp only [List.getElem_cons_zero, Nat.zero_mul, Nat.add_zero] at x1 x2 x3
    have hcap : (e :: l).length ≤ c ∧ c ≤ maxLen := by
      obtain ⟨vs, h1, h2⟩ := q1
      rcases h1 with ⟨a, c2, e', rfl⟩ | ⟨b', o', c2, e', g1, g2, g3, g4⟩
      · have := h2.1; simp at this
      · simp only [Value.slice.injEq] at e'
        obtain ⟨_, _, rfl⟩ := e'
        have := h2.1
        exact ⟨by omega, g2⟩
    exact ⟨b, o, c, a', c', e, l, rfl, hcap.1, hcap.2, q5, q1, q3, q4, hc, h.2.2.1.2 _ _ x1, h.2.2.1.2 _ _ x2, x3⟩
end Go.Proofs.YtglbipnppldkmaaGreatDoor
