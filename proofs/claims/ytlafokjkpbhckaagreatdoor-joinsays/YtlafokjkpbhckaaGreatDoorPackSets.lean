/- Texts of one claim, one behind the other. -/
import Derived.Test.YtlafokjkpbhckaaGreatDoorMakeRow
import Derived.Test.YtlafokjkpbhckaaGreatDoorZMem
import Derived.Test.YtlafokjkpbhckaaGreatDoorRowStore
import Derived.Test.YtlafokjkpbhckaaGreatDoorPackMake
/- What the statements' own makers of weights and entries answer: some entries, their weights int64s, in memory of their own. -/
namespace Go.Proofs.YtlafokjkpbhckaaGreatDoor
open Go.RowKit
set_option maxRecDepth 100000

def elevenV : Array Value := #[.int .i64 1, .int .i64 1, .int .i64 1, .int .i64 2, .int .i64 (-1), .int .i64 (-1), .int .i64 3, .int .i64 (-2), .int .i64 4611686018427387904, .int .i64 (-4611686018427387904), .int .i64 (-9223372036854775808)]
theorem eleven_at (i : Nat) (h : i < 11) : ∃ n : Int, inI n = true ∧ elevenV[i]? = some (.int .i64 n) := by
  obtain rfl | rfl | rfl | rfl | rfl | rfl | rfl | rfl | rfl | rfl | rfl : i = 0 ∨ i = 1 ∨ i = 2 ∨ i = 3 ∨ i = 4 ∨ i = 5 ∨ i = 6 ∨ i = 7 ∨ i = 8 ∨ i = 9 ∨ i = 10 := by omega
  all_goals exact ⟨_, by decide, rfl⟩
set_option maxHeartbeats 4000000 in
theorem makeWeight (S : Nat) (a : Option Addr) (len cap : Nat) (zs : List Int) (p : Nat) (w : World) (h : SeqAt S a len cap zs p w) (hp : p ≤ 4294967290) :
    Calls Tryz.prog 36 #[.pointer (some ⟨S, 0, none⟩)] w fun e w' => ∃ n : Int, e = .returned (.int .i64 n) ∧ inI n = true ∧ SeqAt S a len cap zs (p + 2) w' ∧ But S w w' := by
  have hS := h.2.2.2.1
  have H : Hid (SeqAt S a len cap zs p w) := h
  clear h
  go_enter Tryz.func36, Tryz.ntmps36
  go_wp2_with fail
  refine (next S a len cap zs p 11 _ (H.out.on one_box) (by omega) (by decide) (by decide)).mono ?_
  rintro e w1 ⟨rfl, H1, hb1⟩
  obtain ⟨hr1, hs1⟩ := nm_bd (sq zs len p) 11 (by decide)
  generalize nm (sq zs len p) 11 = r1 at *
  have K1 : Hid (SeqAt S a len cap zs (p + 1) w1) := H1
  have B1 : Hid (But S (w.alloc (.cells elevenV 2)) w1) := hb1
  clear H1 hb1
  go_wp2_with fail
  refine (next S a len cap zs (p + 1) 60 _ K1.out (by omega) (by decide) (by decide)).mono ?_
  rintro e w2 ⟨rfl, H2, hb2⟩
  obtain ⟨hr2, hs2⟩ := nm_bd (sq zs len (p + 1)) 60 (by decide)
  generalize nm (sq zs len (p + 1)) 60 = r2 at *
  have K2 : Hid (SeqAt S a len cap zs (p + 2) w2) := H2
  have B2 : Hid (But S (w.alloc (.cells elevenV 2)) w2) := B1.out.trans hb2
  have B3 : Hid (But S w w2) := (But.of_below one_box).trans B2.out
  have z9 : Hid (∀ o, w2.cell? ⟨w.heap.size, o, none⟩ = (w.alloc (.cells elevenV 2)).cell? ⟨w.heap.size, o, none⟩) := (bcB B2.out w.heap.size (by omega) (by simp)).1
  clear H2 hb2 B1 K1
  by_cases hm : r2 < r1
  · obtain ⟨n, n0, hn⟩ := eleven_at r2.toNat (by omega)
    have hcell : w2.cell? ⟨w.heap.size, r2.toNat, none⟩ = some (.int .i64 n) := by rw [z9.out, World.cell?_alloc_at _ _ _ _ rfl]; exact hn
    have hm2 : ¬ r1 < r2 := by omega
    have hm3 : r2 < 11 := by omega
    have N0 : Hid (inI n = true) := n0
    clear hn n0
    go_wp2_with fail
    go_ret
    exact ⟨n, rfl, N0.out, K2.out, B3.out⟩
  · obtain ⟨n, n0, hn⟩ := eleven_at r1.toNat (by omega)
    have hcell : w2.cell? ⟨w.heap.size, r1.toNat, none⟩ = some (.int .i64 n) := by rw [z9.out, World.cell?_alloc_at _ _ _ _ rfl]; exact hn
    have hm2 : r1 ≤ r2 := by omega
    have N0 : Hid (inI n = true) := n0
    clear hn n0
    go_wp2_with fail
    go_ret
    exact ⟨n, rfl, N0.out, K2.out, B3.out⟩

/-- Rows that a call owns, each in a row of its own. -/
def OwnRows (base : Nat) (w : World) (us : List VEnt) (l : List Ent) : Prop := us.length = l.length ∧ ∀ i (h : i < us.length) (h' : i < l.length), w.ownsRow base 46 3 us[i].1 l[i].1.length (rc l[i].1) ∧ us[i].2 = l[i].2
theorem OwnRows.reads {base : Nat} {w : World} {us : List VEnt} {l : List Ent} (h : OwnRows base w us l) : Reads w us l := ⟨h.1, fun i h1 h2 => ⟨RowIs.of_own (h.2 i h1 h2).1, (h.2 i h1 h2).2⟩⟩
theorem OwnRows.but {S base : Nat} {w w' : World} {us : List VEnt} {l : List Ent} (h : OwnRows base w us l) (hb : But S w w') (hS : S < base) : OwnRows base w' us l := ⟨h.1, fun i h1 h2 => ⟨own_but (h.2 i h1 h2).1 hb hS, (h.2 i h1 h2).2⟩⟩
theorem own_ne_types {base base' : Nat} {w : World} {e e' : TypeId} {s s' : Nat} {v v' : Value} {n n' : Nat} {xs xs' : List Value} (h : w.ownsRow base e s v n xs) (h' : w.ownsRow base' e' s' v' n' xs') (hne : e ≠ e') (g : Nat) (hg : v'.ownBlock = some g) : v.ownBlock ≠ some g := by
  intro hv
  rcases h.2 with ⟨rfl, _⟩ | ⟨g1, c1, u1, rfl, _, h1, _⟩
  · cases hv
  · rcases h'.2 with ⟨rfl, _⟩ | ⟨g2, c2, u2, rfl, _, h2, _⟩
    · cases hg
    · simp only [Value.ownBlock, Option.some.injEq] at hv hg
      subst hv hg
      rw [h1] at h2
      simp only [Option.some.injEq, Obj.cells.injEq] at h2
      exact hne h2.2.1
theorem OwnRows.grown {base base' : Nat} {w w' : World} {us : List VEnt} {l : List Ent} {v : Value} {n : Nat} {xs : List Value} (h : OwnRows base w us l) (ho : w.ownsRow base' 41 2 v n xs) (hg : w.grownBy w' v.ownBlock) : OwnRows base w' us l := by
  refine ⟨h.1, fun i h1 h2 => ⟨?_, (h.2 i h1 h2).2⟩⟩
  have hr := (h.2 i h1 h2).1
  cases hv : v.ownBlock with
  | none =>
    rw [hv] at hg
    exact hr.kept hg (by cases e : us[i].1.ownBlock with | none => exact .inl rfl | some k => exact .inr (by simp))
  | some g =>
    rw [hv] at hg
    exact hr.kept hg (.inr (own_ne_types hr ho (by decide) g hv))
theorem OwnRows.snoc {base : Nat} {w : World} {us : List VEnt} {l : List Ent} (h : OwnRows base w us l) {v : Value} {r : List Val} (hv : w.ownsRow base 46 3 v r.length (rc r)) (n : Int) : OwnRows base w (us ++ [(v, n)]) (l ++ [(r, n)]) := by
  refine ⟨by simp [h.1], fun i h1 h2 => ?_⟩
  by_cases hi : i < us.length
  · have hi' : i < l.length := by rw [← h.1]; exact hi
    rw [List.getElem_append_left hi, List.getElem_append_left hi']; exact h.2 i hi hi'
  · have e : i = us.length := by simp at h1; omega
    subst e
    have e2 := h.1
    rw [List.getElem_append_right (Nat.le_refl _), List.getElem_append_right (by omega)]
    simp [← e2]; exact hv
theorem own_mono {base base' : Nat} {w : World} {e : TypeId} {s : Nat} {v : Value} {n : Nat} {xs : List Value} (h : w.ownsRow base' e s v n xs) (hb : base ≤ base') : w.ownsRow base e s v n xs := by
  obtain ⟨h1, h2 | ⟨g, cap, cur, hv, hg, r⟩⟩ := h
  · exact ⟨h1, .inl h2⟩
  · exact ⟨h1, .inr ⟨g, cap, cur, hv, by omega, r⟩⟩
theorem own_form {base : Nat} {w : World} {e : TypeId} {s : Nat} {v : Value} {n : Nat} {xs : List Value} (h : w.ownsRow base e s v n xs) : ∃ a cap, v = .slice a n cap := by
  rcases h.2 with ⟨h1, h2⟩ | ⟨g, cap, cur, hv, _⟩
  · exact ⟨none, 0, by rw [h1, h2]⟩
  · exact ⟨_, _, hv⟩
theorem OwnRows.on {base : Nat} {w w' : World} {us : List VEnt} {l : List Ent} (h : OwnRows base w us l) (k : Below w.heap.size w w') : OwnRows base w' us l := by
  refine ⟨h.1, fun i h1 h2 => ⟨?_, (h.2 i h1 h2).2⟩⟩
  obtain ⟨g1, g2 | ⟨g, cap, cur, hv, hg, hh, r⟩⟩ := (h.2 i h1 h2).1
  · exact ⟨g1, .inl g2⟩
  · exact ⟨g1, .inr ⟨g, cap, cur, hv, hg, by rw [k.block g (Array.getElem?_eq_some_iff.1 hh).1]; exact hh, r⟩⟩
/-- How far the making of entries has come: k are still to come. -/
def EntTo (S : Nat) (a : Option Addr) (len cap : Nat) (zs : List Int) (ks : List Int) (p T most : Nat) (w : World) (k : Nat) (v : Value) (wr : World) : Prop :=
  ∃ l us p', l.length + k ≤ most ∧ (∀ e ∈ l, inI e.2 = true ∧ T = 4 * e.1.length + 2 ∧ OkR ks e.1) ∧ wr.ownsRow w.heap.size 41 2 v us.length (es us) ∧ OwnRows w.heap.size wr us l ∧ p' + T * k ≤ p + 1 + T * most ∧ SeqAt S a len cap zs p' wr ∧ But S w wr
set_option maxHeartbeats 4000000 in
theorem makeEntries (S : Nat) (a : Option Addr) (len cap : Nat) (zs : List Int) (p : Nat) (C n ccap : Nat) (ks : List Int) (most : Nat) (w : World) (h : SeqAt S a len cap zs p w) (hp : p + 1 + (4 * n + 2) * most ≤ 4294967280) (hmost : most ≤ 65535)
    (hc : ColsAt C ks w) (hC : C ≠ S) (hn : n ≤ ks.length) (hk : ∀ i (h : i < ks.length), ks[i] = 0 ∨ ks[i] = 1 ∨ ks[i] = 2 ∨ ks[i] = 3) :
    Calls Tryz.prog 14 #[.pointer (some ⟨S, 0, none⟩), .slice (some ⟨C, 0, none⟩) n ccap, .int .i64 most] w fun e w' => ∃ v, e = .returned v ∧ EntTo S a len cap zs ks p (4 * n + 2) most w 0 v w' := by
  have HS : Hid (S < w.heap.size) := h.2.2.2.1
  have H : Hid (SeqAt S a len cap zs p w) := h
  have HC : Hid (ColsAt C ks w) := hc
  have Hk : Hid (∀ i (h : i < ks.length), ks[i] = 0 ∨ ks[i] = 1 ∨ ks[i] = 2 ∨ ks[i] = 3) := hk
  obtain ⟨i0, hi, hz0, hz1, hz2⟩ := info_parts info_entry
  obtain ⟨T, hT⟩ : ∃ T, T = 4 * n + 2 := ⟨_, rfl⟩
  rw [← hT] at hp ⊢
  have HT : Hid (T = 4 * n + 2) := hT
  clear h hc hk hT
  go_enter Tryz.func14, Tryz.ntmps14
  go_wp2_with fail
  refine (next S a len cap zs p ((most : Int) + 1) _ H.out (by omega) (by omega) (by omega)).mono ?_
  rintro e w1 ⟨rfl, H1, hb1⟩
  obtain ⟨hr1, hs1⟩ := nm_bd (sq zs len p) ((most : Int) + 1) (by omega)
  obtain ⟨k0, hk0⟩ : ∃ k0 : Nat, nm (sq zs len p) ((most : Int) + 1) = (k0 : Int) := ⟨(nm (sq zs len p) ((most : Int) + 1)).toNat, by omega⟩
  rw [hk0] at hr1 hs1 ⊢
  have F0 : Hid (EntTo S a len cap zs ks p T most w k0 (.slice none 0 0) w1) := by
    refine ⟨[], [], p + 1, by simp; omega, (fun e h => by cases h), World.ownsRow_nil _ _ _ _, ⟨rfl, fun i h => by simp at h⟩, ?_, H1, hb1⟩
    exact Nat.add_le_add_left (Nat.mul_le_mul_left T (by omega)) _
  clear H1 hb1 hk0
  go_wp2_with fail
  go_loopw [7, 8] (fun v i wr => ∃ k : Nat, i = .int .i64 k ∧ k ≤ most ∧ EntTo S a len cap zs ks p T most w k v wr) (fun _ i _ => (intOf i).toNat)
  case atStart => exact ⟨k0, rfl, by omega, F0.out⟩
  case round =>
    obtain ⟨k, rfl, hkm, hE⟩ := hrel
    clear F0
    by_cases hk1 : 0 < k
    · obtain ⟨l, us, p', e1, e2, e3, e4, e5, e6, e7⟩ := hE
      obtain ⟨k', rfl⟩ : ∃ k', k = k' + 1 := ⟨k - 1, by omega⟩
      have I1 : (0 : Int) < ((k' + 1 : Nat) : Int) := by omega
      have e5' : p' + (T * k' + T) ≤ p + 1 + T * most := by rw [← Nat.mul_succ]; exact e5
      have hul : us.length ≤ most := by rw [e4.1]; omega
      have E2 : Hid (∀ e ∈ l, inI e.2 = true ∧ T = 4 * e.1.length + 2 ∧ OkR ks e.1) := e2
      have E3 : Hid (wr.ownsRow w.heap.size 41 2 u7 us.length (es us)) := e3
      have E4 : Hid (OwnRows w.heap.size wr us l) := e4
      have E6 : Hid (SeqAt S a len cap zs p' wr) := e6
      have E7 : Hid (But S w wr) := e7
      have hTn := HT.out
      have q1 : Hid (Calls Tryz.prog 35 #[.pointer (some ⟨S, 0, none⟩), .slice (some ⟨C, 0, none⟩) n ccap] wr fun e w' => ∃ v, e = .returned v ∧ SoFar S a len cap zs p' ks wr n v w') :=
        makeRow S a len cap zs p' C n ccap ks wr e6 (by omega) (HC.out.but e7 hC) hC hn Hk.out
      generalize hTk : T * k' = Tk at *
      generalize hTm : T * most = Tm at *
      clear e2 e3 e4 e5 e6 e7 hTn
      go_wp2_with fail
      refine q1.out.mono ?_
      rintro e w2 ⟨vr, rfl, r, p2, r1, r2, r3, r4, r5, r6, r7⟩
      obtain ⟨ar, cr, er⟩ := own_form r3
      subst er
      have hsz := E7.out.size
      have hS' : S < wr.heap.size := by have := HS.out; omega
      have R3 : Hid (w2.ownsRow wr.heap.size 46 3 (.slice ar n cr) n (rc r)) := r3
      have R1 : Hid (r.length = n) := r1
      have R2 : Hid (OkR ks r) := r2
      have R5 : Hid (SeqAt S a len cap zs p2 w2) := r5
      have R6 : Hid (But S wr w2) := r6
      have q2 : Hid (Calls Tryz.prog 36 #[.pointer (some ⟨S, 0, none⟩)] w2 fun e w' => ∃ n : Int, e = .returned (.int .i64 n) ∧ inI n = true ∧ SeqAt S a len cap zs (p2 + 2) w' ∧ But S w2 w') := makeWeight S a len cap zs p2 w2 r5 (by have := HT.out; omega)
      clear q1 r1 r2 r3 r5 r6 r7
      go_wp2_with fail
      refine q2.out.mono ?_
      rintro e w3 ⟨wn, rfl, n1, n2, n3⟩
      have hsz2 := R6.out.size
      have hsz3 := n3.size
      have O3 : Hid (w3.ownsRow w.heap.size 41 2 u7 us.length (es us)) := own_but (own_but E3.out R6.out HS.out) n3 HS.out
      have F : Hid (∀ v4 w4, w4.ownsRow w.heap.size 41 2 v4 (us.length + 1) (es us ++ ec (.slice ar n cr, wn)) → (w3.alloc (.cells #[.slice ar n cr, .int .i64 wn] 41)).grownBy w4 (Value.ownBlock u7) → EntTo S a len cap zs ks p T most w k' v4 w4) := by
        intro v4 w4 g1 g2
        have Or : OwnRows w.heap.size w3 us l := (E4.out.but R6.out HS.out).but n3 HS.out
        have Rr : w3.ownsRow w.heap.size 46 3 (.slice ar n cr) r.length (rc r) := by rw [R1.out]; exact own_mono (own_but R3.out n3 hS') hsz
        have Oa := (Or.snoc Rr wn).on (w' := w3.alloc (.cells #[.slice ar n cr, .int .i64 wn] 41)) one_box
        have hbut : But S w (w3.alloc (.cells #[.slice ar n cr, .int .i64 wn] 41)) := ((E7.out.trans R6.out).trans n3).trans (But.of_below one_box)
        refine ⟨l ++ [(r, wn)], us ++ [(.slice ar n cr, wn)], p2 + 2, by simp; omega, ?_, ?_, ?_, ?_, ?_, ?_⟩
        · intro e he
          rcases List.mem_append.1 he with h | h
          · exact E2.out e h
          · simp at h; rw [h]; exact ⟨n1, by rw [R1.out]; exact HT.out, R2.out⟩
        · rw [es_snoc, List.length_append]; exact g1
        · exact Oa.grown (O3.out.alloc _) g2
        · have := HT.out; rw [hTk, hTm]; omega
        · exact (n2.on one_box).grown g2 (fun k e => by have := (O3.out.lt k e).1; have := HS.out; omega)
        · exact hbut.grown g2 (fun k e => (O3.out.lt k e).1)
      clear q2 n1 n2 n3
      go_wp2_with (first | (at_builtin; refine wpList_append_own _ rfl _ _ 27 rfl w.heap.size 41 i0 (.agg #[.slice none 0 0, .int .i64 0]) 2 32 Tryz.underlying27 hi hz0 hz1 hz2 rfl (by decide) _ us.length (es us) rfl (O3.out.alloc _) ⟨w3.heap.size, 0, none⟩ 1 1 (ec (.slice ar n cr, wn)) rfl rfl (cell_two_new _ _ _ _) (by simp [ec, Value.oneCell']) (by unfold maxLen; omega) (by omega) (by simp; omega) ?_; intro v4 w4 hown4 hg4 _; have hs4 := F.out _ _ hown4 hg4; clear hown4 hg4 F) | fail)
      go_roundw
      case rel => exact ⟨k', by go_num, by omega, hs4⟩
      case measure => simp [intOf]
    · obtain rfl : k = 0 := by omega
      have HE : Hid (EntTo S a len cap zs ks p T most w 0 u7 wr) := hE
      clear hE
      go_wp2_with fail
      go_ret
      exact ⟨u7, rfl, HE.out⟩
end Go.Proofs.YtlafokjkpbhckaaGreatDoor
/- What the statements' own makers of z-sets answer: some z-set, of any weights or of small ones. -/
namespace Go.Proofs.YtlafokjkpbhckaaGreatDoor
open Go.RowKit Go.Sort
set_option maxRecDepth 100000

theorem mkZ_fits (l : List Ent) : ∀ e ∈ mkZ l, inI e.2 = true := by
  intro e he
  unfold mkZ at he
  split at he
  · rename_i h
    unfold okZ fitsZ at h
    exact List.all_eq_true.1 h e (List.mem_filter.1 he).1
  · cases he
theorem mkZ_len (l : List Ent) : (mkZ l).length ≤ l.length := by
  have h1 := gat_len l
  unfold mkZ
  split
  · have h2 := List.length_filter_le (fun e : Ent => e.2 != 0) (gat l)
    unfold nzZ; omega
  · simp
theorem mkZ_rows (l : List Ent) : ∀ e ∈ mkZ l, ∃ x ∈ l, x.1 = e.1 := by
  intro e he
  by_cases h : okZ l = true
  · have h1 := wt_mem (mkZ_isZ l).1 he
    have h2 := (mkZ_isZ l).2 e he
    rw [wt_mkZ h] at h1
    exact mem_of_wt (by rw [h1]; exact h2)
  · unfold mkZ at he
    rw [if_neg h] at he
    cases he
theorem mkZ_ok {l : List Ent} (h : ∀ e ∈ l, e.1.length ≤ 65536) : ∀ e ∈ mkZ l, inI e.2 = true ∧ e.1.length ≤ 65536 := by
  intro e he
  obtain ⟨x, hx, e'⟩ := mkZ_rows l e he
  exact ⟨mkZ_fits l e he, by rw [← e']; exact h x hx⟩
/-- A block of values. -/
def ValB (k : Nat) (w : World) : Prop := ∃ c fz, w.heap[k]? = some (.cells c 46 fz)
def isV : Obj → Bool
  | .cells _ t _ => t == 46
  | _ => false
/-- A world with nothing but blocks of values from a bound on. -/
def above (base : Nat) (w : World) : World := { w with heap := w.heap.mapIdx fun k o => if base ≤ k ∧ isV o = true then o else .cells #[] 0 (0, 0) }
theorem above_size (base : Nat) (w : World) : (above base w).heap.size = w.heap.size := by simp [above]
theorem above_block {base : Nat} {w : World} {k : Nat} (h : base ≤ k) (hv : ValB k w) : (above base w).heap[k]? = w.heap[k]? := by
  obtain ⟨c, fz, e⟩ := hv
  show (w.heap.mapIdx _)[k]? = _
  rw [Array.getElem?_mapIdx, e]
  simp [h, isV]
theorem above_cell {base : Nat} {w : World} {b o : Nat} (h : base ≤ b) (hv : ValB b w) : (above base w).cell? ⟨b, o, none⟩ = w.cell? ⟨b, o, none⟩ := World.cell?_of_block (above_block h hv)
theorem above_some {base : Nat} {w : World} {b o : Nat} {u : Value} (h : (above base w).cell? ⟨b, o, none⟩ = some u) : base ≤ b ∧ ValB b w := by
  have h1 : (above base w).heap[b]? = (w.heap[b]?).map fun x => if base ≤ b ∧ isV x = true then x else Obj.cells #[] 0 (0, 0) := by
    show (w.heap.mapIdx _)[b]? = _
    rw [Array.getElem?_mapIdx]
  unfold World.cell? at h
  rw [h1] at h
  cases e : w.heap[b]? with
  | none => rw [e] at h; simp at h
  | some x =>
    rw [e] at h
    by_cases hc : base ≤ b ∧ isV x = true
    · refine ⟨hc.1, ?_⟩
      cases x with
      | cells c t fz =>
        have : t = 46 := by have := hc.2; simpa [isV] using this
        exact ⟨c, fz, by rw [e, this]⟩
      | _ => have := hc.2; simp [isV] at this
    · simp [hc] at h
/-- A row that is read above a bound: it is read, and lies above, in a block of values. -/
theorem row_above {base : Nat} {w : World} {v : Value} {r : List Val} (h : RowIs (above base w) v r) : RowIs w v r ∧ (r = [] ∨ ∀ k, v.ownBlock = some k → base ≤ k ∧ ValB k w) := by
  rcases h with ⟨a, cap, rfl, rfl⟩ | ⟨b, o, cap, rfl, h1, h2, h3, h4⟩
  · exact ⟨.inl ⟨a, cap, rfl, rfl⟩, .inl rfl⟩
  · by_cases hr : r = []
    · subst hr; exact ⟨.inl ⟨_, cap, rfl, rfl⟩, .inl rfl⟩
    · have hl : 0 < r.length := List.length_pos_iff.2 hr
      obtain ⟨hb, hv⟩ := above_some (h4 0 hl).1
      rw [above_size] at h3
      refine ⟨.inr ⟨b, o, cap, rfl, h1, h2, h3, fun i hi => ?_⟩, .inr (fun k hk => by cases hk; exact ⟨hb, hv⟩)⟩
      have := h4 i hi
      rw [above_cell hb hv, above_cell hb hv, above_cell hb hv] at this
      exact this
theorem own_above {base : Nat} {w : World} {s : Nat} {v : Value} {n : Nat} {xs : List Value} (h : w.ownsRow base 46 s v n xs) : (above base w).ownsRow base 46 s v n xs := by
  obtain ⟨h1, h2 | ⟨g, cap, cur, hv, hg, hh, r⟩⟩ := h
  · exact ⟨h1, .inl h2⟩
  · exact ⟨h1, .inr ⟨g, cap, cur, hv, hg, by rw [above_block hg ⟨cur, (0, 0), hh⟩]; exact hh, r⟩⟩
theorem own_val {base : Nat} {w : World} {s : Nat} {v : Value} {n : Nat} {xs : List Value} (h : w.ownsRow base 46 s v n xs) : ∀ k, v.ownBlock = some k → base ≤ k ∧ ValB k w := fun k hk => by
  refine ⟨(h.lt k hk).1, ?_⟩
  rcases h.2 with ⟨rfl, _⟩ | ⟨g, cap, cur, rfl, _, hh, _⟩
  · cases hk
  · cases hk; exact ⟨cur, (0, 0), hh⟩
theorem ValB.on {k : Nat} {w w' : World} (h : ValB k w) (hb : Below w.heap.size w w') : ValB k w' := by
  obtain ⟨c, fz, e⟩ := h
  exact ⟨c, fz, by rw [hb.block k (Array.getElem?_eq_some_iff.1 e).1]; exact e⟩
theorem OwnRows.above {base : Nat} {w : World} {us : List VEnt} {l : List Ent} (h : OwnRows base w us l) : OwnRows base (above base w) us l := ⟨h.1, fun i a b => ⟨own_above (h.2 i a b).1, (h.2 i a b).2⟩⟩
/-- Entries that a call owns, their rows new, too. -/
def EntsNew (base : Nat) (l : List Ent) (v : Value) (w : World) : Prop :=
  ∃ us, w.ownsRow base 41 2 v us.length (es us) ∧ Reads w us l ∧ ∀ i (h : i < us.length) (h' : i < l.length), l[i].1 = [] ∨ ∀ k, us[i].1.ownBlock = some k → base ≤ k ∧ ValB k w
theorem EntsNew.ents {base : Nat} {l : List Ent} {v : Value} {w : World} (h : EntsNew base l v w) : EntsIs w v l := by
  obtain ⟨us, h1, h2, _⟩ := h; exact ⟨us, EntsAt.of_own h1, h2⟩
theorem EntsNew.on {base : Nat} {l : List Ent} {v : Value} {w w' : World} (h : EntsNew base l v w) (hb : Below w.heap.size w w') : EntsNew base l v w' := by
  obtain ⟨us, h1, h2, h3⟩ := h
  refine ⟨us, own_on h1 hb, h2.on hb, fun i a b => ?_⟩
  rcases h3 i a b with e | e
  · exact .inl e
  · exact .inr (fun k hk => ⟨(e k hk).1, (e k hk).2.on hb⟩)
theorem EntsNew.but {S base : Nat} {l : List Ent} {v : Value} {w w' : World} (h : EntsNew base l v w) (hb : But S w w') (hS : S < base) : EntsNew base l v w' := by
  obtain ⟨us, h1, h2, h3⟩ := h
  refine ⟨us, own_but h1 hb hS, ⟨h2.1, fun i a b => ⟨?_, (h2.2 i a b).2⟩⟩, fun i a b => ?_⟩
  · have hr := (h2.2 i a b).1
    rcases h3 i a b with e | e
    · obtain ⟨a0, c0, ef⟩ := hr.form
      rw [ef, e]; exact .inl ⟨a0, c0, rfl, rfl⟩
    · exact hr.but hb (fun e' => by have := (e S e').1; omega)
  · rcases h3 i a b with e | e
    · exact .inl e
    · refine .inr (fun k hk => ⟨(e k hk).1, ?_⟩)
      obtain ⟨c, fz, ek⟩ := (e k hk).2
      exact ⟨c, fz, by rw [hb.2.2.2.2 k (by have := (e k hk).1; omega) (Array.getElem?_eq_some_iff.1 ek).1]; exact ek⟩
theorem EntsNew.mono {base base' : Nat} {l : List Ent} {v : Value} {w : World} (h : EntsNew base' l v w) (hb : base ≤ base') : EntsNew base l v w := by
  obtain ⟨us, h1, h2, h3⟩ := h
  refine ⟨us, own_mono h1 hb, h2, fun i a b => ?_⟩
  rcases h3 i a b with e | e
  · exact .inl e
  · exact .inr (fun k hk => ⟨Nat.le_trans hb (e k hk).1, (e k hk).2⟩)
theorem EntsNew.of_own {base : Nat} {us : List VEnt} {l : List Ent} {v : Value} {w : World} (h : w.ownsRow base 41 2 v us.length (es us)) (hr : OwnRows base w us l) : EntsNew base l v w :=
  ⟨us, h, hr.reads, fun i a b => .inr (own_val (hr.2 i a b).1)⟩
theorem EntsN.new {base base' : Nat} {l : List Ent} {v : Value} {w w' : World} (h : EntsN base' (above base w) l v w') (hb : Below w.heap.size w w') (hle : base ≤ base') : EntsNew base l v w' := by
  obtain ⟨us, h1, h2⟩ := h
  exact ⟨us, own_mono h1 hle, ⟨h2.1, fun i a b => ⟨((row_above (h2.2 i a b).1).1).on hb, (h2.2 i a b).2⟩⟩, fun i a b => by
    rcases (row_above (h2.2 i a b).1).2 with e | e
    · exact .inl e
    · exact .inr (fun k hk => ⟨(e k hk).1, (e k hk).2.on hb⟩)⟩
/-- Some z-set, and the maker some numbers on. -/
def ZMade (S : Nat) (a : Option Addr) (len cap : Nat) (zs : List Int) (p T most : Nat) (w : World) (z : List Ent) (v : Value) (w' : World) : Prop :=
  ∃ p', IsZ z ∧ (∀ e ∈ z, inI e.2 = true ∧ e.1.length ≤ 65536) ∧ z.length ≤ most ∧ EntsNew w.heap.size z v w' ∧ p' ≤ p + 1 + T * most ∧ SeqAt S a len cap zs p' w' ∧ But S w w'
set_option maxHeartbeats 2000000 in
theorem makeWide (S : Nat) (a : Option Addr) (len cap : Nat) (zs : List Int) (p : Nat) (C n ccap : Nat) (ks : List Int) (most : Nat) (w : World) (h : SeqAt S a len cap zs p w) (hp : p + 1 + (4 * n + 2) * most ≤ 4294967280) (hmost : most ≤ 65535)
    (hc : ColsAt C ks w) (hC : C ≠ S) (hn4 : n ≤ 65536) (hn : n ≤ ks.length) (hk : ∀ i (h : i < ks.length), ks[i] = 0 ∨ ks[i] = 1 ∨ ks[i] = 2 ∨ ks[i] = 3) :
    Calls Tryz.prog 5 #[.pointer (some ⟨S, 0, none⟩), .slice (some ⟨C, 0, none⟩) n ccap, .int .i64 most] w fun e w' => ∃ v z, e = .returned v ∧ ZMade S a len cap zs p (4 * n + 2) most w z v w' ∧ ∀ e ∈ z, e.1.length = n ∧ OkR ks e.1 := by
  have q1 := makeEntries S a len cap zs p C n ccap ks most w h hp hmost hc hC hn hk
  clear h hc hk
  go_enter Tryz.func5, Tryz.ntmps5
  go_wp2_with fail
  refine q1.mono ?_
  rintro e w1 ⟨v, rfl, l, us, p', e1, e2, e3, e4, e5, e6, e7⟩
  have q2 := refMakeR l v w1 (above w.heap.size w1) (fun _ _ h => (row_above h).1) (by omega) (fun e he => (e2 e he).1) ⟨us, EntsAt.of_own e3, e4.above.reads⟩ _ rfl
  have hw1 := e7.size
  have EL : Hid (∀ e ∈ l, e.1.length ≤ 65536) := fun e he => by have := (e2 e he).2.1; omega
  have EK : Hid (∀ e ∈ mkZ l, e.1.length = n ∧ OkR ks e.1) := fun e he => by
    obtain ⟨x, hx, hr⟩ := mkZ_rows l e he
    have := e2 x hx
    rw [← hr]; exact ⟨by omega, this.2.2⟩
  have E5 : Hid (p' + (4 * n + 2) * 0 ≤ p + 1 + (4 * n + 2) * most) := e5
  have E6 : Hid (SeqAt S a len cap zs p' w1) := e6
  have E7 : Hid (But S w w1) := e7
  generalize (if okZ l then (0 : Int) else 107) = c at *
  clear q1 e2 e3 e4 e5 e6 e7 hp
  go_wp2_with fail
  refine q2.mono ?_
  rintro e w2 ⟨v2, rfl, h1, h2⟩
  have hf : Hid (ZMade S a len cap zs p (4 * n + 2) most w (mkZ l) v2 w2) := ⟨p', mkZ_isZ l, mkZ_ok EL.out, by have := mkZ_len l; omega, h1.new h2 hw1, by have := E5.out; simpa using this, E6.out.on h2, E7.out.trans (But.of_below h2)⟩
  clear q2 h1 h2
  go_wp2_with fail
  go_ret
  exact ⟨_, _, rfl, hf.out, EK.out⟩
theorem tmod_small (n : Int) : -100 < n.tmod 100 ∧ n.tmod 100 < 100 := by
  have h1 := Int.tmod_lt_of_pos n (by decide : (0 : Int) < 100)
  have h2 := Int.tmod_lt_of_pos (-n) (by decide : (0 : Int) < 100)
  rw [Int.neg_tmod] at h2
  omega
theorem wt_small (r : List Val) : ∀ (l : List Ent), (∀ e ∈ l, -100 < e.2 ∧ e.2 < 100) → -(100 * (l.length : Int)) ≤ wt r l ∧ wt r l ≤ 100 * (l.length : Int)
  | [], _ => by simp [wt]
  | e :: l, h => by
    have h1 := wt_small r l (fun x hx => h x (by simp [hx]))
    have h2 := h e (by simp)
    simp only [wt, List.length_cons]
    split <;> omega
/-- The first j entries' weights cut. -/
def cutE (e : Ent) : Ent := (e.1, e.2.tmod 100)
def cutV (e : VEnt) : VEnt := (e.1, e.2.tmod 100)
def cutTo {α : Type} (f : α → α) (l : List α) (j : Nat) : List α := (l.take j).map f ++ l.drop j
theorem cutTo_len {α : Type} (f : α → α) (l : List α) (j : Nat) : (cutTo f l j).length = l.length := by unfold cutTo; simp; omega
theorem cutTo_at {α : Type} (f : α → α) (l : List α) (j : Nat) (h : j < l.length) : (cutTo f l j)[j]? = some l[j] := by
  unfold cutTo
  rw [List.getElem?_append_right (by simp; omega), List.getElem?_drop]
  simp [Nat.min_eq_left (Nat.le_of_lt h), h]
theorem cutTo_step {α : Type} (f : α → α) (l : List α) (j : Nat) (h : j < l.length) : (cutTo f l j).set j (f l[j]) = cutTo f l (j + 1) := by
  unfold cutTo
  have e1 : ((l.take j).map f).length = j := by simp; omega
  rw [List.take_succ_eq_append_getElem h, List.map_append, List.set_append, if_neg (by omega), e1, Nat.sub_self, List.drop_eq_getElem_cons h, List.set_cons_zero, List.append_assoc]
  rfl
theorem cutTo_all {α : Type} (f : α → α) (l : List α) : cutTo f l l.length = l.map f := by unfold cutTo; simp
theorem es_setw (l : List VEnt) (i : Nat) (h : i < l.length) (k : Int) : es (l.set i (l[i].1, k)) = (es l).set (i * 2 + 1) (.int .i64 k) := by
  induction l generalizing i with
  | nil => simp at h
  | cons a l ih =>
    cases i with
    | zero => rfl
    | succ i =>
      have ih' := ih i (by simpa using h)
      rw [List.set_cons_succ, es_cons, es_cons]
      simp only [List.getElem_cons_succ]
      rw [ih', show (i + 1) * 2 + 1 = (i * 2 + 1) + 2 by omega, List.set_append, if_neg (by simp [ec])]
      congr 1
theorem OwnRows.cut {base : Nat} {w : World} {us : List VEnt} {l : List Ent} (h : OwnRows base w us l) : OwnRows base w (us.map cutV) (l.map cutE) := by
  refine ⟨by simp [h.1], fun i h1 h2 => ?_⟩
  simp only [List.length_map] at h1 h2
  simp only [List.getElem_map, cutV, cutE]
  exact ⟨(h.2 i h1 h2).1, by rw [(h.2 i h1 h2).2]⟩
/-- How far the cutting of weights has come. -/
def CutTo (S : Nat) (a : Option Addr) (len cap : Nat) (zs : List Int) (p' : Nat) (w : World) (us : List VEnt) (l : List Ent) (v : Value) (j : Nat) (wr : World) : Prop :=
  wr.ownsRow w.heap.size 41 2 v us.length (es (cutTo cutV us j)) ∧ OwnRows w.heap.size wr us l ∧ SeqAt S a len cap zs p' wr ∧ But S w wr
end Go.Proofs.YtlafokjkpbhckaaGreatDoor
/- Z-sets that a call owns: the list and its rows. -/
namespace Go.Proofs.YtlafokjkpbhckaaGreatDoor
open Go.RowKit Go.Sort
set_option maxRecDepth 100000
/-- Entries that may be handed in. -/
def EOk (l : List Ent) : Prop := ∀ e ∈ l, inI e.2 = true ∧ e.1.length ≤ 65536
/-- A z-set under way: a list of the call's own, rows of its own. -/
def ZOwn (base : Nat) (us : List VEnt) (l : List Ent) (v : Value) (w : World) : Prop := w.ownsRow base 41 2 v us.length (es us) ∧ OwnRows base w us l
theorem ZOwn.ents {base : Nat} {us : List VEnt} {l : List Ent} {v : Value} {w : World} (h : ZOwn base us l v w) : EntsIs w v l := ⟨us, EntsAt.of_own h.1, h.2.reads⟩
theorem ZOwn.on {base : Nat} {us : List VEnt} {l : List Ent} {v : Value} {w w' : World} (h : ZOwn base us l v w) (hb : Below w.heap.size w w') : ZOwn base us l v w' := ⟨own_on h.1 hb, h.2.on hb⟩
theorem ZOwn.nil (base : Nat) (w : World) : ZOwn base [] [] (.slice none 0 0) w := ⟨World.ownsRow_nil _ _ _ _, rfl, fun i h => by simp at h⟩
/-- A z-set of the call's own. -/
def ZHas (base : Nat) (l : List Ent) (v : Value) (w : World) : Prop := ∃ us, ZOwn base us l v w
theorem ZHas.ents {base : Nat} {l : List Ent} {v : Value} {w : World} (h : ZHas base l v w) : EntsIs w v l := by obtain ⟨us, h⟩ := h; exact h.ents
theorem ZHas.on {base : Nat} {l : List Ent} {v : Value} {w w' : World} (h : ZHas base l v w) (hb : Below w.heap.size w w') : ZHas base l v w' := by obtain ⟨us, h⟩ := h; exact ⟨us, h.on hb⟩
theorem ZOwn.mono {base base' : Nat} {us : List VEnt} {l : List Ent} {v : Value} {w : World} (h : ZOwn base' us l v w) (hb : base ≤ base') : ZOwn base us l v w :=
  ⟨own_mono h.1 hb, h.2.1, fun i h1 h2 => ⟨own_mono (h.2.2 i h1 h2).1 hb, (h.2.2 i h1 h2).2⟩⟩
theorem own_keep {base : Nat} {w w' : World} {e : TypeId} {s : Nat} {v : Value} {n : Nat} {xs : List Value} {g : Option Nat} (h : w.ownsRow base e s v n xs) (hg : w.grownBy w' g) (hlt : ∀ k, g = some k → k < base) : w'.ownsRow base e s v n xs := by
  refine h.kept hg ?_
  cases hv : v.ownBlock with
  | none => exact .inl rfl
  | some k => exact .inr (fun e' => by have h1 := (h.lt k hv).1; have h2 := hlt k e'.symm; omega)
theorem ZHas.keep {base : Nat} {l : List Ent} {v : Value} {w w' : World} {g : Option Nat} (h : ZHas base l v w) (hg : w.grownBy w' g) (hlt : ∀ k, g = some k → k < base) : ZHas base l v w' := by
  obtain ⟨us, h1, h2⟩ := h
  exact ⟨us, own_keep h1 hg hlt, h2.1, fun i a b => ⟨own_keep (h2.2 i a b).1 hg hlt, (h2.2 i a b).2⟩⟩
theorem ZHas.new {base : Nat} {l : List Ent} {v : Value} {w : World} (h : ZHas base l v w) : EntsNew base l v w := by
  obtain ⟨us, h1, h2⟩ := h; exact EntsNew.of_own h1 h2
end Go.Proofs.YtlafokjkpbhckaaGreatDoor
