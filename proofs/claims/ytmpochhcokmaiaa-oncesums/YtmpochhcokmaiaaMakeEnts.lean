/- What the statements' own makers of weights and entries answer: some entries, their weights int64s, in memory of their own. -/
import Derived.Test.YtmpochhcokmaiaaMakeRow
import Derived.Test.YtmpochhcokmaiaaZMem
import Derived.Test.YtmpochhcokmaiaaRowStore
namespace Go.Proofs.Ytmpochhcokmaiaa
open Go.RowKit
set_option maxRecDepth 100000

def elevenV : Array Value := #[.int .i64 1, .int .i64 1, .int .i64 1, .int .i64 2, .int .i64 (-1), .int .i64 (-1), .int .i64 3, .int .i64 (-2), .int .i64 4611686018427387904, .int .i64 (-4611686018427387904), .int .i64 (-9223372036854775808)]
theorem eleven_at (i : Nat) (h : i < 11) : ∃ n : Int, inI n = true ∧ elevenV[i]? = some (.int .i64 n) := by
  obtain rfl | rfl | rfl | rfl | rfl | rfl | rfl | rfl | rfl | rfl | rfl : i = 0 ∨ i = 1 ∨ i = 2 ∨ i = 3 ∨ i = 4 ∨ i = 5 ∨ i = 6 ∨ i = 7 ∨ i = 8 ∨ i = 9 ∨ i = 10 := by omega
  all_goals exact ⟨_, by decide, rfl⟩
set_option maxHeartbeats 4000000 in
theorem makeWeight (S : Nat) (a : Option Addr) (len cap : Nat) (zs : List Int) (p : Nat) (w : World) (h : SeqAt S a len cap zs p w) (hp : p ≤ 4294967290) :
    Calls Try.prog 16 #[.pointer (some ⟨S, 0, none⟩)] w fun e w' => ∃ n : Int, e = .returned (.int .i64 n) ∧ inI n = true ∧ SeqAt S a len cap zs (p + 2) w' ∧ But S w w' := by
  have hS := h.2.2.2.1
  have H : Hid (SeqAt S a len cap zs p w) := h
  clear h
  go_enter Try.func16, Try.ntmps16
  go_wp2_with fail
  refine (next S a len cap zs p 11 _ (H.out.on one_box) (by omega) (by decide) (by decide)).mono ?_
  rintro e w1 ⟨rfl, H1, hb1⟩
  obtain ⟨hr1, hs1⟩ := nm_bd (sq zs len p) 11 (by decide)
  generalize nm (sq zs len p) 11 = r1 at *
  have K1 : Hid (SeqAt S a len cap zs (p + 1) w1) := H1
  have B1 : Hid (But S (w.alloc (.cells elevenV 2)) w1) := hb1
  clear H1 hb1
  go_wp2_with fail
  refine (next S a len cap zs (p + 1) 60 _ K1.out (by omega) (by decide) (by decide)).mono ?_
  rintro e w2 ⟨rfl, H2, hb2⟩
  obtain ⟨hr2, hs2⟩ := nm_bd (sq zs len (p + 1)) 60 (by decide)
  generalize nm (sq zs len (p + 1)) 60 = r2 at *
  have K2 : Hid (SeqAt S a len cap zs (p + 2) w2) := H2
  have B2 : Hid (But S (w.alloc (.cells elevenV 2)) w2) := B1.out.trans hb2
  have B3 : Hid (But S w w2) := (But.of_below one_box).trans B2.out
  have z9 : Hid (∀ o, w2.cell? ⟨w.heap.size, o, none⟩ = (w.alloc (.cells elevenV 2)).cell? ⟨w.heap.size, o, none⟩) := (bcB B2.out w.heap.size (by omega) (by simp)).1
  clear H2 hb2 B1 K1
  by_cases hm : r2 < r1
  · obtain ⟨n, n0, hn⟩ := eleven_at r2.toNat (by omega)
    have hcell : w2.cell? ⟨w.heap.size, r2.toNat, none⟩ = some (.int .i64 n) := by rw [z9.out, World.cell?_alloc_at _ _ _ _ rfl]; exact hn
    have hm2 : ¬ r1 < r2 := by omega
    have hm3 : r2 < 11 := by omega
    have N0 : Hid (inI n = true) := n0
    clear hn n0
    go_wp2_with fail
    go_ret
    exact ⟨n, rfl, N0.out, K2.out, B3.out⟩
  · obtain ⟨n, n0, hn⟩ := eleven_at r1.toNat (by omega)
    have hcell : w2.cell? ⟨w.heap.size, r1.toNat, none⟩ = some (.int .i64 n) := by rw [z9.out, World.cell?_alloc_at _ _ _ _ rfl]; exact hn
    have hm2 : r1 ≤ r2 := by omega
    have N0 : Hid (inI n = true) := n0
    clear hn n0
    go_wp2_with fail
    go_ret
    exact ⟨n, rfl, N0.out, K2.out, B3.out⟩

/-- Rows that a call owns, each in a row of its own. -/
def OwnRows (base : Nat) (w : World) (us : List VEnt) (l : List Ent) : Prop := us.length = l.length ∧ ∀ i (h : i < us.length) (h' : i < l.length), w.ownsRow base 39 3 us[i].1 l[i].1.length (rc l[i].1) ∧ us[i].2 = l[i].2
theorem OwnRows.reads {base : Nat} {w : World} {us : List VEnt} {l : List Ent} (h : OwnRows base w us l) : Reads w us l := ⟨h.1, fun i h1 h2 => ⟨RowIs.of_own (h.2 i h1 h2).1, (h.2 i h1 h2).2⟩⟩
theorem OwnRows.but {S base : Nat} {w w' : World} {us : List VEnt} {l : List Ent} (h : OwnRows base w us l) (hb : But S w w') (hS : S < base) : OwnRows base w' us l := ⟨h.1, fun i h1 h2 => ⟨own_but (h.2 i h1 h2).1 hb hS, (h.2 i h1 h2).2⟩⟩
theorem own_ne_types {base base' : Nat} {w : World} {e e' : TypeId} {s s' : Nat} {v v' : Value} {n n' : Nat} {xs xs' : List Value} (h : w.ownsRow base e s v n xs) (h' : w.ownsRow base' e' s' v' n' xs') (hne : e ≠ e') (g : Nat) (hg : v'.ownBlock = some g) : v.ownBlock ≠ some g := by
  intro hv
  rcases h.2 with ⟨rfl, _⟩ | ⟨g1, c1, u1, rfl, _, h1, _⟩
  · cases hv
  · rcases h'.2 with ⟨rfl, _⟩ | ⟨g2, c2, u2, rfl, _, h2, _⟩
    · cases hg
    · simp only [Value.ownBlock, Option.some.injEq] at hv hg
      subst hv hg
      rw [h1] at h2
      simp only [Option.some.injEq, Obj.cells.injEq] at h2
      exact hne h2.2.1
theorem OwnRows.grown {base base' : Nat} {w w' : World} {us : List VEnt} {l : List Ent} {v : Value} {n : Nat} {xs : List Value} (h : OwnRows base w us l) (ho : w.ownsRow base' 36 2 v n xs) (hg : w.grownBy w' v.ownBlock) : OwnRows base w' us l := by
  refine ⟨h.1, fun i h1 h2 => ⟨?_, (h.2 i h1 h2).2⟩⟩
  have hr := (h.2 i h1 h2).1
  cases hv : v.ownBlock with
  | none =>
    rw [hv] at hg
    exact hr.kept hg (by cases e : us[i].1.ownBlock with | none => exact .inl rfl | some k => exact .inr (by simp))
  | some g =>
    rw [hv] at hg
    exact hr.kept hg (.inr (own_ne_types hr ho (by decide) g hv))
theorem OwnRows.snoc {base : Nat} {w : World} {us : List VEnt} {l : List Ent} (h : OwnRows base w us l) {v : Value} {r : List Val} (hv : w.ownsRow base 39 3 v r.length (rc r)) (n : Int) : OwnRows base w (us ++ [(v, n)]) (l ++ [(r, n)]) := by
  refine ⟨by simp [h.1], fun i h1 h2 => ?_⟩
  by_cases hi : i < us.length
  · have hi' : i < l.length := by rw [← h.1]; exact hi
    rw [List.getElem_append_left hi, List.getElem_append_left hi']; exact h.2 i hi hi'
  · have e : i = us.length := by simp at h1; omega
    subst e
    have e2 := h.1
    rw [List.getElem_append_right (Nat.le_refl _), List.getElem_append_right (by omega)]
    simp [← e2]; exact hv
theorem own_mono {base base' : Nat} {w : World} {e : TypeId} {s : Nat} {v : Value} {n : Nat} {xs : List Value} (h : w.ownsRow base' e s v n xs) (hb : base ≤ base') : w.ownsRow base e s v n xs := by
  obtain ⟨h1, h2 | ⟨g, cap, cur, hv, hg, r⟩⟩ := h
  · exact ⟨h1, .inl h2⟩
  · exact ⟨h1, .inr ⟨g, cap, cur, hv, by omega, r⟩⟩
theorem own_form {base : Nat} {w : World} {e : TypeId} {s : Nat} {v : Value} {n : Nat} {xs : List Value} (h : w.ownsRow base e s v n xs) : ∃ a cap, v = .slice a n cap := by
  rcases h.2 with ⟨h1, h2⟩ | ⟨g, cap, cur, hv, _⟩
  · exact ⟨none, 0, by rw [h1, h2]⟩
  · exact ⟨_, _, hv⟩
theorem OwnRows.on {base : Nat} {w w' : World} {us : List VEnt} {l : List Ent} (h : OwnRows base w us l) (k : Below w.heap.size w w') : OwnRows base w' us l := by
  refine ⟨h.1, fun i h1 h2 => ⟨?_, (h.2 i h1 h2).2⟩⟩
  obtain ⟨g1, g2 | ⟨g, cap, cur, hv, hg, hh, r⟩⟩ := (h.2 i h1 h2).1
  · exact ⟨g1, .inl g2⟩
  · exact ⟨g1, .inr ⟨g, cap, cur, hv, hg, by rw [k.block g (Array.getElem?_eq_some_iff.1 hh).1]; exact hh, r⟩⟩
/-- How far the making of entries has come: k are still to come. -/
def EntTo (S : Nat) (a : Option Addr) (len cap : Nat) (zs : List Int) (ks : List Int) (p T most : Nat) (w : World) (k : Nat) (v : Value) (wr : World) : Prop :=
  ∃ l us p', l.length + k ≤ most ∧ (∀ e ∈ l, inI e.2 = true ∧ T = 4 * e.1.length + 2 ∧ OkR ks e.1) ∧ wr.ownsRow w.heap.size 36 2 v us.length (es us) ∧ OwnRows w.heap.size wr us l ∧ p' + T * k ≤ p + 1 + T * most ∧ SeqAt S a len cap zs p' wr ∧ But S w wr
set_option maxHeartbeats 4000000 in
theorem makeEntries (S : Nat) (a : Option Addr) (len cap : Nat) (zs : List Int) (p : Nat) (C n ccap : Nat) (ks : List Int) (most : Nat) (w : World) (h : SeqAt S a len cap zs p w) (hp : p + 1 + (4 * n + 2) * most ≤ 4294967280) (hmost : most ≤ 65535)
    (hc : ColsAt C ks w) (hC : C ≠ S) (hn : n ≤ ks.length) (hk : ∀ i (h : i < ks.length), ks[i] = 0 ∨ ks[i] = 1 ∨ ks[i] = 2 ∨ ks[i] = 3) :
    Calls Try.prog 10 #[.pointer (some ⟨S, 0, none⟩), .slice (some ⟨C, 0, none⟩) n ccap, .int .i64 most] w fun e w' => ∃ v, e = .returned v ∧ EntTo S a len cap zs ks p (4 * n + 2) most w 0 v w' := by
  have HS : Hid (S < w.heap.size) := h.2.2.2.1
  have H : Hid (SeqAt S a len cap zs p w) := h
  have HC : Hid (ColsAt C ks w) := hc
  have Hk : Hid (∀ i (h : i < ks.length), ks[i] = 0 ∨ ks[i] = 1 ∨ ks[i] = 2 ∨ ks[i] = 3) := hk
  obtain ⟨i0, hi, hz0, hz1, hz2⟩ := info_parts info_entry
  obtain ⟨T, hT⟩ : ∃ T, T = 4 * n + 2 := ⟨_, rfl⟩
  rw [← hT] at hp ⊢
  have HT : Hid (T = 4 * n + 2) := hT
  clear h hc hk hT
  go_enter Try.func10, Try.ntmps10
  go_wp2_with fail
  refine (next S a len cap zs p ((most : Int) + 1) _ H.out (by omega) (by omega) (by omega)).mono ?_
  rintro e w1 ⟨rfl, H1, hb1⟩
  obtain ⟨hr1, hs1⟩ := nm_bd (sq zs len p) ((most : Int) + 1) (by omega)
  obtain ⟨k0, hk0⟩ : ∃ k0 : Nat, nm (sq zs len p) ((most : Int) + 1) = (k0 : Int) := ⟨(nm (sq zs len p) ((most : Int) + 1)).toNat, by omega⟩
  rw [hk0] at hr1 hs1 ⊢
  have F0 : Hid (EntTo S a len cap zs ks p T most w k0 (.slice none 0 0) w1) := by
    refine ⟨[], [], p + 1, by simp; omega, (fun e h => by cases h), World.ownsRow_nil _ _ _ _, ⟨rfl, fun i h => by simp at h⟩, ?_, H1, hb1⟩
    exact Nat.add_le_add_left (Nat.mul_le_mul_left T (by omega)) _
  clear H1 hb1 hk0
  go_wp2_with fail
  go_loopw [7, 8] (fun v i wr => ∃ k : Nat, i = .int .i64 k ∧ k ≤ most ∧ EntTo S a len cap zs ks p T most w k v wr) (fun _ i _ => (intOf i).toNat)
  case atStart => exact ⟨k0, rfl, by omega, F0.out⟩
  case round =>
    obtain ⟨k, rfl, hkm, hE⟩ := hrel
    clear F0
    by_cases hk1 : 0 < k
    · obtain ⟨l, us, p', e1, e2, e3, e4, e5, e6, e7⟩ := hE
      obtain ⟨k', rfl⟩ : ∃ k', k = k' + 1 := ⟨k - 1, by omega⟩
      have I1 : (0 : Int) < ((k' + 1 : Nat) : Int) := by omega
      have e5' : p' + (T * k' + T) ≤ p + 1 + T * most := by rw [← Nat.mul_succ]; exact e5
      have hul : us.length ≤ most := by rw [e4.1]; omega
      have E2 : Hid (∀ e ∈ l, inI e.2 = true ∧ T = 4 * e.1.length + 2 ∧ OkR ks e.1) := e2
      have E3 : Hid (wr.ownsRow w.heap.size 36 2 u7 us.length (es us)) := e3
      have E4 : Hid (OwnRows w.heap.size wr us l) := e4
      have E6 : Hid (SeqAt S a len cap zs p' wr) := e6
      have E7 : Hid (But S w wr) := e7
      have hTn := HT.out
      have q1 : Hid (Calls Try.prog 15 #[.pointer (some ⟨S, 0, none⟩), .slice (some ⟨C, 0, none⟩) n ccap] wr fun e w' => ∃ v, e = .returned v ∧ SoFar S a len cap zs p' ks wr n v w') :=
        makeRow S a len cap zs p' C n ccap ks wr e6 (by omega) (HC.out.but e7 hC) hC hn Hk.out
      generalize hTk : T * k' = Tk at *
      generalize hTm : T * most = Tm at *
      clear e2 e3 e4 e5 e6 e7 hTn
      go_wp2_with fail
      refine q1.out.mono ?_
      rintro e w2 ⟨vr, rfl, r, p2, r1, r2, r3, r4, r5, r6, r7⟩
      obtain ⟨ar, cr, er⟩ := own_form r3
      subst er
      have hsz := E7.out.size
      have hS' : S < wr.heap.size := by have := HS.out; omega
      have R3 : Hid (w2.ownsRow wr.heap.size 39 3 (.slice ar n cr) n (rc r)) := r3
      have R1 : Hid (r.length = n) := r1
      have R2 : Hid (OkR ks r) := r2
      have R5 : Hid (SeqAt S a len cap zs p2 w2) := r5
      have R6 : Hid (But S wr w2) := r6
      have q2 : Hid (Calls Try.prog 16 #[.pointer (some ⟨S, 0, none⟩)] w2 fun e w' => ∃ n : Int, e = .returned (.int .i64 n) ∧ inI n = true ∧ SeqAt S a len cap zs (p2 + 2) w' ∧ But S w2 w') := makeWeight S a len cap zs p2 w2 r5 (by have := HT.out; omega)
      clear q1 r1 r2 r3 r5 r6 r7
      go_wp2_with fail
      refine q2.out.mono ?_
      rintro e w3 ⟨wn, rfl, n1, n2, n3⟩
      have hsz2 := R6.out.size
      have hsz3 := n3.size
      have O3 : Hid (w3.ownsRow w.heap.size 36 2 u7 us.length (es us)) := own_but (own_but E3.out R6.out HS.out) n3 HS.out
      have F : Hid (∀ v4 w4, w4.ownsRow w.heap.size 36 2 v4 (us.length + 1) (es us ++ ec (.slice ar n cr, wn)) → (w3.alloc (.cells #[.slice ar n cr, .int .i64 wn] 36)).grownBy w4 (Value.ownBlock u7) → EntTo S a len cap zs ks p T most w k' v4 w4) := by
        intro v4 w4 g1 g2
        have Or : OwnRows w.heap.size w3 us l := (E4.out.but R6.out HS.out).but n3 HS.out
        have Rr : w3.ownsRow w.heap.size 39 3 (.slice ar n cr) r.length (rc r) := by rw [R1.out]; exact own_mono (own_but R3.out n3 hS') hsz
        have Oa := (Or.snoc Rr wn).on (w' := w3.alloc (.cells #[.slice ar n cr, .int .i64 wn] 36)) one_box
        have hbut : But S w (w3.alloc (.cells #[.slice ar n cr, .int .i64 wn] 36)) := ((E7.out.trans R6.out).trans n3).trans (But.of_below one_box)
        refine ⟨l ++ [(r, wn)], us ++ [(.slice ar n cr, wn)], p2 + 2, by simp; omega, ?_, ?_, ?_, ?_, ?_, ?_⟩
        · intro e he
          rcases List.mem_append.1 he with h | h
          · exact E2.out e h
          · simp at h; rw [h]; exact ⟨n1, by rw [R1.out]; exact HT.out, R2.out⟩
        · rw [es_snoc, List.length_append]; exact g1
        · exact Oa.grown (O3.out.alloc _) g2
        · have := HT.out; rw [hTk, hTm]; omega
        · exact (n2.on one_box).grown g2 (fun k e => by have := (O3.out.lt k e).1; have := HS.out; omega)
        · exact hbut.grown g2 (fun k e => (O3.out.lt k e).1)
      clear q2 n1 n2 n3
      go_wp2_with (first | (at_builtin; refine wpList_append_own _ rfl _ _ 27 rfl w.heap.size 36 i0 (.agg #[.slice none 0 0, .int .i64 0]) 2 32 Try.underlying27 hi hz0 hz1 hz2 rfl (by decide) _ us.length (es us) rfl (O3.out.alloc _) ⟨w3.heap.size, 0, none⟩ 1 1 (ec (.slice ar n cr, wn)) rfl rfl (cell_two_new _ _ _ _) (by simp [ec, Value.oneCell']) (by unfold maxLen; omega) (by omega) (by simp; omega) ?_; intro v4 w4 hown4 hg4 _; have hs4 := F.out _ _ hown4 hg4; clear hown4 hg4 F) | fail)
      go_roundw
      case rel => exact ⟨k', by go_num, by omega, hs4⟩
      case measure => simp [intOf]
    · obtain rfl : k = 0 := by omega
      have HE : Hid (EntTo S a len cap zs ks p T most w 0 u7 wr) := hE
      clear hE
      go_wp2_with fail
      go_ret
      exact ⟨u7, rfl, HE.out⟩
end Go.Proofs.Ytmpochhcokmaiaa
