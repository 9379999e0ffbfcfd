/- Texts of one claim, one behind the other. -/
import Derived.Test.YtaccinophamgmaaDoorPdMk
/- The statements' own maker of predicates: not, of one part. -/
namespace Go.Proofs.YtaccinophamgmaaDoor
open Go.RowKit
set_option maxRecDepth 100000
set_option linter.unusedVariables false

/-- What the maker does one deeper. -/
def IHp (S : Nat) (a : Option Addr) (len cap : Nat) (zs : List Int) (b o ccap : Nat) (ks : List Int) (D : Int) (d : Nat) : Prop := ∀ (p : Nat) (w : World), SeqAt S a len cap zs p w → p + 20 * 4 ^ d ≤ 4294967290 → IntsIs w (.slice (some ⟨b, o, none⟩) ks.length ccap) ks → Calls Tryd.prog 9 #[.pointer (some ⟨S, 0, none⟩), .slice (some ⟨b, o, none⟩) ks.length ccap, .int .i64 D] w (PdMade S a len cap zs ks d p w)
theorem PdMade.not {S : Nat} {a : Option Addr} {len cap : Nat} {zs ks : List Int} {d p B0 p2 : Nat} {w w2 W : World} {P : Pd} {s' : Value} (hR : w.heap.size < B0) (hz : B0 ≤ w2.heap.size) (hm : MkP okM ks d P) (hl : PdL (fun k => B0 ≤ k) d w2 s' P.l) (hp : p2 ≤ p + 1 + 10 * 4 ^ d) (fin : SeqAt S a len cap zs p2 W ∧ But S w W)
    (hW : (∀ k, k ≠ w.heap.size → W.heap[k]? = (w2.alloc (.cells #[.int .i64 P.k, .int .i64 P.c, .int .i64 P.o, .int .i64 P.d, .int .i64 P.v.1, .int .i64 P.v.2.1, .string P.v.2.2, s'] 33)).heap[k]?) ∧ W.heap.size = (w2.alloc (.cells #[.int .i64 P.k, .int .i64 P.c, .int .i64 P.o, .int .i64 P.d, .int .i64 P.v.1, .int .i64 P.v.2.1, .string P.v.2.2, s'] 33)).heap.size) :
    PdMade S a len cap zs ks (d + 1) p w (.returned (.agg #[.int .i64 6, .int .i64 0, .int .i64 0, .int .i64 0, .int .i64 0, .int .i64 0, .string ⟨#[]⟩, .slice (some ⟨w2.heap.size, 0, none⟩) 1 1])) W := by
  have h4 := pow_pos4 d
  have hzW : W.heap.size = w2.heap.size + 1 := by rw [hW.2]; simp
  refine ⟨⟨6, 0, 0, 0, nul, [P]⟩, .slice (some ⟨w2.heap.size, 0, none⟩) 1 1, p2, rfl, .inr (.inl ⟨P, rfl, hm⟩), ?_, by rw [Nat.pow_succ]; omega, fin.1, fin.2⟩
  refine .inr ⟨w2.heap.size, 0, 1, rfl, Nat.le_refl _, by decide, by omega, (by show w.heap.size ≤ w2.heap.size; omega), fun i hi => ?_⟩
  obtain rfl : i = 0 := by simp at hi; omega
  refine ⟨s', (PdAt.box w2 P s' 33).kept (hW.1 _ (by omega)), ?_⟩
  have h1 : PdL (fun k => B0 ≤ k) d (w2.alloc (.cells #[.int .i64 P.k, .int .i64 P.c, .int .i64 P.o, .int .i64 P.d, .int .i64 P.v.1, .int .i64 P.v.2.1, .string P.v.2.2, s'] 33)) s' P.l := hl.on one_box
  have h2 := h1.kept (w' := W) (by omega) (fun k hk _ => hW.1 k (by omega))
  exact h2.mono (fun k hk _ => by omega)
set_option maxHeartbeats 4000000 in
theorem mkN4 (S : Nat) (a : Option Addr) (len cap : Nat) (zs : List Int) (p b o ccap : Nat) (ks : List Int) (D : Int) (d : Nat) (w : World) (h : SeqAt S a len cap zs p w) (hp : p + 20 ≤ 4294967290) (hc : IntsIs w (.slice (some ⟨b, o, none⟩) ks.length ccap) ks) (hb : b ≠ S) (hn : 0 < ks.length) (hn1 : ks.length ≤ 16) (hk : ∀ k ∈ ks, k = 1 ∨ k = 2 ∨ k = 3) (hD : 1 ≤ D) (Q1 : Hid (nm (sq zs len p) 8 = 4)) (hD2 : D ≤ 100) (hp2 : p + 1 + 20 * 4 ^ d ≤ 4294967290) (ih : IHp S a len cap zs b o ccap ks (D - 1) d) :
    Calls Tryd.prog 9 #[.pointer (some ⟨S, 0, none⟩), .slice (some ⟨b, o, none⟩) ks.length ccap, .int .i64 D] w (PdMade S a len cap zs ks (d + 1) p w) := by
  have hS := h.2.2.2.1
  have H : Hid (SeqAt S a len cap zs p w) := h
  have HC : Hid (IntsIs w (.slice (some ⟨b, o, none⟩) ks.length ccap) ks) := hc
  have hlo : b < w.heap.size := by
    have := hc.at 0 hn
    exact World.block_lt_of_cell? _ _ this
  have HK : Hid (∀ k ∈ ks, k = 1 ∨ k = 2 ∨ k = 3) := hk
  have b0 : ((ks.length : Int) == 0) = false := beq_false_of_ne (by omega)
  clear h hc hk
  go_enter Tryd.func9, Tryd.ntmps9
  go_wp2_with fail
  refine (next S a len cap zs p 8 _ (H.out.on one_box) (by omega) (by decide) (by decide)).mono ?_
  rintro e w1 ⟨rfl, H1, hb1⟩
  rw [Q1.out]
  have K1 : Hid (SeqAt S a len cap zs (p + 1) w1) := H1
  have B1 : Hid (But S (w.alloc (.cells #[.int .i64 0, .int .i64 0, .int .i64 0, .int .i64 0, .int .i64 0, .int .i64 0, .string ⟨#[]⟩, .slice none 0 0] 33)) w1) := hb1
  clear H1 hb1
  have IH : Hid (IHp S a len cap zs b o ccap ks (D - 1) d) := ih
  have C1 : Hid (IntsIs w1 (.slice (some ⟨b, o, none⟩) ks.length ccap) ks) := (HC.out.on one_box).but B1.out (by intro e; exact hb (by simpa [Value.ownBlock] using e))
  have hl1 : b < w1.heap.size := by have := C1.out.at 0 hn; exact World.block_lt_of_cell? _ _ this
  have z1 : w.heap.size + 1 ≤ w1.heap.size := by have := B1.out.size; simpa using this
  clear ih HC
  go_wp2_with fail
  refine (IH.out (p + 1) w1 K1.out (by omega) C1.out).mono ?_
  rintro e w2 ⟨P, s', p2, rfl, m1, m2, m3, m4, m5⟩
  unfold pv
  have B2 : Hid (But S (w.alloc (.cells #[.int .i64 0, .int .i64 0, .int .i64 0, .int .i64 0, .int .i64 0, .int .i64 0, .string ⟨#[]⟩, .slice none 0 0] 33)) w2) := B1.out.trans m5
  have z2 := m5.size
  obtain ⟨hc, hf⟩ := res_cells (B2.out.trans (But.of_below (one_box (o := .cells #[.int .i64 P.k, .int .i64 P.c, .int .i64 P.o, .int .i64 P.d, .int .i64 P.v.1, .int .i64 P.v.2.1, .string P.v.2.2, s'] 33)))) hS
  have M : Hid (MkP okM ks d P ∧ PdL (fun k => w1.heap.size ≤ k) d w2 s' P.l ∧ p2 ≤ p + 1 + 10 * 4 ^ d ∧ SeqAt S a len cap zs p2 w2) := ⟨m1, m2, m3, m4⟩
  clear m1 m2 m3 m4 m5 IH K1 B1 C1
  go_wp2_with fail
  have fin := put8 hS (M.out.2.2.2.on (one_box (o := .cells #[.int .i64 P.k, .int .i64 P.c, .int .i64 P.o, .int .i64 P.d, .int .i64 P.v.1, .int .i64 P.v.2.1, .string P.v.2.2, s'] 33))) ((But.of_below one_box).trans (B2.out.trans (But.of_below (one_box (o := .cells #[.int .i64 P.k, .int .i64 P.c, .int .i64 P.o, .int .i64 P.d, .int .i64 P.v.1, .int .i64 P.v.2.1, .string P.v.2.2, s'] 33))))) (.int .i64 6) (.int .i64 0) (.int .i64 0) (.int .i64 0) (.int .i64 0) (.int .i64 0) (.string ⟨#[]⟩) (.slice (some ⟨w2.heap.size, 0, none⟩) 1 1)
  exact bodyPost_ret (v := .agg #[.int .i64 6, .int .i64 0, .int .i64 0, .int .i64 0, .int .i64 0, .int .i64 0, .string ⟨#[]⟩, .slice (some ⟨w2.heap.size, 0, none⟩) 1 1]) (by simp [results, Tryd.results9, go_sem, hc]) rfl (PdMade.not (by omega) z2 M.out.1 M.out.2.1 M.out.2.2.1 fin (put8_heap _ _ _ _ _ _ _ _))
end Go.Proofs.YtaccinophamgmaaDoor
/- The statements' own maker of predicates: how parts come one behind the other. -/
namespace Go.Proofs.YtaccinophamgmaaDoor
open Go.RowKit
set_option maxRecDepth 100000
set_option linter.unusedVariables false

/-- How far the parts have come: m of them, in memory of the call's own; the box of the whole, the box of the result. -/
def ConjSt (S : Nat) (a : Option Addr) (len cap : Nat) (zs : List Int) (ks : List Int) (d p X : Nat) (kk : Int) (w : World) (m : Nat) (wr : World) : Prop :=
  ∃ (ps : List PEnt) (v : Value) (p' : Nat), ps.length = m ∧ wr.ownsRow (X + 1) 33 8 v m (pcs ps) ∧ (∀ e ∈ ps, MkP okM ks d e.1 ∧ PdL (fun k => X < k ∧ v.ownBlock ≠ some k) d wr e.2 e.1.l) ∧
    p' ≤ p + 2 + m * (10 * 4 ^ d) ∧ SeqAt S a len cap zs p' wr ∧ But S w wr ∧ PdBox w.heap.size ⟨0, 0, 0, 0, nul, []⟩ (.slice none 0 0) wr ∧ PdBox X ⟨kk, 0, 0, 0, nul, []⟩ v wr ∧ w.heap.size < X
/-- One part more. -/
theorem ConjSt.push {S : Nat} {a : Option Addr} {len cap : Nat} {zs ks : List Int} {d p X : Nat} {kk : Int} {w wr w7 w8 : World} {m p' p7 : Nat} {ps : List PEnt} {v v8 : Value} {P : Pd} {s' : Value}
    (h1 : ps.length = m) (h2 : wr.ownsRow (X + 1) 33 8 v m (pcs ps)) (h3 : ∀ e ∈ ps, MkP okM ks d e.1 ∧ PdL (fun k => X < k ∧ v.ownBlock ≠ some k) d wr e.2 e.1.l) (h4 : p' ≤ p + 2 + m * (10 * 4 ^ d)) (h6 : But S w wr) (h7 : PdBox w.heap.size ⟨0, 0, 0, 0, nul, []⟩ (.slice none 0 0) wr) (h8 : PdBox X ⟨kk, 0, 0, 0, nul, []⟩ v wr) (hX : w.heap.size < X) (hS : S < w.heap.size)
    (g1 : MkP okM ks d P) (g2 : PdL (fun k => wr.heap.size ≤ k) d w7 s' P.l) (g3 : p7 ≤ p' + 10 * 4 ^ d) (g4 : SeqAt S a len cap zs p7 w7) (g5 : But S wr w7)
    (o8 : w8.ownsRow (X + 1) 33 8 v8 (m + 1) (pcs ps ++ hc P s')) (b8 : (w7.alloc (.cells (hc P s').toArray 33)).grownBy w8 v.ownBlock) (e8 : v8.ownBlock = v.ownBlock ∨ v8.ownBlock = some (w7.alloc (.cells (hc P s').toArray 33)).heap.size) :
    (PdBox X ⟨kk, 0, 0, 0, nul, []⟩ v w8) ∧ ConjSt S a len cap zs ks d p X kk w (m + 1) (w8.setCell ⟨X, 7, none⟩ v8) := by
  have hv : ∀ k, v.ownBlock = some k → X < k ∧ k < wr.heap.size := fun k e => by have := h2.lt k e; omega
  have hzw := h6.size
  have hz7 := g5.size
  have hXw := h8.2.2
  have hb : But S wr (w7.alloc (.cells (hc P s').toArray 33)) := g5.trans (But.of_below one_box)
  have c8 : PdBox X ⟨kk, 0, 0, 0, nul, []⟩ v w8 := (h8.but hb (by omega)).grown b8 (fun e => by have := hv X e; omega)
  have c7 : PdBox w.heap.size ⟨0, 0, 0, 0, nul, []⟩ (.slice none 0 0) w8 := (h7.but hb (by omega)).grown b8 (fun e => by have := hv _ e; omega)
  have f8 : But S w w8 := (h6.trans hb).grown b8 (fun k e => by have := hv k e; omega)
  have s8 : SeqAt S a len cap zs p7 w8 := (g4.on one_box).grown b8 (fun k e => by have := hv k e; omega)
  have hz8 : w7.heap.size + 1 ≤ w8.heap.size := by have := b8.size; simpa using this
  have n8 : ∀ k, v8.ownBlock = some k → v.ownBlock = some k ∨ k = w7.heap.size + 1 := fun k e => by
    rcases e8 with e8 | e8
    · exact .inl (by rw [← e8]; exact e)
    · right; rw [e8] at e; simpa using e.symm
  have set : ∀ {F : Nat → Prop} {n : Nat} {u : Value} {l : List Pd}, PdL F n w8 u l → (∀ k, F k → X < k) → PdL F n (w8.setCell ⟨X, 7, none⟩ v8) u l := fun h hF => h.kept (by simp [World.setCell]) (fun k hk _ => Below.heap_setCell _ _ _ _ (by have := hF k hk; show k ≠ X; omega))
  refine ⟨c8, ps ++ [(P, s')], v8, p7, by simp [h1], ?_, ?_, ?_, s8.put (by omega) 7 v8, f8.put (by omega) 7 v8, c7.other (by omega), c8.set, hX⟩
  · rw [pcs_snoc]
    have := o8
    have hk : (w8.setCell ⟨X, 7, none⟩ v8).ownsRow (X + 1) 33 8 v8 (m + 1) (pcs ps ++ hc P s') := own_setP o8 (by omega)
    exact hk
  · intro e he
    rcases List.mem_append.1 he with he | he
    · obtain ⟨q1, q2⟩ := h3 e he
      refine ⟨q1, ?_⟩
      have r1 : PdL (fun k => X < k ∧ v.ownBlock ≠ some k) d (w7.alloc (.cells (hc P s').toArray 33)) e.2 e.1.l := q2.but hb (by intro h; omega)
      have r2 : PdL (fun k => (X < k ∧ v.ownBlock ≠ some k) ∧ k < w7.heap.size + 1) d (w7.alloc (.cells (hc P s').toArray 33)) e.2 e.1.l := r1.mono (fun k hk hl => ⟨hk, by simpa using hl⟩)
      have r3 := r2.grown b8 (fun k e h => h.1.2 e)
      refine (set r3 (fun k hk => hk.1.1)).mono (fun k hk _ => ⟨hk.1.1, fun e => ?_⟩)
      rcases n8 k e with h | h
      · exact hk.1.2 h
      · omega
    · rw [List.mem_singleton.1 he]
      refine ⟨g1, ?_⟩
      have r1 : PdL (fun k => wr.heap.size ≤ k) d (w7.alloc (.cells (hc P s').toArray 33)) s' P.l := g2.on one_box
      have r2 : PdL (fun k => wr.heap.size ≤ k ∧ k < w7.heap.size + 1) d (w7.alloc (.cells (hc P s').toArray 33)) s' P.l := by
        have q : PdL (fun k => wr.heap.size ≤ k ∧ k < w7.heap.size) d w7 s' P.l := g2.mono (fun k hk hl => ⟨hk, hl⟩)
        exact (q.on one_box).mono (fun k hk _ => ⟨hk.1, by omega⟩)
      have r3 := r2.grown b8 (fun k e h => by have := hv k e; omega)
      refine (set r3 (fun k hk => by omega)).mono (fun k hk _ => ⟨by omega, fun e => ?_⟩)
      rcases n8 k e with h | h
      · have := hv k h; omega
      · omega
  · have e : (m + 1) * (10 * 4 ^ d) = m * (10 * 4 ^ d) + 10 * 4 ^ d := by rw [Nat.add_mul, Nat.one_mul]
    omega
theorem ConjSt.fin {S : Nat} {a : Option Addr} {len cap : Nat} {zs ks : List Int} {d p X : Nat} {kk : Int} {w wr W : World} {m : Nat} {ps : List PEnt} {v : Value} {p' : Nat} (hk : kk = 4 ∨ kk = 5) (hm : 2 ≤ m ∧ m ≤ 3)
    (h1 : ps.length = m) (h2 : wr.ownsRow (X + 1) 33 8 v m (pcs ps)) (h3 : ∀ e ∈ ps, MkP okM ks d e.1 ∧ PdL (fun k => X < k ∧ v.ownBlock ≠ some k) d wr e.2 e.1.l) (h4 : p' ≤ p + 2 + m * (10 * 4 ^ d)) (hX : w.heap.size < X)
    (fin : SeqAt S a len cap zs p' W ∧ But S w W) (hW : (∀ k, k ≠ w.heap.size → W.heap[k]? = wr.heap[k]?) ∧ W.heap.size = wr.heap.size) :
    PdMade S a len cap zs ks (d + 1) p w (.returned (.agg #[.int .i64 kk, .int .i64 0, .int .i64 0, .int .i64 0, .int .i64 0, .int .i64 0, .string ⟨#[]⟩, v])) W := by
  have h40 := pow_pos4 d
  have hl : (ps.map (·.1)).length = m := by rw [List.length_map]; exact h1
  refine ⟨⟨kk, 0, 0, 0, nul, ps.map (·.1)⟩, v, p', rfl, .inr (.inr ⟨kk, _, rfl, hk, by omega, by omega, fun q hq => ?_⟩), ?_, ?_, fin.1, fin.2⟩
  · obtain ⟨e, he, rfl⟩ := List.mem_map.1 hq
    exact (h3 e he).1
  · have q : PdL (fun k => X < k) (d + 1) wr v (ps.map (·.1)) := PdL.of_own (by rw [h1]; exact h2) (fun k e => by have := h2.lt k e; omega) (fun e he => (h3 e he).2.mono (fun k hk _ => hk.1))
    exact (q.kept (w' := W) (by omega) (fun k hk _ => hW.1 k (by omega))).mono (fun k hk _ => by omega)
  · have e : m * (10 * 4 ^ d) ≤ 3 * (10 * 4 ^ d) := Nat.mul_le_mul_right _ hm.2
    rw [Nat.pow_succ]; omega
theorem ConjSt.start {S : Nat} {a : Option Addr} {len cap : Nat} {zs ks : List Int} {d p : Nat} {kk : Int} {w w1 w2 : World} (hS : S < w.heap.size)
    (B1 : But S (w.alloc (.cells #[.int .i64 0, .int .i64 0, .int .i64 0, .int .i64 0, .int .i64 0, .int .i64 0, .string ⟨#[]⟩, .slice none 0 0] 33)) w1)
    (K2 : SeqAt S a len cap zs (p + 1 + 1) w2) (B2 : But S (w1.alloc (.cells #[.int .i64 kk, .int .i64 0, .int .i64 0, .int .i64 0, .int .i64 0, .int .i64 0, .string ⟨#[]⟩, .slice none 0 0] 33)) w2) : ConjSt S a len cap zs ks d p w1.heap.size kk w 0 w2 := by
  have z1 : w.heap.size + 1 ≤ w1.heap.size := by have := B1.size; simpa using this
  have q0 : PdBox w.heap.size ⟨0, 0, 0, 0, nul, []⟩ (.slice none 0 0) (w.alloc (.cells #[.int .i64 0, .int .i64 0, .int .i64 0, .int .i64 0, .int .i64 0, .int .i64 0, .string ⟨#[]⟩, .slice none 0 0] 33)) := PdBox.new w ⟨0, 0, 0, 0, nul, []⟩ _
  have q1 : PdBox w1.heap.size ⟨kk, 0, 0, 0, nul, []⟩ (.slice none 0 0) (w1.alloc (.cells #[.int .i64 kk, .int .i64 0, .int .i64 0, .int .i64 0, .int .i64 0, .int .i64 0, .string ⟨#[]⟩, .slice none 0 0] 33)) := PdBox.new w1 ⟨kk, 0, 0, 0, nul, []⟩ _
  exact ⟨[], .slice none 0 0, p + 1 + 1, rfl, World.ownsRow_nil _ _ _ _, fun e he => (by cases he), by omega, K2, (But.of_below one_box).trans (B1.trans ((But.of_below one_box).trans B2)), ((q0.but B1 (by omega)).on one_box).but B2 (by omega), q1.but B2 (by omega), by omega⟩
end Go.Proofs.YtaccinophamgmaaDoor
