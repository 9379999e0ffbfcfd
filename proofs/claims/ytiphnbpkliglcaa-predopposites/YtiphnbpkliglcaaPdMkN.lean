/- The statements' own maker of predicates: not, of one part. -/
import Derived.Test.YtiphnbpkliglcaaPdMk
namespace Go.Proofs.Ytiphnbpkliglcaa
open Go.RowKit
set_option maxRecDepth 100000
set_option linter.unusedVariables false

/-- What the maker does one deeper. -/
def IHp (S : Nat) (a : Option Addr) (len cap : Nat) (zs : List Int) (b o ccap : Nat) (ks : List Int) (D : Int) (d : Nat) : Prop := ∀ (p : Nat) (w : World), SeqAt S a len cap zs p w → p + 20 * 4 ^ d ≤ 4294967290 → IntsIs w (.slice (some ⟨b, o, none⟩) ks.length ccap) ks → Calls Try.prog 6 #[.pointer (some ⟨S, 0, none⟩), .slice (some ⟨b, o, none⟩) ks.length ccap, .int .i64 D] w (PdMade S a len cap zs ks d p w)
theorem PdMade.not {S : Nat} {a : Option Addr} {len cap : Nat} {zs ks : List Int} {d p B0 p2 : Nat} {w w2 W : World} {P : Pd} {s' : Value} (hR : w.heap.size < B0) (hz : B0 ≤ w2.heap.size) (hm : MkP okM ks d P) (hl : PdL (fun k => B0 ≤ k) d w2 s' P.l) (hp : p2 ≤ p + 1 + 10 * 4 ^ d) (fin : SeqAt S a len cap zs p2 W ∧ But S w W)
    (hW : (∀ k, k ≠ w.heap.size → W.heap[k]? = (w2.alloc (.cells #[.int .i64 P.k, .int .i64 P.c, .int .i64 P.o, .int .i64 P.d, .int .i64 P.v.1, .int .i64 P.v.2.1, .string P.v.2.2, s'] 31)).heap[k]?) ∧ W.heap.size = (w2.alloc (.cells #[.int .i64 P.k, .int .i64 P.c, .int .i64 P.o, .int .i64 P.d, .int .i64 P.v.1, .int .i64 P.v.2.1, .string P.v.2.2, s'] 31)).heap.size) :
    PdMade S a len cap zs ks (d + 1) p w (.returned (.agg #[.int .i64 6, .int .i64 0, .int .i64 0, .int .i64 0, .int .i64 0, .int .i64 0, .string ⟨#[]⟩, .slice (some ⟨w2.heap.size, 0, none⟩) 1 1])) W := by
  have h4 := pow_pos4 d
  have hzW : W.heap.size = w2.heap.size + 1 := by rw [hW.2]; simp
  refine ⟨⟨6, 0, 0, 0, nul, [P]⟩, .slice (some ⟨w2.heap.size, 0, none⟩) 1 1, p2, rfl, .inr (.inl ⟨P, rfl, hm⟩), ?_, by rw [Nat.pow_succ]; omega, fin.1, fin.2⟩
  refine .inr ⟨w2.heap.size, 0, 1, rfl, Nat.le_refl _, by decide, by omega, (by show w.heap.size ≤ w2.heap.size; omega), fun i hi => ?_⟩
  obtain rfl : i = 0 := by simp at hi; omega
  refine ⟨s', (PdAt.box w2 P s' 31).kept (hW.1 _ (by omega)), ?_⟩
  have h1 : PdL (fun k => B0 ≤ k) d (w2.alloc (.cells #[.int .i64 P.k, .int .i64 P.c, .int .i64 P.o, .int .i64 P.d, .int .i64 P.v.1, .int .i64 P.v.2.1, .string P.v.2.2, s'] 31)) s' P.l := hl.on one_box
  have h2 := h1.kept (w' := W) (by omega) (fun k hk _ => hW.1 k (by omega))
  exact h2.mono (fun k hk _ => by omega)
set_option maxHeartbeats 4000000 in
theorem mkN4 (S : Nat) (a : Option Addr) (len cap : Nat) (zs : List Int) (p b o ccap : Nat) (ks : List Int) (D : Int) (d : Nat) (w : World) (h : SeqAt S a len cap zs p w) (hp : p + 20 ≤ 4294967290) (hc : IntsIs w (.slice (some ⟨b, o, none⟩) ks.length ccap) ks) (hb : b ≠ S) (hn : 0 < ks.length) (hn1 : ks.length ≤ 16) (hk : ∀ k ∈ ks, k = 1 ∨ k = 2 ∨ k = 3) (hD : 1 ≤ D) (Q1 : Hid (nm (sq zs len p) 8 = 4)) (hD2 : D ≤ 100) (hp2 : p + 1 + 20 * 4 ^ d ≤ 4294967290) (ih : IHp S a len cap zs b o ccap ks (D - 1) d) :
    Calls Try.prog 6 #[.pointer (some ⟨S, 0, none⟩), .slice (some ⟨b, o, none⟩) ks.length ccap, .int .i64 D] w (PdMade S a len cap zs ks (d + 1) p w) := by
  have hS := h.2.2.2.1
  have H : Hid (SeqAt S a len cap zs p w) := h
  have HC : Hid (IntsIs w (.slice (some ⟨b, o, none⟩) ks.length ccap) ks) := hc
  have hlo : b < w.heap.size := by
    have := hc.at 0 hn
    exact World.block_lt_of_cell? _ _ this
  have HK : Hid (∀ k ∈ ks, k = 1 ∨ k = 2 ∨ k = 3) := hk
  have b0 : ((ks.length : Int) == 0) = false := beq_false_of_ne (by omega)
  clear h hc hk
  go_enter Try.func6, Try.ntmps6
  go_wp2_with fail
  refine (next S a len cap zs p 8 _ (H.out.on one_box) (by omega) (by decide) (by decide)).mono ?_
  rintro e w1 ⟨rfl, H1, hb1⟩
  rw [Q1.out]
  have K1 : Hid (SeqAt S a len cap zs (p + 1) w1) := H1
  have B1 : Hid (But S (w.alloc (.cells #[.int .i64 0, .int .i64 0, .int .i64 0, .int .i64 0, .int .i64 0, .int .i64 0, .string ⟨#[]⟩, .slice none 0 0] 31)) w1) := hb1
  clear H1 hb1
  have IH : Hid (IHp S a len cap zs b o ccap ks (D - 1) d) := ih
  have C1 : Hid (IntsIs w1 (.slice (some ⟨b, o, none⟩) ks.length ccap) ks) := (HC.out.on one_box).but B1.out (by intro e; exact hb (by simpa [Value.ownBlock] using e))
  have hl1 : b < w1.heap.size := by have := C1.out.at 0 hn; exact World.block_lt_of_cell? _ _ this
  have z1 : w.heap.size + 1 ≤ w1.heap.size := by have := B1.out.size; simpa using this
  clear ih HC
  go_wp2_with fail
  refine (IH.out (p + 1) w1 K1.out (by omega) C1.out).mono ?_
  rintro e w2 ⟨P, s', p2, rfl, m1, m2, m3, m4, m5⟩
  unfold pv
  have B2 : Hid (But S (w.alloc (.cells #[.int .i64 0, .int .i64 0, .int .i64 0, .int .i64 0, .int .i64 0, .int .i64 0, .string ⟨#[]⟩, .slice none 0 0] 31)) w2) := B1.out.trans m5
  have z2 := m5.size
  obtain ⟨hc, hf⟩ := res_cells (B2.out.trans (But.of_below (one_box (o := .cells #[.int .i64 P.k, .int .i64 P.c, .int .i64 P.o, .int .i64 P.d, .int .i64 P.v.1, .int .i64 P.v.2.1, .string P.v.2.2, s'] 31)))) hS
  have M : Hid (MkP okM ks d P ∧ PdL (fun k => w1.heap.size ≤ k) d w2 s' P.l ∧ p2 ≤ p + 1 + 10 * 4 ^ d ∧ SeqAt S a len cap zs p2 w2) := ⟨m1, m2, m3, m4⟩
  clear m1 m2 m3 m4 m5 IH K1 B1 C1
  go_wp2_with fail
  have fin := put8 hS (M.out.2.2.2.on (one_box (o := .cells #[.int .i64 P.k, .int .i64 P.c, .int .i64 P.o, .int .i64 P.d, .int .i64 P.v.1, .int .i64 P.v.2.1, .string P.v.2.2, s'] 31))) ((But.of_below one_box).trans (B2.out.trans (But.of_below (one_box (o := .cells #[.int .i64 P.k, .int .i64 P.c, .int .i64 P.o, .int .i64 P.d, .int .i64 P.v.1, .int .i64 P.v.2.1, .string P.v.2.2, s'] 31))))) (.int .i64 6) (.int .i64 0) (.int .i64 0) (.int .i64 0) (.int .i64 0) (.int .i64 0) (.string ⟨#[]⟩) (.slice (some ⟨w2.heap.size, 0, none⟩) 1 1)
  exact bodyPost_ret (v := .agg #[.int .i64 6, .int .i64 0, .int .i64 0, .int .i64 0, .int .i64 0, .int .i64 0, .string ⟨#[]⟩, .slice (some ⟨w2.heap.size, 0, none⟩) 1 1]) (by simp [results, Try.results6, go_sem, hc]) rfl (PdMade.not (by omega) z2 M.out.1 M.out.2.1 M.out.2.2.1 fin (put8_heap _ _ _ _ _ _ _ _))
end Go.Proofs.Ytiphnbpkliglcaa
