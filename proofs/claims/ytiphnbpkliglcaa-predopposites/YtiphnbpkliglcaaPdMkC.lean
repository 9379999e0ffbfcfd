/- The statements' own maker of predicates: a column that is Null. -/
import Derived.Test.YtiphnbpkliglcaaPdMk
namespace Go.Proofs.Ytiphnbpkliglcaa
open Go.RowKit
set_option maxRecDepth 100000
set_option linter.unusedVariables false

set_option maxHeartbeats 4000000 in
theorem mkC3 (S : Nat) (a : Option Addr) (len cap : Nat) (zs : List Int) (p b o ccap : Nat) (ks : List Int) (D : Int) (d : Nat) (w : World) (h : SeqAt S a len cap zs p w) (hp : p + 20 ≤ 4294967290) (hc : IntsIs w (.slice (some ⟨b, o, none⟩) ks.length ccap) ks) (hb : b ≠ S) (hn : 0 < ks.length) (hn1 : ks.length ≤ 16) (hk : ∀ k ∈ ks, k = 1 ∨ k = 2 ∨ k = 3) (hD : 1 ≤ D) (Q1 : Hid (nm (sq zs len p) 8 = 3)) :
    Calls Try.prog 6 #[.pointer (some ⟨S, 0, none⟩), .slice (some ⟨b, o, none⟩) ks.length ccap, .int .i64 D] w (PdMade S a len cap zs ks d p w) := by
  have hS := h.2.2.2.1
  have H : Hid (SeqAt S a len cap zs p w) := h
  have HC : Hid (IntsIs w (.slice (some ⟨b, o, none⟩) ks.length ccap) ks) := hc
  have hlo : b < w.heap.size := by
    have := hc.at 0 hn
    exact World.block_lt_of_cell? _ _ this
  have HK : Hid (∀ k ∈ ks, k = 1 ∨ k = 2 ∨ k = 3) := hk
  have b0 : ((ks.length : Int) == 0) = false := beq_false_of_ne (by omega)
  clear h hc hk
  go_enter Try.func6, Try.ntmps6
  go_wp2_with fail
  refine (next S a len cap zs p 8 _ (H.out.on one_box) (by omega) (by decide) (by decide)).mono ?_
  rintro e w1 ⟨rfl, H1, hb1⟩
  rw [Q1.out]
  have K1 : Hid (SeqAt S a len cap zs (p + 1) w1) := H1
  have B1 : Hid (But S (w.alloc (.cells #[.int .i64 0, .int .i64 0, .int .i64 0, .int .i64 0, .int .i64 0, .int .i64 0, .string ⟨#[]⟩, .slice none 0 0] 31)) w1) := hb1
  clear H1 hb1
  go_wp2_with fail
  refine (next S a len cap zs (p + 1) ks.length _ K1.out (by omega) (by omega) (by omega)).mono ?_
  rintro e w2 ⟨rfl, H2, hb2⟩
  obtain ⟨c0, c1⟩ := nm_bd (sq zs len (p + 1)) ks.length (by omega)
  generalize nm (sq zs len (p + 1)) ks.length = c at *
  have K2 : Hid (SeqAt S a len cap zs (p + 1 + 1) w2) := H2
  have B2 : Hid (But S (w.alloc (.cells #[.int .i64 0, .int .i64 0, .int .i64 0, .int .i64 0, .int .i64 0, .int .i64 0, .string ⟨#[]⟩, .slice none 0 0] 31)) w2) := B1.out.trans hb2
  clear H2 hb2 K1 B1
  have LN : LeafP ks ⟨3, c, 0, 0, nul, []⟩ := .inr (.inr ⟨c.toNat, by omega, by rw [show ((c.toNat : Nat) : Int) = c by omega]⟩)
  obtain ⟨hc, hf⟩ := res_cells B2.out hS
  go_wp2_with fail
  have fin := put8 hS K2.out ((But.of_below one_box).trans B2.out) (.int .i64 3) (.int .i64 c) (.int .i64 0) (.int .i64 0) (.int .i64 0) (.int .i64 0) (.string ⟨#[]⟩) (.slice none 0 0)
  exact bodyPost_ret (v := .agg #[.int .i64 3, .int .i64 c, .int .i64 0, .int .i64 0, .int .i64 0, .int .i64 0, .string ⟨#[]⟩, .slice none 0 0]) (by simp [results, Try.results6, go_sem, hc]) rfl (PdMade.leaf LN (fun h => by simp at h) rfl (by omega) fin)
set_option maxHeartbeats 4000000 in
theorem mkL3 (S : Nat) (a : Option Addr) (len cap : Nat) (zs : List Int) (p b o ccap : Nat) (ks : List Int) (D : Int) (d : Nat) (w : World) (h : SeqAt S a len cap zs p w) (hp : p + 20 ≤ 4294967290) (hc : IntsIs w (.slice (some ⟨b, o, none⟩) ks.length ccap) ks) (hb : b ≠ S) (hn : 0 < ks.length) (hn1 : ks.length ≤ 16) (hk : ∀ k ∈ ks, k = 1 ∨ k = 2 ∨ k = 3) (hD : D < 1) (r1 : Int) (hr0 : 0 ≤ r1) (hr1 : r1 < 8) (hrm : r1 % 4 = 3) (Q1 : Hid (nm (sq zs len p) 8 = r1)) :
    Calls Try.prog 6 #[.pointer (some ⟨S, 0, none⟩), .slice (some ⟨b, o, none⟩) ks.length ccap, .int .i64 D] w (PdMade S a len cap zs ks d p w) := by
  have hS := h.2.2.2.1
  have H : Hid (SeqAt S a len cap zs p w) := h
  have HC : Hid (IntsIs w (.slice (some ⟨b, o, none⟩) ks.length ccap) ks) := hc
  have hlo : b < w.heap.size := by
    have := hc.at 0 hn
    exact World.block_lt_of_cell? _ _ this
  have HK : Hid (∀ k ∈ ks, k = 1 ∨ k = 2 ∨ k = 3) := hk
  have hrt : r1.tmod 4 = 3 := by rw [Int.tmod_eq_emod_of_nonneg hr0]; exact hrm
  have b0 : ((ks.length : Int) == 0) = false := beq_false_of_ne (by omega)
  clear h hc hk
  go_enter Try.func6, Try.ntmps6
  go_wp2_with fail
  refine (next S a len cap zs p 8 _ (H.out.on one_box) (by omega) (by decide) (by decide)).mono ?_
  rintro e w1 ⟨rfl, H1, hb1⟩
  rw [Q1.out]
  have K1 : Hid (SeqAt S a len cap zs (p + 1) w1) := H1
  have B1 : Hid (But S (w.alloc (.cells #[.int .i64 0, .int .i64 0, .int .i64 0, .int .i64 0, .int .i64 0, .int .i64 0, .string ⟨#[]⟩, .slice none 0 0] 31)) w1) := hb1
  clear H1 hb1
  go_wp2_with fail
  refine (next S a len cap zs (p + 1) ks.length _ K1.out (by omega) (by omega) (by omega)).mono ?_
  rintro e w2 ⟨rfl, H2, hb2⟩
  obtain ⟨c0, c1⟩ := nm_bd (sq zs len (p + 1)) ks.length (by omega)
  generalize nm (sq zs len (p + 1)) ks.length = c at *
  have K2 : Hid (SeqAt S a len cap zs (p + 1 + 1) w2) := H2
  have B2 : Hid (But S (w.alloc (.cells #[.int .i64 0, .int .i64 0, .int .i64 0, .int .i64 0, .int .i64 0, .int .i64 0, .string ⟨#[]⟩, .slice none 0 0] 31)) w2) := B1.out.trans hb2
  clear H2 hb2 K1 B1
  have LN : LeafP ks ⟨3, c, 0, 0, nul, []⟩ := .inr (.inr ⟨c.toNat, by omega, by rw [show ((c.toNat : Nat) : Int) = c by omega]⟩)
  obtain ⟨hc, hf⟩ := res_cells B2.out hS
  go_wp2_with fail
  have fin := put8 hS K2.out ((But.of_below one_box).trans B2.out) (.int .i64 3) (.int .i64 c) (.int .i64 0) (.int .i64 0) (.int .i64 0) (.int .i64 0) (.string ⟨#[]⟩) (.slice none 0 0)
  exact bodyPost_ret (v := .agg #[.int .i64 3, .int .i64 c, .int .i64 0, .int .i64 0, .int .i64 0, .int .i64 0, .string ⟨#[]⟩, .slice none 0 0]) (by simp [results, Try.results6, go_sem, hc]) rfl (PdMade.leaf LN (fun h => by simp at h) rfl (by omega) fin)
end Go.Proofs.Ytiphnbpkliglcaa
