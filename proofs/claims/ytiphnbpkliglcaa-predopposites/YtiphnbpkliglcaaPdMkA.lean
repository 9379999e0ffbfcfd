/- The statements' own maker of predicates: a column against a constant. -/
import Derived.Test.YtiphnbpkliglcaaPdMk
namespace Go.Proofs.Ytiphnbpkliglcaa
open Go.RowKit
set_option maxRecDepth 100000
set_option linter.unusedVariables false

set_option maxHeartbeats 4000000 in
theorem mkA0 (S : Nat) (a : Option Addr) (len cap : Nat) (zs : List Int) (p b o ccap : Nat) (ks : List Int) (D : Int) (d : Nat) (w : World) (h : SeqAt S a len cap zs p w) (hp : p + 20 ≤ 4294967290) (hc : IntsIs w (.slice (some ⟨b, o, none⟩) ks.length ccap) ks) (hb : b ≠ S) (hn : 0 < ks.length) (hn1 : ks.length ≤ 16) (hk : ∀ k ∈ ks, k = 1 ∨ k = 2 ∨ k = 3) (hD : 1 ≤ D) (Q1 : Hid (nm (sq zs len p) 8 = 0)) :
    Calls Try.prog 6 #[.pointer (some ⟨S, 0, none⟩), .slice (some ⟨b, o, none⟩) ks.length ccap, .int .i64 D] w (PdMade S a len cap zs ks d p w) := by
  have hS := h.2.2.2.1
  have H : Hid (SeqAt S a len cap zs p w) := h
  have HC : Hid (IntsIs w (.slice (some ⟨b, o, none⟩) ks.length ccap) ks) := hc
  have hlo : b < w.heap.size := by
    have := hc.at 0 hn
    exact World.block_lt_of_cell? _ _ this
  have HK : Hid (∀ k ∈ ks, k = 1 ∨ k = 2 ∨ k = 3) := hk
  have b0 : ((ks.length : Int) == 0) = false := beq_false_of_ne (by omega)
  clear h hc hk
  go_enter Try.func6, Try.ntmps6
  go_wp2_with fail
  refine (next S a len cap zs p 8 _ (H.out.on one_box) (by omega) (by decide) (by decide)).mono ?_
  rintro e w1 ⟨rfl, H1, hb1⟩
  rw [Q1.out]
  have K1 : Hid (SeqAt S a len cap zs (p + 1) w1) := H1
  have B1 : Hid (But S (w.alloc (.cells #[.int .i64 0, .int .i64 0, .int .i64 0, .int .i64 0, .int .i64 0, .int .i64 0, .string ⟨#[]⟩, .slice none 0 0] 31)) w1) := hb1
  clear H1 hb1
  go_wp2_with fail
  refine (next S a len cap zs (p + 1) ks.length _ K1.out (by omega) (by omega) (by omega)).mono ?_
  rintro e w2 ⟨rfl, H2, hb2⟩
  obtain ⟨c0, c1⟩ := nm_bd (sq zs len (p + 1)) ks.length (by omega)
  generalize nm (sq zs len (p + 1)) ks.length = c at *
  have K2 : Hid (SeqAt S a len cap zs (p + 1 + 1) w2) := H2
  have B2 : Hid (But S (w.alloc (.cells #[.int .i64 0, .int .i64 0, .int .i64 0, .int .i64 0, .int .i64 0, .int .i64 0, .string ⟨#[]⟩, .slice none 0 0] 31)) w2) := B1.out.trans hb2
  have C2 : Hid (IntsIs w2 (.slice (some ⟨b, o, none⟩) ks.length ccap) ks) := (HC.out.on one_box).but B2.out (by intro e; exact hb (by simpa [Value.ownBlock] using e))
  clear H2 hb2 K1 B1
  have hcl : c.toNat < ks.length := by omega
  have x0 := C2.out.at c.toNat hcl
  have hkd := HK.out _ (List.getElem_mem hcl)
  have E1 : Hid (ks[c.toNat] = ks[c.toNat] ∧ c = ((c.toNat : Nat) : Int)) := ⟨rfl, by omega⟩
  have LF : Hid (∀ (v : Val) (q : Int), 1 ≤ q → q ≤ 6 → v.1 = ks[c.toNat] → v.1 ≠ 0 → LeafP ks ⟨1, c, q, 0, v, []⟩) := fun v q h1 h2 h3 h4 => .inl ⟨c.toNat, q, v, hcl, h1, h2, h3, h4, by rw [← E1.out.2]⟩
  have LN : Hid (LeafP ks ⟨3, c, 0, 0, nul, []⟩) := .inr (.inr ⟨c.toNat, hcl, by rw [← E1.out.2]⟩)
  clear E1
  generalize ks[c.toNat] = kd at *
  go_wp2_with fail
  refine (makeValue S a len cap zs (p + 1 + 1) kd (by omega) _ K2.out (by omega)).mono ?_
  rintro e w3 ⟨k, x, s, p3, rfl, ok, hp3, hseq3, hb3, _⟩
  have K3 : Hid (SeqAt S a len cap zs p3 w3) := hseq3
  have B3 : Hid (But S (w.alloc (.cells #[.int .i64 0, .int .i64 0, .int .i64 0, .int .i64 0, .int .i64 0, .int .i64 0, .string ⟨#[]⟩, .slice none 0 0] 31)) w3) := B2.out.trans hb3
  have OK : Hid (OkV kd k x s) := ok
  have P3 : Hid (p3 ≤ p + 6) := by show p3 ≤ p + 6; omega
  have z3 : w.heap.size + 1 ≤ w3.heap.size := by have := B3.out.size; simpa using this
  clear x0 hseq3 hb3 ok hp3 K2 B2 C2
  by_cases hk0 : k = 0
  · subst hk0
    obtain ⟨hc, hf⟩ := res_cells (B3.out.trans (But.of_below (one_box (o := .cells #[.int .i64 0, .int .i64 x, .string s] 28)))) hS
    go_wp2_with fail
    have fin := put8 hS (K3.out.on (one_box (o := .cells #[.int .i64 0, .int .i64 x, .string s] 28))) ((But.of_below one_box).trans (B3.out.trans (But.of_below (one_box (o := .cells #[.int .i64 0, .int .i64 x, .string s] 28))))) (.int .i64 3) (.int .i64 c) (.int .i64 0) (.int .i64 0) (.int .i64 0) (.int .i64 0) (.string ⟨#[]⟩) (.slice none 0 0)
    exact bodyPost_ret (v := .agg #[.int .i64 3, .int .i64 c, .int .i64 0, .int .i64 0, .int .i64 0, .int .i64 0, .string ⟨#[]⟩, .slice none 0 0]) (by simp [results, Try.results6, go_sem, hc]) rfl (PdMade.leaf LN.out (fun h => by simp at h) rfl (by have := P3.out; omega) fin)
  · have bk : (k == 0) = false := by simp [hk0]
    have HN : Hid (∀ V, Below w3.heap.size w3 V → Calls Try.prog 13 #[.pointer (some ⟨S, 0, none⟩), .int .i64 6] V fun e w' => e = .returned (.int .i64 (nm (sq zs len p3) 6)) ∧ SeqAt S a len cap zs (p3 + 1) w' ∧ But S V w') := fun V hV => next S a len cap zs p3 6 V (K3.out.on hV) (by have := P3.out; omega) (by decide) (by decide)
    obtain ⟨q0, q1⟩ := nm_bd (sq zs len p3) 6 (by decide)
    generalize nm (sq zs len p3) 6 = q at *
    have FC : Hid (∀ w7, But S ((w3.alloc (.cells #[.int .i64 k, .int .i64 x, .string s] 28)).drew) w7 → (w7.cell? ⟨w3.heap.size, 0, none⟩ = some (.int .i64 k) ∧ w7.cell? ⟨w3.heap.size, 1, none⟩ = some (.int .i64 x) ∧ w7.cell? ⟨w3.heap.size, 2, none⟩ = some (.string s)) ∧ (∀ q, w7.cell? ⟨w.heap.size, q, none⟩ = (w.alloc (.cells #[.int .i64 0, .int .i64 0, .int .i64 0, .int .i64 0, .int .i64 0, .int .i64 0, .string ⟨#[]⟩, .slice none 0 0] 31)).cell? ⟨w.heap.size, q, none⟩) ∧ (∀ q, w7.frozen? ⟨w.heap.size, q, none⟩ = (w.alloc (.cells #[.int .i64 0, .int .i64 0, .int .i64 0, .int .i64 0, .int .i64 0, .int .i64 0, .string ⟨#[]⟩, .slice none 0 0] 31)).frozen? ⟨w.heap.size, q, none⟩) ∧ But S w w7) := fun w7 h7 => by
      have h8 : But S (w3.alloc (.cells #[.int .i64 k, .int .i64 x, .string s] 28)) w7 := (But.drewN 1).trans h7
      obtain ⟨g1, g2⟩ := bcB h8 w3.heap.size (by omega) (by simp)
      obtain ⟨g3, g4⟩ := res_cells (B3.out.trans ((But.of_below one_box).trans h8)) hS
      refine ⟨⟨?_, ?_, ?_⟩, g3, g4, (But.of_below one_box).trans (B3.out.trans ((But.of_below one_box).trans h8))⟩
      · rw [g1, World.cell?_alloc_at _ _ _ _ rfl]; rfl
      · rw [g1, World.cell?_alloc_at _ _ _ _ rfl]; rfl
      · rw [g1, World.cell?_alloc_at _ _ _ _ rfl]; rfl
    have FK : Hid (((k, x, s) : Val).1 = kd ∧ ((k, x, s) : Val).1 ≠ 0 ∧ okM (k, x, s)) := by
      obtain ⟨o1, o2, o3, o4, o5⟩ := OK.out
      exact ⟨by show k = kd; omega, hk0, o1, hk0, o2, o3, o4⟩
    clear K3 B3 hk0
    have hwr : IntKind.i64.wrap (1 + q) = 1 + q := by rw [IntKind.wrap_i64]; omega
    go_wp2_with fail
    go_region_with (go_at_call 13; refine (HN.out _ (one_box.drew)).mono ?_; rintro e w7 ⟨rfl, h7, b7⟩; obtain ⟨⟨y0, y1, y2⟩, hc, hf, hB⟩ := FC.out _ b7; have K7 : Hid (SeqAt S a len cap zs (p3 + 1) w7) := h7; have B7 : Hid (But S w w7) := hB; clear h7 b7 hB)
    all_goals
      go_wp2_with fail
      have fin := put8 hS K7.out B7.out (.int .i64 1) (.int .i64 c) (.int .i64 (1 + q)) (.int .i64 0) (.int .i64 k) (.int .i64 x) (.string s) (.slice none 0 0)
      exact bodyPost_ret (v := .agg #[.int .i64 1, .int .i64 c, .int .i64 (1 + q), .int .i64 0, .int .i64 k, .int .i64 x, .string s, .slice none 0 0]) (by simp [results, Try.results6, go_sem, hc]) rfl (PdMade.leaf (P := ⟨1, c, 1 + q, 0, (k, x, s), []⟩) (LF.out (k, x, s) (1 + q) (by omega) (by omega) (FK.out.1) FK.out.2.1) (fun _ => FK.out.2.2) rfl (by have := P3.out; omega) fin)
set_option maxHeartbeats 4000000 in
theorem mkA1 (S : Nat) (a : Option Addr) (len cap : Nat) (zs : List Int) (p b o ccap : Nat) (ks : List Int) (D : Int) (d : Nat) (w : World) (h : SeqAt S a len cap zs p w) (hp : p + 20 ≤ 4294967290) (hc : IntsIs w (.slice (some ⟨b, o, none⟩) ks.length ccap) ks) (hb : b ≠ S) (hn : 0 < ks.length) (hn1 : ks.length ≤ 16) (hk : ∀ k ∈ ks, k = 1 ∨ k = 2 ∨ k = 3) (hD : 1 ≤ D) (Q1 : Hid (nm (sq zs len p) 8 = 1)) :
    Calls Try.prog 6 #[.pointer (some ⟨S, 0, none⟩), .slice (some ⟨b, o, none⟩) ks.length ccap, .int .i64 D] w (PdMade S a len cap zs ks d p w) := by
  have hS := h.2.2.2.1
  have H : Hid (SeqAt S a len cap zs p w) := h
  have HC : Hid (IntsIs w (.slice (some ⟨b, o, none⟩) ks.length ccap) ks) := hc
  have hlo : b < w.heap.size := by
    have := hc.at 0 hn
    exact World.block_lt_of_cell? _ _ this
  have HK : Hid (∀ k ∈ ks, k = 1 ∨ k = 2 ∨ k = 3) := hk
  have b0 : ((ks.length : Int) == 0) = false := beq_false_of_ne (by omega)
  clear h hc hk
  go_enter Try.func6, Try.ntmps6
  go_wp2_with fail
  refine (next S a len cap zs p 8 _ (H.out.on one_box) (by omega) (by decide) (by decide)).mono ?_
  rintro e w1 ⟨rfl, H1, hb1⟩
  rw [Q1.out]
  have K1 : Hid (SeqAt S a len cap zs (p + 1) w1) := H1
  have B1 : Hid (But S (w.alloc (.cells #[.int .i64 0, .int .i64 0, .int .i64 0, .int .i64 0, .int .i64 0, .int .i64 0, .string ⟨#[]⟩, .slice none 0 0] 31)) w1) := hb1
  clear H1 hb1
  go_wp2_with fail
  refine (next S a len cap zs (p + 1) ks.length _ K1.out (by omega) (by omega) (by omega)).mono ?_
  rintro e w2 ⟨rfl, H2, hb2⟩
  obtain ⟨c0, c1⟩ := nm_bd (sq zs len (p + 1)) ks.length (by omega)
  generalize nm (sq zs len (p + 1)) ks.length = c at *
  have K2 : Hid (SeqAt S a len cap zs (p + 1 + 1) w2) := H2
  have B2 : Hid (But S (w.alloc (.cells #[.int .i64 0, .int .i64 0, .int .i64 0, .int .i64 0, .int .i64 0, .int .i64 0, .string ⟨#[]⟩, .slice none 0 0] 31)) w2) := B1.out.trans hb2
  have C2 : Hid (IntsIs w2 (.slice (some ⟨b, o, none⟩) ks.length ccap) ks) := (HC.out.on one_box).but B2.out (by intro e; exact hb (by simpa [Value.ownBlock] using e))
  clear H2 hb2 K1 B1
  have hcl : c.toNat < ks.length := by omega
  have x0 := C2.out.at c.toNat hcl
  have hkd := HK.out _ (List.getElem_mem hcl)
  have E1 : Hid (ks[c.toNat] = ks[c.toNat] ∧ c = ((c.toNat : Nat) : Int)) := ⟨rfl, by omega⟩
  have LF : Hid (∀ (v : Val) (q : Int), 1 ≤ q → q ≤ 6 → v.1 = ks[c.toNat] → v.1 ≠ 0 → LeafP ks ⟨1, c, q, 0, v, []⟩) := fun v q h1 h2 h3 h4 => .inl ⟨c.toNat, q, v, hcl, h1, h2, h3, h4, by rw [← E1.out.2]⟩
  have LN : Hid (LeafP ks ⟨3, c, 0, 0, nul, []⟩) := .inr (.inr ⟨c.toNat, hcl, by rw [← E1.out.2]⟩)
  clear E1
  generalize ks[c.toNat] = kd at *
  go_wp2_with fail
  refine (makeValue S a len cap zs (p + 1 + 1) kd (by omega) _ K2.out (by omega)).mono ?_
  rintro e w3 ⟨k, x, s, p3, rfl, ok, hp3, hseq3, hb3, _⟩
  have K3 : Hid (SeqAt S a len cap zs p3 w3) := hseq3
  have B3 : Hid (But S (w.alloc (.cells #[.int .i64 0, .int .i64 0, .int .i64 0, .int .i64 0, .int .i64 0, .int .i64 0, .string ⟨#[]⟩, .slice none 0 0] 31)) w3) := B2.out.trans hb3
  have OK : Hid (OkV kd k x s) := ok
  have P3 : Hid (p3 ≤ p + 6) := by show p3 ≤ p + 6; omega
  have z3 : w.heap.size + 1 ≤ w3.heap.size := by have := B3.out.size; simpa using this
  clear x0 hseq3 hb3 ok hp3 K2 B2 C2
  by_cases hk0 : k = 0
  · subst hk0
    obtain ⟨hc, hf⟩ := res_cells (B3.out.trans (But.of_below (one_box (o := .cells #[.int .i64 0, .int .i64 x, .string s] 28)))) hS
    go_wp2_with fail
    have fin := put8 hS (K3.out.on (one_box (o := .cells #[.int .i64 0, .int .i64 x, .string s] 28))) ((But.of_below one_box).trans (B3.out.trans (But.of_below (one_box (o := .cells #[.int .i64 0, .int .i64 x, .string s] 28))))) (.int .i64 3) (.int .i64 c) (.int .i64 0) (.int .i64 0) (.int .i64 0) (.int .i64 0) (.string ⟨#[]⟩) (.slice none 0 0)
    exact bodyPost_ret (v := .agg #[.int .i64 3, .int .i64 c, .int .i64 0, .int .i64 0, .int .i64 0, .int .i64 0, .string ⟨#[]⟩, .slice none 0 0]) (by simp [results, Try.results6, go_sem, hc]) rfl (PdMade.leaf LN.out (fun h => by simp at h) rfl (by have := P3.out; omega) fin)
  · have bk : (k == 0) = false := by simp [hk0]
    have HN : Hid (∀ V, Below w3.heap.size w3 V → Calls Try.prog 13 #[.pointer (some ⟨S, 0, none⟩), .int .i64 6] V fun e w' => e = .returned (.int .i64 (nm (sq zs len p3) 6)) ∧ SeqAt S a len cap zs (p3 + 1) w' ∧ But S V w') := fun V hV => next S a len cap zs p3 6 V (K3.out.on hV) (by have := P3.out; omega) (by decide) (by decide)
    obtain ⟨q0, q1⟩ := nm_bd (sq zs len p3) 6 (by decide)
    generalize nm (sq zs len p3) 6 = q at *
    have FC : Hid (∀ w7, But S ((w3.alloc (.cells #[.int .i64 k, .int .i64 x, .string s] 28)).drew) w7 → (w7.cell? ⟨w3.heap.size, 0, none⟩ = some (.int .i64 k) ∧ w7.cell? ⟨w3.heap.size, 1, none⟩ = some (.int .i64 x) ∧ w7.cell? ⟨w3.heap.size, 2, none⟩ = some (.string s)) ∧ (∀ q, w7.cell? ⟨w.heap.size, q, none⟩ = (w.alloc (.cells #[.int .i64 0, .int .i64 0, .int .i64 0, .int .i64 0, .int .i64 0, .int .i64 0, .string ⟨#[]⟩, .slice none 0 0] 31)).cell? ⟨w.heap.size, q, none⟩) ∧ (∀ q, w7.frozen? ⟨w.heap.size, q, none⟩ = (w.alloc (.cells #[.int .i64 0, .int .i64 0, .int .i64 0, .int .i64 0, .int .i64 0, .int .i64 0, .string ⟨#[]⟩, .slice none 0 0] 31)).frozen? ⟨w.heap.size, q, none⟩) ∧ But S w w7) := fun w7 h7 => by
      have h8 : But S (w3.alloc (.cells #[.int .i64 k, .int .i64 x, .string s] 28)) w7 := (But.drewN 1).trans h7
      obtain ⟨g1, g2⟩ := bcB h8 w3.heap.size (by omega) (by simp)
      obtain ⟨g3, g4⟩ := res_cells (B3.out.trans ((But.of_below one_box).trans h8)) hS
      refine ⟨⟨?_, ?_, ?_⟩, g3, g4, (But.of_below one_box).trans (B3.out.trans ((But.of_below one_box).trans h8))⟩
      · rw [g1, World.cell?_alloc_at _ _ _ _ rfl]; rfl
      · rw [g1, World.cell?_alloc_at _ _ _ _ rfl]; rfl
      · rw [g1, World.cell?_alloc_at _ _ _ _ rfl]; rfl
    have FK : Hid (((k, x, s) : Val).1 = kd ∧ ((k, x, s) : Val).1 ≠ 0 ∧ okM (k, x, s)) := by
      obtain ⟨o1, o2, o3, o4, o5⟩ := OK.out
      exact ⟨by show k = kd; omega, hk0, o1, hk0, o2, o3, o4⟩
    clear K3 B3 hk0
    have hwr : IntKind.i64.wrap (1 + q) = 1 + q := by rw [IntKind.wrap_i64]; omega
    go_wp2_with fail
    go_region_with (go_at_call 13; refine (HN.out _ (one_box.drew)).mono ?_; rintro e w7 ⟨rfl, h7, b7⟩; obtain ⟨⟨y0, y1, y2⟩, hc, hf, hB⟩ := FC.out _ b7; have K7 : Hid (SeqAt S a len cap zs (p3 + 1) w7) := h7; have B7 : Hid (But S w w7) := hB; clear h7 b7 hB)
    all_goals
      go_wp2_with fail
      have fin := put8 hS K7.out B7.out (.int .i64 1) (.int .i64 c) (.int .i64 (1 + q)) (.int .i64 0) (.int .i64 k) (.int .i64 x) (.string s) (.slice none 0 0)
      exact bodyPost_ret (v := .agg #[.int .i64 1, .int .i64 c, .int .i64 (1 + q), .int .i64 0, .int .i64 k, .int .i64 x, .string s, .slice none 0 0]) (by simp [results, Try.results6, go_sem, hc]) rfl (PdMade.leaf (P := ⟨1, c, 1 + q, 0, (k, x, s), []⟩) (LF.out (k, x, s) (1 + q) (by omega) (by omega) (FK.out.1) FK.out.2.1) (fun _ => FK.out.2.2) rfl (by have := P3.out; omega) fin)
end Go.Proofs.Ytiphnbpkliglcaa
