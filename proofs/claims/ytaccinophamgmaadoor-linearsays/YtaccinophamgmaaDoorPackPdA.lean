/- Texts of one claim, one behind the other. -/
import Derived.Test.YtaccinophamgmaaDoorPdMk
/- The statements' own maker of predicates: a column against a constant. -/
namespace Go.Proofs.YtaccinophamgmaaDoor
open Go.RowKit
set_option maxRecDepth 100000
set_option linter.unusedVariables false

set_option maxHeartbeats 4000000 in
theorem mkA0 (S : Nat) (a : Option Addr) (len cap : Nat) (zs : List Int) (p b o ccap : Nat) (ks : List Int) (D : Int) (d : Nat) (w : World) (h : SeqAt S a len cap zs p w) (hp : p + 20 ≤ 4294967290) (hc : IntsIs w (.slice (some ⟨b, o, none⟩) ks.length ccap) ks) (hb : b ≠ S) (hn : 0 < ks.length) (hn1 : ks.length ≤ 16) (hk : ∀ k ∈ ks, k = 1 ∨ k = 2 ∨ k = 3) (hD : 1 ≤ D) (Q1 : Hid (nm (sq zs len p) 8 = 0)) :
    Calls Tryd.prog 9 #[.pointer (some ⟨S, 0, none⟩), .slice (some ⟨b, o, none⟩) ks.length ccap, .int .i64 D] w (PdMade S a len cap zs ks d p w) := by
  have hS := h.2.2.2.1
  have H : Hid (SeqAt S a len cap zs p w) := h
  have HC : Hid (IntsIs w (.slice (some ⟨b, o, none⟩) ks.length ccap) ks) := hc
  have hlo : b < w.heap.size := by
    have := hc.at 0 hn
    exact World.block_lt_of_cell? _ _ this
  have HK : Hid (∀ k ∈ ks, k = 1 ∨ k = 2 ∨ k = 3) := hk
  have b0 : ((ks.length : Int) == 0) = false := beq_false_of_ne (by omega)
  clear h hc hk
  go_enter Tryd.func9, Tryd.ntmps9
  go_wp2_with fail
  refine (next S a len cap zs p 8 _ (H.out.on one_box) (by omega) (by decide) (by decide)).mono ?_
  rintro e w1 ⟨rfl, H1, hb1⟩
  rw [Q1.out]
  have K1 : Hid (SeqAt S a len cap zs (p + 1) w1) := H1
  have B1 : Hid (But S (w.alloc (.cells #[.int .i64 0, .int .i64 0, .int .i64 0, .int .i64 0, .int .i64 0, .int .i64 0, .string ⟨#[]⟩, .slice none 0 0] 33)) w1) := hb1
  clear H1 hb1
  go_wp2_with fail
  refine (next S a len cap zs (p + 1) ks.length _ K1.out (by omega) (by omega) (by omega)).mono ?_
  rintro e w2 ⟨rfl, H2, hb2⟩
  obtain ⟨c0, c1⟩ := nm_bd (sq zs len (p + 1)) ks.length (by omega)
  generalize nm (sq zs len (p + 1)) ks.length = c at *
  have K2 : Hid (SeqAt S a len cap zs (p + 1 + 1) w2) := H2
  have B2 : Hid (But S (w.alloc (.cells #[.int .i64 0, .int .i64 0, .int .i64 0, .int .i64 0, .int .i64 0, .int .i64 0, .string ⟨#[]⟩, .slice none 0 0] 33)) w2) := B1.out.trans hb2
  have C2 : Hid (IntsIs w2 (.slice (some ⟨b, o, none⟩) ks.length ccap) ks) := (HC.out.on one_box).but B2.out (by intro e; exact hb (by simpa [Value.ownBlock] using e))
  clear H2 hb2 K1 B1
  have hcl : c.toNat < ks.length := by omega
  have x0 := C2.out.at c.toNat hcl
  have hkd := HK.out _ (List.getElem_mem hcl)
  have E1 : Hid (ks[c.toNat] = ks[c.toNat] ∧ c = ((c.toNat : Nat) : Int)) := ⟨rfl, by omega⟩
  have LF : Hid (∀ (v : Val) (q : Int), 1 ≤ q → q ≤ 6 → v.1 = ks[c.toNat] → v.1 ≠ 0 → LeafP ks ⟨1, c, q, 0, v, []⟩) := fun v q h1 h2 h3 h4 => .inl ⟨c.toNat, q, v, hcl, h1, h2, h3, h4, by rw [← E1.out.2]⟩
  have LN : Hid (LeafP ks ⟨3, c, 0, 0, nul, []⟩) := .inr (.inr ⟨c.toNat, hcl, by rw [← E1.out.2]⟩)
  clear E1
  generalize ks[c.toNat] = kd at *
  go_wp2_with fail
  refine (makeValue S a len cap zs (p + 1 + 1) kd (by omega) _ K2.out (by omega)).mono ?_
  rintro e w3 ⟨k, x, s, p3, rfl, ok, hp3, hseq3, hb3, _⟩
  have K3 : Hid (SeqAt S a len cap zs p3 w3) := hseq3
  have B3 : Hid (But S (w.alloc (.cells #[.int .i64 0, .int .i64 0, .int .i64 0, .int .i64 0, .int .i64 0, .int .i64 0, .string ⟨#[]⟩, .slice none 0 0] 33)) w3) := B2.out.trans hb3
  have OK : Hid (OkV kd k x s) := ok
  have P3 : Hid (p3 ≤ p + 6) := by show p3 ≤ p + 6; omega
  have z3 : w.heap.size + 1 ≤ w3.heap.size := by have := B3.out.size; simpa using this
  clear x0 hseq3 hb3 ok hp3 K2 B2 C2
  by_cases hk0 : k = 0
  · subst hk0
    obtain ⟨hc, hf⟩ := res_cells (B3.out.trans (But.of_below (one_box (o := .cells #[.int .i64 0, .int .i64 x, .string s] 30)))) hS
    go_wp2_with fail
    have fin := put8 hS (K3.out.on (one_box (o := .cells #[.int .i64 0, .int .i64 x, .string s] 30))) ((But.of_below one_box).trans (B3.out.trans (But.of_below (one_box (o := .cells #[.int .i64 0, .int .i64 x, .string s] 30))))) (.int .i64 3) (.int .i64 c) (.int .i64 0) (.int .i64 0) (.int .i64 0) (.int .i64 0) (.string ⟨#[]⟩) (.slice none 0 0)
    exact bodyPost_ret (v := .agg #[.int .i64 3, .int .i64 c, .int .i64 0, .int .i64 0, .int .i64 0, .int .i64 0, .string ⟨#[]⟩, .slice none 0 0]) (by simp [results, Tryd.results9, go_sem, hc]) rfl (PdMade.leaf LN.out (fun h => by simp at h) rfl (by have := P3.out; omega) fin)
  · have bk : (k == 0) = false := by simp [hk0]
    have HN : Hid (∀ V, Below w3.heap.size w3 V → Calls Tryd.prog 14 #[.pointer (some ⟨S, 0, none⟩), .int .i64 6] V fun e w' => e = .returned (.int .i64 (nm (sq zs len p3) 6)) ∧ SeqAt S a len cap zs (p3 + 1) w' ∧ But S V w') := fun V hV => next S a len cap zs p3 6 V (K3.out.on hV) (by have := P3.out; omega) (by decide) (by decide)
    obtain ⟨q0, q1⟩ := nm_bd (sq zs len p3) 6 (by decide)
    generalize nm (sq zs len p3) 6 = q at *
    have FC : Hid (∀ w7, But S ((w3.alloc (.cells #[.int .i64 k, .int .i64 x, .string s] 30)).drew) w7 → (w7.cell? ⟨w3.heap.size, 0, none⟩ = some (.int .i64 k) ∧ w7.cell? ⟨w3.heap.size, 1, none⟩ = some (.int .i64 x) ∧ w7.cell? ⟨w3.heap.size, 2, none⟩ = some (.string s)) ∧ (∀ q, w7.cell? ⟨w.heap.size, q, none⟩ = (w.alloc (.cells #[.int .i64 0, .int .i64 0, .int .i64 0, .int .i64 0, .int .i64 0, .int .i64 0, .string ⟨#[]⟩, .slice none 0 0] 33)).cell? ⟨w.heap.size, q, none⟩) ∧ (∀ q, w7.frozen? ⟨w.heap.size, q, none⟩ = (w.alloc (.cells #[.int .i64 0, .int .i64 0, .int .i64 0, .int .i64 0, .int .i64 0, .int .i64 0, .string ⟨#[]⟩, .slice none 0 0] 33)).frozen? ⟨w.heap.size, q, none⟩) ∧ But S w w7) := fun w7 h7 => by
      have h8 : But S (w3.alloc (.cells #[.int .i64 k, .int .i64 x, .string s] 30)) w7 := (But.drewN 1).trans h7
      obtain ⟨g1, g2⟩ := bcB h8 w3.heap.size (by omega) (by simp)
      obtain ⟨g3, g4⟩ := res_cells (B3.out.trans ((But.of_below one_box).trans h8)) hS
      refine ⟨⟨?_, ?_, ?_⟩, g3, g4, (But.of_below one_box).trans (B3.out.trans ((But.of_below one_box).trans h8))⟩
      · rw [g1, World.cell?_alloc_at _ _ _ _ rfl]; rfl
      · rw [g1, World.cell?_alloc_at _ _ _ _ rfl]; rfl
      · rw [g1, World.cell?_alloc_at _ _ _ _ rfl]; rfl
    have FK : Hid (((k, x, s) : Val).1 = kd ∧ ((k, x, s) : Val).1 ≠ 0 ∧ okM (k, x, s)) := by
      obtain ⟨o1, o2, o3, o4, o5⟩ := OK.out
      exact ⟨by show k = kd; omega, hk0, o1, hk0, o2, o3, o4⟩
    clear K3 B3 hk0
    have hwr : IntKind.i64.wrap (1 + q) = 1 + q := by rw [IntKind.wrap_i64]; omega
    go_wp2_with fail
    go_region_with (go_at_call 14; refine (HN.out _ (one_box.drew)).mono ?_; rintro e w7 ⟨rfl, h7, b7⟩; obtain ⟨⟨y0, y1, y2⟩, hc, hf, hB⟩ := FC.out _ b7; have K7 : Hid (SeqAt S a len cap zs (p3 + 1) w7) := h7; have B7 : Hid (But S w w7) := hB; clear h7 b7 hB)
    all_goals
      go_wp2_with fail
      have fin := put8 hS K7.out B7.out (.int .i64 1) (.int .i64 c) (.int .i64 (1 + q)) (.int .i64 0) (.int .i64 k) (.int .i64 x) (.string s) (.slice none 0 0)
      exact bodyPost_ret (v := .agg #[.int .i64 1, .int .i64 c, .int .i64 (1 + q), .int .i64 0, .int .i64 k, .int .i64 x, .string s, .slice none 0 0]) (by simp [results, Tryd.results9, go_sem, hc]) rfl (PdMade.leaf (P := ⟨1, c, 1 + q, 0, (k, x, s), []⟩) (LF.out (k, x, s) (1 + q) (by omega) (by omega) (FK.out.1) FK.out.2.1) (fun _ => FK.out.2.2) rfl (by have := P3.out; omega) fin)
set_option maxHeartbeats 4000000 in
theorem mkA1 (S : Nat) (a : Option Addr) (len cap : Nat) (zs : List Int) (p b o ccap : Nat) (ks : List Int) (D : Int) (d : Nat) (w : World) (h : SeqAt S a len cap zs p w) (hp : p + 20 ≤ 4294967290) (hc : IntsIs w (.slice (some ⟨b, o, none⟩) ks.length ccap) ks) (hb : b ≠ S) (hn : 0 < ks.length) (hn1 : ks.length ≤ 16) (hk : ∀ k ∈ ks, k = 1 ∨ k = 2 ∨ k = 3) (hD : 1 ≤ D) (Q1 : Hid (nm (sq zs len p) 8 = 1)) :
    Calls Tryd.prog 9 #[.pointer (some ⟨S, 0, none⟩), .slice (some ⟨b, o, none⟩) ks.length ccap, .int .i64 D] w (PdMade S a len cap zs ks d p w) := by
  have hS := h.2.2.2.1
  have H : Hid (SeqAt S a len cap zs p w) := h
  have HC : Hid (IntsIs w (.slice (some ⟨b, o, none⟩) ks.length ccap) ks) := hc
  have hlo : b < w.heap.size := by
    have := hc.at 0 hn
    exact World.block_lt_of_cell? _ _ this
  have HK : Hid (∀ k ∈ ks, k = 1 ∨ k = 2 ∨ k = 3) := hk
  have b0 : ((ks.length : Int) == 0) = false := beq_false_of_ne (by omega)
  clear h hc hk
  go_enter Tryd.func9, Tryd.ntmps9
  go_wp2_with fail
  refine (next S a len cap zs p 8 _ (H.out.on one_box) (by omega) (by decide) (by decide)).mono ?_
  rintro e w1 ⟨rfl, H1, hb1⟩
  rw [Q1.out]
  have K1 : Hid (SeqAt S a len cap zs (p + 1) w1) := H1
  have B1 : Hid (But S (w.alloc (.cells #[.int .i64 0, .int .i64 0, .int .i64 0, .int .i64 0, .int .i64 0, .int .i64 0, .string ⟨#[]⟩, .slice none 0 0] 33)) w1) := hb1
  clear H1 hb1
  go_wp2_with fail
  refine (next S a len cap zs (p + 1) ks.length _ K1.out (by omega) (by omega) (by omega)).mono ?_
  rintro e w2 ⟨rfl, H2, hb2⟩
  obtain ⟨c0, c1⟩ := nm_bd (sq zs len (p + 1)) ks.length (by omega)
  generalize nm (sq zs len (p + 1)) ks.length = c at *
  have K2 : Hid (SeqAt S a len cap zs (p + 1 + 1) w2) := H2
  have B2 : Hid (But S (w.alloc (.cells #[.int .i64 0, .int .i64 0, .int .i64 0, .int .i64 0, .int .i64 0, .int .i64 0, .string ⟨#[]⟩, .slice none 0 0] 33)) w2) := B1.out.trans hb2
  have C2 : Hid (IntsIs w2 (.slice (some ⟨b, o, none⟩) ks.length ccap) ks) := (HC.out.on one_box).but B2.out (by intro e; exact hb (by simpa [Value.ownBlock] using e))
  clear H2 hb2 K1 B1
  have hcl : c.toNat < ks.length := by omega
  have x0 := C2.out.at c.toNat hcl
  have hkd := HK.out _ (List.getElem_mem hcl)
  have E1 : Hid (ks[c.toNat] = ks[c.toNat] ∧ c = ((c.toNat : Nat) : Int)) := ⟨rfl, by omega⟩
  have LF : Hid (∀ (v : Val) (q : Int), 1 ≤ q → q ≤ 6 → v.1 = ks[c.toNat] → v.1 ≠ 0 → LeafP ks ⟨1, c, q, 0, v, []⟩) := fun v q h1 h2 h3 h4 => .inl ⟨c.toNat, q, v, hcl, h1, h2, h3, h4, by rw [← E1.out.2]⟩
  have LN : Hid (LeafP ks ⟨3, c, 0, 0, nul, []⟩) := .inr (.inr ⟨c.toNat, hcl, by rw [← E1.out.2]⟩)
  clear E1
  generalize ks[c.toNat] = kd at *
  go_wp2_with fail
  refine (makeValue S a len cap zs (p + 1 + 1) kd (by omega) _ K2.out (by omega)).mono ?_
  rintro e w3 ⟨k, x, s, p3, rfl, ok, hp3, hseq3, hb3, _⟩
  have K3 : Hid (SeqAt S a len cap zs p3 w3) := hseq3
  have B3 : Hid (But S (w.alloc (.cells #[.int .i64 0, .int .i64 0, .int .i64 0, .int .i64 0, .int .i64 0, .int .i64 0, .string ⟨#[]⟩, .slice none 0 0] 33)) w3) := B2.out.trans hb3
  have OK : Hid (OkV kd k x s) := ok
  have P3 : Hid (p3 ≤ p + 6) := by show p3 ≤ p + 6; omega
  have z3 : w.heap.size + 1 ≤ w3.heap.size := by have := B3.out.size; simpa using this
  clear x0 hseq3 hb3 ok hp3 K2 B2 C2
  by_cases hk0 : k = 0
  · subst hk0
    obtain ⟨hc, hf⟩ := res_cells (B3.out.trans (But.of_below (one_box (o := .cells #[.int .i64 0, .int .i64 x, .string s] 30)))) hS
    go_wp2_with fail
    have fin := put8 hS (K3.out.on (one_box (o := .cells #[.int .i64 0, .int .i64 x, .string s] 30))) ((But.of_below one_box).trans (B3.out.trans (But.of_below (one_box (o := .cells #[.int .i64 0, .int .i64 x, .string s] 30))))) (.int .i64 3) (.int .i64 c) (.int .i64 0) (.int .i64 0) (.int .i64 0) (.int .i64 0) (.string ⟨#[]⟩) (.slice none 0 0)
    exact bodyPost_ret (v := .agg #[.int .i64 3, .int .i64 c, .int .i64 0, .int .i64 0, .int .i64 0, .int .i64 0, .string ⟨#[]⟩, .slice none 0 0]) (by simp [results, Tryd.results9, go_sem, hc]) rfl (PdMade.leaf LN.out (fun h => by simp at h) rfl (by have := P3.out; omega) fin)
  · have bk : (k == 0) = false := by simp [hk0]
    have HN : Hid (∀ V, Below w3.heap.size w3 V → Calls Tryd.prog 14 #[.pointer (some ⟨S, 0, none⟩), .int .i64 6] V fun e w' => e = .returned (.int .i64 (nm (sq zs len p3) 6)) ∧ SeqAt S a len cap zs (p3 + 1) w' ∧ But S V w') := fun V hV => next S a len cap zs p3 6 V (K3.out.on hV) (by have := P3.out; omega) (by decide) (by decide)
    obtain ⟨q0, q1⟩ := nm_bd (sq zs len p3) 6 (by decide)
    generalize nm (sq zs len p3) 6 = q at *
    have FC : Hid (∀ w7, But S ((w3.alloc (.cells #[.int .i64 k, .int .i64 x, .string s] 30)).drew) w7 → (w7.cell? ⟨w3.heap.size, 0, none⟩ = some (.int .i64 k) ∧ w7.cell? ⟨w3.heap.size, 1, none⟩ = some (.int .i64 x) ∧ w7.cell? ⟨w3.heap.size, 2, none⟩ = some (.string s)) ∧ (∀ q, w7.cell? ⟨w.heap.size, q, none⟩ = (w.alloc (.cells #[.int .i64 0, .int .i64 0, .int .i64 0, .int .i64 0, .int .i64 0, .int .i64 0, .string ⟨#[]⟩, .slice none 0 0] 33)).cell? ⟨w.heap.size, q, none⟩) ∧ (∀ q, w7.frozen? ⟨w.heap.size, q, none⟩ = (w.alloc (.cells #[.int .i64 0, .int .i64 0, .int .i64 0, .int .i64 0, .int .i64 0, .int .i64 0, .string ⟨#[]⟩, .slice none 0 0] 33)).frozen? ⟨w.heap.size, q, none⟩) ∧ But S w w7) := fun w7 h7 => by
      have h8 : But S (w3.alloc (.cells #[.int .i64 k, .int .i64 x, .string s] 30)) w7 := (But.drewN 1).trans h7
      obtain ⟨g1, g2⟩ := bcB h8 w3.heap.size (by omega) (by simp)
      obtain ⟨g3, g4⟩ := res_cells (B3.out.trans ((But.of_below one_box).trans h8)) hS
      refine ⟨⟨?_, ?_, ?_⟩, g3, g4, (But.of_below one_box).trans (B3.out.trans ((But.of_below one_box).trans h8))⟩
      · rw [g1, World.cell?_alloc_at _ _ _ _ rfl]; rfl
      · rw [g1, World.cell?_alloc_at _ _ _ _ rfl]; rfl
      · rw [g1, World.cell?_alloc_at _ _ _ _ rfl]; rfl
    have FK : Hid (((k, x, s) : Val).1 = kd ∧ ((k, x, s) : Val).1 ≠ 0 ∧ okM (k, x, s)) := by
      obtain ⟨o1, o2, o3, o4, o5⟩ := OK.out
      exact ⟨by show k = kd; omega, hk0, o1, hk0, o2, o3, o4⟩
    clear K3 B3 hk0
    have hwr : IntKind.i64.wrap (1 + q) = 1 + q := by rw [IntKind.wrap_i64]; omega
    go_wp2_with fail
    go_region_with (go_at_call 14; refine (HN.out _ (one_box.drew)).mono ?_; rintro e w7 ⟨rfl, h7, b7⟩; obtain ⟨⟨y0, y1, y2⟩, hc, hf, hB⟩ := FC.out _ b7; have K7 : Hid (SeqAt S a len cap zs (p3 + 1) w7) := h7; have B7 : Hid (But S w w7) := hB; clear h7 b7 hB)
    all_goals
      go_wp2_with fail
      have fin := put8 hS K7.out B7.out (.int .i64 1) (.int .i64 c) (.int .i64 (1 + q)) (.int .i64 0) (.int .i64 k) (.int .i64 x) (.string s) (.slice none 0 0)
      exact bodyPost_ret (v := .agg #[.int .i64 1, .int .i64 c, .int .i64 (1 + q), .int .i64 0, .int .i64 k, .int .i64 x, .string s, .slice none 0 0]) (by simp [results, Tryd.results9, go_sem, hc]) rfl (PdMade.leaf (P := ⟨1, c, 1 + q, 0, (k, x, s), []⟩) (LF.out (k, x, s) (1 + q) (by omega) (by omega) (FK.out.1) FK.out.2.1) (fun _ => FK.out.2.2) rfl (by have := P3.out; omega) fin)
end Go.Proofs.YtaccinophamgmaaDoor
/- The statements' own maker of predicates: a column against a constant, where no part may stand in it. -/
namespace Go.Proofs.YtaccinophamgmaaDoor
open Go.RowKit
set_option maxRecDepth 100000
set_option linter.unusedVariables false

set_option maxHeartbeats 4000000 in
theorem mkL0 (S : Nat) (a : Option Addr) (len cap : Nat) (zs : List Int) (p b o ccap : Nat) (ks : List Int) (D : Int) (d : Nat) (w : World) (h : SeqAt S a len cap zs p w) (hp : p + 20 ≤ 4294967290) (hc : IntsIs w (.slice (some ⟨b, o, none⟩) ks.length ccap) ks) (hb : b ≠ S) (hn : 0 < ks.length) (hn1 : ks.length ≤ 16) (hk : ∀ k ∈ ks, k = 1 ∨ k = 2 ∨ k = 3) (hD : D < 1) (r1 : Int) (hr0 : 0 ≤ r1) (hr1 : r1 < 8) (hrm : r1 % 4 = 0) (Q1 : Hid (nm (sq zs len p) 8 = r1)) :
    Calls Tryd.prog 9 #[.pointer (some ⟨S, 0, none⟩), .slice (some ⟨b, o, none⟩) ks.length ccap, .int .i64 D] w (PdMade S a len cap zs ks d p w) := by
  have hS := h.2.2.2.1
  have H : Hid (SeqAt S a len cap zs p w) := h
  have HC : Hid (IntsIs w (.slice (some ⟨b, o, none⟩) ks.length ccap) ks) := hc
  have hlo : b < w.heap.size := by
    have := hc.at 0 hn
    exact World.block_lt_of_cell? _ _ this
  have HK : Hid (∀ k ∈ ks, k = 1 ∨ k = 2 ∨ k = 3) := hk
  have hrt : r1.tmod 4 = 0 := by rw [Int.tmod_eq_emod_of_nonneg hr0]; exact hrm
  have b0 : ((ks.length : Int) == 0) = false := beq_false_of_ne (by omega)
  clear h hc hk
  go_enter Tryd.func9, Tryd.ntmps9
  go_wp2_with fail
  refine (next S a len cap zs p 8 _ (H.out.on one_box) (by omega) (by decide) (by decide)).mono ?_
  rintro e w1 ⟨rfl, H1, hb1⟩
  rw [Q1.out]
  have K1 : Hid (SeqAt S a len cap zs (p + 1) w1) := H1
  have B1 : Hid (But S (w.alloc (.cells #[.int .i64 0, .int .i64 0, .int .i64 0, .int .i64 0, .int .i64 0, .int .i64 0, .string ⟨#[]⟩, .slice none 0 0] 33)) w1) := hb1
  clear H1 hb1
  go_wp2_with fail
  refine (next S a len cap zs (p + 1) ks.length _ K1.out (by omega) (by omega) (by omega)).mono ?_
  rintro e w2 ⟨rfl, H2, hb2⟩
  obtain ⟨c0, c1⟩ := nm_bd (sq zs len (p + 1)) ks.length (by omega)
  generalize nm (sq zs len (p + 1)) ks.length = c at *
  have K2 : Hid (SeqAt S a len cap zs (p + 1 + 1) w2) := H2
  have B2 : Hid (But S (w.alloc (.cells #[.int .i64 0, .int .i64 0, .int .i64 0, .int .i64 0, .int .i64 0, .int .i64 0, .string ⟨#[]⟩, .slice none 0 0] 33)) w2) := B1.out.trans hb2
  have C2 : Hid (IntsIs w2 (.slice (some ⟨b, o, none⟩) ks.length ccap) ks) := (HC.out.on one_box).but B2.out (by intro e; exact hb (by simpa [Value.ownBlock] using e))
  clear H2 hb2 K1 B1
  have hcl : c.toNat < ks.length := by omega
  have x0 := C2.out.at c.toNat hcl
  have hkd := HK.out _ (List.getElem_mem hcl)
  have E1 : Hid (ks[c.toNat] = ks[c.toNat] ∧ c = ((c.toNat : Nat) : Int)) := ⟨rfl, by omega⟩
  have LF : Hid (∀ (v : Val) (q : Int), 1 ≤ q → q ≤ 6 → v.1 = ks[c.toNat] → v.1 ≠ 0 → LeafP ks ⟨1, c, q, 0, v, []⟩) := fun v q h1 h2 h3 h4 => .inl ⟨c.toNat, q, v, hcl, h1, h2, h3, h4, by rw [← E1.out.2]⟩
  have LN : Hid (LeafP ks ⟨3, c, 0, 0, nul, []⟩) := .inr (.inr ⟨c.toNat, hcl, by rw [← E1.out.2]⟩)
  clear E1
  generalize ks[c.toNat] = kd at *
  go_wp2_with fail
  refine (makeValue S a len cap zs (p + 1 + 1) kd (by omega) _ K2.out (by omega)).mono ?_
  rintro e w3 ⟨k, x, s, p3, rfl, ok, hp3, hseq3, hb3, _⟩
  have K3 : Hid (SeqAt S a len cap zs p3 w3) := hseq3
  have B3 : Hid (But S (w.alloc (.cells #[.int .i64 0, .int .i64 0, .int .i64 0, .int .i64 0, .int .i64 0, .int .i64 0, .string ⟨#[]⟩, .slice none 0 0] 33)) w3) := B2.out.trans hb3
  have OK : Hid (OkV kd k x s) := ok
  have P3 : Hid (p3 ≤ p + 6) := by show p3 ≤ p + 6; omega
  have z3 : w.heap.size + 1 ≤ w3.heap.size := by have := B3.out.size; simpa using this
  clear x0 hseq3 hb3 ok hp3 K2 B2 C2
  by_cases hk0 : k = 0
  · subst hk0
    obtain ⟨hc, hf⟩ := res_cells (B3.out.trans (But.of_below (one_box (o := .cells #[.int .i64 0, .int .i64 x, .string s] 30)))) hS
    go_wp2_with fail
    have fin := put8 hS (K3.out.on (one_box (o := .cells #[.int .i64 0, .int .i64 x, .string s] 30))) ((But.of_below one_box).trans (B3.out.trans (But.of_below (one_box (o := .cells #[.int .i64 0, .int .i64 x, .string s] 30))))) (.int .i64 3) (.int .i64 c) (.int .i64 0) (.int .i64 0) (.int .i64 0) (.int .i64 0) (.string ⟨#[]⟩) (.slice none 0 0)
    exact bodyPost_ret (v := .agg #[.int .i64 3, .int .i64 c, .int .i64 0, .int .i64 0, .int .i64 0, .int .i64 0, .string ⟨#[]⟩, .slice none 0 0]) (by simp [results, Tryd.results9, go_sem, hc]) rfl (PdMade.leaf LN.out (fun h => by simp at h) rfl (by have := P3.out; omega) fin)
  · have bk : (k == 0) = false := by simp [hk0]
    have HN : Hid (∀ V, Below w3.heap.size w3 V → Calls Tryd.prog 14 #[.pointer (some ⟨S, 0, none⟩), .int .i64 6] V fun e w' => e = .returned (.int .i64 (nm (sq zs len p3) 6)) ∧ SeqAt S a len cap zs (p3 + 1) w' ∧ But S V w') := fun V hV => next S a len cap zs p3 6 V (K3.out.on hV) (by have := P3.out; omega) (by decide) (by decide)
    obtain ⟨q0, q1⟩ := nm_bd (sq zs len p3) 6 (by decide)
    generalize nm (sq zs len p3) 6 = q at *
    have FC : Hid (∀ w7, But S ((w3.alloc (.cells #[.int .i64 k, .int .i64 x, .string s] 30)).drew) w7 → (w7.cell? ⟨w3.heap.size, 0, none⟩ = some (.int .i64 k) ∧ w7.cell? ⟨w3.heap.size, 1, none⟩ = some (.int .i64 x) ∧ w7.cell? ⟨w3.heap.size, 2, none⟩ = some (.string s)) ∧ (∀ q, w7.cell? ⟨w.heap.size, q, none⟩ = (w.alloc (.cells #[.int .i64 0, .int .i64 0, .int .i64 0, .int .i64 0, .int .i64 0, .int .i64 0, .string ⟨#[]⟩, .slice none 0 0] 33)).cell? ⟨w.heap.size, q, none⟩) ∧ (∀ q, w7.frozen? ⟨w.heap.size, q, none⟩ = (w.alloc (.cells #[.int .i64 0, .int .i64 0, .int .i64 0, .int .i64 0, .int .i64 0, .int .i64 0, .string ⟨#[]⟩, .slice none 0 0] 33)).frozen? ⟨w.heap.size, q, none⟩) ∧ But S w w7) := fun w7 h7 => by
      have h8 : But S (w3.alloc (.cells #[.int .i64 k, .int .i64 x, .string s] 30)) w7 := (But.drewN 1).trans h7
      obtain ⟨g1, g2⟩ := bcB h8 w3.heap.size (by omega) (by simp)
      obtain ⟨g3, g4⟩ := res_cells (B3.out.trans ((But.of_below one_box).trans h8)) hS
      refine ⟨⟨?_, ?_, ?_⟩, g3, g4, (But.of_below one_box).trans (B3.out.trans ((But.of_below one_box).trans h8))⟩
      · rw [g1, World.cell?_alloc_at _ _ _ _ rfl]; rfl
      · rw [g1, World.cell?_alloc_at _ _ _ _ rfl]; rfl
      · rw [g1, World.cell?_alloc_at _ _ _ _ rfl]; rfl
    have FK : Hid (((k, x, s) : Val).1 = kd ∧ ((k, x, s) : Val).1 ≠ 0 ∧ okM (k, x, s)) := by
      obtain ⟨o1, o2, o3, o4, o5⟩ := OK.out
      exact ⟨by show k = kd; omega, hk0, o1, hk0, o2, o3, o4⟩
    clear K3 B3 hk0
    have hwr : IntKind.i64.wrap (1 + q) = 1 + q := by rw [IntKind.wrap_i64]; omega
    go_wp2_with fail
    go_region_with (go_at_call 14; refine (HN.out _ (one_box.drew)).mono ?_; rintro e w7 ⟨rfl, h7, b7⟩; obtain ⟨⟨y0, y1, y2⟩, hc, hf, hB⟩ := FC.out _ b7; have K7 : Hid (SeqAt S a len cap zs (p3 + 1) w7) := h7; have B7 : Hid (But S w w7) := hB; clear h7 b7 hB)
    all_goals
      go_wp2_with fail
      have fin := put8 hS K7.out B7.out (.int .i64 1) (.int .i64 c) (.int .i64 (1 + q)) (.int .i64 0) (.int .i64 k) (.int .i64 x) (.string s) (.slice none 0 0)
      exact bodyPost_ret (v := .agg #[.int .i64 1, .int .i64 c, .int .i64 (1 + q), .int .i64 0, .int .i64 k, .int .i64 x, .string s, .slice none 0 0]) (by simp [results, Tryd.results9, go_sem, hc]) rfl (PdMade.leaf (P := ⟨1, c, 1 + q, 0, (k, x, s), []⟩) (LF.out (k, x, s) (1 + q) (by omega) (by omega) (FK.out.1) FK.out.2.1) (fun _ => FK.out.2.2) rfl (by have := P3.out; omega) fin)
set_option maxHeartbeats 4000000 in
theorem mkL1 (S : Nat) (a : Option Addr) (len cap : Nat) (zs : List Int) (p b o ccap : Nat) (ks : List Int) (D : Int) (d : Nat) (w : World) (h : SeqAt S a len cap zs p w) (hp : p + 20 ≤ 4294967290) (hc : IntsIs w (.slice (some ⟨b, o, none⟩) ks.length ccap) ks) (hb : b ≠ S) (hn : 0 < ks.length) (hn1 : ks.length ≤ 16) (hk : ∀ k ∈ ks, k = 1 ∨ k = 2 ∨ k = 3) (hD : D < 1) (r1 : Int) (hr0 : 0 ≤ r1) (hr1 : r1 < 8) (hrm : r1 % 4 = 1) (Q1 : Hid (nm (sq zs len p) 8 = r1)) :
    Calls Tryd.prog 9 #[.pointer (some ⟨S, 0, none⟩), .slice (some ⟨b, o, none⟩) ks.length ccap, .int .i64 D] w (PdMade S a len cap zs ks d p w) := by
  have hS := h.2.2.2.1
  have H : Hid (SeqAt S a len cap zs p w) := h
  have HC : Hid (IntsIs w (.slice (some ⟨b, o, none⟩) ks.length ccap) ks) := hc
  have hlo : b < w.heap.size := by
    have := hc.at 0 hn
    exact World.block_lt_of_cell? _ _ this
  have HK : Hid (∀ k ∈ ks, k = 1 ∨ k = 2 ∨ k = 3) := hk
  have hrt : r1.tmod 4 = 1 := by rw [Int.tmod_eq_emod_of_nonneg hr0]; exact hrm
  have b0 : ((ks.length : Int) == 0) = false := beq_false_of_ne (by omega)
  clear h hc hk
  go_enter Tryd.func9, Tryd.ntmps9
  go_wp2_with fail
  refine (next S a len cap zs p 8 _ (H.out.on one_box) (by omega) (by decide) (by decide)).mono ?_
  rintro e w1 ⟨rfl, H1, hb1⟩
  rw [Q1.out]
  have K1 : Hid (SeqAt S a len cap zs (p + 1) w1) := H1
  have B1 : Hid (But S (w.alloc (.cells #[.int .i64 0, .int .i64 0, .int .i64 0, .int .i64 0, .int .i64 0, .int .i64 0, .string ⟨#[]⟩, .slice none 0 0] 33)) w1) := hb1
  clear H1 hb1
  go_wp2_with fail
  refine (next S a len cap zs (p + 1) ks.length _ K1.out (by omega) (by omega) (by omega)).mono ?_
  rintro e w2 ⟨rfl, H2, hb2⟩
  obtain ⟨c0, c1⟩ := nm_bd (sq zs len (p + 1)) ks.length (by omega)
  generalize nm (sq zs len (p + 1)) ks.length = c at *
  have K2 : Hid (SeqAt S a len cap zs (p + 1 + 1) w2) := H2
  have B2 : Hid (But S (w.alloc (.cells #[.int .i64 0, .int .i64 0, .int .i64 0, .int .i64 0, .int .i64 0, .int .i64 0, .string ⟨#[]⟩, .slice none 0 0] 33)) w2) := B1.out.trans hb2
  have C2 : Hid (IntsIs w2 (.slice (some ⟨b, o, none⟩) ks.length ccap) ks) := (HC.out.on one_box).but B2.out (by intro e; exact hb (by simpa [Value.ownBlock] using e))
  clear H2 hb2 K1 B1
  have hcl : c.toNat < ks.length := by omega
  have x0 := C2.out.at c.toNat hcl
  have hkd := HK.out _ (List.getElem_mem hcl)
  have E1 : Hid (ks[c.toNat] = ks[c.toNat] ∧ c = ((c.toNat : Nat) : Int)) := ⟨rfl, by omega⟩
  have LF : Hid (∀ (v : Val) (q : Int), 1 ≤ q → q ≤ 6 → v.1 = ks[c.toNat] → v.1 ≠ 0 → LeafP ks ⟨1, c, q, 0, v, []⟩) := fun v q h1 h2 h3 h4 => .inl ⟨c.toNat, q, v, hcl, h1, h2, h3, h4, by rw [← E1.out.2]⟩
  have LN : Hid (LeafP ks ⟨3, c, 0, 0, nul, []⟩) := .inr (.inr ⟨c.toNat, hcl, by rw [← E1.out.2]⟩)
  clear E1
  generalize ks[c.toNat] = kd at *
  go_wp2_with fail
  refine (makeValue S a len cap zs (p + 1 + 1) kd (by omega) _ K2.out (by omega)).mono ?_
  rintro e w3 ⟨k, x, s, p3, rfl, ok, hp3, hseq3, hb3, _⟩
  have K3 : Hid (SeqAt S a len cap zs p3 w3) := hseq3
  have B3 : Hid (But S (w.alloc (.cells #[.int .i64 0, .int .i64 0, .int .i64 0, .int .i64 0, .int .i64 0, .int .i64 0, .string ⟨#[]⟩, .slice none 0 0] 33)) w3) := B2.out.trans hb3
  have OK : Hid (OkV kd k x s) := ok
  have P3 : Hid (p3 ≤ p + 6) := by show p3 ≤ p + 6; omega
  have z3 : w.heap.size + 1 ≤ w3.heap.size := by have := B3.out.size; simpa using this
  clear x0 hseq3 hb3 ok hp3 K2 B2 C2
  by_cases hk0 : k = 0
  · subst hk0
    obtain ⟨hc, hf⟩ := res_cells (B3.out.trans (But.of_below (one_box (o := .cells #[.int .i64 0, .int .i64 x, .string s] 30)))) hS
    go_wp2_with fail
    have fin := put8 hS (K3.out.on (one_box (o := .cells #[.int .i64 0, .int .i64 x, .string s] 30))) ((But.of_below one_box).trans (B3.out.trans (But.of_below (one_box (o := .cells #[.int .i64 0, .int .i64 x, .string s] 30))))) (.int .i64 3) (.int .i64 c) (.int .i64 0) (.int .i64 0) (.int .i64 0) (.int .i64 0) (.string ⟨#[]⟩) (.slice none 0 0)
    exact bodyPost_ret (v := .agg #[.int .i64 3, .int .i64 c, .int .i64 0, .int .i64 0, .int .i64 0, .int .i64 0, .string ⟨#[]⟩, .slice none 0 0]) (by simp [results, Tryd.results9, go_sem, hc]) rfl (PdMade.leaf LN.out (fun h => by simp at h) rfl (by have := P3.out; omega) fin)
  · have bk : (k == 0) = false := by simp [hk0]
    have HN : Hid (∀ V, Below w3.heap.size w3 V → Calls Tryd.prog 14 #[.pointer (some ⟨S, 0, none⟩), .int .i64 6] V fun e w' => e = .returned (.int .i64 (nm (sq zs len p3) 6)) ∧ SeqAt S a len cap zs (p3 + 1) w' ∧ But S V w') := fun V hV => next S a len cap zs p3 6 V (K3.out.on hV) (by have := P3.out; omega) (by decide) (by decide)
    obtain ⟨q0, q1⟩ := nm_bd (sq zs len p3) 6 (by decide)
    generalize nm (sq zs len p3) 6 = q at *
    have FC : Hid (∀ w7, But S ((w3.alloc (.cells #[.int .i64 k, .int .i64 x, .string s] 30)).drew) w7 → (w7.cell? ⟨w3.heap.size, 0, none⟩ = some (.int .i64 k) ∧ w7.cell? ⟨w3.heap.size, 1, none⟩ = some (.int .i64 x) ∧ w7.cell? ⟨w3.heap.size, 2, none⟩ = some (.string s)) ∧ (∀ q, w7.cell? ⟨w.heap.size, q, none⟩ = (w.alloc (.cells #[.int .i64 0, .int .i64 0, .int .i64 0, .int .i64 0, .int .i64 0, .int .i64 0, .string ⟨#[]⟩, .slice none 0 0] 33)).cell? ⟨w.heap.size, q, none⟩) ∧ (∀ q, w7.frozen? ⟨w.heap.size, q, none⟩ = (w.alloc (.cells #[.int .i64 0, .int .i64 0, .int .i64 0, .int .i64 0, .int .i64 0, .int .i64 0, .string ⟨#[]⟩, .slice none 0 0] 33)).frozen? ⟨w.heap.size, q, none⟩) ∧ But S w w7) := fun w7 h7 => by
      have h8 : But S (w3.alloc (.cells #[.int .i64 k, .int .i64 x, .string s] 30)) w7 := (But.drewN 1).trans h7
      obtain ⟨g1, g2⟩ := bcB h8 w3.heap.size (by omega) (by simp)
      obtain ⟨g3, g4⟩ := res_cells (B3.out.trans ((But.of_below one_box).trans h8)) hS
      refine ⟨⟨?_, ?_, ?_⟩, g3, g4, (But.of_below one_box).trans (B3.out.trans ((But.of_below one_box).trans h8))⟩
      · rw [g1, World.cell?_alloc_at _ _ _ _ rfl]; rfl
      · rw [g1, World.cell?_alloc_at _ _ _ _ rfl]; rfl
      · rw [g1, World.cell?_alloc_at _ _ _ _ rfl]; rfl
    have FK : Hid (((k, x, s) : Val).1 = kd ∧ ((k, x, s) : Val).1 ≠ 0 ∧ okM (k, x, s)) := by
      obtain ⟨o1, o2, o3, o4, o5⟩ := OK.out
      exact ⟨by show k = kd; omega, hk0, o1, hk0, o2, o3, o4⟩
    clear K3 B3 hk0
    have hwr : IntKind.i64.wrap (1 + q) = 1 + q := by rw [IntKind.wrap_i64]; omega
    go_wp2_with fail
    go_region_with (go_at_call 14; refine (HN.out _ (one_box.drew)).mono ?_; rintro e w7 ⟨rfl, h7, b7⟩; obtain ⟨⟨y0, y1, y2⟩, hc, hf, hB⟩ := FC.out _ b7; have K7 : Hid (SeqAt S a len cap zs (p3 + 1) w7) := h7; have B7 : Hid (But S w w7) := hB; clear h7 b7 hB)
    all_goals
      go_wp2_with fail
      have fin := put8 hS K7.out B7.out (.int .i64 1) (.int .i64 c) (.int .i64 (1 + q)) (.int .i64 0) (.int .i64 k) (.int .i64 x) (.string s) (.slice none 0 0)
      exact bodyPost_ret (v := .agg #[.int .i64 1, .int .i64 c, .int .i64 (1 + q), .int .i64 0, .int .i64 k, .int .i64 x, .string s, .slice none 0 0]) (by simp [results, Tryd.results9, go_sem, hc]) rfl (PdMade.leaf (P := ⟨1, c, 1 + q, 0, (k, x, s), []⟩) (LF.out (k, x, s) (1 + q) (by omega) (by omega) (FK.out.1) FK.out.2.1) (fun _ => FK.out.2.2) rfl (by have := P3.out; omega) fin)
end Go.Proofs.YtaccinophamgmaaDoor
/- The statements' own maker of predicates: two columns. -/
namespace Go.Proofs.YtaccinophamgmaaDoor
open Go.RowKit
set_option maxRecDepth 100000
set_option linter.unusedVariables false

set_option maxHeartbeats 4000000 in
theorem mkB2 (S : Nat) (a : Option Addr) (len cap : Nat) (zs : List Int) (p b o ccap : Nat) (ks : List Int) (D : Int) (d : Nat) (w : World) (h : SeqAt S a len cap zs p w) (hp : p + 20 ≤ 4294967290) (hc : IntsIs w (.slice (some ⟨b, o, none⟩) ks.length ccap) ks) (hb : b ≠ S) (hn : 0 < ks.length) (hn1 : ks.length ≤ 16) (hk : ∀ k ∈ ks, k = 1 ∨ k = 2 ∨ k = 3) (hD : 1 ≤ D) (Q1 : Hid (nm (sq zs len p) 8 = 2)) :
    Calls Tryd.prog 9 #[.pointer (some ⟨S, 0, none⟩), .slice (some ⟨b, o, none⟩) ks.length ccap, .int .i64 D] w (PdMade S a len cap zs ks d p w) := by
  have hS := h.2.2.2.1
  have H : Hid (SeqAt S a len cap zs p w) := h
  have HC : Hid (IntsIs w (.slice (some ⟨b, o, none⟩) ks.length ccap) ks) := hc
  have hlo : b < w.heap.size := by
    have := hc.at 0 hn
    exact World.block_lt_of_cell? _ _ this
  have HK : Hid (∀ k ∈ ks, k = 1 ∨ k = 2 ∨ k = 3) := hk
  have b0 : ((ks.length : Int) == 0) = false := beq_false_of_ne (by omega)
  clear h hc hk
  go_enter Tryd.func9, Tryd.ntmps9
  go_wp2_with fail
  refine (next S a len cap zs p 8 _ (H.out.on one_box) (by omega) (by decide) (by decide)).mono ?_
  rintro e w1 ⟨rfl, H1, hb1⟩
  rw [Q1.out]
  have K1 : Hid (SeqAt S a len cap zs (p + 1) w1) := H1
  have B1 : Hid (But S (w.alloc (.cells #[.int .i64 0, .int .i64 0, .int .i64 0, .int .i64 0, .int .i64 0, .int .i64 0, .string ⟨#[]⟩, .slice none 0 0] 33)) w1) := hb1
  clear H1 hb1
  go_wp2_with fail
  refine (next S a len cap zs (p + 1) ks.length _ K1.out (by omega) (by omega) (by omega)).mono ?_
  rintro e w2 ⟨rfl, H2, hb2⟩
  obtain ⟨c0, c1⟩ := nm_bd (sq zs len (p + 1)) ks.length (by omega)
  generalize nm (sq zs len (p + 1)) ks.length = c at *
  have K2 : Hid (SeqAt S a len cap zs (p + 1 + 1) w2) := H2
  have B2 : Hid (But S (w.alloc (.cells #[.int .i64 0, .int .i64 0, .int .i64 0, .int .i64 0, .int .i64 0, .int .i64 0, .string ⟨#[]⟩, .slice none 0 0] 33)) w2) := B1.out.trans hb2
  clear H2 hb2 K1 B1
  go_wp2_with fail
  refine (next S a len cap zs (p + 1 + 1) ks.length _ K2.out (by omega) (by omega) (by omega)).mono ?_
  rintro e w3 ⟨rfl, H3, hb3⟩
  obtain ⟨d0, d1⟩ := nm_bd (sq zs len (p + 1 + 1)) ks.length (by omega)
  generalize nm (sq zs len (p + 1 + 1)) ks.length = c' at *
  have K3 : Hid (SeqAt S a len cap zs (p + 1 + 1 + 1) w3) := H3
  have B3 : Hid (But S (w.alloc (.cells #[.int .i64 0, .int .i64 0, .int .i64 0, .int .i64 0, .int .i64 0, .int .i64 0, .string ⟨#[]⟩, .slice none 0 0] 33)) w3) := B2.out.trans hb3
  have C3 : Hid (IntsIs w3 (.slice (some ⟨b, o, none⟩) ks.length ccap) ks) := (HC.out.on one_box).but B3.out (by intro e; exact hb (by simpa [Value.ownBlock] using e))
  clear H3 hb3 K2 B2 HC
  have hcl : c.toNat < ks.length := by omega
  have hcc : c = ((c.toNat : Nat) : Int) := by omega
  have hcd : c' = ((c'.toNat : Nat) : Int) := by omega
  have hdl : c'.toNat < ks.length := by omega
  generalize c.toNat = cn at *
  generalize c'.toNat = cm at *
  subst hcc hcd
  go_wp2_with fail
  go_loopw [11] (fun v wr => ∃ j : Nat, j < ks.length ∧ v = .int .i64 j ∧ Below w3.heap.size w3 wr) (fun v _ => cyc ks.length cn (intOf v).toNat)
  case atStart => exact ⟨cm, hdl, rfl, Below.refl _ _⟩
  case round =>
    obtain ⟨j, hj, rfl, hB⟩ := hrel
    have x1 := (C3.out.on hB).at j hj
    have x2 := (C3.out.on hB).at cn hcl
    by_cases he : ks[j] = ks[cn]
    · have LN : Hid (∀ q : Int, 1 ≤ q → q ≤ 6 → LeafP ks ⟨2, cn, q, j, nul, []⟩) := fun q h1 h2 => .inr (.inl ⟨cn, j, q, hcl, hj, h1, h2, he.symm, rfl⟩)
      have K4 : Hid (SeqAt S a len cap zs (p + 1 + 1 + 1) wr) := K3.out.on hB
      have B4 : Hid (But S (w.alloc (.cells #[.int .i64 0, .int .i64 0, .int .i64 0, .int .i64 0, .int .i64 0, .int .i64 0, .string ⟨#[]⟩, .slice none 0 0] 33)) wr) := B3.out.trans (But.of_below hB)
      rw [he] at x1
      generalize ks[cn] = kv at *
      have HN : Hid (∀ n, Calls Tryd.prog 14 #[.pointer (some ⟨S, 0, none⟩), .int .i64 6] (wr.drewN n) fun e w' => e = .returned (.int .i64 (nm (sq zs len (p + 1 + 1 + 1)) 6)) ∧ SeqAt S a len cap zs (p + 1 + 1 + 1 + 1) w' ∧ But S (wr.drewN n) w') := fun n => next S a len cap zs (p + 1 + 1 + 1) 6 _ (K4.out.on ⟨rfl, rfl, rfl, Nat.le_refl _, fun _ _ => rfl⟩) (by omega) (by decide) (by decide)
      obtain ⟨q0, q1⟩ := nm_bd (sq zs len (p + 1 + 1 + 1)) 6 (by decide)
      generalize nm (sq zs len (p + 1 + 1 + 1)) 6 = q at *
      clear hB C3 K3 B3 he
      go_wp2_with fail
      go_quiet (fail)
      go_wp2_with fail
      refine (HN.out _).mono ?_
      rintro e w5 ⟨rfl, H5, hb5⟩
      have K5 : Hid (SeqAt S a len cap zs (p + 1 + 1 + 1 + 1) w5) := H5
      have B5 : Hid (But S (w.alloc (.cells #[.int .i64 0, .int .i64 0, .int .i64 0, .int .i64 0, .int .i64 0, .int .i64 0, .string ⟨#[]⟩, .slice none 0 0] 33)) w5) := B4.out.trans ((But.drewN _).trans hb5)
      obtain ⟨hc, hf⟩ := res_cells B5.out hS
      clear H5 hb5 K4 B4 HN
      go_wp2_with fail
      have fin := put8 hS K5.out ((But.of_below one_box).trans B5.out) (.int .i64 2) (.int .i64 (cn : Nat)) (.int .i64 (1 + q)) (.int .i64 (j : Nat)) (.int .i64 0) (.int .i64 0) (.string ⟨#[]⟩) (.slice none 0 0)
      exact bodyPost_ret (v := .agg #[.int .i64 2, .int .i64 (cn : Nat), .int .i64 (1 + q), .int .i64 (j : Nat), .int .i64 0, .int .i64 0, .string ⟨#[]⟩, .slice none 0 0]) (by simp [results, Tryd.results9, go_sem, hc]) rfl (PdMade.leaf (LN.out (1 + q) (by omega) (by omega)) (fun h => by simp at h) rfl (by omega) fin)
    · have hne : ((ks[j] : Int) == ks[cn]) = false := beq_false_of_ne he
      obtain ⟨jn, hjn, hj1, hj2, hj3⟩ : ∃ jn : Nat, jn < ks.length ∧ ((j : Int) + 1) % (ks.length : Int) = (jn : Int) ∧ ((j : Int) + 1).tmod (ks.length : Int) = (jn : Int) ∧ cyc ks.length cn jn < cyc ks.length cn j := by
        have hjc : j ≠ cn := fun e => he (by subst e; rfl)
        have ht : ((j : Int) + 1).tmod (ks.length : Int) = ((j : Int) + 1) % (ks.length : Int) := Int.tmod_eq_emod_of_nonneg (by omega)
        by_cases hl : j + 1 < ks.length
        · have e : ((j : Int) + 1) % (ks.length : Int) = ((j + 1 : Nat) : Int) := by rw [Int.emod_eq_of_lt (by omega) (by omega)]; rfl
          refine ⟨j + 1, hl, e, ht.trans e, ?_⟩
          unfold cyc
          split <;> split <;> omega
        · have e0 : (j : Int) + 1 = (ks.length : Int) := by omega
          have e : ((j : Int) + 1) % (ks.length : Int) = ((0 : Nat) : Int) := by rw [e0, Int.emod_self]; rfl
          refine ⟨0, by omega, e, ht.trans e, ?_⟩
          unfold cyc
          split <;> split <;> omega
      have M3 : Hid (cyc ks.length cn jn < cyc ks.length cn j) := hj3
      generalize ks[j] = kj at *
      generalize ks[cn] = kv at *
      clear he hj3
      go_wp2_with fail
      go_quiet (fail)
      go_wp2_with fail
      go_roundw
      case rel => exact ⟨jn, hjn, by first | rfl | (rw [hj1]) | (rw [hj2]), hB.trans ⟨rfl, rfl, rfl, Nat.le_refl _, fun _ _ => rfl⟩⟩
      case measure => simpa [intOf] using M3.out
set_option maxHeartbeats 4000000 in
theorem mkL2 (S : Nat) (a : Option Addr) (len cap : Nat) (zs : List Int) (p b o ccap : Nat) (ks : List Int) (D : Int) (d : Nat) (w : World) (h : SeqAt S a len cap zs p w) (hp : p + 20 ≤ 4294967290) (hc : IntsIs w (.slice (some ⟨b, o, none⟩) ks.length ccap) ks) (hb : b ≠ S) (hn : 0 < ks.length) (hn1 : ks.length ≤ 16) (hk : ∀ k ∈ ks, k = 1 ∨ k = 2 ∨ k = 3) (hD : D < 1) (r1 : Int) (hr0 : 0 ≤ r1) (hr1 : r1 < 8) (hrm : r1 % 4 = 2) (Q1 : Hid (nm (sq zs len p) 8 = r1)) :
    Calls Tryd.prog 9 #[.pointer (some ⟨S, 0, none⟩), .slice (some ⟨b, o, none⟩) ks.length ccap, .int .i64 D] w (PdMade S a len cap zs ks d p w) := by
  have hS := h.2.2.2.1
  have H : Hid (SeqAt S a len cap zs p w) := h
  have HC : Hid (IntsIs w (.slice (some ⟨b, o, none⟩) ks.length ccap) ks) := hc
  have hlo : b < w.heap.size := by
    have := hc.at 0 hn
    exact World.block_lt_of_cell? _ _ this
  have HK : Hid (∀ k ∈ ks, k = 1 ∨ k = 2 ∨ k = 3) := hk
  have hrt : r1.tmod 4 = 2 := by rw [Int.tmod_eq_emod_of_nonneg hr0]; exact hrm
  have b0 : ((ks.length : Int) == 0) = false := beq_false_of_ne (by omega)
  clear h hc hk
  go_enter Tryd.func9, Tryd.ntmps9
  go_wp2_with fail
  refine (next S a len cap zs p 8 _ (H.out.on one_box) (by omega) (by decide) (by decide)).mono ?_
  rintro e w1 ⟨rfl, H1, hb1⟩
  rw [Q1.out]
  have K1 : Hid (SeqAt S a len cap zs (p + 1) w1) := H1
  have B1 : Hid (But S (w.alloc (.cells #[.int .i64 0, .int .i64 0, .int .i64 0, .int .i64 0, .int .i64 0, .int .i64 0, .string ⟨#[]⟩, .slice none 0 0] 33)) w1) := hb1
  clear H1 hb1
  go_wp2_with fail
  refine (next S a len cap zs (p + 1) ks.length _ K1.out (by omega) (by omega) (by omega)).mono ?_
  rintro e w2 ⟨rfl, H2, hb2⟩
  obtain ⟨c0, c1⟩ := nm_bd (sq zs len (p + 1)) ks.length (by omega)
  generalize nm (sq zs len (p + 1)) ks.length = c at *
  have K2 : Hid (SeqAt S a len cap zs (p + 1 + 1) w2) := H2
  have B2 : Hid (But S (w.alloc (.cells #[.int .i64 0, .int .i64 0, .int .i64 0, .int .i64 0, .int .i64 0, .int .i64 0, .string ⟨#[]⟩, .slice none 0 0] 33)) w2) := B1.out.trans hb2
  clear H2 hb2 K1 B1
  go_wp2_with fail
  refine (next S a len cap zs (p + 1 + 1) ks.length _ K2.out (by omega) (by omega) (by omega)).mono ?_
  rintro e w3 ⟨rfl, H3, hb3⟩
  obtain ⟨d0, d1⟩ := nm_bd (sq zs len (p + 1 + 1)) ks.length (by omega)
  generalize nm (sq zs len (p + 1 + 1)) ks.length = c' at *
  have K3 : Hid (SeqAt S a len cap zs (p + 1 + 1 + 1) w3) := H3
  have B3 : Hid (But S (w.alloc (.cells #[.int .i64 0, .int .i64 0, .int .i64 0, .int .i64 0, .int .i64 0, .int .i64 0, .string ⟨#[]⟩, .slice none 0 0] 33)) w3) := B2.out.trans hb3
  have C3 : Hid (IntsIs w3 (.slice (some ⟨b, o, none⟩) ks.length ccap) ks) := (HC.out.on one_box).but B3.out (by intro e; exact hb (by simpa [Value.ownBlock] using e))
  clear H3 hb3 K2 B2 HC
  have hcl : c.toNat < ks.length := by omega
  have hcc : c = ((c.toNat : Nat) : Int) := by omega
  have hcd : c' = ((c'.toNat : Nat) : Int) := by omega
  have hdl : c'.toNat < ks.length := by omega
  generalize c.toNat = cn at *
  generalize c'.toNat = cm at *
  subst hcc hcd
  go_wp2_with fail
  go_loopw [11] (fun v wr => ∃ j : Nat, j < ks.length ∧ v = .int .i64 j ∧ Below w3.heap.size w3 wr) (fun v _ => cyc ks.length cn (intOf v).toNat)
  case atStart => exact ⟨cm, hdl, rfl, Below.refl _ _⟩
  case round =>
    obtain ⟨j, hj, rfl, hB⟩ := hrel
    have x1 := (C3.out.on hB).at j hj
    have x2 := (C3.out.on hB).at cn hcl
    by_cases he : ks[j] = ks[cn]
    · have LN : Hid (∀ q : Int, 1 ≤ q → q ≤ 6 → LeafP ks ⟨2, cn, q, j, nul, []⟩) := fun q h1 h2 => .inr (.inl ⟨cn, j, q, hcl, hj, h1, h2, he.symm, rfl⟩)
      have K4 : Hid (SeqAt S a len cap zs (p + 1 + 1 + 1) wr) := K3.out.on hB
      have B4 : Hid (But S (w.alloc (.cells #[.int .i64 0, .int .i64 0, .int .i64 0, .int .i64 0, .int .i64 0, .int .i64 0, .string ⟨#[]⟩, .slice none 0 0] 33)) wr) := B3.out.trans (But.of_below hB)
      rw [he] at x1
      generalize ks[cn] = kv at *
      have HN : Hid (∀ n, Calls Tryd.prog 14 #[.pointer (some ⟨S, 0, none⟩), .int .i64 6] (wr.drewN n) fun e w' => e = .returned (.int .i64 (nm (sq zs len (p + 1 + 1 + 1)) 6)) ∧ SeqAt S a len cap zs (p + 1 + 1 + 1 + 1) w' ∧ But S (wr.drewN n) w') := fun n => next S a len cap zs (p + 1 + 1 + 1) 6 _ (K4.out.on ⟨rfl, rfl, rfl, Nat.le_refl _, fun _ _ => rfl⟩) (by omega) (by decide) (by decide)
      obtain ⟨q0, q1⟩ := nm_bd (sq zs len (p + 1 + 1 + 1)) 6 (by decide)
      generalize nm (sq zs len (p + 1 + 1 + 1)) 6 = q at *
      clear hB C3 K3 B3 he
      go_wp2_with fail
      go_quiet (fail)
      go_wp2_with fail
      refine (HN.out _).mono ?_
      rintro e w5 ⟨rfl, H5, hb5⟩
      have K5 : Hid (SeqAt S a len cap zs (p + 1 + 1 + 1 + 1) w5) := H5
      have B5 : Hid (But S (w.alloc (.cells #[.int .i64 0, .int .i64 0, .int .i64 0, .int .i64 0, .int .i64 0, .int .i64 0, .string ⟨#[]⟩, .slice none 0 0] 33)) w5) := B4.out.trans ((But.drewN _).trans hb5)
      obtain ⟨hc, hf⟩ := res_cells B5.out hS
      clear H5 hb5 K4 B4 HN
      go_wp2_with fail
      have fin := put8 hS K5.out ((But.of_below one_box).trans B5.out) (.int .i64 2) (.int .i64 (cn : Nat)) (.int .i64 (1 + q)) (.int .i64 (j : Nat)) (.int .i64 0) (.int .i64 0) (.string ⟨#[]⟩) (.slice none 0 0)
      exact bodyPost_ret (v := .agg #[.int .i64 2, .int .i64 (cn : Nat), .int .i64 (1 + q), .int .i64 (j : Nat), .int .i64 0, .int .i64 0, .string ⟨#[]⟩, .slice none 0 0]) (by simp [results, Tryd.results9, go_sem, hc]) rfl (PdMade.leaf (LN.out (1 + q) (by omega) (by omega)) (fun h => by simp at h) rfl (by omega) fin)
    · have hne : ((ks[j] : Int) == ks[cn]) = false := beq_false_of_ne he
      obtain ⟨jn, hjn, hj1, hj2, hj3⟩ : ∃ jn : Nat, jn < ks.length ∧ ((j : Int) + 1) % (ks.length : Int) = (jn : Int) ∧ ((j : Int) + 1).tmod (ks.length : Int) = (jn : Int) ∧ cyc ks.length cn jn < cyc ks.length cn j := by
        have hjc : j ≠ cn := fun e => he (by subst e; rfl)
        have ht : ((j : Int) + 1).tmod (ks.length : Int) = ((j : Int) + 1) % (ks.length : Int) := Int.tmod_eq_emod_of_nonneg (by omega)
        by_cases hl : j + 1 < ks.length
        · have e : ((j : Int) + 1) % (ks.length : Int) = ((j + 1 : Nat) : Int) := by rw [Int.emod_eq_of_lt (by omega) (by omega)]; rfl
          refine ⟨j + 1, hl, e, ht.trans e, ?_⟩
          unfold cyc
          split <;> split <;> omega
        · have e0 : (j : Int) + 1 = (ks.length : Int) := by omega
          have e : ((j : Int) + 1) % (ks.length : Int) = ((0 : Nat) : Int) := by rw [e0, Int.emod_self]; rfl
          refine ⟨0, by omega, e, ht.trans e, ?_⟩
          unfold cyc
          split <;> split <;> omega
      have M3 : Hid (cyc ks.length cn jn < cyc ks.length cn j) := hj3
      generalize ks[j] = kj at *
      generalize ks[cn] = kv at *
      clear he hj3
      go_wp2_with fail
      go_quiet (fail)
      go_wp2_with fail
      go_roundw
      case rel => exact ⟨jn, hjn, by first | rfl | (rw [hj1]) | (rw [hj2]), hB.trans ⟨rfl, rfl, rfl, Nat.le_refl _, fun _ _ => rfl⟩⟩
      case measure => simpa [intOf] using M3.out
end Go.Proofs.YtaccinophamgmaaDoor
/- The statements' own maker of predicates: a column that is Null. -/
namespace Go.Proofs.YtaccinophamgmaaDoor
open Go.RowKit
set_option maxRecDepth 100000
set_option linter.unusedVariables false

set_option maxHeartbeats 4000000 in
theorem mkC3 (S : Nat) (a : Option Addr) (len cap : Nat) (zs : List Int) (p b o ccap : Nat) (ks : List Int) (D : Int) (d : Nat) (w : World) (h : SeqAt S a len cap zs p w) (hp : p + 20 ≤ 4294967290) (hc : IntsIs w (.slice (some ⟨b, o, none⟩) ks.length ccap) ks) (hb : b ≠ S) (hn : 0 < ks.length) (hn1 : ks.length ≤ 16) (hk : ∀ k ∈ ks, k = 1 ∨ k = 2 ∨ k = 3) (hD : 1 ≤ D) (Q1 : Hid (nm (sq zs len p) 8 = 3)) :
    Calls Tryd.prog 9 #[.pointer (some ⟨S, 0, none⟩), .slice (some ⟨b, o, none⟩) ks.length ccap, .int .i64 D] w (PdMade S a len cap zs ks d p w) := by
  have hS := h.2.2.2.1
  have H : Hid (SeqAt S a len cap zs p w) := h
  have HC : Hid (IntsIs w (.slice (some ⟨b, o, none⟩) ks.length ccap) ks) := hc
  have hlo : b < w.heap.size := by
    have := hc.at 0 hn
    exact World.block_lt_of_cell? _ _ this
  have HK : Hid (∀ k ∈ ks, k = 1 ∨ k = 2 ∨ k = 3) := hk
  have b0 : ((ks.length : Int) == 0) = false := beq_false_of_ne (by omega)
  clear h hc hk
  go_enter Tryd.func9, Tryd.ntmps9
  go_wp2_with fail
  refine (next S a len cap zs p 8 _ (H.out.on one_box) (by omega) (by decide) (by decide)).mono ?_
  rintro e w1 ⟨rfl, H1, hb1⟩
  rw [Q1.out]
  have K1 : Hid (SeqAt S a len cap zs (p + 1) w1) := H1
  have B1 : Hid (But S (w.alloc (.cells #[.int .i64 0, .int .i64 0, .int .i64 0, .int .i64 0, .int .i64 0, .int .i64 0, .string ⟨#[]⟩, .slice none 0 0] 33)) w1) := hb1
  clear H1 hb1
  go_wp2_with fail
  refine (next S a len cap zs (p + 1) ks.length _ K1.out (by omega) (by omega) (by omega)).mono ?_
  rintro e w2 ⟨rfl, H2, hb2⟩
  obtain ⟨c0, c1⟩ := nm_bd (sq zs len (p + 1)) ks.length (by omega)
  generalize nm (sq zs len (p + 1)) ks.length = c at *
  have K2 : Hid (SeqAt S a len cap zs (p + 1 + 1) w2) := H2
  have B2 : Hid (But S (w.alloc (.cells #[.int .i64 0, .int .i64 0, .int .i64 0, .int .i64 0, .int .i64 0, .int .i64 0, .string ⟨#[]⟩, .slice none 0 0] 33)) w2) := B1.out.trans hb2
  clear H2 hb2 K1 B1
  have LN : LeafP ks ⟨3, c, 0, 0, nul, []⟩ := .inr (.inr ⟨c.toNat, by omega, by rw [show ((c.toNat : Nat) : Int) = c by omega]⟩)
  obtain ⟨hc, hf⟩ := res_cells B2.out hS
  go_wp2_with fail
  have fin := put8 hS K2.out ((But.of_below one_box).trans B2.out) (.int .i64 3) (.int .i64 c) (.int .i64 0) (.int .i64 0) (.int .i64 0) (.int .i64 0) (.string ⟨#[]⟩) (.slice none 0 0)
  exact bodyPost_ret (v := .agg #[.int .i64 3, .int .i64 c, .int .i64 0, .int .i64 0, .int .i64 0, .int .i64 0, .string ⟨#[]⟩, .slice none 0 0]) (by simp [results, Tryd.results9, go_sem, hc]) rfl (PdMade.leaf LN (fun h => by simp at h) rfl (by omega) fin)
set_option maxHeartbeats 4000000 in
theorem mkL3 (S : Nat) (a : Option Addr) (len cap : Nat) (zs : List Int) (p b o ccap : Nat) (ks : List Int) (D : Int) (d : Nat) (w : World) (h : SeqAt S a len cap zs p w) (hp : p + 20 ≤ 4294967290) (hc : IntsIs w (.slice (some ⟨b, o, none⟩) ks.length ccap) ks) (hb : b ≠ S) (hn : 0 < ks.length) (hn1 : ks.length ≤ 16) (hk : ∀ k ∈ ks, k = 1 ∨ k = 2 ∨ k = 3) (hD : D < 1) (r1 : Int) (hr0 : 0 ≤ r1) (hr1 : r1 < 8) (hrm : r1 % 4 = 3) (Q1 : Hid (nm (sq zs len p) 8 = r1)) :
    Calls Tryd.prog 9 #[.pointer (some ⟨S, 0, none⟩), .slice (some ⟨b, o, none⟩) ks.length ccap, .int .i64 D] w (PdMade S a len cap zs ks d p w) := by
  have hS := h.2.2.2.1
  have H : Hid (SeqAt S a len cap zs p w) := h
  have HC : Hid (IntsIs w (.slice (some ⟨b, o, none⟩) ks.length ccap) ks) := hc
  have hlo : b < w.heap.size := by
    have := hc.at 0 hn
    exact World.block_lt_of_cell? _ _ this
  have HK : Hid (∀ k ∈ ks, k = 1 ∨ k = 2 ∨ k = 3) := hk
  have hrt : r1.tmod 4 = 3 := by rw [Int.tmod_eq_emod_of_nonneg hr0]; exact hrm
  have b0 : ((ks.length : Int) == 0) = false := beq_false_of_ne (by omega)
  clear h hc hk
  go_enter Tryd.func9, Tryd.ntmps9
  go_wp2_with fail
  refine (next S a len cap zs p 8 _ (H.out.on one_box) (by omega) (by decide) (by decide)).mono ?_
  rintro e w1 ⟨rfl, H1, hb1⟩
  rw [Q1.out]
  have K1 : Hid (SeqAt S a len cap zs (p + 1) w1) := H1
  have B1 : Hid (But S (w.alloc (.cells #[.int .i64 0, .int .i64 0, .int .i64 0, .int .i64 0, .int .i64 0, .int .i64 0, .string ⟨#[]⟩, .slice none 0 0] 33)) w1) := hb1
  clear H1 hb1
  go_wp2_with fail
  refine (next S a len cap zs (p + 1) ks.length _ K1.out (by omega) (by omega) (by omega)).mono ?_
  rintro e w2 ⟨rfl, H2, hb2⟩
  obtain ⟨c0, c1⟩ := nm_bd (sq zs len (p + 1)) ks.length (by omega)
  generalize nm (sq zs len (p + 1)) ks.length = c at *
  have K2 : Hid (SeqAt S a len cap zs (p + 1 + 1) w2) := H2
  have B2 : Hid (But S (w.alloc (.cells #[.int .i64 0, .int .i64 0, .int .i64 0, .int .i64 0, .int .i64 0, .int .i64 0, .string ⟨#[]⟩, .slice none 0 0] 33)) w2) := B1.out.trans hb2
  clear H2 hb2 K1 B1
  have LN : LeafP ks ⟨3, c, 0, 0, nul, []⟩ := .inr (.inr ⟨c.toNat, by omega, by rw [show ((c.toNat : Nat) : Int) = c by omega]⟩)
  obtain ⟨hc, hf⟩ := res_cells B2.out hS
  go_wp2_with fail
  have fin := put8 hS K2.out ((But.of_below one_box).trans B2.out) (.int .i64 3) (.int .i64 c) (.int .i64 0) (.int .i64 0) (.int .i64 0) (.int .i64 0) (.string ⟨#[]⟩) (.slice none 0 0)
  exact bodyPost_ret (v := .agg #[.int .i64 3, .int .i64 c, .int .i64 0, .int .i64 0, .int .i64 0, .int .i64 0, .string ⟨#[]⟩, .slice none 0 0]) (by simp [results, Tryd.results9, go_sem, hc]) rfl (PdMade.leaf LN (fun h => by simp at h) rfl (by omega) fin)
end Go.Proofs.YtaccinophamgmaaDoor
