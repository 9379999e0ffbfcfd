/- Texts of one claim, one behind the other. -/
import Derived.Test.YtaccinophamgmaaDoorPackPdN
import Derived.Test.YtaccinophamgmaaDoorPackPdA
/- The statements' own maker of predicates: all of several parts, or one. -/
namespace Go.Proofs.YtaccinophamgmaaDoor
open Go.RowKit
set_option maxRecDepth 100000
set_option linter.unusedVariables false

set_option maxHeartbeats 4000000 in
theorem mkD5 (S : Nat) (a : Option Addr) (len cap : Nat) (zs : List Int) (p b o ccap : Nat) (ks : List Int) (D : Int) (d : Nat) (w : World) (h : SeqAt S a len cap zs p w) (hp : p + 20 ≤ 4294967290) (hc : IntsIs w (.slice (some ⟨b, o, none⟩) ks.length ccap) ks) (hb : b ≠ S) (hn : 0 < ks.length) (hn1 : ks.length ≤ 16) (hk : ∀ k ∈ ks, k = 1 ∨ k = 2 ∨ k = 3) (hD : 1 ≤ D) (Q1 : Hid (nm (sq zs len p) 8 = 5)) (hD2 : D ≤ 100) (hp2 : p + 2 + 4 * (10 * 4 ^ d) ≤ 4294967290) (ih : IHp S a len cap zs b o ccap ks (D - 1) d) :
    Calls Tryd.prog 9 #[.pointer (some ⟨S, 0, none⟩), .slice (some ⟨b, o, none⟩) ks.length ccap, .int .i64 D] w (PdMade S a len cap zs ks (d + 1) p w) := by
  have hS := h.2.2.2.1
  have H : Hid (SeqAt S a len cap zs p w) := h
  have HC : Hid (IntsIs w (.slice (some ⟨b, o, none⟩) ks.length ccap) ks) := hc
  have hlo : b < w.heap.size := by
    have := hc.at 0 hn
    exact World.block_lt_of_cell? _ _ this
  have HK : Hid (∀ k ∈ ks, k = 1 ∨ k = 2 ∨ k = 3) := hk
  have b0 : ((ks.length : Int) == 0) = false := beq_false_of_ne (by omega)
  clear h hc hk
  go_enter Tryd.func9, Tryd.ntmps9
  go_wp2_with fail
  refine (next S a len cap zs p 8 _ (H.out.on one_box) (by omega) (by decide) (by decide)).mono ?_
  rintro e w1 ⟨rfl, H1, hb1⟩
  rw [Q1.out]
  have K1 : Hid (SeqAt S a len cap zs (p + 1) w1) := H1
  have B1 : Hid (But S (w.alloc (.cells #[.int .i64 0, .int .i64 0, .int .i64 0, .int .i64 0, .int .i64 0, .int .i64 0, .string ⟨#[]⟩, .slice none 0 0] 33)) w1) := hb1
  clear H1 hb1
  have IH : Hid (IHp S a len cap zs b o ccap ks (D - 1) d) := ih
  obtain ⟨i0, hi, hz0, hz1, hz2⟩ := info_parts info_pred
  clear ih
  go_wp2_with fail
  refine (next S a len cap zs (p + 1) 2 _ (K1.out.on one_box) (by omega) (by decide) (by decide)).mono ?_
  rintro e w2 ⟨rfl, H2, hb2⟩
  obtain ⟨r0, r1⟩ := nm_bd (sq zs len (p + 1)) 2 (by decide)
  generalize nm (sq zs len (p + 1)) 2 = r at *
  have C0 : Hid (ConjSt S a len cap zs ks d p w1.heap.size 5 w 0 w2) := ConjSt.start hS B1.out H2 hb2
  have BW : Hid (∀ wr, But S w wr → IntsIs wr (.slice (some ⟨b, o, none⟩) ks.length ccap) ks) := fun wr h => HC.out.but h (by intro e; exact hb (by simpa [Value.ownBlock] using e))
  clear H2 hb2 K1 B1 HC
  generalize w1.heap.size = X at *
  go_wp2_with fail
  go_loopw [13] (fun v wr => ∃ i m : Nat, v = .int .i64 i ∧ (i : Int) + (m : Int) = 2 + r ∧ Hid (ConjSt S a len cap zs ks d p X 5 w m wr)) (fun v _ => (intOf v).toNat)
  case atStart => exact ⟨(2 + r).toNat, 0, by rw [show (((2 + r).toNat : Nat) : Int) = 2 + r by omega], by omega, C0.out⟩
  case round =>
    clear C0
    obtain ⟨i, m, rfl, him, hC⟩ := hrel
    obtain ⟨ps, v, p', h1, h2, h3, h4, h5, h6, h7, h8, hX⟩ := hC.out
    by_cases hi0 : 0 < i
    · have I1 : (0 : Int) < (i : Int) := by omega
      obtain ⟨av, cv, hv⟩ := own_formP h2
      have hmb : m * (10 * 4 ^ d) ≤ 2 * (10 * 4 ^ d) := Nat.mul_le_mul_right _ (by omega)
      have HQ : Hid (∀ V, Below wr.heap.size wr V → Calls Tryd.prog 9 #[.pointer (some ⟨S, 0, none⟩), .slice (some ⟨b, o, none⟩) ks.length ccap, .int .i64 (D - 1)] V (PdMade S a len cap zs ks d p' V)) := fun V hV => IH.out p' V (h5.on hV) (by omega) ((BW.out wr h6).on hV)
      have F : Hid (∀ V e w7, Below wr.heap.size wr V → PdMade S a len cap zs ks d p' V e w7 → ∃ (P : Pd) (s' : Value) (p7 : Nat), e = .returned (.agg #[.int .i64 P.k, .int .i64 P.c, .int .i64 P.o, .int .i64 P.d, .int .i64 P.v.1, .int .i64 P.v.2.1, .string P.v.2.2, s']) ∧ MkP okM ks d P ∧ PdL (fun k => wr.heap.size ≤ k) d w7 s' P.l ∧ p7 ≤ p' + 10 * 4 ^ d ∧ SeqAt S a len cap zs p7 w7 ∧ But S wr w7) := fun V e w7 hV ⟨P, s', p7, e1, e2, e3, e4, e5, e6⟩ => ⟨P, s', p7, e1, e2, e3.mono (fun k hk _ => Nat.le_trans hV.size hk), e4, e5, (But.of_below hV).trans e6⟩
      have HP : Hid (∀ w7 w8 v8 P s' p7, MkP okM ks d P → PdL (fun k => wr.heap.size ≤ k) d w7 s' P.l → p7 ≤ p' + 10 * 4 ^ d → SeqAt S a len cap zs p7 w7 → But S wr w7 → w8.ownsRow (X + 1) 33 8 v8 (m + 1) (pcs ps ++ hc P s') → (w7.alloc (.cells (hc P s').toArray 33)).grownBy w8 v.ownBlock → (v8.ownBlock = v.ownBlock ∨ v8.ownBlock = some (w7.alloc (.cells (hc P s').toArray 33)).heap.size) → PdBox X ⟨5, 0, 0, 0, nul, []⟩ v w8 ∧ ConjSt S a len cap zs ks d p X 5 w (m + 1) (w8.setCell ⟨X, 7, none⟩ v8)) :=
        fun w7 w8 v8 P s' p7 g1 g2 g3 g4 g5 o8 b8 e8 => ConjSt.push h1 h2 h3 h4 h6 h7 h8 hX hS g1 g2 g3 g4 g5 o8 b8 e8
      have HO : Hid (∀ w7, But S wr w7 → w7.ownsRow (X + 1) 33 8 v m (pcs ps) ∧ w7.cell? ⟨X, 7, none⟩ = some v ∧ X + 1 ≤ w7.heap.size) := fun w7 hb7 => ⟨own_but h2 hb7 (by omega), (h8.but hb7 (by omega)).1.2.2.2.2.2.2.2, by have := (h8.but hb7 (by omega)).2.2; omega⟩
      have x7 := h8.1.2.2.2.2.2.2.2
      simp only [Nat.zero_add] at x7
      have hwr : IntKind.i64.wrap (D - 1) = D - 1 := by rw [IntKind.wrap_i64]; omega
      have HM : Hid (m ≤ 2) := by show m ≤ 2; omega
      subst hv
      clear h1 h2 h3 h4 h5 h6 h7 h8 hC
      go_wp2_with fail
      go_region_law (first
        | (refine step_append_at _ (by rfl) (.tmp 119) (.tmp 125) 31 (by rfl) (X + 1) 33 i0 (.agg #[.int .i64 0, .int .i64 0, .int .i64 0, .int .i64 0, .int .i64 0, .int .i64 0, .string ⟨#[]⟩, .slice none 0 0]) 8 88 Tryd.underlying31 hi hz0 hz1 hz2 rfl (by decide) _ m (pcs ps) (by rfl) (O7.out.1.alloc _) ⟨w7.heap.size, 0, none⟩ 1 1 (hc P (.slice as7 P.l.length cs7)) (by rfl) rfl (cell_new_of _ _ _) (by simp [hc, Value.oneCell']) (by have := HM.out; unfold maxLen; omega) (by have := HM.out; omega) (by have := O7.out.2.2; simp; omega) ?_; intro v8 w8 o8 b8 e8; obtain ⟨⟨⟨_, _, _, _, _, _, _, y7⟩, yf, _⟩, C8⟩ := HP.out w7 w8 v8 P (.slice as7 P.l.length cs7) p7 M.out.1 M.out.2.1 M.out.2.2.1 M.out.2.2.2.1 M.out.2.2.2.2 o8 b8 e8; have fz := yf 7; simp only [Nat.zero_add] at y7; obtain ⟨a8, c8, hv8⟩ := own_formP o8; subst hv8; have D8 : Hid _ := C8; clear o8 b8 e8 yf C8)
        | (refine step_call3e (by rfl) 9 (.tmp 120) (.tmp 121) (.tmp 123) 24 22 3 (by rfl) (fun _ _ => by kernel_rfl) _ _ _ (by rfl) (by rfl) (by rfl) _ (HQ.out _ ((Below.refl _ _).drew)) ?_; intro e7 w7 hR; obtain ⟨P, s', p7, rfl, g1, g2, g3, g4, g5⟩ := F.out _ _ _ ((Below.refl _ _).drew) hR; obtain ⟨as7, cs7, hs7⟩ := g2.form; subst hs7; refine ⟨_, rfl, ?_⟩; have O7 : Hid _ := HO.out w7 g5; have y7 := O7.out.2.1; have y8 : (w7.alloc (.cells #[.int .i64 P.k, .int .i64 P.c, .int .i64 P.o, .int .i64 P.d, .int .i64 P.v.1, .int .i64 P.v.2.1, .string P.v.2.2, .slice as7 P.l.length cs7] 33)).cell? ⟨X, 7, none⟩ = some (.slice av m cv) := cell_on y7 one_box; have M : Hid (MkP okM ks d P ∧ PdL (fun k => wr.heap.size ≤ k) d w7 (.slice as7 P.l.length cs7) P.l ∧ p7 ≤ p' + 10 * 4 ^ d ∧ SeqAt S a len cap zs p7 w7 ∧ But S wr w7) := ⟨g1, g2, g3, g4, g5⟩; clear g1 g2 g3 g4 g5 hR))
      all_goals
        clear M O7 HQ F HP HO y7 y8
        go_wp2_with fail
        go_roundw
        case rel => exact ⟨i - 1, m + 1, by congr 1; omega, by omega, D8.out⟩
        case measure => simp [intOf]; omega
    · obtain rfl : i = 0 := by omega
      have hm : 2 ≤ m ∧ m ≤ 3 := by omega
      obtain ⟨⟨z0, z1, z2, z3, z4, z5, z6, z7⟩, zf, _⟩ := h7
      obtain ⟨⟨y0, y1, y2, y3, y4, y5, y6, y7⟩, _, _⟩ := h8
      simp only [Nat.zero_add] at z1 z2 z3 z4 z5 z6 z7 y1 y2 y3 y4 y5 y6 y7
      have FN : Hid (∀ W, (SeqAt S a len cap zs p' W ∧ But S w W) → ((∀ k, k ≠ w.heap.size → W.heap[k]? = wr.heap[k]?) ∧ W.heap.size = wr.heap.size) → PdMade S a len cap zs ks (d + 1) p w (.returned (.agg #[.int .i64 5, .int .i64 0, .int .i64 0, .int .i64 0, .int .i64 0, .int .i64 0, .string ⟨#[]⟩, v])) W) := fun W f1 f2 => ConjSt.fin (by decide) hm h1 h2 h3 h4 hX f1 f2
      have H5 : Hid (SeqAt S a len cap zs p' wr) := h5
      have H6 : Hid (But S w wr) := h6
      obtain ⟨av, cv, hv⟩ := own_formP h2
      subst hv
      clear h1 h2 h3 h4 h5 h6 hC
      go_wp2_with fail
      have fin := put8 hS H5.out H6.out (.int .i64 5) (.int .i64 0) (.int .i64 0) (.int .i64 0) (.int .i64 0) (.int .i64 0) (.string ⟨#[]⟩) (.slice av m cv)
      exact bodyPost_ret (v := .agg #[.int .i64 5, .int .i64 0, .int .i64 0, .int .i64 0, .int .i64 0, .int .i64 0, .string ⟨#[]⟩, .slice av m cv]) (by simp [results, Tryd.results9, go_sem, z0, z1, z2, z3, z4, z5, z6, z7]) rfl (FN.out _ fin (put8_heap _ _ _ _ _ _ _ _))
end Go.Proofs.YtaccinophamgmaaDoor
/- The statements' own maker of predicates: all of several parts, or one. -/
namespace Go.Proofs.YtaccinophamgmaaDoor
open Go.RowKit
set_option maxRecDepth 100000
set_option linter.unusedVariables false

set_option maxHeartbeats 4000000 in
theorem mkD6 (S : Nat) (a : Option Addr) (len cap : Nat) (zs : List Int) (p b o ccap : Nat) (ks : List Int) (D : Int) (d : Nat) (w : World) (h : SeqAt S a len cap zs p w) (hp : p + 20 ≤ 4294967290) (hc : IntsIs w (.slice (some ⟨b, o, none⟩) ks.length ccap) ks) (hb : b ≠ S) (hn : 0 < ks.length) (hn1 : ks.length ≤ 16) (hk : ∀ k ∈ ks, k = 1 ∨ k = 2 ∨ k = 3) (hD : 1 ≤ D) (Q1 : Hid (nm (sq zs len p) 8 = 6)) (hD2 : D ≤ 100) (hp2 : p + 2 + 4 * (10 * 4 ^ d) ≤ 4294967290) (ih : IHp S a len cap zs b o ccap ks (D - 1) d) :
    Calls Tryd.prog 9 #[.pointer (some ⟨S, 0, none⟩), .slice (some ⟨b, o, none⟩) ks.length ccap, .int .i64 D] w (PdMade S a len cap zs ks (d + 1) p w) := by
  have hS := h.2.2.2.1
  have H : Hid (SeqAt S a len cap zs p w) := h
  have HC : Hid (IntsIs w (.slice (some ⟨b, o, none⟩) ks.length ccap) ks) := hc
  have hlo : b < w.heap.size := by
    have := hc.at 0 hn
    exact World.block_lt_of_cell? _ _ this
  have HK : Hid (∀ k ∈ ks, k = 1 ∨ k = 2 ∨ k = 3) := hk
  have b0 : ((ks.length : Int) == 0) = false := beq_false_of_ne (by omega)
  clear h hc hk
  go_enter Tryd.func9, Tryd.ntmps9
  go_wp2_with fail
  refine (next S a len cap zs p 8 _ (H.out.on one_box) (by omega) (by decide) (by decide)).mono ?_
  rintro e w1 ⟨rfl, H1, hb1⟩
  rw [Q1.out]
  have K1 : Hid (SeqAt S a len cap zs (p + 1) w1) := H1
  have B1 : Hid (But S (w.alloc (.cells #[.int .i64 0, .int .i64 0, .int .i64 0, .int .i64 0, .int .i64 0, .int .i64 0, .string ⟨#[]⟩, .slice none 0 0] 33)) w1) := hb1
  clear H1 hb1
  have IH : Hid (IHp S a len cap zs b o ccap ks (D - 1) d) := ih
  obtain ⟨i0, hi, hz0, hz1, hz2⟩ := info_parts info_pred
  clear ih
  go_wp2_with fail
  refine (next S a len cap zs (p + 1) 2 _ (K1.out.on one_box) (by omega) (by decide) (by decide)).mono ?_
  rintro e w2 ⟨rfl, H2, hb2⟩
  obtain ⟨r0, r1⟩ := nm_bd (sq zs len (p + 1)) 2 (by decide)
  generalize nm (sq zs len (p + 1)) 2 = r at *
  have C0 : Hid (ConjSt S a len cap zs ks d p w1.heap.size 4 w 0 w2) := ConjSt.start hS B1.out H2 hb2
  have BW : Hid (∀ wr, But S w wr → IntsIs wr (.slice (some ⟨b, o, none⟩) ks.length ccap) ks) := fun wr h => HC.out.but h (by intro e; exact hb (by simpa [Value.ownBlock] using e))
  clear H2 hb2 K1 B1 HC
  generalize w1.heap.size = X at *
  go_wp2_with fail
  go_loopw [13] (fun v wr => ∃ i m : Nat, v = .int .i64 i ∧ (i : Int) + (m : Int) = 2 + r ∧ Hid (ConjSt S a len cap zs ks d p X 4 w m wr)) (fun v _ => (intOf v).toNat)
  case atStart => exact ⟨(2 + r).toNat, 0, by rw [show (((2 + r).toNat : Nat) : Int) = 2 + r by omega], by omega, C0.out⟩
  case round =>
    clear C0
    obtain ⟨i, m, rfl, him, hC⟩ := hrel
    obtain ⟨ps, v, p', h1, h2, h3, h4, h5, h6, h7, h8, hX⟩ := hC.out
    by_cases hi0 : 0 < i
    · have I1 : (0 : Int) < (i : Int) := by omega
      obtain ⟨av, cv, hv⟩ := own_formP h2
      have hmb : m * (10 * 4 ^ d) ≤ 2 * (10 * 4 ^ d) := Nat.mul_le_mul_right _ (by omega)
      have HQ : Hid (∀ V, Below wr.heap.size wr V → Calls Tryd.prog 9 #[.pointer (some ⟨S, 0, none⟩), .slice (some ⟨b, o, none⟩) ks.length ccap, .int .i64 (D - 1)] V (PdMade S a len cap zs ks d p' V)) := fun V hV => IH.out p' V (h5.on hV) (by omega) ((BW.out wr h6).on hV)
      have F : Hid (∀ V e w7, Below wr.heap.size wr V → PdMade S a len cap zs ks d p' V e w7 → ∃ (P : Pd) (s' : Value) (p7 : Nat), e = .returned (.agg #[.int .i64 P.k, .int .i64 P.c, .int .i64 P.o, .int .i64 P.d, .int .i64 P.v.1, .int .i64 P.v.2.1, .string P.v.2.2, s']) ∧ MkP okM ks d P ∧ PdL (fun k => wr.heap.size ≤ k) d w7 s' P.l ∧ p7 ≤ p' + 10 * 4 ^ d ∧ SeqAt S a len cap zs p7 w7 ∧ But S wr w7) := fun V e w7 hV ⟨P, s', p7, e1, e2, e3, e4, e5, e6⟩ => ⟨P, s', p7, e1, e2, e3.mono (fun k hk _ => Nat.le_trans hV.size hk), e4, e5, (But.of_below hV).trans e6⟩
      have HP : Hid (∀ w7 w8 v8 P s' p7, MkP okM ks d P → PdL (fun k => wr.heap.size ≤ k) d w7 s' P.l → p7 ≤ p' + 10 * 4 ^ d → SeqAt S a len cap zs p7 w7 → But S wr w7 → w8.ownsRow (X + 1) 33 8 v8 (m + 1) (pcs ps ++ hc P s') → (w7.alloc (.cells (hc P s').toArray 33)).grownBy w8 v.ownBlock → (v8.ownBlock = v.ownBlock ∨ v8.ownBlock = some (w7.alloc (.cells (hc P s').toArray 33)).heap.size) → PdBox X ⟨4, 0, 0, 0, nul, []⟩ v w8 ∧ ConjSt S a len cap zs ks d p X 4 w (m + 1) (w8.setCell ⟨X, 7, none⟩ v8)) :=
        fun w7 w8 v8 P s' p7 g1 g2 g3 g4 g5 o8 b8 e8 => ConjSt.push h1 h2 h3 h4 h6 h7 h8 hX hS g1 g2 g3 g4 g5 o8 b8 e8
      have HO : Hid (∀ w7, But S wr w7 → w7.ownsRow (X + 1) 33 8 v m (pcs ps) ∧ w7.cell? ⟨X, 7, none⟩ = some v ∧ X + 1 ≤ w7.heap.size) := fun w7 hb7 => ⟨own_but h2 hb7 (by omega), (h8.but hb7 (by omega)).1.2.2.2.2.2.2.2, by have := (h8.but hb7 (by omega)).2.2; omega⟩
      have x7 := h8.1.2.2.2.2.2.2.2
      simp only [Nat.zero_add] at x7
      have hwr : IntKind.i64.wrap (D - 1) = D - 1 := by rw [IntKind.wrap_i64]; omega
      have HM : Hid (m ≤ 2) := by show m ≤ 2; omega
      subst hv
      clear h1 h2 h3 h4 h5 h6 h7 h8 hC
      go_wp2_with fail
      go_region_law (first
        | (refine step_append_at _ (by rfl) (.tmp 119) (.tmp 125) 31 (by rfl) (X + 1) 33 i0 (.agg #[.int .i64 0, .int .i64 0, .int .i64 0, .int .i64 0, .int .i64 0, .int .i64 0, .string ⟨#[]⟩, .slice none 0 0]) 8 88 Tryd.underlying31 hi hz0 hz1 hz2 rfl (by decide) _ m (pcs ps) (by rfl) (O7.out.1.alloc _) ⟨w7.heap.size, 0, none⟩ 1 1 (hc P (.slice as7 P.l.length cs7)) (by rfl) rfl (cell_new_of _ _ _) (by simp [hc, Value.oneCell']) (by have := HM.out; unfold maxLen; omega) (by have := HM.out; omega) (by have := O7.out.2.2; simp; omega) ?_; intro v8 w8 o8 b8 e8; obtain ⟨⟨⟨_, _, _, _, _, _, _, y7⟩, yf, _⟩, C8⟩ := HP.out w7 w8 v8 P (.slice as7 P.l.length cs7) p7 M.out.1 M.out.2.1 M.out.2.2.1 M.out.2.2.2.1 M.out.2.2.2.2 o8 b8 e8; have fz := yf 7; simp only [Nat.zero_add] at y7; obtain ⟨a8, c8, hv8⟩ := own_formP o8; subst hv8; have D8 : Hid _ := C8; clear o8 b8 e8 yf C8)
        | (refine step_call3e (by rfl) 9 (.tmp 120) (.tmp 121) (.tmp 123) 24 22 3 (by rfl) (fun _ _ => by kernel_rfl) _ _ _ (by rfl) (by rfl) (by rfl) _ (HQ.out _ ((Below.refl _ _).drew)) ?_; intro e7 w7 hR; obtain ⟨P, s', p7, rfl, g1, g2, g3, g4, g5⟩ := F.out _ _ _ ((Below.refl _ _).drew) hR; obtain ⟨as7, cs7, hs7⟩ := g2.form; subst hs7; refine ⟨_, rfl, ?_⟩; have O7 : Hid _ := HO.out w7 g5; have y7 := O7.out.2.1; have y8 : (w7.alloc (.cells #[.int .i64 P.k, .int .i64 P.c, .int .i64 P.o, .int .i64 P.d, .int .i64 P.v.1, .int .i64 P.v.2.1, .string P.v.2.2, .slice as7 P.l.length cs7] 33)).cell? ⟨X, 7, none⟩ = some (.slice av m cv) := cell_on y7 one_box; have M : Hid (MkP okM ks d P ∧ PdL (fun k => wr.heap.size ≤ k) d w7 (.slice as7 P.l.length cs7) P.l ∧ p7 ≤ p' + 10 * 4 ^ d ∧ SeqAt S a len cap zs p7 w7 ∧ But S wr w7) := ⟨g1, g2, g3, g4, g5⟩; clear g1 g2 g3 g4 g5 hR))
      all_goals
        clear M O7 HQ F HP HO y7 y8
        go_wp2_with fail
        go_roundw
        case rel => exact ⟨i - 1, m + 1, by congr 1; omega, by omega, D8.out⟩
        case measure => simp [intOf]; omega
    · obtain rfl : i = 0 := by omega
      have hm : 2 ≤ m ∧ m ≤ 3 := by omega
      obtain ⟨⟨z0, z1, z2, z3, z4, z5, z6, z7⟩, zf, _⟩ := h7
      obtain ⟨⟨y0, y1, y2, y3, y4, y5, y6, y7⟩, _, _⟩ := h8
      simp only [Nat.zero_add] at z1 z2 z3 z4 z5 z6 z7 y1 y2 y3 y4 y5 y6 y7
      have FN : Hid (∀ W, (SeqAt S a len cap zs p' W ∧ But S w W) → ((∀ k, k ≠ w.heap.size → W.heap[k]? = wr.heap[k]?) ∧ W.heap.size = wr.heap.size) → PdMade S a len cap zs ks (d + 1) p w (.returned (.agg #[.int .i64 4, .int .i64 0, .int .i64 0, .int .i64 0, .int .i64 0, .int .i64 0, .string ⟨#[]⟩, v])) W) := fun W f1 f2 => ConjSt.fin (by decide) hm h1 h2 h3 h4 hX f1 f2
      have H5 : Hid (SeqAt S a len cap zs p' wr) := h5
      have H6 : Hid (But S w wr) := h6
      obtain ⟨av, cv, hv⟩ := own_formP h2
      subst hv
      clear h1 h2 h3 h4 h5 h6 hC
      go_wp2_with fail
      have fin := put8 hS H5.out H6.out (.int .i64 4) (.int .i64 0) (.int .i64 0) (.int .i64 0) (.int .i64 0) (.int .i64 0) (.string ⟨#[]⟩) (.slice av m cv)
      exact bodyPost_ret (v := .agg #[.int .i64 4, .int .i64 0, .int .i64 0, .int .i64 0, .int .i64 0, .int .i64 0, .string ⟨#[]⟩, .slice av m cv]) (by simp [results, Tryd.results9, go_sem, z0, z1, z2, z3, z4, z5, z6, z7]) rfl (FN.out _ fin (put8_heap _ _ _ _ _ _ _ _))
end Go.Proofs.YtaccinophamgmaaDoor
/- The statements' own maker of predicates: all of several parts, or one. -/
namespace Go.Proofs.YtaccinophamgmaaDoor
open Go.RowKit
set_option maxRecDepth 100000
set_option linter.unusedVariables false

set_option maxHeartbeats 4000000 in
theorem mkD7 (S : Nat) (a : Option Addr) (len cap : Nat) (zs : List Int) (p b o ccap : Nat) (ks : List Int) (D : Int) (d : Nat) (w : World) (h : SeqAt S a len cap zs p w) (hp : p + 20 ≤ 4294967290) (hc : IntsIs w (.slice (some ⟨b, o, none⟩) ks.length ccap) ks) (hb : b ≠ S) (hn : 0 < ks.length) (hn1 : ks.length ≤ 16) (hk : ∀ k ∈ ks, k = 1 ∨ k = 2 ∨ k = 3) (hD : 1 ≤ D) (Q1 : Hid (nm (sq zs len p) 8 = 7)) (hD2 : D ≤ 100) (hp2 : p + 2 + 4 * (10 * 4 ^ d) ≤ 4294967290) (ih : IHp S a len cap zs b o ccap ks (D - 1) d) :
    Calls Tryd.prog 9 #[.pointer (some ⟨S, 0, none⟩), .slice (some ⟨b, o, none⟩) ks.length ccap, .int .i64 D] w (PdMade S a len cap zs ks (d + 1) p w) := by
  have hS := h.2.2.2.1
  have H : Hid (SeqAt S a len cap zs p w) := h
  have HC : Hid (IntsIs w (.slice (some ⟨b, o, none⟩) ks.length ccap) ks) := hc
  have hlo : b < w.heap.size := by
    have := hc.at 0 hn
    exact World.block_lt_of_cell? _ _ this
  have HK : Hid (∀ k ∈ ks, k = 1 ∨ k = 2 ∨ k = 3) := hk
  have b0 : ((ks.length : Int) == 0) = false := beq_false_of_ne (by omega)
  clear h hc hk
  go_enter Tryd.func9, Tryd.ntmps9
  go_wp2_with fail
  refine (next S a len cap zs p 8 _ (H.out.on one_box) (by omega) (by decide) (by decide)).mono ?_
  rintro e w1 ⟨rfl, H1, hb1⟩
  rw [Q1.out]
  have K1 : Hid (SeqAt S a len cap zs (p + 1) w1) := H1
  have B1 : Hid (But S (w.alloc (.cells #[.int .i64 0, .int .i64 0, .int .i64 0, .int .i64 0, .int .i64 0, .int .i64 0, .string ⟨#[]⟩, .slice none 0 0] 33)) w1) := hb1
  clear H1 hb1
  have IH : Hid (IHp S a len cap zs b o ccap ks (D - 1) d) := ih
  obtain ⟨i0, hi, hz0, hz1, hz2⟩ := info_parts info_pred
  clear ih
  go_wp2_with fail
  refine (next S a len cap zs (p + 1) 2 _ (K1.out.on one_box) (by omega) (by decide) (by decide)).mono ?_
  rintro e w2 ⟨rfl, H2, hb2⟩
  obtain ⟨r0, r1⟩ := nm_bd (sq zs len (p + 1)) 2 (by decide)
  generalize nm (sq zs len (p + 1)) 2 = r at *
  have C0 : Hid (ConjSt S a len cap zs ks d p w1.heap.size 5 w 0 w2) := ConjSt.start hS B1.out H2 hb2
  have BW : Hid (∀ wr, But S w wr → IntsIs wr (.slice (some ⟨b, o, none⟩) ks.length ccap) ks) := fun wr h => HC.out.but h (by intro e; exact hb (by simpa [Value.ownBlock] using e))
  clear H2 hb2 K1 B1 HC
  generalize w1.heap.size = X at *
  go_wp2_with fail
  go_loopw [13] (fun v wr => ∃ i m : Nat, v = .int .i64 i ∧ (i : Int) + (m : Int) = 2 + r ∧ Hid (ConjSt S a len cap zs ks d p X 5 w m wr)) (fun v _ => (intOf v).toNat)
  case atStart => exact ⟨(2 + r).toNat, 0, by rw [show (((2 + r).toNat : Nat) : Int) = 2 + r by omega], by omega, C0.out⟩
  case round =>
    clear C0
    obtain ⟨i, m, rfl, him, hC⟩ := hrel
    obtain ⟨ps, v, p', h1, h2, h3, h4, h5, h6, h7, h8, hX⟩ := hC.out
    by_cases hi0 : 0 < i
    · have I1 : (0 : Int) < (i : Int) := by omega
      obtain ⟨av, cv, hv⟩ := own_formP h2
      have hmb : m * (10 * 4 ^ d) ≤ 2 * (10 * 4 ^ d) := Nat.mul_le_mul_right _ (by omega)
      have HQ : Hid (∀ V, Below wr.heap.size wr V → Calls Tryd.prog 9 #[.pointer (some ⟨S, 0, none⟩), .slice (some ⟨b, o, none⟩) ks.length ccap, .int .i64 (D - 1)] V (PdMade S a len cap zs ks d p' V)) := fun V hV => IH.out p' V (h5.on hV) (by omega) ((BW.out wr h6).on hV)
      have F : Hid (∀ V e w7, Below wr.heap.size wr V → PdMade S a len cap zs ks d p' V e w7 → ∃ (P : Pd) (s' : Value) (p7 : Nat), e = .returned (.agg #[.int .i64 P.k, .int .i64 P.c, .int .i64 P.o, .int .i64 P.d, .int .i64 P.v.1, .int .i64 P.v.2.1, .string P.v.2.2, s']) ∧ MkP okM ks d P ∧ PdL (fun k => wr.heap.size ≤ k) d w7 s' P.l ∧ p7 ≤ p' + 10 * 4 ^ d ∧ SeqAt S a len cap zs p7 w7 ∧ But S wr w7) := fun V e w7 hV ⟨P, s', p7, e1, e2, e3, e4, e5, e6⟩ => ⟨P, s', p7, e1, e2, e3.mono (fun k hk _ => Nat.le_trans hV.size hk), e4, e5, (But.of_below hV).trans e6⟩
      have HP : Hid (∀ w7 w8 v8 P s' p7, MkP okM ks d P → PdL (fun k => wr.heap.size ≤ k) d w7 s' P.l → p7 ≤ p' + 10 * 4 ^ d → SeqAt S a len cap zs p7 w7 → But S wr w7 → w8.ownsRow (X + 1) 33 8 v8 (m + 1) (pcs ps ++ hc P s') → (w7.alloc (.cells (hc P s').toArray 33)).grownBy w8 v.ownBlock → (v8.ownBlock = v.ownBlock ∨ v8.ownBlock = some (w7.alloc (.cells (hc P s').toArray 33)).heap.size) → PdBox X ⟨5, 0, 0, 0, nul, []⟩ v w8 ∧ ConjSt S a len cap zs ks d p X 5 w (m + 1) (w8.setCell ⟨X, 7, none⟩ v8)) :=
        fun w7 w8 v8 P s' p7 g1 g2 g3 g4 g5 o8 b8 e8 => ConjSt.push h1 h2 h3 h4 h6 h7 h8 hX hS g1 g2 g3 g4 g5 o8 b8 e8
      have HO : Hid (∀ w7, But S wr w7 → w7.ownsRow (X + 1) 33 8 v m (pcs ps) ∧ w7.cell? ⟨X, 7, none⟩ = some v ∧ X + 1 ≤ w7.heap.size) := fun w7 hb7 => ⟨own_but h2 hb7 (by omega), (h8.but hb7 (by omega)).1.2.2.2.2.2.2.2, by have := (h8.but hb7 (by omega)).2.2; omega⟩
      have x7 := h8.1.2.2.2.2.2.2.2
      simp only [Nat.zero_add] at x7
      have hwr : IntKind.i64.wrap (D - 1) = D - 1 := by rw [IntKind.wrap_i64]; omega
      have HM : Hid (m ≤ 2) := by show m ≤ 2; omega
      subst hv
      clear h1 h2 h3 h4 h5 h6 h7 h8 hC
      go_wp2_with fail
      go_region_law (first
        | (refine step_append_at _ (by rfl) (.tmp 119) (.tmp 125) 31 (by rfl) (X + 1) 33 i0 (.agg #[.int .i64 0, .int .i64 0, .int .i64 0, .int .i64 0, .int .i64 0, .int .i64 0, .string ⟨#[]⟩, .slice none 0 0]) 8 88 Tryd.underlying31 hi hz0 hz1 hz2 rfl (by decide) _ m (pcs ps) (by rfl) (O7.out.1.alloc _) ⟨w7.heap.size, 0, none⟩ 1 1 (hc P (.slice as7 P.l.length cs7)) (by rfl) rfl (cell_new_of _ _ _) (by simp [hc, Value.oneCell']) (by have := HM.out; unfold maxLen; omega) (by have := HM.out; omega) (by have := O7.out.2.2; simp; omega) ?_; intro v8 w8 o8 b8 e8; obtain ⟨⟨⟨_, _, _, _, _, _, _, y7⟩, yf, _⟩, C8⟩ := HP.out w7 w8 v8 P (.slice as7 P.l.length cs7) p7 M.out.1 M.out.2.1 M.out.2.2.1 M.out.2.2.2.1 M.out.2.2.2.2 o8 b8 e8; have fz := yf 7; simp only [Nat.zero_add] at y7; obtain ⟨a8, c8, hv8⟩ := own_formP o8; subst hv8; have D8 : Hid _ := C8; clear o8 b8 e8 yf C8)
        | (refine step_call3e (by rfl) 9 (.tmp 120) (.tmp 121) (.tmp 123) 24 22 3 (by rfl) (fun _ _ => by kernel_rfl) _ _ _ (by rfl) (by rfl) (by rfl) _ (HQ.out _ ((Below.refl _ _).drew)) ?_; intro e7 w7 hR; obtain ⟨P, s', p7, rfl, g1, g2, g3, g4, g5⟩ := F.out _ _ _ ((Below.refl _ _).drew) hR; obtain ⟨as7, cs7, hs7⟩ := g2.form; subst hs7; refine ⟨_, rfl, ?_⟩; have O7 : Hid _ := HO.out w7 g5; have y7 := O7.out.2.1; have y8 : (w7.alloc (.cells #[.int .i64 P.k, .int .i64 P.c, .int .i64 P.o, .int .i64 P.d, .int .i64 P.v.1, .int .i64 P.v.2.1, .string P.v.2.2, .slice as7 P.l.length cs7] 33)).cell? ⟨X, 7, none⟩ = some (.slice av m cv) := cell_on y7 one_box; have M : Hid (MkP okM ks d P ∧ PdL (fun k => wr.heap.size ≤ k) d w7 (.slice as7 P.l.length cs7) P.l ∧ p7 ≤ p' + 10 * 4 ^ d ∧ SeqAt S a len cap zs p7 w7 ∧ But S wr w7) := ⟨g1, g2, g3, g4, g5⟩; clear g1 g2 g3 g4 g5 hR))
      all_goals
        clear M O7 HQ F HP HO y7 y8
        go_wp2_with fail
        go_roundw
        case rel => exact ⟨i - 1, m + 1, by congr 1; omega, by omega, D8.out⟩
        case measure => simp [intOf]; omega
    · obtain rfl : i = 0 := by omega
      have hm : 2 ≤ m ∧ m ≤ 3 := by omega
      obtain ⟨⟨z0, z1, z2, z3, z4, z5, z6, z7⟩, zf, _⟩ := h7
      obtain ⟨⟨y0, y1, y2, y3, y4, y5, y6, y7⟩, _, _⟩ := h8
      simp only [Nat.zero_add] at z1 z2 z3 z4 z5 z6 z7 y1 y2 y3 y4 y5 y6 y7
      have FN : Hid (∀ W, (SeqAt S a len cap zs p' W ∧ But S w W) → ((∀ k, k ≠ w.heap.size → W.heap[k]? = wr.heap[k]?) ∧ W.heap.size = wr.heap.size) → PdMade S a len cap zs ks (d + 1) p w (.returned (.agg #[.int .i64 5, .int .i64 0, .int .i64 0, .int .i64 0, .int .i64 0, .int .i64 0, .string ⟨#[]⟩, v])) W) := fun W f1 f2 => ConjSt.fin (by decide) hm h1 h2 h3 h4 hX f1 f2
      have H5 : Hid (SeqAt S a len cap zs p' wr) := h5
      have H6 : Hid (But S w wr) := h6
      obtain ⟨av, cv, hv⟩ := own_formP h2
      subst hv
      clear h1 h2 h3 h4 h5 h6 hC
      go_wp2_with fail
      have fin := put8 hS H5.out H6.out (.int .i64 5) (.int .i64 0) (.int .i64 0) (.int .i64 0) (.int .i64 0) (.int .i64 0) (.string ⟨#[]⟩) (.slice av m cv)
      exact bodyPost_ret (v := .agg #[.int .i64 5, .int .i64 0, .int .i64 0, .int .i64 0, .int .i64 0, .int .i64 0, .string ⟨#[]⟩, .slice av m cv]) (by simp [results, Tryd.results9, go_sem, z0, z1, z2, z3, z4, z5, z6, z7]) rfl (FN.out _ fin (put8_heap _ _ _ _ _ _ _ _))
end Go.Proofs.YtaccinophamgmaaDoor
/- What the statements' own maker of predicates answers: a predicate that may be, for the columns' kinds, no deeper than told, in new memory. -/
namespace Go.Proofs.YtaccinophamgmaaDoor
open Go.RowKit
set_option maxRecDepth 100000
theorem makeAt (S : Nat) (a : Option Addr) (len cap : Nat) (zs : List Int) (b o ccap : Nat) (ks : List Int) (hb : b ≠ S) (hn : 0 < ks.length) (hn1 : ks.length ≤ 16) (hk : ∀ k ∈ ks, k = 1 ∨ k = 2 ∨ k = 3) : ∀ d : Nat, d ≤ 100 → IHp S a len cap zs b o ccap ks (d : Int) d := by
  intro d
  induction d with
  | zero =>
    intro _ p w h hp hc
    have hp' : p + 20 ≤ 4294967290 := by simpa using hp
    obtain ⟨h0, h1⟩ := nm_bd (sq zs len p) 8 (by decide)
    obtain ⟨r, hr⟩ : ∃ r, nm (sq zs len p) 8 = r := ⟨_, rfl⟩
    rw [hr] at h0 h1
    have hm : r % 4 = 0 ∨ r % 4 = 1 ∨ r % 4 = 2 ∨ r % 4 = 3 := by omega
    rcases hm with hm | hm | hm | hm
    · exact mkL0 S a len cap zs p b o ccap ks _ 0 w h hp' hc hb hn hn1 hk (by decide) r h0 h1 hm hr
    · exact mkL1 S a len cap zs p b o ccap ks _ 0 w h hp' hc hb hn hn1 hk (by decide) r h0 h1 hm hr
    · exact mkL2 S a len cap zs p b o ccap ks _ 0 w h hp' hc hb hn hn1 hk (by decide) r h0 h1 hm hr
    · exact mkL3 S a len cap zs p b o ccap ks _ 0 w h hp' hc hb hn hn1 hk (by decide) r h0 h1 hm hr
  | succ d ih =>
    intro hd p w h hp hc
    have h4 := pow_pos4 d
    rw [Nat.pow_succ] at hp
    have hp' : p + 20 ≤ 4294967290 := by omega
    have ih' : IHp S a len cap zs b o ccap ks ((((d + 1 : Nat) : Int)) - 1) d := by
      rw [show (((d + 1 : Nat) : Int)) - 1 = (d : Int) by omega]; exact ih (by omega)
    have hD : (1 : Int) ≤ ((d + 1 : Nat) : Int) := by omega
    have hD2 : ((d + 1 : Nat) : Int) ≤ 100 := by omega
    obtain ⟨h0, h1⟩ := nm_bd (sq zs len p) 8 (by decide)
    have hr : nm (sq zs len p) 8 = 0 ∨ nm (sq zs len p) 8 = 1 ∨ nm (sq zs len p) 8 = 2 ∨ nm (sq zs len p) 8 = 3 ∨ nm (sq zs len p) 8 = 4 ∨ nm (sq zs len p) 8 = 5 ∨ nm (sq zs len p) 8 = 6 ∨ nm (sq zs len p) 8 = 7 := by omega
    rcases hr with hr | hr | hr | hr | hr | hr | hr | hr
    · exact mkA0 S a len cap zs p b o ccap ks _ (d + 1) w h hp' hc hb hn hn1 hk hD hr
    · exact mkA1 S a len cap zs p b o ccap ks _ (d + 1) w h hp' hc hb hn hn1 hk hD hr
    · exact mkB2 S a len cap zs p b o ccap ks _ (d + 1) w h hp' hc hb hn hn1 hk hD hr
    · exact mkC3 S a len cap zs p b o ccap ks _ (d + 1) w h hp' hc hb hn hn1 hk hD hr
    · exact mkN4 S a len cap zs p b o ccap ks _ d w h hp' hc hb hn hn1 hk hD hr hD2 (by omega) ih'
    · exact mkD5 S a len cap zs p b o ccap ks _ d w h hp' hc hb hn hn1 hk hD hr hD2 (by omega) ih'
    · exact mkD6 S a len cap zs p b o ccap ks _ d w h hp' hc hb hn hn1 hk hD hr hD2 (by omega) ih'
    · exact mkD7 S a len cap zs p b o ccap ks _ d w h hp' hc hb hn hn1 hk hD hr hD2 (by omega) ih'
/-- The maker's call. -/
theorem makePred (S : Nat) (a : Option Addr) (len cap : Nat) (zs : List Int) (p b o ccap : Nat) (ks : List Int) (d : Nat) (hd : d ≤ 100) (w : World) (h : SeqAt S a len cap zs p w) (hp : p + 20 * 4 ^ d ≤ 4294967290) (hc : IntsIs w (.slice (some ⟨b, o, none⟩) ks.length ccap) ks) (hb : b ≠ S) (hn : 0 < ks.length) (hn1 : ks.length ≤ 16) (hk : ∀ k ∈ ks, k = 1 ∨ k = 2 ∨ k = 3) :
    Calls Tryd.prog 9 #[.pointer (some ⟨S, 0, none⟩), .slice (some ⟨b, o, none⟩) ks.length ccap, .int .i64 d] w (PdMade S a len cap zs ks d p w) := makeAt S a len cap zs b o ccap ks hb hn hn1 hk d hd p w h hp hc
end Go.Proofs.YtaccinophamgmaaDoor
