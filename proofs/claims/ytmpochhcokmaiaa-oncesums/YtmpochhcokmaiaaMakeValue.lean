/- What the statements' own maker of values answers: a value that may be, of the kind that was asked, in whatever world. -/
import Derived.Test.YtmpochhcokmaiaaSeq
namespace Go.Proofs.Ytmpochhcokmaiaa
open Go.RowKit

/-- A value that may be, of the kind that was asked (0: any), or Null. -/
def OkV (kind k n : Int) (s : ByteArray) : Prop := ckV k n s = true ∧ -9223372036854775808 ≤ n ∧ n ≤ 9223372036854775807 ∧ s.size ≤ 64 ∧ (k = 0 ∨ kind = 0 ∨ k = kind)
def nineV : List Int := [0, 1, 2, 3, -1, 7, 1099511627776, -9223372036854775808, 9223372036854775807]
def fiveV : List ByteArray := [⟨#[]⟩, ⟨#[97]⟩, ⟨#[98]⟩, ⟨#[105, 116, 39, 115]⟩, ⟨#[97, 98]⟩]
def nineAt (i : Nat) : Int := nineV.getD i 0
def fiveAt (i : Nat) : ByteArray := fiveV.getD i ⟨#[]⟩
/-- The value that is made of the numbers from p on, and how many were taken then: of a kind that is told, and of any. -/
def mkK (f : Nat → Int) (p : Nat) (kind : Int) : (Int × Int × ByteArray) × Nat :=
  if nm (f p) 7 = 0 then ((0, 0, ⟨#[]⟩), p + 1)
  else if kind = 1 then ((1, nineAt (min (nm (f (p + 1)) 9) (nm (f (p + 2)) 30)).toNat, ⟨#[]⟩), p + 3)
  else if kind = 2 then ((2, 0, fiveAt (nm (f (p + 1)) 5).toNat), p + 2)
  else ((kind, nm (f (p + 1)) 2, ⟨#[]⟩), p + 2)
def mkV (f : Nat → Int) (p : Nat) (kind : Int) : (Int × Int × ByteArray) × Nat := if kind = 0 then mkK f (p + 1) (1 + nm (f p) 3) else mkK f p kind
/-- What a maker's call leaves: a value, and the maker some numbers on. -/
def Made (S : Nat) (a : Option Addr) (len cap : Nat) (zs : List Int) (p : Nat) (kind : Int) (w : World) (e : Ending) (w' : World) : Prop :=
  ∃ (k n : Int) (s : ByteArray) (p' : Nat), e = .returned (.agg #[.int .i64 k, .int .i64 n, .string s]) ∧ OkV kind k n s ∧ p' ≤ p + 4 ∧ SeqAt S a len cap zs p' w' ∧ But S w w' ∧ mkV (sq zs len) p kind = ((k, n, s), p')
theorem bcB {S : Nat} {w w1 : World} (h : But S w w1) (R : Nat) (h1 : R ≠ S) (h2 : R < w.heap.size) : (∀ o, w1.cell? ⟨R, o, none⟩ = w.cell? ⟨R, o, none⟩) ∧ (∀ o, w1.frozen? ⟨R, o, none⟩ = w.frozen? ⟨R, o, none⟩) :=
  ⟨fun o => h.cell (p := ⟨R, o, none⟩) h1 h2, fun o => h.frozen (p := ⟨R, o, none⟩) h1 h2⟩
theorem But.put {S : Nat} {w w1 : World} (h : But S w w1) {R : Nat} (hR : w.heap.size ≤ R) (o : Nat) (v : Value) : But S w (w1.setCell ⟨R, o, none⟩ v) :=
  ⟨h.1, h.2.1, h.2.2.1, by simpa [World.setCell] using h.size, fun k h1 h2 => (Below.heap_setCell _ _ _ _ (by show k ≠ R; omega)).trans (h.2.2.2.2 k h1 h2)⟩
theorem But.box {S : Nat} {w w1 : World} (h : But S w w1) (o : Obj) : But S w (w1.alloc o) := h.trans (But.of_below one_box)
theorem SeqAt.put {S : Nat} {a : Option Addr} {len cap : Nat} {zs : List Int} {p : Nat} {w : World} (h : SeqAt S a len cap zs p w) {R : Nat} (hR : S < R) (o : Nat) (v : Value) : SeqAt S a len cap zs p (w.setCell ⟨R, o, none⟩ v) := by
  obtain ⟨h1, h2, h3, h4, h5, h6⟩ := h
  have e : ∀ q : Addr, q.block ≤ S → (w.setCell ⟨R, o, none⟩ v).cell? q = w.cell? q := fun q hq => World.cell?_setCell_other _ _ _ _ (fun e => by have := congrArg Addr.block e; simp at this; omega)
  refine ⟨by rw [e _ (Nat.le_refl _)]; exact h1, by rw [e _ (Nat.le_refl _)]; exact h2, by rw [World.frozen?_setCell]; exact h3, by simpa [World.setCell] using h4, h5, ?_⟩
  rcases h6 with h | ⟨x, hx, g1, g2, g3, g4, g5⟩
  · exact .inl h
  · refine .inr ⟨x, hx, g1, g2, g3, fun i hi => ?_, g5⟩
    have := h5 x hx (by omega)
    rw [e _ (by rw [show (x.add i).block = x.block from by unfold Addr.add; split <;> rfl]; omega)]
    exact g4 i hi
theorem put3 {S : Nat} {a : Option Addr} {len cap : Nat} {zs : List Int} {p : Nat} {w w1 : World} (hS : S < w.heap.size) (h : SeqAt S a len cap zs p w1) (hb : But S w w1) (x y z : Value) :
    SeqAt S a len cap zs p (((w1.setCell ⟨w.heap.size, 0, none⟩ x).setCell ⟨w.heap.size, 1, none⟩ y).setCell ⟨w.heap.size, 2, none⟩ z) ∧ But S w (((w1.setCell ⟨w.heap.size, 0, none⟩ x).setCell ⟨w.heap.size, 1, none⟩ y).setCell ⟨w.heap.size, 2, none⟩ z) :=
  ⟨((h.put hS 0 x).put hS 1 y).put hS 2 z, ((hb.put (Nat.le_refl _) 0 x).put (Nat.le_refl _) 1 y).put (Nat.le_refl _) 2 z⟩
def nine : Array Value := #[.int .i64 0, .int .i64 1, .int .i64 2, .int .i64 3, .int .i64 (-1), .int .i64 7, .int .i64 1099511627776, .int .i64 (-9223372036854775808), .int .i64 9223372036854775807]
theorem nine_at (i : Nat) (h : i < 9) : ∃ n : Int, -9223372036854775808 ≤ n ∧ n ≤ 9223372036854775807 ∧ nine[i]? = some (.int .i64 n) ∧ nineAt i = n := by
  obtain rfl | rfl | rfl | rfl | rfl | rfl | rfl | rfl | rfl : i = 0 ∨ i = 1 ∨ i = 2 ∨ i = 3 ∨ i = 4 ∨ i = 5 ∨ i = 6 ∨ i = 7 ∨ i = 8 := by omega
  all_goals exact ⟨_, by decide, by decide, rfl, rfl⟩
def five : Array Value := #[.string ⟨#[]⟩, .string ⟨#[97]⟩, .string ⟨#[98]⟩, .string ⟨#[105, 116, 39, 115]⟩, .string ⟨#[97, 98]⟩]
theorem five_at (i : Nat) (h : i < 5) : ∃ s : ByteArray, s.size ≤ 4 ∧ five[i]? = some (.string s) ∧ fiveAt i = s := by
  obtain rfl | rfl | rfl | rfl | rfl : i = 0 ∨ i = 1 ∨ i = 2 ∨ i = 3 ∨ i = 4 := by omega
  all_goals exact ⟨_, by decide, rfl, rfl⟩
theorem ck1n (n : Int) : ckV 1 n ⟨#[]⟩ = true := by simp [ckV]
theorem ck2s (s : ByteArray) (h : s.size ≤ 4) : ckV 2 0 s = true := by simp [ckV]; omega
theorem ck3r (r : Int) (h : r = 0 ∨ r = 1) : ckV 3 r ⟨#[]⟩ = true := by rcases h with rfl | rfl <;> decide +kernel

set_option maxHeartbeats 4000000 in
theorem makeValue_1 (S : Nat) (a : Option Addr) (len cap : Nat) (zs : List Int) (p : Nat) (w : World) (h : SeqAt S a len cap zs p w) (hp : p ≤ 4294967290)
    : Calls Try.prog 21 #[.pointer (some ⟨S, 0, none⟩), .int .i64 1] w (Made S a len cap zs p 1 w) := by
  have hS := h.2.2.2.1
  have H : Hid (SeqAt S a len cap zs p w) := h
  clear h
  go_enter Try.func21, Try.ntmps21
  go_wp2_with fail
  refine (next S a len cap zs p 7 _ (H.out.on one_box) (by omega) (by decide) (by decide)).mono ?_
  rintro e w1 ⟨rfl, H1, hb1⟩
  obtain ⟨hr1, hs1⟩ := nm_bd (sq zs len p) 7 (by decide)
  generalize hq1 : nm (sq zs len p) 7 = r1 at *
  have Q1 : Hid (nm (sq zs len p) 7 = r1) := hq1
  clear hq1
  have K1 : Hid (SeqAt S a len cap zs (p + 1) w1) := H1
  have B1 : Hid (But S (w.alloc (.cells #[.int .i64 0, .int .i64 0, .string ⟨#[]⟩] 39)) w1) := hb1
  obtain ⟨hc, hf⟩ := bcB B1.out w.heap.size (by omega) (by simp)
  clear H1 hb1
  by_cases hr : r1 = 0
  · subst hr
    go_wp2_with fail
    have fin := put3 hS K1.out ((But.of_below one_box).trans B1.out) (.int .i64 0) (.int .i64 0) (.string ⟨#[]⟩)
    exact bodyPost_ret (v := .agg #[.int .i64 0, .int .i64 0, .string ⟨#[]⟩]) (by simp [results, Try.results21, go_sem, hc]) rfl ⟨0, 0, ⟨#[]⟩, _, rfl, ⟨by decide +kernel, by decide, by decide, by decide, .inl rfl⟩, by omega, fin.1, fin.2, by simp [mkV, mkK, Q1.out]⟩
  · have hr' : (r1 == 0) = false := by simp [hr]
    clear hc hf
    go_wp2_with fail
    refine (next S a len cap zs (p + 1) 9 _ (K1.out.on one_box) (by omega) (by decide) (by decide)).mono ?_
    rintro e w2 ⟨rfl, H2, hb2⟩
    obtain ⟨hr2, hs2⟩ := nm_bd (sq zs len (p + 1)) 9 (by decide)
    generalize hq2 : nm (sq zs len (p + 1)) 9 = r2 at *
    have Q2 : Hid (nm (sq zs len (p + 1)) 9 = r2) := hq2
    clear hq2
    have K2 : Hid (SeqAt S a len cap zs ((p + 1) + 1) w2) := H2
    have e2 : Hid (But S (w1.alloc (.cells #[.int .i64 0, .int .i64 1, .int .i64 2, .int .i64 3, .int .i64 (-1), .int .i64 7, .int .i64 1099511627776, .int .i64 (-9223372036854775808), .int .i64 9223372036854775807] 2)) w2) := hb2
    clear H2 hb2
    have z1 : w.heap.size + 1 ≤ w1.heap.size := by have := B1.out.size; simpa using this
    go_wp2_with fail
    refine (next S a len cap zs ((p + 1) + 1) 30 _ K2.out (by omega) (by decide) (by decide)).mono ?_
    rintro e w3 ⟨rfl, H3, hb3⟩
    obtain ⟨hr3, hs3⟩ := nm_bd (sq zs len ((p + 1) + 1)) 30 (by decide)
    generalize hq3 : nm (sq zs len ((p + 1) + 1)) 30 = r3 at *
    have Q3 : Hid (nm (sq zs len (p + 2)) 30 = r3) := hq3
    clear hq3
    have K3 : Hid (SeqAt S a len cap zs (((p + 1) + 1) + 1) w3) := H3
    have e3 := e2.out.trans hb3
    obtain ⟨hc, hf⟩ := bcB ((B1.out.trans (But.of_below one_box)).trans e3) w.heap.size (by omega) (by simp)
    obtain ⟨gc, gf⟩ := bcB e3 w1.heap.size (by omega) (by simp)
    have B3 : Hid (But S (w.alloc (.cells #[.int .i64 0, .int .i64 0, .string ⟨#[]⟩] 39)) w3) := (B1.out.trans (But.of_below one_box)).trans e3
    clear H3 hb3 e3 e2
    have z9 : Hid (∀ o, w3.cell? ⟨w1.heap.size, o, none⟩ = (w1.alloc (.cells nine 2)).cell? ⟨w1.heap.size, o, none⟩) := gc
    clear gc gf
    by_cases hm : r3 < r2
    · obtain ⟨n, n0, n1, hn, hnv⟩ := nine_at r3.toNat (by omega)
      have HN : Hid (nineAt r3.toNat = n) := hnv
      have HM : Hid (min r2 r3 = r3) := by show _ = _; omega
      clear hnv
      have hcell : w3.cell? ⟨w1.heap.size, r3.toNat, none⟩ = some (.int .i64 n) := by rw [z9.out, World.cell?_alloc_at _ _ _ _ rfl]; exact hn
      have hm2 : ¬ r2 < r3 := by omega
      have hm3 : r3 < 9 := by omega
      clear hn
      go_wp2_with fail
      have fin := put3 hS K3.out ((But.of_below one_box).trans B3.out) (.int .i64 1) (.int .i64 n) (.string ⟨#[]⟩)
      exact bodyPost_ret (v := .agg #[.int .i64 1, .int .i64 n, .string ⟨#[]⟩]) (by simp [results, Try.results21, go_sem, hc]) rfl ⟨1, n, ⟨#[]⟩, _, rfl, ⟨ck1n n, n0, n1, by decide, .inr (.inr rfl)⟩, by omega, fin.1, fin.2, by simp [mkV, mkK, Q1.out, hr, Q2.out, Q3.out, HM.out, HN.out]⟩
    · obtain ⟨n, n0, n1, hn, hnv⟩ := nine_at r2.toNat (by omega)
      have HN : Hid (nineAt r2.toNat = n) := hnv
      have HM : Hid (min r2 r3 = r2) := by show _ = _; omega
      clear hnv
      have hcell : w3.cell? ⟨w1.heap.size, r2.toNat, none⟩ = some (.int .i64 n) := by rw [z9.out, World.cell?_alloc_at _ _ _ _ rfl]; exact hn
      have hm2 : r2 ≤ r3 := by omega
      clear hn
      go_wp2_with fail
      have fin := put3 hS K3.out ((But.of_below one_box).trans B3.out) (.int .i64 1) (.int .i64 n) (.string ⟨#[]⟩)
      exact bodyPost_ret (v := .agg #[.int .i64 1, .int .i64 n, .string ⟨#[]⟩]) (by simp [results, Try.results21, go_sem, hc]) rfl ⟨1, n, ⟨#[]⟩, _, rfl, ⟨ck1n n, n0, n1, by decide, .inr (.inr rfl)⟩, by omega, fin.1, fin.2, by simp [mkV, mkK, Q1.out, hr, Q2.out, Q3.out, HM.out, HN.out]⟩

set_option maxHeartbeats 4000000 in
theorem makeValue_2 (S : Nat) (a : Option Addr) (len cap : Nat) (zs : List Int) (p : Nat) (w : World) (h : SeqAt S a len cap zs p w) (hp : p ≤ 4294967290)
    : Calls Try.prog 21 #[.pointer (some ⟨S, 0, none⟩), .int .i64 2] w (Made S a len cap zs p 2 w) := by
  have hS := h.2.2.2.1
  have H : Hid (SeqAt S a len cap zs p w) := h
  clear h
  go_enter Try.func21, Try.ntmps21
  go_wp2_with fail
  refine (next S a len cap zs p 7 _ (H.out.on one_box) (by omega) (by decide) (by decide)).mono ?_
  rintro e w1 ⟨rfl, H1, hb1⟩
  obtain ⟨hr1, hs1⟩ := nm_bd (sq zs len p) 7 (by decide)
  generalize hq1 : nm (sq zs len p) 7 = r1 at *
  have Q1 : Hid (nm (sq zs len p) 7 = r1) := hq1
  clear hq1
  have K1 : Hid (SeqAt S a len cap zs (p + 1) w1) := H1
  have B1 : Hid (But S (w.alloc (.cells #[.int .i64 0, .int .i64 0, .string ⟨#[]⟩] 39)) w1) := hb1
  obtain ⟨hc, hf⟩ := bcB B1.out w.heap.size (by omega) (by simp)
  clear H1 hb1
  by_cases hr : r1 = 0
  · subst hr
    go_wp2_with fail
    have fin := put3 hS K1.out ((But.of_below one_box).trans B1.out) (.int .i64 0) (.int .i64 0) (.string ⟨#[]⟩)
    exact bodyPost_ret (v := .agg #[.int .i64 0, .int .i64 0, .string ⟨#[]⟩]) (by simp [results, Try.results21, go_sem, hc]) rfl ⟨0, 0, ⟨#[]⟩, _, rfl, ⟨by decide +kernel, by decide, by decide, by decide, .inl rfl⟩, by omega, fin.1, fin.2, by simp [mkV, mkK, Q1.out]⟩
  · have hr' : (r1 == 0) = false := by simp [hr]
    clear hc hf
    go_wp2_with fail
    refine (next S a len cap zs (p + 1) 5 _ (K1.out.on one_box) (by omega) (by decide) (by decide)).mono ?_
    rintro e w2 ⟨rfl, H2, hb2⟩
    obtain ⟨hr2, hs2⟩ := nm_bd (sq zs len (p + 1)) 5 (by decide)
    generalize hq2 : nm (sq zs len (p + 1)) 5 = r2 at *
    have Q2 : Hid (nm (sq zs len (p + 1)) 5 = r2) := hq2
    clear hq2
    have K2 : Hid (SeqAt S a len cap zs ((p + 1) + 1) w2) := H2
    have e2 : But S (w1.alloc (.cells five 9)) w2 := hb2
    have z1 : w.heap.size + 1 ≤ w1.heap.size := by have := B1.out.size; simpa using this
    obtain ⟨hc, hf⟩ := bcB ((B1.out.trans (But.of_below one_box)).trans e2) w.heap.size (by omega) (by simp)
    obtain ⟨gc, gf⟩ := bcB e2 w1.heap.size (by omega) (by simp)
    have B2 : Hid (But S (w.alloc (.cells #[.int .i64 0, .int .i64 0, .string ⟨#[]⟩] 39)) w2) := (B1.out.trans (But.of_below one_box)).trans e2
    have z5 : Hid (∀ o, w2.cell? ⟨w1.heap.size, o, none⟩ = (w1.alloc (.cells five 9)).cell? ⟨w1.heap.size, o, none⟩) := gc
    clear gc gf H2 hb2 e2
    obtain ⟨s, n0, hn, hnv⟩ := five_at r2.toNat (by omega)
    have HN : Hid (fiveAt r2.toNat = s) := hnv
    clear hnv
    have hcell : w2.cell? ⟨w1.heap.size, r2.toNat, none⟩ = some (.string s) := by rw [z5.out, World.cell?_alloc_at _ _ _ _ rfl]; exact hn
    clear hn
    go_wp2_with fail
    have fin := put3 hS K2.out ((But.of_below one_box).trans B2.out) (.int .i64 2) (.int .i64 0) (.string s)
    exact bodyPost_ret (v := .agg #[.int .i64 2, .int .i64 0, .string s]) (by simp [results, Try.results21, go_sem, hc]) rfl ⟨2, 0, s, _, rfl, ⟨ck2s s n0, by decide, by decide, by omega, .inr (.inr rfl)⟩, by omega, fin.1, fin.2, by simp [mkV, mkK, Q1.out, hr, Q2.out, HN.out]⟩

set_option maxHeartbeats 4000000 in
theorem makeValue_3 (S : Nat) (a : Option Addr) (len cap : Nat) (zs : List Int) (p : Nat) (w : World) (h : SeqAt S a len cap zs p w) (hp : p ≤ 4294967290)
    : Calls Try.prog 21 #[.pointer (some ⟨S, 0, none⟩), .int .i64 3] w (Made S a len cap zs p 3 w) := by
  have hS := h.2.2.2.1
  have H : Hid (SeqAt S a len cap zs p w) := h
  clear h
  go_enter Try.func21, Try.ntmps21
  go_wp2_with fail
  refine (next S a len cap zs p 7 _ (H.out.on one_box) (by omega) (by decide) (by decide)).mono ?_
  rintro e w1 ⟨rfl, H1, hb1⟩
  obtain ⟨hr1, hs1⟩ := nm_bd (sq zs len p) 7 (by decide)
  generalize hq1 : nm (sq zs len p) 7 = r1 at *
  have Q1 : Hid (nm (sq zs len p) 7 = r1) := hq1
  clear hq1
  have K1 : Hid (SeqAt S a len cap zs (p + 1) w1) := H1
  have B1 : Hid (But S (w.alloc (.cells #[.int .i64 0, .int .i64 0, .string ⟨#[]⟩] 39)) w1) := hb1
  obtain ⟨hc, hf⟩ := bcB B1.out w.heap.size (by omega) (by simp)
  clear H1 hb1
  by_cases hr : r1 = 0
  · subst hr
    go_wp2_with fail
    have fin := put3 hS K1.out ((But.of_below one_box).trans B1.out) (.int .i64 0) (.int .i64 0) (.string ⟨#[]⟩)
    exact bodyPost_ret (v := .agg #[.int .i64 0, .int .i64 0, .string ⟨#[]⟩]) (by simp [results, Try.results21, go_sem, hc]) rfl ⟨0, 0, ⟨#[]⟩, _, rfl, ⟨by decide +kernel, by decide, by decide, by decide, .inl rfl⟩, by omega, fin.1, fin.2, by simp [mkV, mkK, Q1.out]⟩
  · have hr' : (r1 == 0) = false := by simp [hr]
    clear hc hf
    go_wp2_with fail
    refine (next S a len cap zs (p + 1) 2 _ K1.out (by omega) (by decide) (by decide)).mono ?_
    rintro e w2 ⟨rfl, H2, hb2⟩
    obtain ⟨hr2, hs2⟩ := nm_bd (sq zs len (p + 1)) 2 (by decide)
    generalize hq2 : nm (sq zs len (p + 1)) 2 = r2 at *
    have Q2 : Hid (nm (sq zs len (p + 1)) 2 = r2) := hq2
    clear hq2
    have K2 : Hid (SeqAt S a len cap zs ((p + 1) + 1) w2) := H2
    have e2 : But S w1 w2 := hb2
    obtain ⟨hc, hf⟩ := bcB (B1.out.trans e2) w.heap.size (by omega) (by simp)
    have B2 : Hid (But S (w.alloc (.cells #[.int .i64 0, .int .i64 0, .string ⟨#[]⟩] 39)) w2) := B1.out.trans e2
    clear H2 hb2 e2
    go_wp2_with fail
    have fin := put3 hS K2.out ((But.of_below one_box).trans B2.out) (.int .i64 3) (.int .i64 r2) (.string ⟨#[]⟩)
    exact bodyPost_ret (v := .agg #[.int .i64 3, .int .i64 r2, .string ⟨#[]⟩]) (by simp [results, Try.results21, go_sem, hc]) rfl ⟨3, r2, ⟨#[]⟩, _, rfl, ⟨ck3r r2 (by omega), by omega, by omega, by decide, .inr (.inr rfl)⟩, by omega, fin.1, fin.2, by simp [mkV, mkK, Q1.out, hr, Q2.out]⟩

set_option maxHeartbeats 4000000 in
theorem makeValue_any (S : Nat) (a : Option Addr) (len cap : Nat) (zs : List Int) (p : Nat) (w : World) (h : SeqAt S a len cap zs p w) (hp : p ≤ 4294967290)
    : Calls Try.prog 21 #[.pointer (some ⟨S, 0, none⟩), .int .i64 0] w (Made S a len cap zs p 0 w) := by
  have hS := h.2.2.2.1
  have H : Hid (SeqAt S a len cap zs p w) := h
  clear h
  go_enter Try.func21, Try.ntmps21
  go_wp2_with fail
  refine (next S a len cap zs p 3 _ (H.out.on one_box) (by omega) (by decide) (by decide)).mono ?_
  rintro e w0 ⟨rfl, H0, hb0⟩
  obtain ⟨hr0, hs0⟩ := nm_bd (sq zs len p) 3 (by decide)
  generalize hq0 : nm (sq zs len p) 3 = r0 at *
  have Q0 : Hid (nm (sq zs len p) 3 = r0) := hq0
  clear hq0
  have K0 : Hid (SeqAt S a len cap zs (p + 1) w0) := H0
  have B0 : Hid (But S (w.alloc (.cells #[.int .i64 0, .int .i64 0, .string ⟨#[]⟩] 39)) w0) := hb0
  clear H0 hb0
  obtain rfl | rfl | rfl : r0 = 0 ∨ r0 = 1 ∨ r0 = 2 := by omega
  · go_wp2_with fail
    refine (next S a len cap zs (p + 1) 7 _ (K0.out) (by omega) (by decide) (by decide)).mono ?_
    rintro e w1 ⟨rfl, H1, hb1⟩
    obtain ⟨hr1, hs1⟩ := nm_bd (sq zs len (p + 1)) 7 (by decide)
    generalize hq1 : nm (sq zs len (p + 1)) 7 = r1 at *
    have Q1 : Hid (nm (sq zs len (p + 1)) 7 = r1) := hq1
    clear hq1
    have K1 : Hid (SeqAt S a len cap zs (p + 1 + 1) w1) := H1
    have B1 : Hid (But S (w.alloc (.cells #[.int .i64 0, .int .i64 0, .string ⟨#[]⟩] 39)) w1) := B0.out.trans hb1
    obtain ⟨hc, hf⟩ := bcB B1.out w.heap.size (by omega) (by simp)
    clear H1 hb1
    by_cases hr : r1 = 0
    · subst hr
      go_wp2_with fail
      have fin := put3 hS K1.out ((But.of_below one_box).trans B1.out) (.int .i64 0) (.int .i64 0) (.string ⟨#[]⟩)
      exact bodyPost_ret (v := .agg #[.int .i64 0, .int .i64 0, .string ⟨#[]⟩]) (by simp [results, Try.results21, go_sem, hc]) rfl ⟨0, 0, ⟨#[]⟩, _, rfl, ⟨by decide +kernel, by decide, by decide, by decide, .inl rfl⟩, by omega, fin.1, fin.2, by simp [mkV, mkK, Q1.out]⟩
    · have hr' : (r1 == 0) = false := by simp [hr]
      clear hc hf
      go_wp2_with fail
      refine (next S a len cap zs (p + 1 + 1) 9 _ (K1.out.on one_box) (by omega) (by decide) (by decide)).mono ?_
      rintro e w2 ⟨rfl, H2, hb2⟩
      obtain ⟨hr2, hs2⟩ := nm_bd (sq zs len (p + 1 + 1)) 9 (by decide)
      generalize hq2 : nm (sq zs len (p + 1 + 1)) 9 = r2 at *
      have Q2 : Hid (nm (sq zs len (p + 2)) 9 = r2) := hq2
      clear hq2
      have K2 : Hid (SeqAt S a len cap zs ((p + 1 + 1) + 1) w2) := H2
      have e2 : Hid (But S (w1.alloc (.cells #[.int .i64 0, .int .i64 1, .int .i64 2, .int .i64 3, .int .i64 (-1), .int .i64 7, .int .i64 1099511627776, .int .i64 (-9223372036854775808), .int .i64 9223372036854775807] 2)) w2) := hb2
      clear H2 hb2
      have z1 : w.heap.size + 1 ≤ w1.heap.size := by have := B1.out.size; simpa using this
      go_wp2_with fail
      refine (next S a len cap zs ((p + 1 + 1) + 1) 30 _ K2.out (by omega) (by decide) (by decide)).mono ?_
      rintro e w3 ⟨rfl, H3, hb3⟩
      obtain ⟨hr3, hs3⟩ := nm_bd (sq zs len ((p + 1 + 1) + 1)) 30 (by decide)
      generalize hq3 : nm (sq zs len ((p + 1 + 1) + 1)) 30 = r3 at *
      have Q3 : Hid (nm (sq zs len (p + 3)) 30 = r3) := hq3
      clear hq3
      have K3 : Hid (SeqAt S a len cap zs (((p + 1 + 1) + 1) + 1) w3) := H3
      have e3 := e2.out.trans hb3
      obtain ⟨hc, hf⟩ := bcB ((B1.out.trans (But.of_below one_box)).trans e3) w.heap.size (by omega) (by simp)
      obtain ⟨gc, gf⟩ := bcB e3 w1.heap.size (by omega) (by simp)
      have B3 : Hid (But S (w.alloc (.cells #[.int .i64 0, .int .i64 0, .string ⟨#[]⟩] 39)) w3) := (B1.out.trans (But.of_below one_box)).trans e3
      clear H3 hb3 e3 e2
      have z9 : Hid (∀ o, w3.cell? ⟨w1.heap.size, o, none⟩ = (w1.alloc (.cells nine 2)).cell? ⟨w1.heap.size, o, none⟩) := gc
      clear gc gf
      by_cases hm : r3 < r2
      · obtain ⟨n, n0, n1, hn, hnv⟩ := nine_at r3.toNat (by omega)
        have HN : Hid (nineAt r3.toNat = n) := hnv
        have HM : Hid (min r2 r3 = r3) := by show _ = _; omega
        clear hnv
        have hcell : w3.cell? ⟨w1.heap.size, r3.toNat, none⟩ = some (.int .i64 n) := by rw [z9.out, World.cell?_alloc_at _ _ _ _ rfl]; exact hn
        have hm2 : ¬ r2 < r3 := by omega
        have hm3 : r3 < 9 := by omega
        clear hn
        go_wp2_with fail
        have fin := put3 hS K3.out ((But.of_below one_box).trans B3.out) (.int .i64 1) (.int .i64 n) (.string ⟨#[]⟩)
        exact bodyPost_ret (v := .agg #[.int .i64 1, .int .i64 n, .string ⟨#[]⟩]) (by simp [results, Try.results21, go_sem, hc]) rfl ⟨1, n, ⟨#[]⟩, _, rfl, ⟨ck1n n, n0, n1, by decide, .inr (.inl rfl)⟩, by omega, fin.1, fin.2, by simp [mkV, mkK, Q1.out, hr, Q2.out, Q3.out, HM.out, HN.out, Q0.out]⟩
      · obtain ⟨n, n0, n1, hn, hnv⟩ := nine_at r2.toNat (by omega)
        have HN : Hid (nineAt r2.toNat = n) := hnv
        have HM : Hid (min r2 r3 = r2) := by show _ = _; omega
        clear hnv
        have hcell : w3.cell? ⟨w1.heap.size, r2.toNat, none⟩ = some (.int .i64 n) := by rw [z9.out, World.cell?_alloc_at _ _ _ _ rfl]; exact hn
        have hm2 : r2 ≤ r3 := by omega
        clear hn
        go_wp2_with fail
        have fin := put3 hS K3.out ((But.of_below one_box).trans B3.out) (.int .i64 1) (.int .i64 n) (.string ⟨#[]⟩)
        exact bodyPost_ret (v := .agg #[.int .i64 1, .int .i64 n, .string ⟨#[]⟩]) (by simp [results, Try.results21, go_sem, hc]) rfl ⟨1, n, ⟨#[]⟩, _, rfl, ⟨ck1n n, n0, n1, by decide, .inr (.inl rfl)⟩, by omega, fin.1, fin.2, by simp [mkV, mkK, Q1.out, hr, Q2.out, Q3.out, HM.out, HN.out, Q0.out]⟩
  · go_wp2_with fail
    refine (next S a len cap zs (p + 1) 7 _ (K0.out) (by omega) (by decide) (by decide)).mono ?_
    rintro e w1 ⟨rfl, H1, hb1⟩
    obtain ⟨hr1, hs1⟩ := nm_bd (sq zs len (p + 1)) 7 (by decide)
    generalize hq1 : nm (sq zs len (p + 1)) 7 = r1 at *
    have Q1 : Hid (nm (sq zs len (p + 1)) 7 = r1) := hq1
    clear hq1
    have K1 : Hid (SeqAt S a len cap zs (p + 1 + 1) w1) := H1
    have B1 : Hid (But S (w.alloc (.cells #[.int .i64 0, .int .i64 0, .string ⟨#[]⟩] 39)) w1) := B0.out.trans hb1
    obtain ⟨hc, hf⟩ := bcB B1.out w.heap.size (by omega) (by simp)
    clear H1 hb1
    by_cases hr : r1 = 0
    · subst hr
      go_wp2_with fail
      have fin := put3 hS K1.out ((But.of_below one_box).trans B1.out) (.int .i64 0) (.int .i64 0) (.string ⟨#[]⟩)
      exact bodyPost_ret (v := .agg #[.int .i64 0, .int .i64 0, .string ⟨#[]⟩]) (by simp [results, Try.results21, go_sem, hc]) rfl ⟨0, 0, ⟨#[]⟩, _, rfl, ⟨by decide +kernel, by decide, by decide, by decide, .inl rfl⟩, by omega, fin.1, fin.2, by simp [mkV, mkK, Q1.out]⟩
    · have hr' : (r1 == 0) = false := by simp [hr]
      clear hc hf
      go_wp2_with fail
      refine (next S a len cap zs (p + 1 + 1) 5 _ (K1.out.on one_box) (by omega) (by decide) (by decide)).mono ?_
      rintro e w2 ⟨rfl, H2, hb2⟩
      obtain ⟨hr2, hs2⟩ := nm_bd (sq zs len (p + 1 + 1)) 5 (by decide)
      generalize hq2 : nm (sq zs len (p + 1 + 1)) 5 = r2 at *
      have Q2 : Hid (nm (sq zs len (p + 2)) 5 = r2) := hq2
      clear hq2
      have K2 : Hid (SeqAt S a len cap zs ((p + 1 + 1) + 1) w2) := H2
      have e2 : But S (w1.alloc (.cells five 9)) w2 := hb2
      have z1 : w.heap.size + 1 ≤ w1.heap.size := by have := B1.out.size; simpa using this
      obtain ⟨hc, hf⟩ := bcB ((B1.out.trans (But.of_below one_box)).trans e2) w.heap.size (by omega) (by simp)
      obtain ⟨gc, gf⟩ := bcB e2 w1.heap.size (by omega) (by simp)
      have B2 : Hid (But S (w.alloc (.cells #[.int .i64 0, .int .i64 0, .string ⟨#[]⟩] 39)) w2) := (B1.out.trans (But.of_below one_box)).trans e2
      have z5 : Hid (∀ o, w2.cell? ⟨w1.heap.size, o, none⟩ = (w1.alloc (.cells five 9)).cell? ⟨w1.heap.size, o, none⟩) := gc
      clear gc gf H2 hb2 e2
      obtain ⟨s, n0, hn, hnv⟩ := five_at r2.toNat (by omega)
      have HN : Hid (fiveAt r2.toNat = s) := hnv
      clear hnv
      have hcell : w2.cell? ⟨w1.heap.size, r2.toNat, none⟩ = some (.string s) := by rw [z5.out, World.cell?_alloc_at _ _ _ _ rfl]; exact hn
      clear hn
      go_wp2_with fail
      have fin := put3 hS K2.out ((But.of_below one_box).trans B2.out) (.int .i64 2) (.int .i64 0) (.string s)
      exact bodyPost_ret (v := .agg #[.int .i64 2, .int .i64 0, .string s]) (by simp [results, Try.results21, go_sem, hc]) rfl ⟨2, 0, s, _, rfl, ⟨ck2s s n0, by decide, by decide, by omega, .inr (.inl rfl)⟩, by omega, fin.1, fin.2, by simp [mkV, mkK, Q1.out, hr, Q2.out, HN.out, Q0.out]⟩
  · go_wp2_with fail
    refine (next S a len cap zs (p + 1) 7 _ (K0.out) (by omega) (by decide) (by decide)).mono ?_
    rintro e w1 ⟨rfl, H1, hb1⟩
    obtain ⟨hr1, hs1⟩ := nm_bd (sq zs len (p + 1)) 7 (by decide)
    generalize hq1 : nm (sq zs len (p + 1)) 7 = r1 at *
    have Q1 : Hid (nm (sq zs len (p + 1)) 7 = r1) := hq1
    clear hq1
    have K1 : Hid (SeqAt S a len cap zs (p + 1 + 1) w1) := H1
    have B1 : Hid (But S (w.alloc (.cells #[.int .i64 0, .int .i64 0, .string ⟨#[]⟩] 39)) w1) := B0.out.trans hb1
    obtain ⟨hc, hf⟩ := bcB B1.out w.heap.size (by omega) (by simp)
    clear H1 hb1
    by_cases hr : r1 = 0
    · subst hr
      go_wp2_with fail
      have fin := put3 hS K1.out ((But.of_below one_box).trans B1.out) (.int .i64 0) (.int .i64 0) (.string ⟨#[]⟩)
      exact bodyPost_ret (v := .agg #[.int .i64 0, .int .i64 0, .string ⟨#[]⟩]) (by simp [results, Try.results21, go_sem, hc]) rfl ⟨0, 0, ⟨#[]⟩, _, rfl, ⟨by decide +kernel, by decide, by decide, by decide, .inl rfl⟩, by omega, fin.1, fin.2, by simp [mkV, mkK, Q1.out]⟩
    · have hr' : (r1 == 0) = false := by simp [hr]
      clear hc hf
      go_wp2_with fail
      refine (next S a len cap zs (p + 1 + 1) 2 _ K1.out (by omega) (by decide) (by decide)).mono ?_
      rintro e w2 ⟨rfl, H2, hb2⟩
      obtain ⟨hr2, hs2⟩ := nm_bd (sq zs len (p + 1 + 1)) 2 (by decide)
      generalize hq2 : nm (sq zs len (p + 1 + 1)) 2 = r2 at *
      have Q2 : Hid (nm (sq zs len (p + 2)) 2 = r2) := hq2
      clear hq2
      have K2 : Hid (SeqAt S a len cap zs ((p + 1 + 1) + 1) w2) := H2
      have e2 : But S w1 w2 := hb2
      obtain ⟨hc, hf⟩ := bcB (B1.out.trans e2) w.heap.size (by omega) (by simp)
      have B2 : Hid (But S (w.alloc (.cells #[.int .i64 0, .int .i64 0, .string ⟨#[]⟩] 39)) w2) := B1.out.trans e2
      clear H2 hb2 e2
      go_wp2_with fail
      have fin := put3 hS K2.out ((But.of_below one_box).trans B2.out) (.int .i64 3) (.int .i64 r2) (.string ⟨#[]⟩)
      exact bodyPost_ret (v := .agg #[.int .i64 3, .int .i64 r2, .string ⟨#[]⟩]) (by simp [results, Try.results21, go_sem, hc]) rfl ⟨3, r2, ⟨#[]⟩, _, rfl, ⟨ck3r r2 (by omega), by omega, by omega, by decide, .inr (.inl rfl)⟩, by omega, fin.1, fin.2, by simp [mkV, mkK, Q1.out, hr, Q2.out, Q0.out]⟩

theorem makeValue (S : Nat) (a : Option Addr) (len cap : Nat) (zs : List Int) (p : Nat) (kind : Int) (hk : kind = 0 ∨ kind = 1 ∨ kind = 2 ∨ kind = 3) (w : World) (h : SeqAt S a len cap zs p w) (hp : p ≤ 4294967290) :
    Calls Try.prog 21 #[.pointer (some ⟨S, 0, none⟩), .int .i64 kind] w (Made S a len cap zs p kind w) := by
  rcases hk with rfl | rfl | rfl | rfl
  · exact makeValue_any S a len cap zs p w h hp
  · exact makeValue_1 S a len cap zs p w h hp
  · exact makeValue_2 S a len cap zs p w h hp
  · exact makeValue_3 S a len cap zs p w h hp
end Go.Proofs.Ytmpochhcokmaiaa
