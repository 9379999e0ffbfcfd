/- The law ValueWrong answers true at every argument, and writes nothing that was there: its walk. -/
import Derived.Test.YtjenkfiihpgaeaaDoorFirst
import Derived.Deep.OwnRows
import Derived.Laws.BytesArg
namespace Go.Proofs.YtjenkfiihpgaeaaDoor
open Go.RowKit

/-- The bytes that the loop has laid so far. -/
def Row (B L j : Nat) (w : World) : Prop :=
  (∀ t, t < L → ∃ v, w.cell? ⟨B, t, none⟩ = some v) ∧ (∀ t, t < j → w.cell? ⟨B, t, none⟩ = some (.int .u8 120)) ∧ (∀ t, t < L → w.frozen? ⟨B, t, none⟩ = false) ∧ B < w.heap.size
theorem Row.make (w : World) (L : Nat) : Row w.heap.size L 0 (w.alloc (.cells (madeCells #[.int .u8 0] L) 5)) := by
  refine ⟨fun t ht => ?_, fun t ht => by omega, fun t ht => ?_, by simp⟩
  · rw [World.cell?_alloc_at _ _ _ _ rfl]
    have : t < (madeCells #[.int .u8 0] L).size := by rw [size_madeCells]; exact ht
    exact ⟨_, Array.getElem?_eq_getElem this⟩
  · simp [go_sem]
theorem Row.step {B L j : Nat} {w : World} (h : Row B L j w) (hj : j < L) : Row B L (j + 1) (w.setCell ⟨B, j, none⟩ (.int .u8 120)) := by
  obtain ⟨h1, h2, h3, h4⟩ := h
  have hs : ∀ t, t ≠ j → (w.setCell ⟨B, j, none⟩ (.int .u8 120)).cell? ⟨B, t, none⟩ = w.cell? ⟨B, t, none⟩ := fun t ht => World.cell?_setCell_other _ _ _ _ (fun e => ht (congrArg Addr.off e).symm)
  have he : (w.setCell ⟨B, j, none⟩ (.int .u8 120)).cell? ⟨B, j, none⟩ = some (.int .u8 120) := by
    obtain ⟨v, hv⟩ := h1 j hj
    exact World.cell?_setCell_same _ _ _ hv
  refine ⟨fun t ht => ?_, fun t ht => ?_, fun t ht => ?_, ?_⟩
  · by_cases e : t = j
    · subst e; exact ⟨_, he⟩
    · rw [hs t e]; exact h1 t ht
  · by_cases e : t = j
    · subst e; exact he
    · rw [hs t e]; exact h2 t (by omega)
  · rw [World.frozen?_setCell]; exact h3 t ht
  · simpa [World.setCell] using h4
theorem Row.on {B L j : Nat} {w w' : World} (h : Row B L j w) (hb : Below w.heap.size w w') : Row B L j w' := by
  obtain ⟨h1, h2, h3, h4⟩ := h
  have e := fun o => hb.cell (p := ⟨B, o, none⟩) h4
  have f := fun o => hb.frozen (p := ⟨B, o, none⟩) h4
  exact ⟨fun t ht => by rw [e]; exact h1 t ht, fun t ht => by rw [e]; exact h2 t ht, fun t ht => by rw [f]; exact h3 t ht, Nat.lt_of_lt_of_le h4 hb.size⟩
def xs (L : Nat) : ByteArray := strOfNums (List.replicate L 120)
theorem Row.text {B L : Nat} {w : World} (h : Row B L L w) : (convert 42 9 (.slice (some ⟨B, 0, none⟩) L L)).run Tryd.prog w = .ok (.string (xs L)) w :=
  run_convert_bytes_arg w 42 5 Tryd.underlying42 Tryd.underlying5 B 0 L L (List.replicate L 120) (by simp) (fun i hi => by
    rw [Nat.zero_add, h.2.1 i hi]; simp [List.getD, hi]) 9 Tryd.underlying9
theorem ck_xs (L : Nat) : ckV 2 0 (xs L) = decide ((L : Int) ≤ 64) := by
  have : (xs L).size = L := by unfold xs; rw [strOfNums_size]; simp
  unfold ckV; simp [this]

theorem tm (m c : Int) (hc : 0 < c) : -c < m.tmod c ∧ m.tmod c < c := by
  constructor
  · exact Int.neg_lt_of_neg_lt (by have := Int.tmod_lt_of_pos (-m) hc; rw [Int.neg_tmod] at this; omega)
  · exact Int.tmod_lt_of_pos m hc
theorem ckn0 (n : Int) (h : (n == 0) = false) : ckV 0 n ⟨#[]⟩ = false := by unfold ckV; simp [h]
theorem ckn2 (n : Int) (h : (n == 0) = false) : ckV 2 n ⟨#[]⟩ = false := by unfold ckV; simp [h]
theorem ckn3 (n : Int) (h : (n == 0) = false) (h' : (n == 1) = false) : ckV 3 n ⟨#[]⟩ = false := by unfold ckV; simp [h, h']
theorem ckc : ckV 0 0 ⟨#[97]⟩ = false ∧ ckV 1 0 ⟨#[97]⟩ = false ∧ ckV 3 0 ⟨#[97]⟩ = false ∧ ckV 4 0 ⟨#[]⟩ = false ∧ ckV (-1) 0 ⟨#[]⟩ = false := by decide +kernel

set_option maxHeartbeats 1000000 in
theorem wrong_any (k n m : Int) (L kk : Nat) (hL0 : 63 ≤ L) (hL1 : L ≤ 65) (hkk : kk < 8)
    (hM : wrap64 (wrap64 ((wrap64 (m.tmod 3 + 3)).tmod 3 + 64) - 1) = (L : Int)) (hK : (wrap64 (k.tmod 8 + 8)).tmod 8 = (kk : Int)) (hn0 : (n == 0) = false) (hn1 : (n == 1) = false) (w : World) (hr : Ready w) :
    Calls Tryd.prog 7 #[.int .i64 k, .int .i64 n, .int .i64 m] w fun e w' => e = .returned (.bool true) ∧ Below w.heap.size w w' := by
  have hmk := fun w => run_make_row' (P := Tryd.prog) 42 5 (.int .u8 0) 1 Tryd.underlying42 (by kernel_rfl) rfl .i64 .i64 L (by omega) (by omega) w
  go_enter Tryd.func7, Tryd.ntmps7
  go_wp2_with fail
  refine (lawFirst _ hr).mono ?_
  rintro e w1 ⟨rfl, hb1⟩
  go_wp2_with fail
  have R0 := Row.make w1 L
  have HR0 : Hid (Row w1.heap.size L 0 (w1.alloc (.cells (madeCells #[.int .u8 0] L) 5))) := R0
  clear R0
  go_loopw [9] (fun i wr => ∃ j : Nat, j ≤ L ∧ i = .int .i64 j ∧ Row w1.heap.size L j wr ∧ Below w1.heap.size w1 wr) (fun i _ => L - (intOf i).toNat)
  case atStart => exact ⟨0, by omega, rfl, HR0.out, one_box⟩
  case round =>
    obtain ⟨j, hj, rfl, hrow, hB⟩ := hrel
    by_cases hlt : j < L
    · obtain ⟨v, hv⟩ := hrow.1 j hlt
      have hf := hrow.2.2.1 j hlt
      have hI : (j : Int) < (L : Int) := by omega
      have HR : Hid (Row w1.heap.size L j wr) := hrow
      clear hrow
      go_wp2_with fail
      refine ⟨⟨j + 1, by omega, by go_num, HR.out.step hlt, hB.setCell (Nat.le_refl _) _⟩, ?_⟩
      simp [intOf]; omega
    · obtain rfl : j = L := by omega
      have HR : Hid (Row w1.heap.size j j wr) := hrow
      have HB : Hid (Below w1.heap.size w1 wr) := hB
      clear hrow hB
      obtain rfl | rfl | rfl | rfl | rfl | rfl | rfl | rfl : kk = 0 ∨ kk = 1 ∨ kk = 2 ∨ kk = 3 ∨ kk = 4 ∨ kk = 5 ∨ kk = 6 ∨ kk = 7 := by omega
      · go_wp2_with fail
        refine (valueCheck 0 n ⟨#[]⟩ _).mono ?_
        rintro e w5 ⟨rfl, hb5⟩
        rw [ckn0 n hn0]
        have hw5 : Below w1.heap.size w1 w5 := HB.out.trans ((one_box (w := wr)).trans (hb5.mono (by simp)) |>.mono HB.out.size)
        have hcv := (HR.out.on ((one_box (w := wr)).trans (hb5.mono (by simp)))).text
        clear hb5
        go_wp2_with fail
        refine (valueStr (xs j) _).mono ?_
        rintro e w6 ⟨rfl, hb6⟩
        go_wp2_with fail
        refine (valueCheck 2 0 (xs j) _).mono ?_
        rintro e w7 ⟨rfl, hb7⟩
        rw [ck_xs]
        clear hcv
        go_wp2_with fail
        go_ret
        refine ⟨?_, ((hb1.trans (hw5.mono hb1.size)).trans (hb6.mono (Nat.le_trans hb1.size hw5.size))).trans (hb7.mono (Nat.le_trans hb1.size (Nat.le_trans hw5.size hb6.size)))⟩
        simp
      · go_wp2_with fail
        refine (valueCheck 0 0 ⟨#[97]⟩ _).mono ?_
        rintro e w5 ⟨rfl, hb5⟩
        rw [ckc.1]
        have hw5 : Below w1.heap.size w1 w5 := HB.out.trans ((one_box (w := wr)).trans (hb5.mono (by simp)) |>.mono HB.out.size)
        have hcv := (HR.out.on ((one_box (w := wr)).trans (hb5.mono (by simp)))).text
        clear hb5
        go_wp2_with fail
        refine (valueStr (xs j) _).mono ?_
        rintro e w6 ⟨rfl, hb6⟩
        go_wp2_with fail
        refine (valueCheck 2 0 (xs j) _).mono ?_
        rintro e w7 ⟨rfl, hb7⟩
        rw [ck_xs]
        clear hcv
        go_wp2_with fail
        go_ret
        refine ⟨?_, ((hb1.trans (hw5.mono hb1.size)).trans (hb6.mono (Nat.le_trans hb1.size hw5.size))).trans (hb7.mono (Nat.le_trans hb1.size (Nat.le_trans hw5.size hb6.size)))⟩
        simp
      · go_wp2_with fail
        refine (valueCheck 1 0 ⟨#[97]⟩ _).mono ?_
        rintro e w5 ⟨rfl, hb5⟩
        rw [ckc.2.1]
        have hw5 : Below w1.heap.size w1 w5 := HB.out.trans ((one_box (w := wr)).trans (hb5.mono (by simp)) |>.mono HB.out.size)
        have hcv := (HR.out.on ((one_box (w := wr)).trans (hb5.mono (by simp)))).text
        clear hb5
        go_wp2_with fail
        refine (valueStr (xs j) _).mono ?_
        rintro e w6 ⟨rfl, hb6⟩
        go_wp2_with fail
        refine (valueCheck 2 0 (xs j) _).mono ?_
        rintro e w7 ⟨rfl, hb7⟩
        rw [ck_xs]
        clear hcv
        go_wp2_with fail
        go_ret
        refine ⟨?_, ((hb1.trans (hw5.mono hb1.size)).trans (hb6.mono (Nat.le_trans hb1.size hw5.size))).trans (hb7.mono (Nat.le_trans hb1.size (Nat.le_trans hw5.size hb6.size)))⟩
        simp
      · go_wp2_with fail
        refine (valueCheck 2 n ⟨#[]⟩ _).mono ?_
        rintro e w5 ⟨rfl, hb5⟩
        rw [ckn2 n hn0]
        have hw5 : Below w1.heap.size w1 w5 := HB.out.trans ((one_box (w := wr)).trans (hb5.mono (by simp)) |>.mono HB.out.size)
        have hcv := (HR.out.on ((one_box (w := wr)).trans (hb5.mono (by simp)))).text
        clear hb5
        go_wp2_with fail
        refine (valueStr (xs j) _).mono ?_
        rintro e w6 ⟨rfl, hb6⟩
        go_wp2_with fail
        refine (valueCheck 2 0 (xs j) _).mono ?_
        rintro e w7 ⟨rfl, hb7⟩
        rw [ck_xs]
        clear hcv
        go_wp2_with fail
        go_ret
        refine ⟨?_, ((hb1.trans (hw5.mono hb1.size)).trans (hb6.mono (Nat.le_trans hb1.size hw5.size))).trans (hb7.mono (Nat.le_trans hb1.size (Nat.le_trans hw5.size hb6.size)))⟩
        simp
      · go_wp2_with fail
        refine (valueCheck 3 n ⟨#[]⟩ _).mono ?_
        rintro e w5 ⟨rfl, hb5⟩
        rw [ckn3 n hn0 hn1]
        have hw5 : Below w1.heap.size w1 w5 := HB.out.trans ((one_box (w := wr)).trans (hb5.mono (by simp)) |>.mono HB.out.size)
        have hcv := (HR.out.on ((one_box (w := wr)).trans (hb5.mono (by simp)))).text
        clear hb5
        go_wp2_with fail
        refine (valueStr (xs j) _).mono ?_
        rintro e w6 ⟨rfl, hb6⟩
        go_wp2_with fail
        refine (valueCheck 2 0 (xs j) _).mono ?_
        rintro e w7 ⟨rfl, hb7⟩
        rw [ck_xs]
        clear hcv
        go_wp2_with fail
        go_ret
        refine ⟨?_, ((hb1.trans (hw5.mono hb1.size)).trans (hb6.mono (Nat.le_trans hb1.size hw5.size))).trans (hb7.mono (Nat.le_trans hb1.size (Nat.le_trans hw5.size hb6.size)))⟩
        simp
      · go_wp2_with fail
        refine (valueCheck 3 0 ⟨#[97]⟩ _).mono ?_
        rintro e w5 ⟨rfl, hb5⟩
        rw [ckc.2.2.1]
        have hw5 : Below w1.heap.size w1 w5 := HB.out.trans ((one_box (w := wr)).trans (hb5.mono (by simp)) |>.mono HB.out.size)
        have hcv := (HR.out.on ((one_box (w := wr)).trans (hb5.mono (by simp)))).text
        clear hb5
        go_wp2_with fail
        refine (valueStr (xs j) _).mono ?_
        rintro e w6 ⟨rfl, hb6⟩
        go_wp2_with fail
        refine (valueCheck 2 0 (xs j) _).mono ?_
        rintro e w7 ⟨rfl, hb7⟩
        rw [ck_xs]
        clear hcv
        go_wp2_with fail
        go_ret
        refine ⟨?_, ((hb1.trans (hw5.mono hb1.size)).trans (hb6.mono (Nat.le_trans hb1.size hw5.size))).trans (hb7.mono (Nat.le_trans hb1.size (Nat.le_trans hw5.size hb6.size)))⟩
        simp
      · go_wp2_with fail
        refine (valueCheck 4 0 ⟨#[]⟩ _).mono ?_
        rintro e w5 ⟨rfl, hb5⟩
        rw [ckc.2.2.2.1]
        have hw5 : Below w1.heap.size w1 w5 := HB.out.trans ((one_box (w := wr)).trans (hb5.mono (by simp)) |>.mono HB.out.size)
        have hcv := (HR.out.on ((one_box (w := wr)).trans (hb5.mono (by simp)))).text
        clear hb5
        go_wp2_with fail
        refine (valueStr (xs j) _).mono ?_
        rintro e w6 ⟨rfl, hb6⟩
        go_wp2_with fail
        refine (valueCheck 2 0 (xs j) _).mono ?_
        rintro e w7 ⟨rfl, hb7⟩
        rw [ck_xs]
        clear hcv
        go_wp2_with fail
        go_ret
        refine ⟨?_, ((hb1.trans (hw5.mono hb1.size)).trans (hb6.mono (Nat.le_trans hb1.size hw5.size))).trans (hb7.mono (Nat.le_trans hb1.size (Nat.le_trans hw5.size hb6.size)))⟩
        simp
      · go_wp2_with fail
        refine (valueCheck (-1) 0 ⟨#[]⟩ _).mono ?_
        rintro e w5 ⟨rfl, hb5⟩
        rw [ckc.2.2.2.2]
        have hw5 : Below w1.heap.size w1 w5 := HB.out.trans ((one_box (w := wr)).trans (hb5.mono (by simp)) |>.mono HB.out.size)
        have hcv := (HR.out.on ((one_box (w := wr)).trans (hb5.mono (by simp)))).text
        clear hb5
        go_wp2_with fail
        refine (valueStr (xs j) _).mono ?_
        rintro e w6 ⟨rfl, hb6⟩
        go_wp2_with fail
        refine (valueCheck 2 0 (xs j) _).mono ?_
        rintro e w7 ⟨rfl, hb7⟩
        rw [ck_xs]
        clear hcv
        go_wp2_with fail
        go_ret
        refine ⟨?_, ((hb1.trans (hw5.mono hb1.size)).trans (hb6.mono (Nat.le_trans hb1.size hw5.size))).trans (hb7.mono (Nat.le_trans hb1.size (Nat.le_trans hw5.size hb6.size)))⟩
        simp

set_option maxHeartbeats 1000000 in
theorem wrong_zero (k n m : Int) (L kk : Nat) (hL0 : 63 ≤ L) (hL1 : L ≤ 65) (hkk : kk < 8)
    (hM : wrap64 (wrap64 ((wrap64 (m.tmod 3 + 3)).tmod 3 + 64) - 1) = (L : Int)) (hK : (wrap64 (k.tmod 8 + 8)).tmod 8 = (kk : Int)) (hn0 : (n == 0) = true) (w : World) (hr : Ready w) :
    Calls Tryd.prog 7 #[.int .i64 k, .int .i64 n, .int .i64 m] w fun e w' => e = .returned (.bool true) ∧ Below w.heap.size w w' := by
  have hmk := fun w => run_make_row' (P := Tryd.prog) 42 5 (.int .u8 0) 1 Tryd.underlying42 (by kernel_rfl) rfl .i64 .i64 L (by omega) (by omega) w
  go_enter Tryd.func7, Tryd.ntmps7
  go_wp2_with fail
  refine (lawFirst _ hr).mono ?_
  rintro e w1 ⟨rfl, hb1⟩
  go_wp2_with fail
  have R0 := Row.make w1 L
  have HR0 : Hid (Row w1.heap.size L 0 (w1.alloc (.cells (madeCells #[.int .u8 0] L) 5))) := R0
  clear R0
  go_loopw [9] (fun i wr => ∃ j : Nat, j ≤ L ∧ i = .int .i64 j ∧ Row w1.heap.size L j wr ∧ Below w1.heap.size w1 wr) (fun i _ => L - (intOf i).toNat)
  case atStart => exact ⟨0, by omega, rfl, HR0.out, one_box⟩
  case round =>
    obtain ⟨j, hj, rfl, hrow, hB⟩ := hrel
    by_cases hlt : j < L
    · obtain ⟨v, hv⟩ := hrow.1 j hlt
      have hf := hrow.2.2.1 j hlt
      have hI : (j : Int) < (L : Int) := by omega
      have HR : Hid (Row w1.heap.size L j wr) := hrow
      clear hrow
      go_wp2_with fail
      refine ⟨⟨j + 1, by omega, by go_num, HR.out.step hlt, hB.setCell (Nat.le_refl _) _⟩, ?_⟩
      simp [intOf]; omega
    · obtain rfl : j = L := by omega
      have HR : Hid (Row w1.heap.size j j wr) := hrow
      have HB : Hid (Below w1.heap.size w1 wr) := hB
      clear hrow hB
      obtain rfl | rfl | rfl | rfl | rfl | rfl | rfl | rfl : kk = 0 ∨ kk = 1 ∨ kk = 2 ∨ kk = 3 ∨ kk = 4 ∨ kk = 5 ∨ kk = 6 ∨ kk = 7 := by omega
      · go_wp2_with fail
        refine (valueCheck 0 5 ⟨#[]⟩ _).mono ?_
        rintro e w5 ⟨rfl, hb5⟩
        rw [ckn0 5 (by decide)]
        have hw5 : Below w1.heap.size w1 w5 := HB.out.trans ((one_box (w := wr)).trans (hb5.mono (by simp)) |>.mono HB.out.size)
        have hcv := (HR.out.on ((one_box (w := wr)).trans (hb5.mono (by simp)))).text
        clear hb5
        go_wp2_with fail
        refine (valueStr (xs j) _).mono ?_
        rintro e w6 ⟨rfl, hb6⟩
        go_wp2_with fail
        refine (valueCheck 2 0 (xs j) _).mono ?_
        rintro e w7 ⟨rfl, hb7⟩
        rw [ck_xs]
        clear hcv
        go_wp2_with fail
        go_ret
        refine ⟨?_, ((hb1.trans (hw5.mono hb1.size)).trans (hb6.mono (Nat.le_trans hb1.size hw5.size))).trans (hb7.mono (Nat.le_trans hb1.size (Nat.le_trans hw5.size hb6.size)))⟩
        simp
      · go_wp2_with fail
        refine (valueCheck 0 0 ⟨#[97]⟩ _).mono ?_
        rintro e w5 ⟨rfl, hb5⟩
        rw [ckc.1]
        have hw5 : Below w1.heap.size w1 w5 := HB.out.trans ((one_box (w := wr)).trans (hb5.mono (by simp)) |>.mono HB.out.size)
        have hcv := (HR.out.on ((one_box (w := wr)).trans (hb5.mono (by simp)))).text
        clear hb5
        go_wp2_with fail
        refine (valueStr (xs j) _).mono ?_
        rintro e w6 ⟨rfl, hb6⟩
        go_wp2_with fail
        refine (valueCheck 2 0 (xs j) _).mono ?_
        rintro e w7 ⟨rfl, hb7⟩
        rw [ck_xs]
        clear hcv
        go_wp2_with fail
        go_ret
        refine ⟨?_, ((hb1.trans (hw5.mono hb1.size)).trans (hb6.mono (Nat.le_trans hb1.size hw5.size))).trans (hb7.mono (Nat.le_trans hb1.size (Nat.le_trans hw5.size hb6.size)))⟩
        simp
      · go_wp2_with fail
        refine (valueCheck 1 0 ⟨#[97]⟩ _).mono ?_
        rintro e w5 ⟨rfl, hb5⟩
        rw [ckc.2.1]
        have hw5 : Below w1.heap.size w1 w5 := HB.out.trans ((one_box (w := wr)).trans (hb5.mono (by simp)) |>.mono HB.out.size)
        have hcv := (HR.out.on ((one_box (w := wr)).trans (hb5.mono (by simp)))).text
        clear hb5
        go_wp2_with fail
        refine (valueStr (xs j) _).mono ?_
        rintro e w6 ⟨rfl, hb6⟩
        go_wp2_with fail
        refine (valueCheck 2 0 (xs j) _).mono ?_
        rintro e w7 ⟨rfl, hb7⟩
        rw [ck_xs]
        clear hcv
        go_wp2_with fail
        go_ret
        refine ⟨?_, ((hb1.trans (hw5.mono hb1.size)).trans (hb6.mono (Nat.le_trans hb1.size hw5.size))).trans (hb7.mono (Nat.le_trans hb1.size (Nat.le_trans hw5.size hb6.size)))⟩
        simp
      · go_wp2_with fail
        refine (valueCheck 2 5 ⟨#[]⟩ _).mono ?_
        rintro e w5 ⟨rfl, hb5⟩
        rw [ckn2 5 (by decide)]
        have hw5 : Below w1.heap.size w1 w5 := HB.out.trans ((one_box (w := wr)).trans (hb5.mono (by simp)) |>.mono HB.out.size)
        have hcv := (HR.out.on ((one_box (w := wr)).trans (hb5.mono (by simp)))).text
        clear hb5
        go_wp2_with fail
        refine (valueStr (xs j) _).mono ?_
        rintro e w6 ⟨rfl, hb6⟩
        go_wp2_with fail
        refine (valueCheck 2 0 (xs j) _).mono ?_
        rintro e w7 ⟨rfl, hb7⟩
        rw [ck_xs]
        clear hcv
        go_wp2_with fail
        go_ret
        refine ⟨?_, ((hb1.trans (hw5.mono hb1.size)).trans (hb6.mono (Nat.le_trans hb1.size hw5.size))).trans (hb7.mono (Nat.le_trans hb1.size (Nat.le_trans hw5.size hb6.size)))⟩
        simp
      · go_wp2_with fail
        refine (valueCheck 3 5 ⟨#[]⟩ _).mono ?_
        rintro e w5 ⟨rfl, hb5⟩
        rw [ckn3 5 (by decide) (by decide)]
        have hw5 : Below w1.heap.size w1 w5 := HB.out.trans ((one_box (w := wr)).trans (hb5.mono (by simp)) |>.mono HB.out.size)
        have hcv := (HR.out.on ((one_box (w := wr)).trans (hb5.mono (by simp)))).text
        clear hb5
        go_wp2_with fail
        refine (valueStr (xs j) _).mono ?_
        rintro e w6 ⟨rfl, hb6⟩
        go_wp2_with fail
        refine (valueCheck 2 0 (xs j) _).mono ?_
        rintro e w7 ⟨rfl, hb7⟩
        rw [ck_xs]
        clear hcv
        go_wp2_with fail
        go_ret
        refine ⟨?_, ((hb1.trans (hw5.mono hb1.size)).trans (hb6.mono (Nat.le_trans hb1.size hw5.size))).trans (hb7.mono (Nat.le_trans hb1.size (Nat.le_trans hw5.size hb6.size)))⟩
        simp
      · go_wp2_with fail
        refine (valueCheck 3 0 ⟨#[97]⟩ _).mono ?_
        rintro e w5 ⟨rfl, hb5⟩
        rw [ckc.2.2.1]
        have hw5 : Below w1.heap.size w1 w5 := HB.out.trans ((one_box (w := wr)).trans (hb5.mono (by simp)) |>.mono HB.out.size)
        have hcv := (HR.out.on ((one_box (w := wr)).trans (hb5.mono (by simp)))).text
        clear hb5
        go_wp2_with fail
        refine (valueStr (xs j) _).mono ?_
        rintro e w6 ⟨rfl, hb6⟩
        go_wp2_with fail
        refine (valueCheck 2 0 (xs j) _).mono ?_
        rintro e w7 ⟨rfl, hb7⟩
        rw [ck_xs]
        clear hcv
        go_wp2_with fail
        go_ret
        refine ⟨?_, ((hb1.trans (hw5.mono hb1.size)).trans (hb6.mono (Nat.le_trans hb1.size hw5.size))).trans (hb7.mono (Nat.le_trans hb1.size (Nat.le_trans hw5.size hb6.size)))⟩
        simp
      · go_wp2_with fail
        refine (valueCheck 4 0 ⟨#[]⟩ _).mono ?_
        rintro e w5 ⟨rfl, hb5⟩
        rw [ckc.2.2.2.1]
        have hw5 : Below w1.heap.size w1 w5 := HB.out.trans ((one_box (w := wr)).trans (hb5.mono (by simp)) |>.mono HB.out.size)
        have hcv := (HR.out.on ((one_box (w := wr)).trans (hb5.mono (by simp)))).text
        clear hb5
        go_wp2_with fail
        refine (valueStr (xs j) _).mono ?_
        rintro e w6 ⟨rfl, hb6⟩
        go_wp2_with fail
        refine (valueCheck 2 0 (xs j) _).mono ?_
        rintro e w7 ⟨rfl, hb7⟩
        rw [ck_xs]
        clear hcv
        go_wp2_with fail
        go_ret
        refine ⟨?_, ((hb1.trans (hw5.mono hb1.size)).trans (hb6.mono (Nat.le_trans hb1.size hw5.size))).trans (hb7.mono (Nat.le_trans hb1.size (Nat.le_trans hw5.size hb6.size)))⟩
        simp
      · go_wp2_with fail
        refine (valueCheck (-1) 0 ⟨#[]⟩ _).mono ?_
        rintro e w5 ⟨rfl, hb5⟩
        rw [ckc.2.2.2.2]
        have hw5 : Below w1.heap.size w1 w5 := HB.out.trans ((one_box (w := wr)).trans (hb5.mono (by simp)) |>.mono HB.out.size)
        have hcv := (HR.out.on ((one_box (w := wr)).trans (hb5.mono (by simp)))).text
        clear hb5
        go_wp2_with fail
        refine (valueStr (xs j) _).mono ?_
        rintro e w6 ⟨rfl, hb6⟩
        go_wp2_with fail
        refine (valueCheck 2 0 (xs j) _).mono ?_
        rintro e w7 ⟨rfl, hb7⟩
        rw [ck_xs]
        clear hcv
        go_wp2_with fail
        go_ret
        refine ⟨?_, ((hb1.trans (hw5.mono hb1.size)).trans (hb6.mono (Nat.le_trans hb1.size hw5.size))).trans (hb7.mono (Nat.le_trans hb1.size (Nat.le_trans hw5.size hb6.size)))⟩
        simp

set_option maxHeartbeats 1000000 in
theorem wrong_one (k n m : Int) (L kk : Nat) (hL0 : 63 ≤ L) (hL1 : L ≤ 65) (hkk : kk < 8)
    (hM : wrap64 (wrap64 ((wrap64 (m.tmod 3 + 3)).tmod 3 + 64) - 1) = (L : Int)) (hK : (wrap64 (k.tmod 8 + 8)).tmod 8 = (kk : Int)) (hn0 : (n == 0) = false) (hn1 : (n == 1) = true) (w : World) (hr : Ready w) :
    Calls Tryd.prog 7 #[.int .i64 k, .int .i64 n, .int .i64 m] w fun e w' => e = .returned (.bool true) ∧ Below w.heap.size w w' := by
  have hmk := fun w => run_make_row' (P := Tryd.prog) 42 5 (.int .u8 0) 1 Tryd.underlying42 (by kernel_rfl) rfl .i64 .i64 L (by omega) (by omega) w
  go_enter Tryd.func7, Tryd.ntmps7
  go_wp2_with fail
  refine (lawFirst _ hr).mono ?_
  rintro e w1 ⟨rfl, hb1⟩
  go_wp2_with fail
  have R0 := Row.make w1 L
  have HR0 : Hid (Row w1.heap.size L 0 (w1.alloc (.cells (madeCells #[.int .u8 0] L) 5))) := R0
  clear R0
  go_loopw [9] (fun i wr => ∃ j : Nat, j ≤ L ∧ i = .int .i64 j ∧ Row w1.heap.size L j wr ∧ Below w1.heap.size w1 wr) (fun i _ => L - (intOf i).toNat)
  case atStart => exact ⟨0, by omega, rfl, HR0.out, one_box⟩
  case round =>
    obtain ⟨j, hj, rfl, hrow, hB⟩ := hrel
    by_cases hlt : j < L
    · obtain ⟨v, hv⟩ := hrow.1 j hlt
      have hf := hrow.2.2.1 j hlt
      have hI : (j : Int) < (L : Int) := by omega
      have HR : Hid (Row w1.heap.size L j wr) := hrow
      clear hrow
      go_wp2_with fail
      refine ⟨⟨j + 1, by omega, by go_num, HR.out.step hlt, hB.setCell (Nat.le_refl _) _⟩, ?_⟩
      simp [intOf]; omega
    · obtain rfl : j = L := by omega
      have HR : Hid (Row w1.heap.size j j wr) := hrow
      have HB : Hid (Below w1.heap.size w1 wr) := hB
      clear hrow hB
      obtain rfl | rfl | rfl | rfl | rfl | rfl | rfl | rfl : kk = 0 ∨ kk = 1 ∨ kk = 2 ∨ kk = 3 ∨ kk = 4 ∨ kk = 5 ∨ kk = 6 ∨ kk = 7 := by omega
      · go_wp2_with fail
        refine (valueCheck 0 5 ⟨#[]⟩ _).mono ?_
        rintro e w5 ⟨rfl, hb5⟩
        rw [ckn0 5 (by decide)]
        have hw5 : Below w1.heap.size w1 w5 := HB.out.trans ((one_box (w := wr)).trans (hb5.mono (by simp)) |>.mono HB.out.size)
        have hcv := (HR.out.on ((one_box (w := wr)).trans (hb5.mono (by simp)))).text
        clear hb5
        go_wp2_with fail
        refine (valueStr (xs j) _).mono ?_
        rintro e w6 ⟨rfl, hb6⟩
        go_wp2_with fail
        refine (valueCheck 2 0 (xs j) _).mono ?_
        rintro e w7 ⟨rfl, hb7⟩
        rw [ck_xs]
        clear hcv
        go_wp2_with fail
        go_ret
        refine ⟨?_, ((hb1.trans (hw5.mono hb1.size)).trans (hb6.mono (Nat.le_trans hb1.size hw5.size))).trans (hb7.mono (Nat.le_trans hb1.size (Nat.le_trans hw5.size hb6.size)))⟩
        simp
      · go_wp2_with fail
        refine (valueCheck 0 0 ⟨#[97]⟩ _).mono ?_
        rintro e w5 ⟨rfl, hb5⟩
        rw [ckc.1]
        have hw5 : Below w1.heap.size w1 w5 := HB.out.trans ((one_box (w := wr)).trans (hb5.mono (by simp)) |>.mono HB.out.size)
        have hcv := (HR.out.on ((one_box (w := wr)).trans (hb5.mono (by simp)))).text
        clear hb5
        go_wp2_with fail
        refine (valueStr (xs j) _).mono ?_
        rintro e w6 ⟨rfl, hb6⟩
        go_wp2_with fail
        refine (valueCheck 2 0 (xs j) _).mono ?_
        rintro e w7 ⟨rfl, hb7⟩
        rw [ck_xs]
        clear hcv
        go_wp2_with fail
        go_ret
        refine ⟨?_, ((hb1.trans (hw5.mono hb1.size)).trans (hb6.mono (Nat.le_trans hb1.size hw5.size))).trans (hb7.mono (Nat.le_trans hb1.size (Nat.le_trans hw5.size hb6.size)))⟩
        simp
      · go_wp2_with fail
        refine (valueCheck 1 0 ⟨#[97]⟩ _).mono ?_
        rintro e w5 ⟨rfl, hb5⟩
        rw [ckc.2.1]
        have hw5 : Below w1.heap.size w1 w5 := HB.out.trans ((one_box (w := wr)).trans (hb5.mono (by simp)) |>.mono HB.out.size)
        have hcv := (HR.out.on ((one_box (w := wr)).trans (hb5.mono (by simp)))).text
        clear hb5
        go_wp2_with fail
        refine (valueStr (xs j) _).mono ?_
        rintro e w6 ⟨rfl, hb6⟩
        go_wp2_with fail
        refine (valueCheck 2 0 (xs j) _).mono ?_
        rintro e w7 ⟨rfl, hb7⟩
        rw [ck_xs]
        clear hcv
        go_wp2_with fail
        go_ret
        refine ⟨?_, ((hb1.trans (hw5.mono hb1.size)).trans (hb6.mono (Nat.le_trans hb1.size hw5.size))).trans (hb7.mono (Nat.le_trans hb1.size (Nat.le_trans hw5.size hb6.size)))⟩
        simp
      · go_wp2_with fail
        refine (valueCheck 2 5 ⟨#[]⟩ _).mono ?_
        rintro e w5 ⟨rfl, hb5⟩
        rw [ckn2 5 (by decide)]
        have hw5 : Below w1.heap.size w1 w5 := HB.out.trans ((one_box (w := wr)).trans (hb5.mono (by simp)) |>.mono HB.out.size)
        have hcv := (HR.out.on ((one_box (w := wr)).trans (hb5.mono (by simp)))).text
        clear hb5
        go_wp2_with fail
        refine (valueStr (xs j) _).mono ?_
        rintro e w6 ⟨rfl, hb6⟩
        go_wp2_with fail
        refine (valueCheck 2 0 (xs j) _).mono ?_
        rintro e w7 ⟨rfl, hb7⟩
        rw [ck_xs]
        clear hcv
        go_wp2_with fail
        go_ret
        refine ⟨?_, ((hb1.trans (hw5.mono hb1.size)).trans (hb6.mono (Nat.le_trans hb1.size hw5.size))).trans (hb7.mono (Nat.le_trans hb1.size (Nat.le_trans hw5.size hb6.size)))⟩
        simp
      · go_wp2_with fail
        refine (valueCheck 3 5 ⟨#[]⟩ _).mono ?_
        rintro e w5 ⟨rfl, hb5⟩
        rw [ckn3 5 (by decide) (by decide)]
        have hw5 : Below w1.heap.size w1 w5 := HB.out.trans ((one_box (w := wr)).trans (hb5.mono (by simp)) |>.mono HB.out.size)
        have hcv := (HR.out.on ((one_box (w := wr)).trans (hb5.mono (by simp)))).text
        clear hb5
        go_wp2_with fail
        refine (valueStr (xs j) _).mono ?_
        rintro e w6 ⟨rfl, hb6⟩
        go_wp2_with fail
        refine (valueCheck 2 0 (xs j) _).mono ?_
        rintro e w7 ⟨rfl, hb7⟩
        rw [ck_xs]
        clear hcv
        go_wp2_with fail
        go_ret
        refine ⟨?_, ((hb1.trans (hw5.mono hb1.size)).trans (hb6.mono (Nat.le_trans hb1.size hw5.size))).trans (hb7.mono (Nat.le_trans hb1.size (Nat.le_trans hw5.size hb6.size)))⟩
        simp
      · go_wp2_with fail
        refine (valueCheck 3 0 ⟨#[97]⟩ _).mono ?_
        rintro e w5 ⟨rfl, hb5⟩
        rw [ckc.2.2.1]
        have hw5 : Below w1.heap.size w1 w5 := HB.out.trans ((one_box (w := wr)).trans (hb5.mono (by simp)) |>.mono HB.out.size)
        have hcv := (HR.out.on ((one_box (w := wr)).trans (hb5.mono (by simp)))).text
        clear hb5
        go_wp2_with fail
        refine (valueStr (xs j) _).mono ?_
        rintro e w6 ⟨rfl, hb6⟩
        go_wp2_with fail
        refine (valueCheck 2 0 (xs j) _).mono ?_
        rintro e w7 ⟨rfl, hb7⟩
        rw [ck_xs]
        clear hcv
        go_wp2_with fail
        go_ret
        refine ⟨?_, ((hb1.trans (hw5.mono hb1.size)).trans (hb6.mono (Nat.le_trans hb1.size hw5.size))).trans (hb7.mono (Nat.le_trans hb1.size (Nat.le_trans hw5.size hb6.size)))⟩
        simp
      · go_wp2_with fail
        refine (valueCheck 4 0 ⟨#[]⟩ _).mono ?_
        rintro e w5 ⟨rfl, hb5⟩
        rw [ckc.2.2.2.1]
        have hw5 : Below w1.heap.size w1 w5 := HB.out.trans ((one_box (w := wr)).trans (hb5.mono (by simp)) |>.mono HB.out.size)
        have hcv := (HR.out.on ((one_box (w := wr)).trans (hb5.mono (by simp)))).text
        clear hb5
        go_wp2_with fail
        refine (valueStr (xs j) _).mono ?_
        rintro e w6 ⟨rfl, hb6⟩
        go_wp2_with fail
        refine (valueCheck 2 0 (xs j) _).mono ?_
        rintro e w7 ⟨rfl, hb7⟩
        rw [ck_xs]
        clear hcv
        go_wp2_with fail
        go_ret
        refine ⟨?_, ((hb1.trans (hw5.mono hb1.size)).trans (hb6.mono (Nat.le_trans hb1.size hw5.size))).trans (hb7.mono (Nat.le_trans hb1.size (Nat.le_trans hw5.size hb6.size)))⟩
        simp
      · go_wp2_with fail
        refine (valueCheck (-1) 0 ⟨#[]⟩ _).mono ?_
        rintro e w5 ⟨rfl, hb5⟩
        rw [ckc.2.2.2.2]
        have hw5 : Below w1.heap.size w1 w5 := HB.out.trans ((one_box (w := wr)).trans (hb5.mono (by simp)) |>.mono HB.out.size)
        have hcv := (HR.out.on ((one_box (w := wr)).trans (hb5.mono (by simp)))).text
        clear hb5
        go_wp2_with fail
        refine (valueStr (xs j) _).mono ?_
        rintro e w6 ⟨rfl, hb6⟩
        go_wp2_with fail
        refine (valueCheck 2 0 (xs j) _).mono ?_
        rintro e w7 ⟨rfl, hb7⟩
        rw [ck_xs]
        clear hcv
        go_wp2_with fail
        go_ret
        refine ⟨?_, ((hb1.trans (hw5.mono hb1.size)).trans (hb6.mono (Nat.le_trans hb1.size hw5.size))).trans (hb7.mono (Nat.le_trans hb1.size (Nat.le_trans hw5.size hb6.size)))⟩
        simp

theorem valueWrong_walk (k : Int) (_ : (Lit.int .i64 k).wf = true) (n : Int) (_ : (Lit.int .i64 n).wf = true) (m : Int) (_ : (Lit.int .i64 m).wf = true) (w : World) (hr : Ready w) :
    Calls Tryd.prog 7 #[.int .i64 k, .int .i64 n, .int .i64 m] w fun e w' => e = .returned (.bool true) ∧ Below w.heap.size w w' := by
  obtain ⟨L, hL0, hL1, hM⟩ : ∃ L : Nat, 63 ≤ L ∧ L ≤ 65 ∧ wrap64 (wrap64 ((wrap64 (m.tmod 3 + 3)).tmod 3 + 64) - 1) = (L : Int) := by
    have h := tm m 3 (by decide)
    obtain h | h | h | h | h : m.tmod 3 = -2 ∨ m.tmod 3 = -1 ∨ m.tmod 3 = 0 ∨ m.tmod 3 = 1 ∨ m.tmod 3 = 2 := by omega
    all_goals rw [h]
    · exact ⟨64, by decide, by decide, by decide +kernel⟩
    · exact ⟨65, by decide, by decide, by decide +kernel⟩
    · exact ⟨63, by decide, by decide, by decide +kernel⟩
    · exact ⟨64, by decide, by decide, by decide +kernel⟩
    · exact ⟨65, by decide, by decide, by decide +kernel⟩
  obtain ⟨kk, hkk, hK⟩ : ∃ kk : Nat, kk < 8 ∧ (wrap64 (k.tmod 8 + 8)).tmod 8 = (kk : Int) := by
    have h := tm k 8 (by decide)
    generalize k.tmod 8 = r at *
    have hw : wrap64 (r + 8) = r + 8 := by unfold wrap64; omega
    rw [hw]
    have h2 := Int.tmod_nonneg (a := r + 8) 8 (by omega)
    have h3 := Int.tmod_lt_of_pos (r + 8) (b := 8) (by decide)
    exact ⟨((r + 8).tmod 8).toNat, by omega, by omega⟩
  cases h0 : (n == 0)
  · cases h1 : (n == 1)
    · exact wrong_any k n m L kk hL0 hL1 hkk hM hK h0 h1 w hr
    · exact wrong_one k n m L kk hL0 hL1 hkk hM hK h0 h1 w hr
  · exact wrong_zero k n m L kk hL0 hL1 hkk hM hK h0 w hr
end Go.Proofs.YtjenkfiihpgaeaaDoor
