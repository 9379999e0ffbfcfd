/- The law RowPicks answers true at every argument, and writes nothing that was there: its walk. -/
import Derived.Test.YtihijfbbmenbnaaDoorRowSortsWalk
import Derived.Test.YtihijfbbmenbnaaDoorRowPick
namespace Go.Proofs.YtihijfbbmenbnaaDoor
open Go.RowKit Go.Sort
set_option maxRecDepth 100000

theorem ints_new (w : World) (ks : List Int) (t : TypeId) (h : ks.length ≤ maxLen) (n : Nat) (hn : ks.length = n) : IntsIs (w.alloc (.cells (ks.map (Value.int .i64)).toArray t)) (.slice (some ⟨w.heap.size, 0, none⟩) n n) ks := by
  subst hn
  refine .inr ⟨w.heap.size, 0, _, rfl, Nat.le_refl _, h, by simp, fun i hi => ?_⟩
  rw [World.cell?_alloc_at _ _ _ _ (by simp)]
  simp [hi]
theorem pk3 {l : List Val} (hl : l.length = 4) (i j k : Nat) (h1 : i < 4) (h2 : j < 4) (h3 : k < 4) : allIn l [(i : Int), (j : Int), (k : Int)] = true ∧ pk l [(i : Int), (j : Int), (k : Int)] = [atV l i, atV l j, atV l k] := by
  have e : ∀ i : Nat, i < 4 → inR l (i : Int) = true := fun i h => by unfold inR; simp; omega
  have a : allIn l [(i : Int), (j : Int), (k : Int)] = true := by simp [allIn, e i h1, e j h2, e k h3]
  refine ⟨a, ?_⟩
  rw [pk, if_pos a]
  rfl
theorem RowIs.atV {w : World} {b o n cap : Nat} {l : List Val} (h : RowIs w (.slice (some ⟨b, o, none⟩) n cap) l) (i : Nat) (hi : i < l.length) :
    w.cell? ⟨b, o + i * 3, none⟩ = some (.int .i64 (atV l i).1) ∧ w.cell? ⟨b, o + i * 3 + 1, none⟩ = some (.int .i64 (atV l i).2.1) ∧ w.cell? ⟨b, o + i * 3 + 2, none⟩ = some (.string (atV l i).2.2) := by
  have e : Go.Proofs.YtihijfbbmenbnaaDoor.atV l (i : Int) = l[i] := by rw [atV_eq (by simpa using hi)]; simp
  rw [e]; exact h.at' i hi
theorem pk4 {l : List Val} (hl : l.length = 4) : allIn l [0, 1, 2, 3] = true ∧ pk l [0, 1, 2, 3] = l := by
  match l, hl with
  | [a, b, c, d], _ => exact ⟨rfl, rfl⟩
theorem pkout {l : List Val} (hl : l.length = 4) (o : Int) (ho : o < 0 ∨ 4 ≤ o) : allIn l [0, o] = false := by
  have e : inR l o = false := by unfold inR; simp; omega
  simp [allIn, e]
theorem okv_first {k n : Int} {s : ByteArray} (h : OkV 1 k n s) : s = ⟨#[]⟩ := by
  have h1 := h.1
  have h2 : k = 0 ∨ k = 1 := by rcases h.2.2.2.2 with e | e | e <;> simp_all
  have e : s.toList = (⟨#[]⟩ : ByteArray).toList := by
    rcases h2 with rfl | rfl <;> simp [ckV] at h1
    · rw [h1.2, Lib.toList_data]
    · rw [h1, Lib.toList_data]
  exact toList_inj e
theorem put_none (a : Act) (v : Value) : a.put none v = a := rfl
theorem box_then {w w' : World} {o : Obj} (h : RowKit.Below (w.alloc o).heap.size (w.alloc o) w') : RowKit.Below w.heap.size w w' := (one_box (w := w) (o := o)).trans (h.mono (by simp))
set_option maxHeartbeats 4000000 in
theorem rowpicks_main (a : Option Addr) (len cap : Nat) (zs : List Int) (t out : Int) (k : Nat) (hk : k < 4) (hN : (wrap64 (t.tmod 4 + 4)).tmod 4 = (k : Int))
    (h1 : (len : Int) ≤ 60) (w : World) (hr : Ready w) (ha : IsRow .i64 w a len cap zs) :
    Calls Tryd.prog 5 #[.slice a len cap, .int .i64 t, .int .i64 out] w fun e w' => e = .returned (.bool true) ∧ Below w.heap.size w w' := by
  have Ha : Hid (IsRow .i64 w a len cap zs) := ha
  obtain ⟨d, hd⟩ : ∃ d : Nat, d = 3 - k := ⟨_, rfl⟩
  have hd4 : d < 4 := by omega
  have hD : (3 : Int) - (k : Int) = (d : Int) := by omega
  have I4 : (k : Int) < 4 := by omega
  have I0 : (0 : Int) ≤ (k : Int) := by omega
  have J4 : (d : Int) < 4 := by omega
  have J0 : (0 : Int) ≤ (d : Int) := by omega
  clear ha hd
  go_enter Tryd.func5, Tryd.ntmps5
  go_wp2_with fail
  refine (lawFirst2 _ hr).mono ?_
  rintro e w1 ⟨rfl, hb1⟩
  have B1 : Hid (Below w.heap.size w w1) := hb1
  clear hb1
  go_wp2_with fail
  have M := seq_cols (Ha.out.below B1.out) [1, 2, 3, 1] 29 3
  refine (makeRow w1.heap.size a len cap zs 0 (w1.heap.size + 1) 4 4 [1, 2, 3, 1] _ M.1 (by omega) M.2 (by omega) (by decide) (by intro i h; match i, h with | 0, _ => simp | 1, _ => simp | 2, _ => simp | 3, _ => simp)).mono ?_
  clear M
  rintro e w2 ⟨v1, rfl, hso⟩
  obtain ⟨l, n1, ok1, O1, hb2, E1⟩ := made_own hso
  have B2 : Hid (Below w.heap.size w w2) := (B1.out.trans (two_boxes.mono B1.out.size)).trans (hb2.below B1.out.size (by have := B1.out.size; simp; omega))
  obtain ⟨g1, cap1, rfl, c1, c1', p1, p1'⟩ := own_place O1 (by omega)
  have R1 : Hid (RowIs w2 (.slice (some ⟨g1, 0, none⟩) 4 cap1) l) := own_row O1 n1
  have HL : Hid (l.length = 4) := n1
  have S0 : Hid ((atV l (0 : Nat)).2.2 = ⟨#[]⟩) := by
    have e : atV l ((0 : Nat) : Int) = l[0]'(by omega) := atV_eq (by show 0 < _; omega)
    show _ = _
    rw [e]; exact okv_first (ok1 0 (by omega) (by decide))
  unfold maxLen at c1'
  clear hso hb2 O1 ok1 E1 n1 p1 p1'
  go_wp2_with fail
  refine (rowPick l [(k : Int), (k : Int), (d : Int)] _ _ _ (by simp) (R1.out.on one_box) (ints_new w2 _ 3 (by simp [maxLen]) 3 rfl)).mono ?_
  rintro e w3 ⟨v2, rfl, R2, hb3⟩
  rw [(pk3 HL.out k k d hk hk hd4).2] at R2
  rw [(pk3 HL.out k k d hk hk hd4).1]
  have B3 : Hid (Below w2.heap.size w2 w3) := box_then hb3
  have HR2 : Hid (RowIs w3 v2 [atV l k, atV l k, atV l d]) := R2
  clear R2 hb3
  go_wp2_with fail
  refine (rowPick l [0, 1, 2, 3] _ _ _ (by decide) ((R1.out.on B3.out).on one_box) (ints_new w3 [0, 1, 2, 3] 3 (by decide) 4 rfl)).mono ?_
  rintro e w4 ⟨v3, rfl, R3, hb4⟩
  rw [(pk4 HL.out).2] at R3
  rw [(pk4 HL.out).1]
  have B4 : Hid (Below w3.heap.size w3 w4) := box_then hb4
  have HR3 : Hid (RowIs w4 v3 l) := R3
  clear R3 hb4
  have D : (decide (0 ≤ out) = false ∧ (out < 0 ∨ 4 ≤ out)) ∨ (decide (0 ≤ out) = true ∧ decide (out < 4) = false ∧ (out < 0 ∨ 4 ≤ out)) ∨ (decide (0 ≤ out) = true ∧ decide (out < 4) = true ∧ (out + 4 < 0 ∨ 4 ≤ out + 4) ∧ 0 ≤ out ∧ out < 4) := by
    by_cases e1 : 0 ≤ out
    · by_cases e2 : out < 4
      · exact .inr (.inr ⟨by simpa using e1, by simpa using e2, by omega, e1, e2⟩)
      · exact .inr (.inl ⟨by simpa using e1, by simpa using e2, by omega⟩)
    · exact .inl ⟨by simpa using e1, by omega⟩
  rcases D with ⟨D1, D3⟩ | ⟨D1, D2, D3⟩ | ⟨D1, D2, D3, D4, D5⟩
  all_goals
    have HO := pkout HL.out _ D3
    go_wp2_with fail
    refine (rowPick l [0, _] _ _ _ (by simp) (((R1.out.on B3.out).on B4.out).on one_box) (ints_new w4 [0, _] 3 (by simp [maxLen]) 2 rfl)).mono ?_
    rintro e w5 ⟨v4, rfl, R4, hb5⟩
    rw [HO]
    have B5 : Hid (Below w4.heap.size w4 w5) := box_then hb5
    clear R4 hb5 HO D1 D3
    go_wp2_with fail
    have Q1 : Hid (RowIs w5 (.slice (some ⟨g1, 0, none⟩) 4 cap1) l) := ((R1.out.on B3.out).on B4.out).on B5.out
    refine (rowCopy l _ w5 (by rw [HL.out]; decide) Q1.out).mono ?_
    rintro e w6 ⟨v5, rfl, O5, hb6⟩
    rw [HL.out] at O5
    obtain ⟨g5, cap5, rfl, c5, c5', p5, p5'⟩ := own_place O5 (by omega)
    have F : Hid (∀ w7, w6.grownBy w7 (some g5) → Below w5.heap.size w5 w7) := fun w7 hg => hb6.grown hg hb6.size (fun g e => by cases e; exact p5)
    have HO5 : Hid (w6.ownsRow w5.heap.size 31 3 (.slice (some ⟨g5, 0, none⟩) 4 cap5) 4 (rc l)) := O5
    clear O5 hb6 p5 p5'
    go_wp2_with (first | (refine wpList_store_val rfl (.tmp 71) (.tmp 70) rfl 0 (2, 0, ⟨#[122, 122]⟩) HO5.out HL.out (by decide) rfl rfl size_value ?_; intro w7 hown7 hg7; have B7 : Hid (RowKit.Below w5.heap.size w5 w7) := F.out _ hg7; clear hown7 hg7 F HO5) | fail)
    have B : Hid (Below w.heap.size w w7) := (((B2.out.trans (B3.out.mono B2.out.size)).trans (B4.out.mono (B2.out.trans (B3.out.mono B2.out.size)).size)).trans (B5.out.mono ((B2.out.trans (B3.out.mono B2.out.size)).trans (B4.out.mono (B2.out.trans (B3.out.mono B2.out.size)).size)).size)).trans (B7.out.mono (((B2.out.trans (B3.out.mono B2.out.size)).trans (B4.out.mono (B2.out.trans (B3.out.mono B2.out.size)).size)).trans (B5.out.mono ((B2.out.trans (B3.out.mono B2.out.size)).trans (B4.out.mono (B2.out.trans (B3.out.mono B2.out.size)).size)).size)).size)
    have X1 : RowIs w7 (.slice (some ⟨g1, 0, none⟩) 4 cap1) l := Q1.out.on B7.out
    have X2 : RowIs w7 v2 [atV l k, atV l k, atV l d] := ((HR2.out.on B4.out).on B5.out).on B7.out
    have X3 : Hid (RowIs w7 v3 l) := ((HR3.out.on B5.out).on B7.out)
    obtain ⟨b2, o2, cap2, rfl⟩ := X2.addr (by simp)
    have yk := X1.atV k (by rw [HL.out]; exact hk)
    have yd := X1.atV d (by rw [HL.out]; exact hd4)
    have y0 := (X1.atV 0 (by rw [HL.out]; decide)).2.2
    rw [S0.out] at y0
    have HX1 : Hid (RowIs w7 (.slice (some ⟨g1, 0, none⟩) 4 cap1) l) := X1
    have z0 := X2.at' 0 (by simp)
    have z1 := X2.at' 1 (by simp)
    have z2 := X2.at' 2 (by simp)
    generalize atV l (k : Int) = y at *
    generalize atV l (d : Int) = z at *
    simp at yk yd y0 z0 z1 z2
    have gk := fun d os => And.intro (cell_regrown yk.1 d os) (And.intro (cell_regrown yk.2.1 d os) (cell_regrown yk.2.2 d os))
    have gd := fun d os => And.intro (cell_regrown yd.1 d os) (And.intro (cell_regrown yd.2.1 d os) (cell_regrown yd.2.2 d os))
    have g0 := fun d os => cell_regrown y0 d os
    have h0 := fun d os => And.intro (cell_regrown z0.1 d os) (And.intro (cell_regrown z0.2.1 d os) (cell_regrown z0.2.2 d os))
    have h1' := fun d os => And.intro (cell_regrown z1.1 d os) (And.intro (cell_regrown z1.2.1 d os) (cell_regrown z1.2.2 d os))
    have h2 := fun d os => And.intro (cell_regrown z2.1 d os) (And.intro (cell_regrown z2.2.1 d os) (cell_regrown z2.2.2 d os))
    have q1 : Hid (∀ d os, Calls Tryd.prog 23 #[.agg #[.int .i64 y.1, .int .i64 y.2.1, .string y.2.2], .agg #[.int .i64 y.1, .int .i64 y.2.1, .string y.2.2]] (grow (redrawn w7 d) os) fun e w'' => e = .returned (.bool true) ∧ ∃ p : Regrown, w'' = grow (redrawn w7 p.d) p.os) :=
      fun d os => Calls.regrown_of (by have := sameValue y.1 y.2.1 y.2.2 y.1 y.2.1 y.2.2 (grow (redrawn w7 d) os); rw [(sV_iff _ _ _ _ _ _).2 ⟨rfl, rfl, rfl⟩] at this; exact this)
    have q2 : Hid (∀ d os, Calls Tryd.prog 23 #[.agg #[.int .i64 z.1, .int .i64 z.2.1, .string z.2.2], .agg #[.int .i64 z.1, .int .i64 z.2.1, .string z.2.2]] (grow (redrawn w7 d) os) fun e w'' => e = .returned (.bool true) ∧ ∃ p : Regrown, w'' = grow (redrawn w7 p.d) p.os) :=
      fun d os => Calls.regrown_of (by have := sameValue z.1 z.2.1 z.2.2 z.1 z.2.1 z.2.2 (grow (redrawn w7 d) os); rw [(sV_iff _ _ _ _ _ _).2 ⟨rfl, rfl, rfl⟩] at this; exact this)
    have q3 : Hid (∀ d os, Calls Tryd.prog 12 #[v3, .slice (some ⟨g1, 0, none⟩) 4 cap1] (grow (redrawn w7 d) os) fun e w'' => e = .returned (.bool true) ∧ ∃ p : Regrown, w'' = grow (redrawn w7 p.d) p.os) :=
      fun d os => Calls.regrown_of (by have := sameRow l l _ _ _ (X3.out.on (below_regrown w7 d os)) (HX1.out.on (below_regrown w7 d os)); rw [(sR_iff _ _).2 rfl] at this; exact this)
    clear yk yd y0 z0 z1 z2 X1 X2 X3 HX1 Q1 HR2 HR3 B7 B5 B4 B3 B2 B1 R1 S0 HL Ha
    rw [put_none]
    refine wp_region_quiet_below (by kernel_rfl) (by kernel_rfl) ?_
    iterate 25 (go_big_quiet_step (exact q1.out _ _))
    iterate 10 (go_big_quiet_step (exact q1.out _ _))
    iterate 11 (go_big_quiet_step (exact q2.out _ _))
    iterate 5 (go_big_quiet_step (exact q3.out _ _))
    iterate 9 (go_big_quiet_step (fail))
    refine wpQuiet_nil ?_
    intro w8 hw8
    obtain ⟨p8, hw8⟩ := hw8
    have hb8 : Below w.heap.size w w8 := by rw [hw8]; exact B.out.trans ((below_regrown w7 _ _).mono B.out.size)
    clear hw8 q1 q2 q3 gk gd g0 h0 h1' h2
    go_wp2_with fail
    go_ret
    exact ⟨rfl, hb8⟩
end Go.Proofs.YtihijfbbmenbnaaDoor
