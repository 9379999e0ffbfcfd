/- The program's own errors as values, and what the statements' see.Is tells of them. -/
import Derived.Test.YtmpochhcokmaiaaDoorOn
import Derived.LaidEql
import Derived.WideLaws
import Derived.Lib.QuietBelow
import Derived.BigQuiet
import Derived.Stop.LaidErr
namespace Go.Proofs.YtmpochhcokmaiaaDoor
open Go.RowKit Go.Sort
set_option maxRecDepth 100000

/-- An error of the program's own: the interface value over its address. -/
def errV (a : Addr) : Value := .iface 114 (.pointer (some a))
/-- The eleven errors, in the order of their numbers: what the variables hold, and that no two are one. -/
def ErrsAt (ad : Fin 11 → Addr) (w : World) : Prop :=
  (∀ i j, ad i = ad j → i = j) ∧ (∀ i, ∃ c t, w.heap[(ad i).block]? = some (.cells c t (0, 0))) ∧
  w.cell? ⟨1, 0, none⟩ = some (errV (ad 0)) ∧ w.cell? ⟨2, 0, none⟩ = some (errV (ad 1)) ∧ w.cell? ⟨3, 0, none⟩ = some (errV (ad 2)) ∧
  w.cell? ⟨4, 0, none⟩ = some (errV (ad 3)) ∧ w.cell? ⟨5, 0, none⟩ = some (errV (ad 4)) ∧ w.cell? ⟨6, 0, none⟩ = some (errV (ad 5)) ∧
  w.cell? ⟨0, 0, none⟩ = some (errV (ad 6)) ∧ w.cell? ⟨7, 0, none⟩ = some (errV (ad 7)) ∧ w.cell? ⟨8, 0, none⟩ = some (errV (ad 8)) ∧
  w.cell? ⟨9, 0, none⟩ = some (errV (ad 9)) ∧ w.cell? ⟨10, 0, none⟩ = some (errV (ad 10))
theorem ErrsAt.on {ad : Fin 11 → Addr} {w w' : World} (h : ErrsAt ad w) (hb : Below w.heap.size w w') : ErrsAt ad w' := by
  obtain ⟨h1, h2, c0, c1, c2, c3, c4, c5, c6, c7, c8, c9, c10⟩ := h
  refine ⟨h1, fun i => ?_, cell_on c0 hb, cell_on c1 hb, cell_on c2 hb, cell_on c3 hb, cell_on c4 hb, cell_on c5 hb, cell_on c6 hb, cell_on c7 hb, cell_on c8 hb, cell_on c9 hb, cell_on c10 hb⟩
  obtain ⟨c, t, e⟩ := h2 i
  have hlt : (ad i).block < w.heap.size := by
    rcases Nat.lt_or_ge (ad i).block w.heap.size with h | h
    · exact h
    · rw [Array.getElem?_eq_none h] at e; cases e
  exact ⟨c, t, by rw [hb.block _ hlt]; exact e⟩

theorem err_comp : (Tryd.prog.info? 114).map (·.comparable) = some true := by kernel_rfl
theorem err_size : (Tryd.prog.info? 132).map (·.size) = some 1 := by kernel_rfl

set_option maxHeartbeats 400000 in
theorem alike (a b : Addr) (w : World) (ha : ∃ c t, w.heap[a.block]? = some (.cells c t (0, 0))) (hb : ∃ c t, w.heap[b.block]? = some (.cells c t (0, 0))) :
    Calls Tryd.prog 64 #[errV a, errV b] w fun e w' => e = .returned (.bool (decide (a = b))) ∧ w' = w := by
  obtain ⟨i, hi, hc⟩ := Option.map_eq_some_iff.1 err_comp
  obtain ⟨j, hj, hs⟩ := Option.map_eq_some_iff.1 err_size
  obtain ⟨ca, ta, ea⟩ := ha
  obtain ⟨cb, tb, eb⟩ := hb
  unfold errV
  by_cases h : a = b
  · subst h
    have he := run_eql_iface_ptr_same (P := Tryd.prog) w a Tryd.underlying30 Tryd.underlying114 hi hc hj
    go_enter Tryd.func64, Tryd.ntmps64
    go_wp2_with fail
    go_ret
    exact ⟨retB (by simp), rfl⟩
  · have he := run_eql_iface_ptr_other (P := Tryd.prog) w Tryd.underlying30 Tryd.underlying114 hi hc hj (by omega) h ea eb
    have hd : decide (a = b) = false := by simp [h]
    rw [hd]
    go_enter Tryd.func64, Tryd.ntmps64
    go_wp2_with fail
    go_ret
    exact ⟨rfl, rfl⟩

/-- The eleven as cells. -/
def sent11 (ad : Fin 11 → Addr) : Array Value := #[errV (ad 0), errV (ad 1), errV (ad 2), errV (ad 3), errV (ad 4), errV (ad 5), errV (ad 6), errV (ad 7), errV (ad 8), errV (ad 9), errV (ad 10)]
theorem sent11_at (ad : Fin 11 → Addr) : ∀ i : Fin 11, (sent11 ad)[i.val]? = some (errV (ad i)) := by
  intro i
  match i with
  | ⟨0, _⟩ => rfl
  | ⟨1, _⟩ => rfl
  | ⟨2, _⟩ => rfl
  | ⟨3, _⟩ => rfl
  | ⟨4, _⟩ => rfl
  | ⟨5, _⟩ => rfl
  | ⟨6, _⟩ => rfl
  | ⟨7, _⟩ => rfl
  | ⟨8, _⟩ => rfl
  | ⟨9, _⟩ => rfl
  | ⟨10, _⟩ => rfl
set_option maxHeartbeats 1000000 in
theorem sentinels_at (a0 a1 a2 a3 a4 a5 a6 a7 a8 a9 a10 : Addr) (w : World) (c0 : w.cell? ⟨1, 0, none⟩ = some (.iface 114 (.pointer (some a0)))) (c1 : w.cell? ⟨2, 0, none⟩ = some (.iface 114 (.pointer (some a1)))) (c2 : w.cell? ⟨3, 0, none⟩ = some (.iface 114 (.pointer (some a2)))) (c3 : w.cell? ⟨4, 0, none⟩ = some (.iface 114 (.pointer (some a3)))) (c4 : w.cell? ⟨5, 0, none⟩ = some (.iface 114 (.pointer (some a4)))) (c5 : w.cell? ⟨6, 0, none⟩ = some (.iface 114 (.pointer (some a5)))) (c6 : w.cell? ⟨0, 0, none⟩ = some (.iface 114 (.pointer (some a6)))) (c7 : w.cell? ⟨7, 0, none⟩ = some (.iface 114 (.pointer (some a7)))) (c8 : w.cell? ⟨8, 0, none⟩ = some (.iface 114 (.pointer (some a8)))) (c9 : w.cell? ⟨9, 0, none⟩ = some (.iface 114 (.pointer (some a9)))) (c10 : w.cell? ⟨10, 0, none⟩ = some (.iface 114 (.pointer (some a10)))) :
    Calls Tryd.prog 63 #[] w fun e w' => e = .returned (.slice (some ⟨w.heap.size, 0, none⟩) 11 11) ∧ w' = w.alloc (.cells #[.iface 114 (.pointer (some a0)), .iface 114 (.pointer (some a1)), .iface 114 (.pointer (some a2)), .iface 114 (.pointer (some a3)), .iface 114 (.pointer (some a4)), .iface 114 (.pointer (some a5)), .iface 114 (.pointer (some a6)), .iface 114 (.pointer (some a7)), .iface 114 (.pointer (some a8)), .iface 114 (.pointer (some a9)), .iface 114 (.pointer (some a10))] 30) := by
  go_enter Tryd.func63, Tryd.ntmps63
  go_wp2_with fail
  go_ret
  exact ⟨rfl, rfl⟩
theorem sentinels (ad : Fin 11 → Addr) (w : World) (h : ErrsAt ad w) :
    Calls Tryd.prog 63 #[] w fun e w' => e = .returned (.slice (some ⟨w.heap.size, 0, none⟩) 11 11) ∧ w' = w.alloc (.cells (sent11 ad) 30) := by
  obtain ⟨h1, h2, c0, c1, c2, c3, c4, c5, c6, c7, c8, c9, c10⟩ := h
  exact sentinels_at (ad 0) (ad 1) (ad 2) (ad 3) (ad 4) (ad 5) (ad 6) (ad 7) (ad 8) (ad 9) (ad 10) w c0 c1 c2 c3 c4 c5 c6 c7 c8 c9 c10

set_option maxHeartbeats 1000000 in
theorem sentinel (ad : Fin 11 → Addr) (k : Fin 11) (w : World) (h : ErrsAt ad w) :
    Calls Tryd.prog 58 #[errV (ad k)] w fun e w' => e = .returned (.int .i64 (101 + (k.val : Int))) ∧ Below w.heap.size w w' := by
  have hk := k.isLt
  have HH : Hid (ErrsAt ad w) := h
  clear h
  go_enter Tryd.func58, Tryd.ntmps58
  go_wp2_with fail
  refine (sentinels ad w HH.out).mono ?_
  rintro e w1 ⟨rfl, hw1⟩
  have hB1 : Hid (Below w.heap.size w w1) := by rw [hw1]; exact one_box
  have HE : Hid (ErrsAt ad w1) := HH.out.on hB1.out
  have HC : Hid (∀ i : Fin 11, w1.cell? ⟨w.heap.size, i.val, none⟩ = some (errV (ad i))) := fun i => by
    rw [hw1, World.cell?_alloc_at _ _ _ _ rfl]; exact sent11_at ad i
  clear hw1
  go_wp2_with fail
  go_loopw [4] (fun i wr => ∃ j : Nat, j ≤ k.val ∧ i = .int .i64 j ∧ wr = w1) (fun i _ => 11 - (intOf i).toNat)
  case atStart => exact ⟨0, by omega, rfl, rfl⟩
  case round =>
    obtain ⟨j, hj, rfl, rfl⟩ := hrel
    have hj11 : j < 11 := by omega
    have I1 : (j : Int) < 11 := by omega
    have hc := HC.out ⟨j, hj11⟩
    simp only at hc
    have q := alike (ad k) (ad ⟨j, hj11⟩) wr (HE.out.2.1 k) (HE.out.2.1 ⟨j, hj11⟩)
    have Q : Hid (Calls Tryd.prog 64 #[errV (ad k), errV (ad ⟨j, hj11⟩)] wr fun e w' => e = .returned (.bool (decide (ad k = ad ⟨j, hj11⟩))) ∧ w' = wr) := q
    have D : Hid (ad k = ad ⟨j, hj11⟩ → k.val = j) := fun e => by have := HE.out.1 _ _ e; rw [this]
    have D' : Hid (k.val = j → ad k = ad ⟨j, hj11⟩) := fun e => by congr 1; exact Fin.ext e
    clear q
    generalize ad ⟨j, hj11⟩ = aj at *
    go_wp2_with fail
    refine Q.out.mono ?_
    rintro e w2 ⟨rfl, rfl⟩
    by_cases e : ad k = aj
    · have hd : decide (ad k = aj) = true := by simp [e]
      have hjk := D.out e
      rw [hd]
      clear D D' Q hd e
      go_wp2_with fail
      go_ret
      exact ⟨retI (by omega), hB1.out⟩
    · have hd : decide (ad k = aj) = false := by simp [e]
      have hne : j ≠ k.val := fun h => e (D'.out h.symm)
      have hlt : j < k.val := by omega
      rw [hd]
      clear D D' Q hd e hne
      go_wp2_with fail
      go_roundw
      case rel => exact ⟨j + 1, by omega, by simp⟩
      case measure => simp [intOf]; omega

/-- A fault as a value: its number, whether it has a place, the place. -/
def fv (c : Int) (b : Bool) (p : Int) : Value := .agg #[.int .i64 c, .bool b, .int .i64 p]
set_option maxHeartbeats 400000 in
theorem faultBare (c : Int) (w : World) :
    Calls Tryd.prog 31 #[.int .i64 c] w fun e w' => e = .returned (fv c false 0) ∧ Below w.heap.size w w' := by
  unfold fv
  go_enter Tryd.func31, Tryd.ntmps31
  go_wp2
  exact bodyPost_ret (v := .agg #[.int .i64 c, .bool false, .int .i64 0]) (by simp [results, Tryd.results31, go_sem]) rfl ⟨rfl, one_box⟩
set_option maxHeartbeats 400000 in
theorem faultNone (w : World) :
    Calls Tryd.prog 57 #[] w fun e w' => e = .returned (fv 0 false 0) ∧ Below w.heap.size w w' := by
  unfold fv
  go_enter Tryd.func57, Tryd.ntmps57
  go_wp2
  exact bodyPost_ret (v := .agg #[.int .i64 0, .bool false, .int .i64 0]) (by simp [results, Tryd.results57, go_sem]) rfl ⟨rfl, one_box⟩
set_option maxHeartbeats 1000000 in
theorem sameFault (c : Int) (b : Bool) (p c' : Int) (b' : Bool) (p' : Int) (w : World) :
    Calls Tryd.prog 43 #[fv c b p, fv c' b' p'] w fun e w' => e = .returned (.bool (c == c' && b == b' && p == p')) ∧ Below w.heap.size w w' := by
  unfold fv
  cases h1 : (c == c')
  · go_enter Tryd.func43, Tryd.ntmps43
    go_wp2
    go_ret
    exact ⟨rfl, two_boxes⟩
  · cases h2 : (b == b')
    · go_enter Tryd.func43, Tryd.ntmps43
      go_wp2
      go_ret
      exact ⟨rfl, two_boxes⟩
    · go_enter Tryd.func43, Tryd.ntmps43
      go_wp2
      go_ret
      exact ⟨rfl, two_boxes⟩

set_option maxHeartbeats 1000000 in
theorem fault_nil (w : World) :
    Calls Tryd.prog 44 #[.nilIface] w fun e w' => e = .returned (fv 0 false 0) ∧ Below w.heap.size w w' := by
  go_enter Tryd.func44, Tryd.ntmps44
  go_wp2_with fail
  refine (faultNone _).mono ?_
  rintro e w1 ⟨rfl, hb1⟩
  obtain ⟨hc, hf⟩ := bcell hb1
  have B1 : Hid (Below w.heap.size w w1) := one_box.trans (hb1.mono (by simp))
  unfold fv
  go_wp2_with fail
  exact bodyPost_ret (v := .agg #[.int .i64 0, .bool false, .int .i64 0]) (by simp [results, Tryd.results44, go_sem, hc]) rfl ⟨rfl, ((B1.out.setCell (Nat.le_refl _) _).setCell (Nat.le_refl _) _).setCell (Nat.le_refl _) _⟩

theorem assert_at (a : Addr) (w : World) : (Instr.typeAssert (.iface 114 (.pointer (some a))) 30 96 true).run Tryd.prog w = .ok (.tuple #[.pointer none, .bool false]) w := by kernel_rfl
set_option maxHeartbeats 1000000 in
theorem fault_err (ad : Fin 11 → Addr) (k : Fin 11) (w : World) (h : ErrsAt ad w) :
    Calls Tryd.prog 44 #[errV (ad k)] w fun e w' => e = .returned (fv (101 + (k.val : Int)) false 0) ∧ Below w.heap.size w w' := by
  have H : Hid (ErrsAt ad w) := h
  clear h
  have ta := assert_at (ad k)
  have S : Hid (∀ w, ErrsAt ad w → Calls Tryd.prog 58 #[.iface 114 (.pointer (some (ad k)))] w fun e w' => e = .returned (.int .i64 (101 + (k.val : Int))) ∧ Below w.heap.size w w') := fun w h => sentinel ad k w h
  unfold errV
  generalize ad k = a at *
  generalize 101 + (k.val : Int) = c at *
  go_enter Tryd.func44, Tryd.ntmps44
  go_wp2_with fail
  refine (S.out _ (H.out.on one_box)).mono ?_
  rintro e w1 ⟨rfl, hb1⟩
  go_wp2_with fail
  refine (faultBare c _).mono ?_
  rintro e w2 ⟨rfl, hb2⟩
  replace hb2 := hb1.trans (hb2.mono hb1.size)
  obtain ⟨hc, hf⟩ := bcell hb2
  have B1 : Hid (Below w.heap.size w w2) := one_box.trans (hb2.mono (by simp))
  clear hb1
  unfold fv
  go_wp2_with fail
  exact bodyPost_ret (v := .agg #[.int .i64 c, .bool false, .int .i64 0]) (by simp [results, Tryd.results44, go_sem, hc]) rfl ⟨rfl, ((B1.out.setCell (Nat.le_refl _) _).setCell (Nat.le_refl _) _).setCell (Nat.le_refl _) _⟩

/-- An error without a place, by its number: 0 none. -/
def errC (ad : Fin 11 → Addr) : Option (Fin 11) → Value
  | none => .nilIface
  | some k => errV (ad k)
def codeC : Option (Fin 11) → Int
  | none => 0
  | some k => 101 + (k.val : Int)
theorem fault (ad : Fin 11 → Addr) (k : Option (Fin 11)) (w : World) (h : ErrsAt ad w) :
    Calls Tryd.prog 44 #[errC ad k] w fun e w' => e = .returned (fv (codeC k) false 0) ∧ Below w.heap.size w w' := by
  cases k with
  | none => exact fault_nil w
  | some k => exact fault_err ad k w h

set_option maxHeartbeats 1000000 in
theorem seeSame (ad : Fin 11 → Addr) (k : Option (Fin 11)) (c : Int) (b : Bool) (p : Int) (w : World) (h : ErrsAt ad w) :
    Calls Tryd.prog 30 #[errC ad k, fv c b p] w fun e w' => e = .returned (.bool (codeC k == c && false == b && 0 == p)) ∧ Below w.heap.size w w' := by
  obtain ⟨W, hW⟩ : ∃ W, W = w.alloc (.cells #[.int .i64 c, .bool b, .int .i64 p] 65) := ⟨_, rfl⟩
  have B : Hid (Below w.heap.size w W) := by rw [hW]; exact one_box
  have c0 : W.cell? ⟨w.heap.size, 0, none⟩ = some (.int .i64 c) := by rw [hW, World.cell?_alloc_at _ _ _ _ rfl]; rfl
  have c1 : W.cell? ⟨w.heap.size, 1, none⟩ = some (.bool b) := by rw [hW, World.cell?_alloc_at _ _ _ _ rfl]; rfl
  have c2 : W.cell? ⟨w.heap.size, 2, none⟩ = some (.int .i64 p) := by rw [hW, World.cell?_alloc_at _ _ _ _ rfl]; rfl
  have g0 := fun d os => cell_regrown c0 d os
  have g1 := fun d os => cell_regrown c1 d os
  have g2 := fun d os => cell_regrown c2 d os
  have q1 : Hid (∀ d os, Calls Tryd.prog 44 #[errC ad k] (grow (redrawn W d) os) fun e w'' => e = .returned (fv (codeC k) false 0) ∧ ∃ p : Regrown, w'' = grow (redrawn W p.d) p.os) :=
    fun d os => Calls.regrown_of (fault ad k _ ((h.on B.out).on (below_regrown W d os)))
  have q2 : Hid (∀ d os, Calls Tryd.prog 43 #[fv (codeC k) false 0, fv c b p] (grow (redrawn W d) os) fun e w'' => e = .returned (.bool (codeC k == c && false == b && 0 == p)) ∧ ∃ p : Regrown, w'' = grow (redrawn W p.d) p.os) :=
    fun d os => Calls.regrown_of (sameFault _ _ _ _ _ _ _)
  have HW : Hid (W = w.alloc (.cells #[.int .i64 c, .bool b, .int .i64 p] 65)) := hW
  generalize (codeC k == c && false == b && 0 == p) = r at *
  generalize codeC k = ck at *
  generalize errC ad k = ev at *
  clear hW c0 c1 c2 h
  unfold fv at q1 q2 ⊢
  go_enter Tryd.func30, Tryd.ntmps30
  go_wp2_with fail
  rw [← HW.out]
  refine wp_region_quiet_below (by kernel_rfl) (by kernel_rfl) ?_
  iterate 2 (go_big_quiet_step (exact q1.out _ _))
  iterate 2 (go_big_quiet_step (exact q2.out _ _))
  iterate 1 (go_big_quiet_step (fail))
  refine wpQuiet_nil ?_
  intro w6 hw6
  obtain ⟨p6, hw6⟩ := hw6
  have hb6 : Below w.heap.size w w6 := by rw [hw6]; exact B.out.trans ((below_regrown W _ _).mono B.out.size)
  clear hw6 g0 g1 g2 q1 q2
  go_wp2_with fail
  go_ret
  exact ⟨rfl, hb6⟩

set_option maxHeartbeats 1000000 in
/-- Is an error this one, with nothing around it? -/
theorem seeIs (ad : Fin 11 → Addr) (k : Option (Fin 11)) (c : Int) (w : World) (h : ErrsAt ad w) :
    Calls Tryd.prog 14 #[errC ad k, .int .i64 c] w fun e w' => e = .returned (.bool (codeC k == c)) ∧ Below w.heap.size w w' := by
  have H : Hid (ErrsAt ad w) := h
  have q : Hid (∀ w, ErrsAt ad w → Calls Tryd.prog 30 #[errC ad k, fv c false 0] w fun e w' => e = .returned (.bool (codeC k == c && false == false && 0 == (0 : Int))) ∧ Below w.heap.size w w') := fun w h => seeSame ad k c false 0 w h
  have e : (codeC k == c && false == false && 0 == (0 : Int)) = (codeC k == c) := by simp
  rw [e] at q
  clear h e
  generalize (codeC k == c) = r at *
  generalize errC ad k = ev at *
  go_enter Tryd.func14, Tryd.ntmps14
  go_wp2_with fail
  refine (faultBare c _).mono ?_
  rintro e w1 ⟨rfl, hb1⟩
  go_wp2_with fail
  refine (q.out _ (H.out.on hb1)).mono ?_
  rintro e w2 ⟨rfl, hb2⟩
  go_wp2_with fail
  go_ret
  exact ⟨rfl, hb1.trans (hb2.mono hb1.size)⟩
end Go.Proofs.YtmpochhcokmaiaaDoor
