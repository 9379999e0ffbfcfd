/- Texts of one claim, one behind the other. -/
import Derived.Test.YtlafokjkpbhckaaGreatDoorOn
import Derived.LaidEql
import Derived.WideLaws
import Derived.Lib.QuietBelow
import Derived.BigQuiet
import Derived.Stop.LaidErr
import Derived.LaidLaws
/- The program's own errors as values, and what the statements' see.Is tells of them. -/
namespace Go.Proofs.YtlafokjkpbhckaaGreatDoor
open Go.RowKit Go.Sort
set_option maxRecDepth 100000

/-- An error of the program's own: the interface value over its address. -/
def errV (a : Addr) : Value := .iface 171 (.pointer (some a))
/-- The eleven errors, in the order of their numbers: what the variables hold, and that no two are one. -/
def ErrsAt (ad : Fin 11 → Addr) (w : World) : Prop :=
  (∀ i j, ad i = ad j → i = j) ∧ (∀ i, ∃ c t, w.heap[(ad i).block]? = some (.cells c t (0, 0))) ∧
  w.cell? ⟨1, 0, none⟩ = some (errV (ad 0)) ∧ w.cell? ⟨2, 0, none⟩ = some (errV (ad 1)) ∧ w.cell? ⟨3, 0, none⟩ = some (errV (ad 2)) ∧
  w.cell? ⟨4, 0, none⟩ = some (errV (ad 3)) ∧ w.cell? ⟨5, 0, none⟩ = some (errV (ad 4)) ∧ w.cell? ⟨6, 0, none⟩ = some (errV (ad 5)) ∧
  w.cell? ⟨0, 0, none⟩ = some (errV (ad 6)) ∧ w.cell? ⟨7, 0, none⟩ = some (errV (ad 7)) ∧ w.cell? ⟨8, 0, none⟩ = some (errV (ad 8)) ∧
  w.cell? ⟨9, 0, none⟩ = some (errV (ad 9)) ∧ w.cell? ⟨10, 0, none⟩ = some (errV (ad 10))
theorem ErrsAt.on {ad : Fin 11 → Addr} {w w' : World} (h : ErrsAt ad w) (hb : Below w.heap.size w w') : ErrsAt ad w' := by
  obtain ⟨h1, h2, c0, c1, c2, c3, c4, c5, c6, c7, c8, c9, c10⟩ := h
  refine ⟨h1, fun i => ?_, cell_on c0 hb, cell_on c1 hb, cell_on c2 hb, cell_on c3 hb, cell_on c4 hb, cell_on c5 hb, cell_on c6 hb, cell_on c7 hb, cell_on c8 hb, cell_on c9 hb, cell_on c10 hb⟩
  obtain ⟨c, t, e⟩ := h2 i
  have hlt : (ad i).block < w.heap.size := by
    rcases Nat.lt_or_ge (ad i).block w.heap.size with h | h
    · exact h
    · rw [Array.getElem?_eq_none h] at e; cases e
  exact ⟨c, t, by rw [hb.block _ hlt]; exact e⟩

theorem err_comp : (Tryz.prog.info? 171).map (·.comparable) = some true := by kernel_rfl
theorem err_size : (Tryz.prog.info? 188).map (·.size) = some 1 := by kernel_rfl

set_option maxHeartbeats 400000 in
theorem alike (a b : Addr) (w : World) (ha : ∃ c t, w.heap[a.block]? = some (.cells c t (0, 0))) (hb : ∃ c t, w.heap[b.block]? = some (.cells c t (0, 0))) :
    Calls Tryz.prog 86 #[errV a, errV b] w fun e w' => e = .returned (.bool (decide (a = b))) ∧ w' = w := by
  obtain ⟨i, hi, hc⟩ := Option.map_eq_some_iff.1 err_comp
  obtain ⟨j, hj, hs⟩ := Option.map_eq_some_iff.1 err_size
  obtain ⟨ca, ta, ea⟩ := ha
  obtain ⟨cb, tb, eb⟩ := hb
  unfold errV
  by_cases h : a = b
  · subst h
    have he := run_eql_iface_ptr_same (P := Tryz.prog) w a Tryz.underlying32 Tryz.underlying171 hi hc hj
    go_enter Tryz.func86, Tryz.ntmps86
    go_wp2_with fail
    go_ret
    exact ⟨retB (by simp), rfl⟩
  · have he := run_eql_iface_ptr_other (P := Tryz.prog) w Tryz.underlying32 Tryz.underlying171 hi hc hj (by omega) h ea eb
    have hd : decide (a = b) = false := by simp [h]
    rw [hd]
    go_enter Tryz.func86, Tryz.ntmps86
    go_wp2_with fail
    go_ret
    exact ⟨rfl, rfl⟩

/-- The eleven as cells. -/
def sent11 (ad : Fin 11 → Addr) : Array Value := #[errV (ad 0), errV (ad 1), errV (ad 2), errV (ad 3), errV (ad 4), errV (ad 5), errV (ad 6), errV (ad 7), errV (ad 8), errV (ad 9), errV (ad 10)]
theorem sent11_at (ad : Fin 11 → Addr) : ∀ i : Fin 11, (sent11 ad)[i.val]? = some (errV (ad i)) := by
  intro i
  match i with
  | ⟨0, _⟩ => rfl
  | ⟨1, _⟩ => rfl
  | ⟨2, _⟩ => rfl
  | ⟨3, _⟩ => rfl
  | ⟨4, _⟩ => rfl
  | ⟨5, _⟩ => rfl
  | ⟨6, _⟩ => rfl
  | ⟨7, _⟩ => rfl
  | ⟨8, _⟩ => rfl
  | ⟨9, _⟩ => rfl
  | ⟨10, _⟩ => rfl
set_option maxHeartbeats 1000000 in
theorem sentinels_at (a0 a1 a2 a3 a4 a5 a6 a7 a8 a9 a10 : Addr) (w : World) (c0 : w.cell? ⟨1, 0, none⟩ = some (.iface 171 (.pointer (some a0)))) (c1 : w.cell? ⟨2, 0, none⟩ = some (.iface 171 (.pointer (some a1)))) (c2 : w.cell? ⟨3, 0, none⟩ = some (.iface 171 (.pointer (some a2)))) (c3 : w.cell? ⟨4, 0, none⟩ = some (.iface 171 (.pointer (some a3)))) (c4 : w.cell? ⟨5, 0, none⟩ = some (.iface 171 (.pointer (some a4)))) (c5 : w.cell? ⟨6, 0, none⟩ = some (.iface 171 (.pointer (some a5)))) (c6 : w.cell? ⟨0, 0, none⟩ = some (.iface 171 (.pointer (some a6)))) (c7 : w.cell? ⟨7, 0, none⟩ = some (.iface 171 (.pointer (some a7)))) (c8 : w.cell? ⟨8, 0, none⟩ = some (.iface 171 (.pointer (some a8)))) (c9 : w.cell? ⟨9, 0, none⟩ = some (.iface 171 (.pointer (some a9)))) (c10 : w.cell? ⟨10, 0, none⟩ = some (.iface 171 (.pointer (some a10)))) :
    Calls Tryz.prog 85 #[] w fun e w' => e = .returned (.slice (some ⟨w.heap.size, 0, none⟩) 11 11) ∧ w' = w.alloc (.cells #[.iface 171 (.pointer (some a0)), .iface 171 (.pointer (some a1)), .iface 171 (.pointer (some a2)), .iface 171 (.pointer (some a3)), .iface 171 (.pointer (some a4)), .iface 171 (.pointer (some a5)), .iface 171 (.pointer (some a6)), .iface 171 (.pointer (some a7)), .iface 171 (.pointer (some a8)), .iface 171 (.pointer (some a9)), .iface 171 (.pointer (some a10))] 32) := by
  go_enter Tryz.func85, Tryz.ntmps85
  go_wp2_with fail
  go_ret
  exact ⟨rfl, rfl⟩
theorem sentinels (ad : Fin 11 → Addr) (w : World) (h : ErrsAt ad w) :
    Calls Tryz.prog 85 #[] w fun e w' => e = .returned (.slice (some ⟨w.heap.size, 0, none⟩) 11 11) ∧ w' = w.alloc (.cells (sent11 ad) 32) := by
  obtain ⟨h1, h2, c0, c1, c2, c3, c4, c5, c6, c7, c8, c9, c10⟩ := h
  exact sentinels_at (ad 0) (ad 1) (ad 2) (ad 3) (ad 4) (ad 5) (ad 6) (ad 7) (ad 8) (ad 9) (ad 10) w c0 c1 c2 c3 c4 c5 c6 c7 c8 c9 c10

set_option maxHeartbeats 1000000 in
theorem sentinel (ad : Fin 11 → Addr) (k : Fin 11) (w : World) (h : ErrsAt ad w) :
    Calls Tryz.prog 76 #[errV (ad k)] w fun e w' => e = .returned (.int .i64 (101 + (k.val : Int))) ∧ Below w.heap.size w w' := by
  have hk := k.isLt
  have HH : Hid (ErrsAt ad w) := h
  clear h
  go_enter Tryz.func76, Tryz.ntmps76
  go_wp2_with fail
  refine (sentinels ad w HH.out).mono ?_
  rintro e w1 ⟨rfl, hw1⟩
  have hB1 : Hid (Below w.heap.size w w1) := by rw [hw1]; exact one_box
  have HE : Hid (ErrsAt ad w1) := HH.out.on hB1.out
  have HC : Hid (∀ i : Fin 11, w1.cell? ⟨w.heap.size, i.val, none⟩ = some (errV (ad i))) := fun i => by
    rw [hw1, World.cell?_alloc_at _ _ _ _ rfl]; exact sent11_at ad i
  clear hw1
  go_wp2_with fail
  go_loopw [4] (fun i wr => ∃ j : Nat, j ≤ k.val ∧ i = .int .i64 j ∧ wr = w1) (fun i _ => 11 - (intOf i).toNat)
  case atStart => exact ⟨0, by omega, rfl, rfl⟩
  case round =>
    obtain ⟨j, hj, rfl, rfl⟩ := hrel
    have hj11 : j < 11 := by omega
    have I1 : (j : Int) < 11 := by omega
    have hc := HC.out ⟨j, hj11⟩
    simp only at hc
    have q := alike (ad k) (ad ⟨j, hj11⟩) wr (HE.out.2.1 k) (HE.out.2.1 ⟨j, hj11⟩)
    have Q : Hid (Calls Tryz.prog 86 #[errV (ad k), errV (ad ⟨j, hj11⟩)] wr fun e w' => e = .returned (.bool (decide (ad k = ad ⟨j, hj11⟩))) ∧ w' = wr) := q
    have D : Hid (ad k = ad ⟨j, hj11⟩ → k.val = j) := fun e => by have := HE.out.1 _ _ e; rw [this]
    have D' : Hid (k.val = j → ad k = ad ⟨j, hj11⟩) := fun e => by congr 1; exact Fin.ext e
    clear q
    generalize ad ⟨j, hj11⟩ = aj at *
    go_wp2_with fail
    refine Q.out.mono ?_
    rintro e w2 ⟨rfl, rfl⟩
    by_cases e : ad k = aj
    · have hd : decide (ad k = aj) = true := by simp [e]
      have hjk := D.out e
      rw [hd]
      clear D D' Q hd e
      go_wp2_with fail
      go_ret
      exact ⟨retI (by omega), hB1.out⟩
    · have hd : decide (ad k = aj) = false := by simp [e]
      have hne : j ≠ k.val := fun h => e (D'.out h.symm)
      have hlt : j < k.val := by omega
      rw [hd]
      clear D D' Q hd e hne
      go_wp2_with fail
      go_roundw
      case rel => exact ⟨j + 1, by omega, by simp⟩
      case measure => simp [intOf]; omega

/-- A fault as a value: its number, whether it has a place, the place. -/
def fv (c : Int) (b : Bool) (p : Int) : Value := .agg #[.int .i64 c, .bool b, .int .i64 p]
set_option maxHeartbeats 400000 in
theorem faultBare (c : Int) (w : World) :
    Calls Tryz.prog 32 #[.int .i64 c] w fun e w' => e = .returned (fv c false 0) ∧ Below w.heap.size w w' := by
  unfold fv
  go_enter Tryz.func32, Tryz.ntmps32
  go_wp2
  exact bodyPost_ret (v := .agg #[.int .i64 c, .bool false, .int .i64 0]) (by simp [results, Tryz.results32, go_sem]) rfl ⟨rfl, one_box⟩
set_option maxHeartbeats 400000 in
theorem faultNone (w : World) :
    Calls Tryz.prog 75 #[] w fun e w' => e = .returned (fv 0 false 0) ∧ Below w.heap.size w w' := by
  unfold fv
  go_enter Tryz.func75, Tryz.ntmps75
  go_wp2
  exact bodyPost_ret (v := .agg #[.int .i64 0, .bool false, .int .i64 0]) (by simp [results, Tryz.results75, go_sem]) rfl ⟨rfl, one_box⟩
set_option maxHeartbeats 1000000 in
theorem sameFault (c : Int) (b : Bool) (p c' : Int) (b' : Bool) (p' : Int) (w : World) :
    Calls Tryz.prog 54 #[fv c b p, fv c' b' p'] w fun e w' => e = .returned (.bool (c == c' && b == b' && p == p')) ∧ Below w.heap.size w w' := by
  unfold fv
  cases h1 : (c == c')
  · go_enter Tryz.func54, Tryz.ntmps54
    go_wp2
    go_ret
    exact ⟨rfl, two_boxes⟩
  · cases h2 : (b == b')
    · go_enter Tryz.func54, Tryz.ntmps54
      go_wp2
      go_ret
      exact ⟨rfl, two_boxes⟩
    · go_enter Tryz.func54, Tryz.ntmps54
      go_wp2
      go_ret
      exact ⟨rfl, two_boxes⟩

set_option maxHeartbeats 1000000 in
theorem fault_nil (w : World) :
    Calls Tryz.prog 55 #[.nilIface] w fun e w' => e = .returned (fv 0 false 0) ∧ Below w.heap.size w w' := by
  go_enter Tryz.func55, Tryz.ntmps55
  go_wp2_with fail
  refine (faultNone _).mono ?_
  rintro e w1 ⟨rfl, hb1⟩
  obtain ⟨hc, hf⟩ := bcell hb1
  have B1 : Hid (Below w.heap.size w w1) := one_box.trans (hb1.mono (by simp))
  unfold fv
  go_wp2_with fail
  exact bodyPost_ret (v := .agg #[.int .i64 0, .bool false, .int .i64 0]) (by simp [results, Tryz.results55, go_sem, hc]) rfl ⟨rfl, ((B1.out.setCell (Nat.le_refl _) _).setCell (Nat.le_refl _) _).setCell (Nat.le_refl _) _⟩

theorem assert_at (a : Addr) (w : World) : (Instr.typeAssert (.iface 171 (.pointer (some a))) 32 133 true).run Tryz.prog w = .ok (.tuple #[.pointer none, .bool false]) w := by kernel_rfl
set_option maxHeartbeats 1000000 in
theorem fault_err (ad : Fin 11 → Addr) (k : Fin 11) (w : World) (h : ErrsAt ad w) :
    Calls Tryz.prog 55 #[errV (ad k)] w fun e w' => e = .returned (fv (101 + (k.val : Int)) false 0) ∧ Below w.heap.size w w' := by
  have H : Hid (ErrsAt ad w) := h
  clear h
  have ta := assert_at (ad k)
  have S : Hid (∀ w, ErrsAt ad w → Calls Tryz.prog 76 #[.iface 171 (.pointer (some (ad k)))] w fun e w' => e = .returned (.int .i64 (101 + (k.val : Int))) ∧ Below w.heap.size w w') := fun w h => sentinel ad k w h
  unfold errV
  generalize ad k = a at *
  generalize 101 + (k.val : Int) = c at *
  go_enter Tryz.func55, Tryz.ntmps55
  go_wp2_with fail
  refine (S.out _ (H.out.on one_box)).mono ?_
  rintro e w1 ⟨rfl, hb1⟩
  go_wp2_with fail
  refine (faultBare c _).mono ?_
  rintro e w2 ⟨rfl, hb2⟩
  replace hb2 := hb1.trans (hb2.mono hb1.size)
  obtain ⟨hc, hf⟩ := bcell hb2
  have B1 : Hid (Below w.heap.size w w2) := one_box.trans (hb2.mono (by simp))
  clear hb1
  unfold fv
  go_wp2_with fail
  exact bodyPost_ret (v := .agg #[.int .i64 c, .bool false, .int .i64 0]) (by simp [results, Tryz.results55, go_sem, hc]) rfl ⟨rfl, ((B1.out.setCell (Nat.le_refl _) _).setCell (Nat.le_refl _) _).setCell (Nat.le_refl _) _⟩

/-- An error without a place, by its number: 0 none. -/
def errC (ad : Fin 11 → Addr) : Option (Fin 11) → Value
  | none => .nilIface
  | some k => errV (ad k)
def codeC : Option (Fin 11) → Int
  | none => 0
  | some k => 101 + (k.val : Int)
theorem fault (ad : Fin 11 → Addr) (k : Option (Fin 11)) (w : World) (h : ErrsAt ad w) :
    Calls Tryz.prog 55 #[errC ad k] w fun e w' => e = .returned (fv (codeC k) false 0) ∧ Below w.heap.size w w' := by
  cases k with
  | none => exact fault_nil w
  | some k => exact fault_err ad k w h

set_option maxHeartbeats 1000000 in
theorem seeSame (ad : Fin 11 → Addr) (k : Option (Fin 11)) (c : Int) (b : Bool) (p : Int) (w : World) (h : ErrsAt ad w) :
    Calls Tryz.prog 31 #[errC ad k, fv c b p] w fun e w' => e = .returned (.bool (codeC k == c && false == b && 0 == p)) ∧ Below w.heap.size w w' := by
  obtain ⟨W, hW⟩ : ∃ W, W = w.alloc (.cells #[.int .i64 c, .bool b, .int .i64 p] 84) := ⟨_, rfl⟩
  have B : Hid (Below w.heap.size w W) := by rw [hW]; exact one_box
  have c0 : W.cell? ⟨w.heap.size, 0, none⟩ = some (.int .i64 c) := by rw [hW, World.cell?_alloc_at _ _ _ _ rfl]; rfl
  have c1 : W.cell? ⟨w.heap.size, 1, none⟩ = some (.bool b) := by rw [hW, World.cell?_alloc_at _ _ _ _ rfl]; rfl
  have c2 : W.cell? ⟨w.heap.size, 2, none⟩ = some (.int .i64 p) := by rw [hW, World.cell?_alloc_at _ _ _ _ rfl]; rfl
  have g0 := fun d os => cell_regrown c0 d os
  have g1 := fun d os => cell_regrown c1 d os
  have g2 := fun d os => cell_regrown c2 d os
  have q1 : Hid (∀ d os, Calls Tryz.prog 55 #[errC ad k] (grow (redrawn W d) os) fun e w'' => e = .returned (fv (codeC k) false 0) ∧ ∃ p : Regrown, w'' = grow (redrawn W p.d) p.os) :=
    fun d os => Calls.regrown_of (fault ad k _ ((h.on B.out).on (below_regrown W d os)))
  have q2 : Hid (∀ d os, Calls Tryz.prog 54 #[fv (codeC k) false 0, fv c b p] (grow (redrawn W d) os) fun e w'' => e = .returned (.bool (codeC k == c && false == b && 0 == p)) ∧ ∃ p : Regrown, w'' = grow (redrawn W p.d) p.os) :=
    fun d os => Calls.regrown_of (sameFault _ _ _ _ _ _ _)
  have HW : Hid (W = w.alloc (.cells #[.int .i64 c, .bool b, .int .i64 p] 84)) := hW
  generalize (codeC k == c && false == b && 0 == p) = r at *
  generalize codeC k = ck at *
  generalize errC ad k = ev at *
  clear hW c0 c1 c2 h
  unfold fv at q1 q2 ⊢
  go_enter Tryz.func31, Tryz.ntmps31
  go_wp2_with fail
  rw [← HW.out]
  refine wp_region_quiet_below (by kernel_rfl) (by kernel_rfl) ?_
  iterate 2 (go_big_quiet_step (exact q1.out _ _))
  iterate 2 (go_big_quiet_step (exact q2.out _ _))
  iterate 1 (go_big_quiet_step (fail))
  refine wpQuiet_nil ?_
  intro w6 hw6
  obtain ⟨p6, hw6⟩ := hw6
  have hb6 : Below w.heap.size w w6 := by rw [hw6]; exact B.out.trans ((below_regrown W _ _).mono B.out.size)
  clear hw6 g0 g1 g2 q1 q2
  go_wp2_with fail
  go_ret
  exact ⟨rfl, hb6⟩

set_option maxHeartbeats 1000000 in
/-- Is an error this one, with nothing around it? -/
theorem seeIs (ad : Fin 11 → Addr) (k : Option (Fin 11)) (c : Int) (w : World) (h : ErrsAt ad w) :
    Calls Tryz.prog 12 #[errC ad k, .int .i64 c] w fun e w' => e = .returned (.bool (codeC k == c)) ∧ Below w.heap.size w w' := by
  have H : Hid (ErrsAt ad w) := h
  have q : Hid (∀ w, ErrsAt ad w → Calls Tryz.prog 31 #[errC ad k, fv c false 0] w fun e w' => e = .returned (.bool (codeC k == c && false == false && 0 == (0 : Int))) ∧ Below w.heap.size w w') := fun w h => seeSame ad k c false 0 w h
  have e : (codeC k == c && false == false && 0 == (0 : Int)) = (codeC k == c) := by simp
  rw [e] at q
  clear h e
  generalize (codeC k == c) = r at *
  generalize errC ad k = ev at *
  go_enter Tryz.func12, Tryz.ntmps12
  go_wp2_with fail
  refine (faultBare c _).mono ?_
  rintro e w1 ⟨rfl, hb1⟩
  go_wp2_with fail
  refine (q.out _ (H.out.on hb1)).mono ?_
  rintro e w2 ⟨rfl, hb2⟩
  go_wp2_with fail
  go_ret
  exact ⟨rfl, hb1.trans (hb2.mono hb1.size)⟩
end Go.Proofs.YtlafokjkpbhckaaGreatDoor
/- The program's own errors, listed with their texts: what their variables hold, and that no two are one. -/
namespace Go.Proofs.YtlafokjkpbhckaaGreatDoor
open Go.RowKit
set_option maxRecDepth 100000

/-- Errors as a row lists them: a name and a text each. -/
def sentL (l : List (String × List UInt8)) : List (String × DataW Unit) := l.map fun x => (x.1, .iface "*errors.errorString" (.ptr (.agg [.lit (.string x.2)])))
theorem err_star : "*" ++ "errors.errorString" = "*errors.errorString" := by decide
theorem err_name (u : TypeId) (h : Tryz.prog.typeName? 3 u = some "*errors.errorString") : u = 171 :=
  typeName_ptr_named (nm := "errors.errorString") (by rw [err_star]; kernel_rfl) (by kernel_rfl) (by decide) u (by rw [err_star]; exact h)
theorem sents {W : World} : ∀ (l : List (String × List UInt8)) (r : List (String × DataW Unit)) (ps : List MemPlace), DataW.LaidVars Tryz.prog W (sentL l ++ r) ps → ps.Nodup →
    (∀ b off, MemPlace.cell b off ∈ ps → (∃ c t, W.heap[b]? = some (.cells c t (0, 0))) ∧ ∀ u v, W.cell? ⟨b, off, none⟩ = some (.iface u v) → Value.okWide Tryz.prog W .any 0 u v) →
    (∀ x ∈ l, ∃ g, Tryz.prog.globalNamed x.1 = some g ∧ (Tryz.prog.globals[g]?).map (·.type) = some 32) →
    ∃ as' : List Addr, as'.length = l.length ∧ as'.Nodup ∧ (∀ a ∈ as', a.spot = none ∧ MemPlace.cell a.block a.off ∈ ps) ∧ ∀ i (h : i < l.length) (h' : i < as'.length), W.var? Tryz.prog l[i].1 = some #[errV as'[i]]
  | [], r, ps, _, _, _, _ => ⟨[], rfl, List.nodup_nil, (fun a h => by cases h), (fun i h => absurd h (Nat.not_lt_zero i))⟩
  | (n, text) :: l, r, ps, hv, hnd, hrows, hg => by
    obtain ⟨g0, t0, cs0, f0, p0, q0, hg0, ht0, hv0, hd0, hq, rfl⟩ := hv
    obtain ⟨g, e1, e2⟩ := hg (n, text) (by simp)
    obtain rfl := Option.some.inj (e1.symm.trans hg0)
    obtain rfl := Option.some.inj (e2.symm.trans ht0)
    obtain ⟨l0⟩ := cs0
    have ok0 : ∀ u v, l0 = [.iface u v] → Value.okWide Tryz.prog W .any 0 u v := fun u v e => by
      subst e
      exact (hrows g 0 (by simp [MemPlace.row])).2 u v (by simpa using World.var?_cell hg0 hv0 0)
    obtain ⟨a0, s0, rfl, hc0, hs0, hz0, rfl⟩ := errorString_of_trod Tryz.underlying32 err_name Tryz.underlying171 Tryz.underlying188 rfl rfl Tryz.underlying9 (by kernel_rfl) (by kernel_rfl) hd0 ok0
    obtain ⟨as', h1, h2, h3, h4⟩ := sents l r q0 hq (List.Nodup.sublist (List.sublist_append_right _ _) hnd) (fun b off hm => hrows b off (List.mem_append_right _ hm)) (fun x hx => hg x (by simp [hx]))
    have hspot := World.cell?_spot hc0
    refine ⟨a0 :: as', by simp [h1], ?_, ?_, ?_⟩
    · refine List.nodup_cons.2 ⟨fun hm => ?_, h2⟩
      have hin := (h3 a0 hm).2
      have hnd' := (List.nodup_append.1 hnd).2.2
      exact hnd' (.cell a0.block a0.off) (by simp [MemPlace.row]) (.cell a0.block a0.off) hin rfl
    · intro a ha
      rcases List.mem_cons.1 ha with rfl | ha
      · exact ⟨hspot, by simp [MemPlace.row]⟩
      · exact ⟨(h3 a ha).1, List.mem_append_right _ (h3 a ha).2⟩
    · intro i hi hi'
      cases i with
      | zero => exact hv0
      | succ i => exact h4 i (by simpa using hi) (by simpa using hi')

/-- The eleven names, in the order of their numbers. -/
def errL (t0 t1 t2 t3 t4 t5 t6 t7 t8 t9 t10 : List UInt8) : List (String × List UInt8) := [("belvedere/api.ErrText", t0), ("belvedere/api.ErrType", t1), ("belvedere/api.ErrName", t2), ("belvedere/api.ErrTwice", t3), ("belvedere/api.ErrUse", t4), ("belvedere/api.ErrArity", t5), ("belvedere/api.ErrOver", t6), ("belvedere/api.ErrFull", t7), ("belvedere/api.ErrPending", t8), ("belvedere/api.ErrNone", t9), ("belvedere/api.ErrLimit", t10)]
theorem errs_of {W : World} (t0 t1 t2 t3 t4 t5 t6 t7 t8 t9 t10 : List UInt8) (r : List (String × DataW Unit)) (h : laidMet Tryz.prog (sentL (errL t0 t1 t2 t3 t4 t5 t6 t7 t8 t9 t10) ++ r) W) : ∃ ad, ErrsAt ad W := by
  obtain ⟨ps, hv, hnd, hrows⟩ := h
  obtain ⟨l, h1, h2, h3, h4⟩ := sents (errL t0 t1 t2 t3 t4 t5 t6 t7 t8 t9 t10) r ps hv hnd hrows (by
    intro x hx
    simp only [errL, List.mem_cons, List.not_mem_nil, or_false] at hx
    rcases hx with rfl | rfl | rfl | rfl | rfl | rfl | rfl | rfl | rfl | rfl | rfl
    · exact ⟨1, by kernel_rfl, by kernel_rfl⟩
    · exact ⟨2, by kernel_rfl, by kernel_rfl⟩
    · exact ⟨3, by kernel_rfl, by kernel_rfl⟩
    · exact ⟨4, by kernel_rfl, by kernel_rfl⟩
    · exact ⟨5, by kernel_rfl, by kernel_rfl⟩
    · exact ⟨6, by kernel_rfl, by kernel_rfl⟩
    · exact ⟨0, by kernel_rfl, by kernel_rfl⟩
    · exact ⟨7, by kernel_rfl, by kernel_rfl⟩
    · exact ⟨8, by kernel_rfl, by kernel_rfl⟩
    · exact ⟨9, by kernel_rfl, by kernel_rfl⟩
    · exact ⟨10, by kernel_rfl, by kernel_rfl⟩)
  have hl : l.length = 11 := h1
  have gE : ∀ (i : Fin 11), i.val < l.length := fun i => by omega
  refine ⟨fun i => l[i.val]'(gE i), ?_, ?_, ?_, ?_, ?_, ?_, ?_, ?_, ?_, ?_, ?_, ?_, ?_⟩
  · intro i j e
    have hp := List.pairwise_iff_getElem.1 h2
    rcases Nat.lt_trichotomy i.val j.val with h | h | h
    · exact absurd e (hp i.val j.val (gE i) (gE j) h)
    · exact Fin.ext h
    · exact absurd e.symm (hp j.val i.val (gE j) (gE i) h)
  · intro i
    have hm := (h3 (l[i.val]'(gE i)) (List.getElem_mem _)).2
    exact (hrows _ _ hm).1
  · have := World.var?_cell (show Tryz.prog.globalNamed "belvedere/api.ErrText" = some 1 by kernel_rfl) (h4 0 (by simp [errL]) (by omega)) 0
    have t : W.cell? ⟨1, 0, none⟩ = some (errV l[0]) := by simpa using this
    exact t
  · have := World.var?_cell (show Tryz.prog.globalNamed "belvedere/api.ErrType" = some 2 by kernel_rfl) (h4 1 (by simp [errL]) (by omega)) 0
    have t : W.cell? ⟨2, 0, none⟩ = some (errV l[1]) := by simpa using this
    exact t
  · have := World.var?_cell (show Tryz.prog.globalNamed "belvedere/api.ErrName" = some 3 by kernel_rfl) (h4 2 (by simp [errL]) (by omega)) 0
    have t : W.cell? ⟨3, 0, none⟩ = some (errV l[2]) := by simpa using this
    exact t
  · have := World.var?_cell (show Tryz.prog.globalNamed "belvedere/api.ErrTwice" = some 4 by kernel_rfl) (h4 3 (by simp [errL]) (by omega)) 0
    have t : W.cell? ⟨4, 0, none⟩ = some (errV l[3]) := by simpa using this
    exact t
  · have := World.var?_cell (show Tryz.prog.globalNamed "belvedere/api.ErrUse" = some 5 by kernel_rfl) (h4 4 (by simp [errL]) (by omega)) 0
    have t : W.cell? ⟨5, 0, none⟩ = some (errV l[4]) := by simpa using this
    exact t
  · have := World.var?_cell (show Tryz.prog.globalNamed "belvedere/api.ErrArity" = some 6 by kernel_rfl) (h4 5 (by simp [errL]) (by omega)) 0
    have t : W.cell? ⟨6, 0, none⟩ = some (errV l[5]) := by simpa using this
    exact t
  · have := World.var?_cell (show Tryz.prog.globalNamed "belvedere/api.ErrOver" = some 0 by kernel_rfl) (h4 6 (by simp [errL]) (by omega)) 0
    have t : W.cell? ⟨0, 0, none⟩ = some (errV l[6]) := by simpa using this
    exact t
  · have := World.var?_cell (show Tryz.prog.globalNamed "belvedere/api.ErrFull" = some 7 by kernel_rfl) (h4 7 (by simp [errL]) (by omega)) 0
    have t : W.cell? ⟨7, 0, none⟩ = some (errV l[7]) := by simpa using this
    exact t
  · have := World.var?_cell (show Tryz.prog.globalNamed "belvedere/api.ErrPending" = some 8 by kernel_rfl) (h4 8 (by simp [errL]) (by omega)) 0
    have t : W.cell? ⟨8, 0, none⟩ = some (errV l[8]) := by simpa using this
    exact t
  · have := World.var?_cell (show Tryz.prog.globalNamed "belvedere/api.ErrNone" = some 9 by kernel_rfl) (h4 9 (by simp [errL]) (by omega)) 0
    have t : W.cell? ⟨9, 0, none⟩ = some (errV l[9]) := by simpa using this
    exact t
  · have := World.var?_cell (show Tryz.prog.globalNamed "belvedere/api.ErrLimit" = some 10 by kernel_rfl) (h4 10 (by simp [errL]) (by omega)) 0
    have t : W.cell? ⟨10, 0, none⟩ = some (errV l[10]) := by simpa using this
    exact t
end Go.Proofs.YtlafokjkpbhckaaGreatDoor
/- Where the error of weights that are beyond lies. -/
namespace Go.Proofs.YtlafokjkpbhckaaGreatDoor
open Go.RowKit Go.Sort
set_option maxRecDepth 100000

/-- The error of weights that are beyond. -/
def OverAt (a : Addr) (w : World) : Prop := w.cell? ⟨0, 0, none⟩ = some (errV a)
theorem OverAt.on {a : Addr} {w w' : World} (h : OverAt a w) (hb : Below w.heap.size w w') : OverAt a w' := cell_on h hb
theorem OverAt.lt {a : Addr} {w : World} (h : OverAt a w) : 0 < w.heap.size := World.block_lt_of_cell? _ _ h
end Go.Proofs.YtlafokjkpbhckaaGreatDoor
