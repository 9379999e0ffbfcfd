/- The law RowOrder answers true at every argument, and writes nothing that was there: its walk. -/
import Derived.Test.YtihijfbbmenbnaaDoorRowFirst
import Derived.Test.YtihijfbbmenbnaaDoorMakeRow
namespace Go.Proofs.YtihijfbbmenbnaaDoor
open Go.RowKit Go.Sort
set_option maxRecDepth 100000

/-- Two boxes over a world: the maker and its columns. -/
theorem seq_cols {w : World} {a : Option Addr} {len cap : Nat} {zs : List Int} (h : IsRow .i64 w a len cap zs) (ks : List Int) (t t' : TypeId) :
    SeqAt w.heap.size a len cap zs 0 ((w.alloc (.cells #[.slice a len cap, .int .i64 0] t)).alloc (.cells (ks.map (Value.int .i64)).toArray t')) ∧ ColsAt (w.heap.size + 1) ks ((w.alloc (.cells #[.slice a len cap, .int .i64 0] t)).alloc (.cells (ks.map (Value.int .i64)).toArray t')) := by
  refine ⟨(SeqAt.make h t).on one_box, by simp, fun i hi => ?_⟩
  rw [World.cell?_alloc_at _ _ _ _ (by simp)]
  simp [hi]
/-- A row that was made: its block, its values, and the world kept. -/
theorem made_row {S : Nat} {a : Option Addr} {len cap : Nat} {zs : List Int} {p : Nat} {ks : List Int} {w : World} {n : Nat} {v : Value} {w' : World} (h : SoFar S a len cap zs p ks w n v w') :
    ∃ l : List Val, l.length = n ∧ OkR ks l ∧ RowIs w' v l ∧ But S w w' ∧ (∀ g, v.ownBlock = some g → w.heap.size ≤ g) := by
  obtain ⟨l, p', h1, h2, h3, _, _, h6, _⟩ := h
  subst h1
  exact ⟨l, rfl, h2, RowIs.of_own h3, h6, fun g hg => (h3.lt g hg).1⟩

theorem RowIs.own_lt {w : World} {v : Value} {l : List Val} (h : RowIs w v l) (hl : l ≠ []) : ∀ g, v.ownBlock = some g → g < w.heap.size := by
  rcases h with ⟨_, _, _, e⟩ | ⟨b, o, cap, rfl, h1, h2, h3, h4⟩
  · exact absurd e hl
  · intro g hg; cases hg; exact h3
set_option maxHeartbeats 4000000 in
theorem roworder_main (a : Option Addr) (len cap : Nat) (zs : List Int) (a' : Option Addr) (len' cap' : Nat) (zs' : List Int) (a'' : Option Addr) (len'' cap'' : Nat) (zs'' : List Int)
    (h1 : (len : Int) ≤ 40) (h2 : (len' : Int) ≤ 40) (h3 : (len'' : Int) ≤ 40) (w : World) (hr : Ready w) (ha : IsRow .i64 w a len cap zs) (ha' : IsRow .i64 w a' len' cap' zs') (ha'' : IsRow .i64 w a'' len'' cap'' zs'') :
    Calls Tryd.prog 6 #[.slice a len cap, .slice a' len' cap', .slice a'' len'' cap''] w fun e w' => e = .returned (.bool true) ∧ Below w.heap.size w w' := by
  have Ha : Hid (IsRow .i64 w a len cap zs) := ha
  have Ha' : Hid (IsRow .i64 w a' len' cap' zs') := ha'
  have Ha'' : Hid (IsRow .i64 w a'' len'' cap'' zs'') := ha''
  clear ha ha' ha''
  go_enter Tryd.func6, Tryd.ntmps6
  go_wp2_with fail
  refine (lawFirst2 _ hr).mono ?_
  rintro e w1 ⟨rfl, hb1⟩
  have B1 : Hid (Below w.heap.size w w1) := hb1
  clear hb1
  go_wp2_with fail
  have M := seq_cols (Ha.out.below B1.out) [1, 2] 29 3
  refine (makeRow w1.heap.size a len cap zs 0 (w1.heap.size + 1) 2 2 [1, 2] _ M.1 (by decide) M.2 (by omega) (by decide) (by intro i h; match i, h with | 0, _ => simp | 1, _ => simp)).mono ?_
  clear M
  rintro e w2 ⟨v1, rfl, hso⟩
  obtain ⟨l1, n1, ok1, R1, hb2, hg1⟩ := made_row hso
  have B2 : Hid (Below w.heap.size w w2) := (B1.out.trans (two_boxes.mono B1.out.size)).trans (hb2.below B1.out.size (by have := B1.out.size; simp; omega))
  clear hso hb2 ok1
  go_wp2_with fail
  have M := seq_cols (Ha'.out.below B2.out) [1, 2] 29 3
  refine (makeRow w2.heap.size a' len' cap' zs' 0 (w2.heap.size + 1) 2 2 [1, 2] _ M.1 (by decide) M.2 (by omega) (by decide) (by intro i h; match i, h with | 0, _ => simp | 1, _ => simp)).mono ?_
  clear M
  rintro e w3 ⟨v2, rfl, hso⟩
  obtain ⟨l2, n2, ok2, R2, hb3, hg2⟩ := made_row hso
  have B3 : Hid (Below w.heap.size w w3) := (B2.out.trans (two_boxes.mono B2.out.size)).trans (hb3.below B2.out.size (by have := B2.out.size; simp; omega))
  have ne1 : l1 ≠ [] := by rintro rfl; simp at n1
  have ne2 : l2 ≠ [] := by rintro rfl; simp at n2
  have hl1 : ∀ g, v1.ownBlock = some g → g < w2.heap.size := R1.own_lt ne1
  have R1' : RowIs w3 v1 l1 := (R1.on two_boxes).but hb3 (fun e => by have := hl1 _ e; omega)
  have z3 := hb3.size
  clear hso hb3 ok2 R1
  go_wp2_with fail
  have M := seq_cols (Ha''.out.below B3.out) [1, 2, 3] 29 3
  refine (makeRow w3.heap.size a'' len'' cap'' zs'' 0 (w3.heap.size + 1) 3 3 [1, 2, 3] _ M.1 (by decide) M.2 (by omega) (by decide) (by intro i h; match i, h with | 0, _ => simp | 1, _ => simp | 2, _ => simp)).mono ?_
  clear M
  rintro e w4 ⟨v3, rfl, hso⟩
  obtain ⟨l3, n3, ok3, R3, hb4, hg3⟩ := made_row hso
  have B4 : Hid (Below w.heap.size w w4) := (B3.out.trans (two_boxes.mono B3.out.size)).trans (hb4.below B3.out.size (by have := B3.out.size; simp; omega))
  have hl1' : ∀ g, v1.ownBlock = some g → g < w3.heap.size := R1'.own_lt ne1
  have hl2' : ∀ g, v2.ownBlock = some g → g < w3.heap.size := R2.own_lt ne2
  have R1'' : RowIs w4 v1 l1 := (R1'.on two_boxes).but hb4 (fun e => by have := hl1' _ e; omega)
  have R2'' : RowIs w4 v2 l2 := (R2.on two_boxes).but hb4 (fun e => by have := hl2' _ e; omega)
  have ne3 : l3 ≠ [] := by rintro rfl; simp at n3
  obtain ⟨b3, o3, cap3, hv3⟩ := R3.addr ne3
  subst hv3
  rw [n3] at R3 ⊢
  have cp := R3.cap ne3
  unfold maxLen at cp
  have C3 : RowIs w4 (.slice (some ⟨b3, o3, none⟩) 2 cap3) (l3.take 2) := R3.cut 2 (by omega)
  have K1 : Hid (RowIs w4 v1 l1) := R1''
  have K2 : Hid (RowIs w4 v2 l2) := R2''
  have K3 : Hid (RowIs w4 (.slice (some ⟨b3, o3, none⟩) 3 cap3) l3) := R3
  have K4 : Hid (RowIs w4 (.slice (some ⟨b3, o3, none⟩) 2 cap3) (l3.take 2)) := C3
  have cc : 3 ≤ cap3 := by omega
  have P1 : Hid (cR (l3.take 2) l3 = -1) := by
    show _ = _
    obtain ⟨x, hx⟩ : ∃ x, l3 = l3.take 2 ++ [x] := by
      refine ⟨l3[2]'(by omega), ?_⟩
      have := List.take_succ_eq_append_getElem (l := l3) (i := 2) (by omega)
      rw [List.take_of_length_le (by omega)] at this
      exact this
    have := cR_prefix (l3.take 2) x []
    rw [← hx] at this; exact this
  have P2 : Hid (cR l3 (l3.take 2) = 1) := by show _ = _; rw [cR_anti (l3.take 2) l3, P1.out]; rfl
  have e1 := cR_anti l1 l2
  have e2 := cR_zero l1 l2
  have e3 := cR_sq l1 l2
  have e4 := cR_sq l2 l3
  have e5 := cR_trans l1 l2 l3
  have e6 := cR_trans l3 l2 l1
  have e7 := cR_anti l1 l3
  have e8 := cR_anti l2 l3
  obtain ⟨p, hp⟩ : ∃ p, p = cR l1 l2 := ⟨_, rfl⟩
  obtain ⟨q, hq⟩ : ∃ p, p = cR l2 l3 := ⟨_, rfl⟩
  obtain ⟨r, hrr⟩ : ∃ p, p = cR l1 l3 := ⟨_, rfl⟩
  have c1 : Hid (p = -1 ∨ p = 0 ∨ p = 1) := by show _ ∨ _; omega
  have c2 : Hid (q = -1 ∨ q = 0 ∨ q = 1) := by show _ ∨ _; omega
  have c3 : p ≤ 0 → q ≤ 0 → r ≤ 0 := by omega
  have c4 : 0 ≤ p → 0 ≤ q → 0 ≤ r := by omega
  have Hp : Hid (cR l1 l2 = p) := hp.symm
  have Hq : Hid (cR l2 l3 = q) := hq.symm
  have Hr : Hid (cR l1 l3 = r) := hrr.symm
  have Hm : Hid (cR l2 l1 = -p) := by show _ = _; omega
  have Hs : Hid (sR l1 l2 = (p == 0)) := by show _ = _; unfold sR; rw [hp]
  clear e1 e2 e3 e4 e5 e6 e7 e8 hp hq hrr R1'' R2'' R3 C3 ok3 hso hb4 hg1 hg2 hg3 hl1 hl1' hl2' z3 n1 n2 n3 ne1 ne2 ne3 cp R1' R2
  go_wp2_with fail
  refine (rowCompare l1 l2 v1 v2 w4 K1.out K2.out).mono ?_
  rintro e w5 ⟨rfl, hb5⟩
  rw [Hp.out]
  go_wp2_with fail
  refine (rowCompare l2 l3 v2 _ w5 (K2.out.on hb5) (K3.out.on hb5)).mono ?_
  rintro e w6 ⟨rfl, hb6⟩
  rw [Hq.out]
  replace hb6 := hb5.trans (hb6.mono hb5.size)
  go_wp2_with fail
  refine (rowCompare l1 l3 v1 _ w6 (K1.out.on hb6) (K3.out.on hb6)).mono ?_
  rintro e w7 ⟨rfl, hb7⟩
  rw [Hr.out]
  replace hb7 := hb6.trans (hb7.mono hb6.size)
  clear hb5 hb6
  rcases c1.out with rfl | rfl | rfl <;> rcases c2.out with rfl | rfl | rfl
  all_goals
    go_wp2_with fail
    refine (rowCompare l2 l1 v2 v1 w7 (K2.out.on hb7) (K1.out.on hb7)).mono ?_
    rintro e w8 ⟨rfl, hb8⟩
    rw [Hm.out]
    replace hb8 := hb7.trans (hb8.mono hb7.size)
    go_wp2_with fail
    refine (sameRow l1 l2 v1 v2 w8 (K1.out.on hb8) (K2.out.on hb8)).mono ?_
    rintro e w9 ⟨rfl, hb9⟩
    rw [Hs.out]
    replace hb9 := hb8.trans (hb9.mono hb8.size)
    go_wp2_with fail
    refine (rowCompare (l3.take 2) l3 _ _ w9 (K4.out.on hb9) (K3.out.on hb9)).mono ?_
    rintro e w10 ⟨rfl, hb10⟩
    rw [P1.out]
    replace hb10 := hb9.trans (hb10.mono hb9.size)
    go_wp2_with fail
    refine (rowCompare l3 (l3.take 2) _ _ w10 (K3.out.on hb10) (K4.out.on hb10)).mono ?_
    rintro e w11 ⟨rfl, hb11⟩
    rw [P2.out]
    replace hb11 := hb10.trans (hb11.mono hb10.size)
    clear hb8 hb9 hb10
    go_wp2_with fail
    go_ret
    exact ⟨rfl, B4.out.trans (hb11.mono B4.out.size)⟩
end Go.Proofs.YtihijfbbmenbnaaDoor
