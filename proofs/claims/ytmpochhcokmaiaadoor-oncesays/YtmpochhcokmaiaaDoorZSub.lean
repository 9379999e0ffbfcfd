/- What the document's own Sub answers of entries in memory. -/
import Derived.Test.YtmpochhcokmaiaaDoorZNeg
import Derived.Test.YtmpochhcokmaiaaDoorOwns
import Derived.Test.YtmpochhcokmaiaaDoorStepCall
namespace Go.Proofs.YtmpochhcokmaiaaDoor
open Go.RowKit Go.Sort
set_option maxRecDepth 100000

/-- One row of a list, and what comes of those behind it. -/
def dmgI (e : Ent) (k : List Ent → List Ent) : List Ent → List Ent
  | [] => e :: k []
  | f :: y => if cR e.1 f.1 < 0 then e :: k (f :: y) else if 0 < cR e.1 f.1 then ngE f :: dmgI e k y else (e.1, e.2 - f.2) :: k y
/-- Two lists in order as one: the one's weights less the other's. -/
def dmg : List Ent → List Ent → List Ent
  | [], y => y.map ngE
  | e :: x, y => dmgI e (dmg x) y
theorem dmg_nil : ∀ x : List Ent, dmg x [] = x
  | [] => rfl
  | e :: x => by show e :: dmg x [] = e :: x; rw [dmg_nil x]
theorem dmg_lt {e f : Ent} {x y : List Ent} (h : cR e.1 f.1 < 0) : dmg (e :: x) (f :: y) = e :: dmg x (f :: y) := if_pos h
theorem dmg_gt {e f : Ent} {x y : List Ent} (h : 0 < cR e.1 f.1) : dmg (e :: x) (f :: y) = ngE f :: dmg (e :: x) y := (if_neg (by omega)).trans (if_pos h)
theorem dmg_eq {e f : Ent} {x y : List Ent} (h : cR e.1 f.1 = 0) : dmg (e :: x) (f :: y) = (e.1, e.2 - f.2) :: dmg x y := (if_neg (by omega)).trans (if_neg (by omega))
theorem dmg_none (f : Ent) (y : List Ent) : dmg [] (f :: y) = ngE f :: dmg [] y := rfl
theorem dmg_memK : ∀ (k : Nat) (x y : List Ent), x.length + y.length ≤ k → ∀ e : Ent, e ∈ dmg x y → (∃ e' ∈ x, e'.1 = e.1) ∨ ∃ e' ∈ y, e'.1 = e.1
  | _, [], y, _, e, h => by
    obtain ⟨f, hf, rfl⟩ := List.mem_map.1 (show e ∈ y.map ngE from h)
    exact .inr ⟨f, hf, rfl⟩
  | _, a :: x, [], _, e, h => by rw [dmg_nil] at h; exact .inl ⟨e, h, rfl⟩
  | 0, a :: x, b :: y, hk, _, _ => by simp at hk
  | k + 1, a :: x, b :: y, hk, e, h => by
    simp only [List.length_cons] at hk
    rcases Int.lt_trichotomy (cR a.1 b.1) 0 with hc | hc | hc
    · rw [dmg_lt hc] at h
      rcases List.mem_cons.1 h with rfl | h
      · exact .inl ⟨e, by simp, rfl⟩
      · rcases dmg_memK k x (b :: y) (by simp only [List.length_cons]; omega) e h with ⟨e', h1, h2⟩ | h'
        · exact .inl ⟨e', by simp [h1], h2⟩
        · exact .inr h'
    · rw [dmg_eq hc] at h
      rcases List.mem_cons.1 h with rfl | h
      · exact .inl ⟨a, by simp, rfl⟩
      · rcases dmg_memK k x y (by omega) e h with ⟨e', h1, h2⟩ | ⟨e', h1, h2⟩
        · exact .inl ⟨e', by simp [h1], h2⟩
        · exact .inr ⟨e', by simp [h1], h2⟩
    · rw [dmg_gt hc] at h
      rcases List.mem_cons.1 h with rfl | h
      · exact .inr ⟨b, by simp, rfl⟩
      · rcases dmg_memK k (a :: x) y (by simp only [List.length_cons]; omega) e h with h' | ⟨e', h1, h2⟩
        · exact .inl h'
        · exact .inr ⟨e', by simp [h1], h2⟩
theorem dmg_mem (x y : List Ent) (e : Ent) (h : e ∈ dmg x y) : (∃ e' ∈ x, e'.1 = e.1) ∨ ∃ e' ∈ y, e'.1 = e.1 := dmg_memK _ x y (Nat.le_refl _) e h
theorem sorted_ng {z : List Ent} (h : SortedZ z) : SortedZ (z.map ngE) := List.pairwise_map.2 h
theorem dmg_sortedK : ∀ (k : Nat) (x y : List Ent), x.length + y.length ≤ k → SortedZ x → SortedZ y → SortedZ (dmg x y)
  | _, [], y, _, _, hy => sorted_ng hy
  | _, a :: x, [], _, hx, _ => by rw [dmg_nil]; exact hx
  | 0, a :: x, b :: y, hk, _, _ => by simp at hk
  | k + 1, a :: x, b :: y, hk, hx, hy => by
    simp only [List.length_cons] at hk
    obtain ⟨x1, x2⟩ := List.pairwise_cons.1 hx
    obtain ⟨y1, y2⟩ := List.pairwise_cons.1 hy
    rcases Int.lt_trichotomy (cR a.1 b.1) 0 with hc | hc | hc
    · rw [dmg_lt hc]
      refine List.pairwise_cons.2 ⟨fun e he => ?_, dmg_sortedK k x (b :: y) (by simp only [List.length_cons]; omega) x2 hy⟩
      rcases dmg_mem x (b :: y) e he with ⟨e', h1, h2⟩ | ⟨e', h1, h2⟩
      · rw [← h2]; exact x1 e' h1
      · rw [← h2]
        rcases List.mem_cons.1 h1 with rfl | h1
        · exact hc
        · exact cR_lt_trans hc (y1 e' h1)
    · rw [dmg_eq hc]
      have hab := (cR_zero _ _).1 hc
      refine List.pairwise_cons.2 ⟨fun e he => ?_, dmg_sortedK k x y (by omega) x2 y2⟩
      show cR a.1 e.1 < 0
      rcases dmg_mem x y e he with ⟨e', h1, h2⟩ | ⟨e', h1, h2⟩
      · rw [← h2]; exact x1 e' h1
      · rw [← h2, hab]; exact y1 e' h1
    · rw [dmg_gt hc]
      have hba := cR_pos.1 hc
      refine List.pairwise_cons.2 ⟨fun e he => ?_, dmg_sortedK k (a :: x) y (by simp only [List.length_cons]; omega) hx y2⟩
      show cR b.1 e.1 < 0
      rcases dmg_mem (a :: x) y e he with ⟨e', h1, h2⟩ | ⟨e', h1, h2⟩
      · rw [← h2]
        rcases List.mem_cons.1 h1 with rfl | h1
        · exact hba
        · exact cR_lt_trans hba (x1 e' h1)
      · rw [← h2]; exact y1 e' h1
theorem dmg_sorted (x y : List Ent) (hx : SortedZ x) (hy : SortedZ y) : SortedZ (dmg x y) := dmg_sortedK _ x y (Nat.le_refl _) hx hy
theorem wt_dmgK (r : List Val) : ∀ (k : Nat) (x y : List Ent), x.length + y.length ≤ k → wt r (dmg x y) = wt r x - wt r y
  | _, [], y, _ => by rw [show dmg [] y = y.map ngE from rfl, wt_ng]; simp [wt]
  | _, a :: x, [], _ => by rw [dmg_nil]; simp [wt]
  | 0, a :: x, b :: y, hk => by simp at hk
  | k + 1, a :: x, b :: y, hk => by
    simp only [List.length_cons] at hk
    rcases Int.lt_trichotomy (cR a.1 b.1) 0 with hc | hc | hc
    · rw [dmg_lt hc]; have ih := wt_dmgK r k x (b :: y) (by simp only [List.length_cons]; omega); simp only [wt] at ih ⊢; omega
    · rw [dmg_eq hc]
      have hab := (cR_zero _ _).1 hc
      have ih := wt_dmgK r k x y (by omega)
      simp only [wt] at ih ⊢
      rw [ih, ← hab]; split <;> omega
    · rw [dmg_gt hc]; have ih := wt_dmgK r k (a :: x) y (by simp only [List.length_cons]; omega); simp only [wt, ngE] at ih ⊢; split <;> simp_all <;> omega
theorem wt_dmg (r : List Val) (x y : List Ent) : wt r (dmg x y) = wt r x - wt r y := wt_dmgK r _ x y (Nat.le_refl _)
theorem fits_iff {m : List Ent} (hm : SortedZ m) : fitsZ m = true ↔ ∀ r, inI (wt r m) = true := by
  unfold fitsZ
  rw [List.all_eq_true]
  constructor
  · intro h r
    by_cases h0 : wt r m = 0
    · rw [h0]; rfl
    · obtain ⟨e, he, rfl⟩ := mem_of_wt h0
      rw [wt_mem hm he]; exact h e he
  · intro h e he
    have := h e.1
    rw [wt_mem hm he] at this
    exact this
theorem sub_ok (la lb : List Ent) : okZ (la ++ lb.map ngE) = fitsZ (dmg (gat la) (gat lb)) := by
  have hm := dmg_sorted _ _ (gat_sorted la) (gat_sorted lb)
  have e : (okZ (la ++ lb.map ngE) = true) ↔ (fitsZ (dmg (gat la) (gat lb)) = true) := by
    rw [okZ_iff, fits_iff hm]
    constructor
    · intro h r; have := h r; rw [wt_append, wt_ng] at this; rw [wt_dmg, wt_gat, wt_gat]; rw [show wt r la - wt r lb = wt r la + - wt r lb by omega]; exact this
    · intro h r; have := h r; rw [wt_dmg, wt_gat, wt_gat] at this; rw [wt_append, wt_ng]; rw [show wt r la + - wt r lb = wt r la - wt r lb by omega]; exact this
  cases h1 : okZ (la ++ lb.map ngE) <;> cases h2 : fitsZ (dmg (gat la) (gat lb)) <;> simp_all
theorem sub_mk (la lb : List Ent) (h : fitsZ (dmg (gat la) (gat lb)) = true) : mkZ (la ++ lb.map ngE) = nzZ (dmg (gat la) (gat lb)) := by
  have hm := dmg_sorted _ _ (gat_sorted la) (gat_sorted lb)
  refine mkZ_of (by rw [sub_ok]; exact h) ⟨nzZ_sorted hm, nzZ_nz⟩ (fun r => ?_)
  rw [wt_nzZ, wt_dmg, wt_gat, wt_gat, wt_append, wt_ng]; omega
/-- How far the merging has come. -/
def SubTo (X Y : List Ent) (W0 : World) (i k : Nat) (v : Value) (wr : World) : Prop :=
  ∃ us acc, wr.ownsRow W0.heap.size 56 4 v us.length (ss us) ∧ Reads W0 us acc ∧ acc ++ dmg (X.drop i) (Y.drop k) = dmg X Y ∧ acc.length ≤ i + k ∧ Below W0.heap.size W0 wr
theorem wt_cases {z : List Ent} (hz : SortedZ z) (r : List Val) : wt r z = 0 ∨ ∃ e ∈ z, wt r z = e.2 := by
  by_cases h : wt r z = 0
  · exact .inl h
  · obtain ⟨e, he, rfl⟩ := mem_of_wt h
    exact .inr ⟨e, he, wt_mem hz he⟩
theorem dmg_bound {X Y : List Ent} (hX : SortedZ X) (hY : SortedZ Y) (bX : ∀ e ∈ X, -604462909807314587353088 ≤ e.2 ∧ e.2 ≤ 604462909807314587353088) (bY : ∀ e ∈ Y, -604462909807314587353088 ≤ e.2 ∧ e.2 ≤ 604462909807314587353088) :
    ∀ e ∈ dmg X Y, -1208925819614629174706176 ≤ e.2 ∧ e.2 ≤ 1208925819614629174706176 := by
  intro e he
  have h1 := wt_mem (dmg_sorted X Y hX hY) he
  rw [wt_dmg] at h1
  rcases wt_cases hX e.1 with h2 | ⟨x, hx, h2⟩ <;> rcases wt_cases hY e.1 with h3 | ⟨y, hy, h3⟩
  · omega
  · have := bY y hy; omega
  · have := bX x hx; omega
  · have := bX x hx; have := bY y hy; omega
theorem drop_dmg_x {X Y : List Ent} {i k : Nat} (hi : i < X.length) (hk : k < Y.length) (h : cR X[i].1 Y[k].1 < 0) : dmg (X.drop i) (Y.drop k) = X[i] :: dmg (X.drop (i + 1)) (Y.drop k) := by
  rw [List.drop_eq_getElem_cons hi, List.drop_eq_getElem_cons hk, dmg_lt h]
theorem drop_dmg_y {X Y : List Ent} {i k : Nat} (hi : i < X.length) (hk : k < Y.length) (h : 0 < cR X[i].1 Y[k].1) : dmg (X.drop i) (Y.drop k) = ngE Y[k] :: dmg (X.drop i) (Y.drop (k + 1)) := by
  rw [List.drop_eq_getElem_cons hi, List.drop_eq_getElem_cons hk, dmg_gt h]
theorem drop_dmg_e {X Y : List Ent} {i k : Nat} (hi : i < X.length) (hk : k < Y.length) (h : cR X[i].1 Y[k].1 = 0) : dmg (X.drop i) (Y.drop k) = (X[i].1, X[i].2 - Y[k].2) :: dmg (X.drop (i + 1)) (Y.drop (k + 1)) := by
  rw [List.drop_eq_getElem_cons hi, List.drop_eq_getElem_cons hk, dmg_eq h]
theorem drop_dmg_x0 {X Y : List Ent} {i k : Nat} (hi : i < X.length) (hk : Y.length ≤ k) : dmg (X.drop i) (Y.drop k) = X[i] :: dmg (X.drop (i + 1)) (Y.drop k) := by
  rw [List.drop_eq_nil_of_le hk, dmg_nil, dmg_nil, List.drop_eq_getElem_cons hi]
theorem drop_dmg_y0 {X Y : List Ent} {i k : Nat} (hi : X.length ≤ i) (hk : k < Y.length) : dmg (X.drop i) (Y.drop k) = ngE Y[k] :: dmg (X.drop i) (Y.drop (k + 1)) := by
  rw [List.drop_eq_nil_of_le hi, List.drop_eq_getElem_cons hk, dmg_none]
set_option maxHeartbeats 8000000 in
theorem refSub (la lb : List Ent) (va vb : Value) (w : World) (hn : la.length + lb.length ≤ 65536) (hka : ∀ e ∈ la, inI e.2 = true) (hkb : ∀ e ∈ lb, inI e.2 = true) (ha : EntsIs w va la) (hb : EntsIs w vb lb) (c : Int) (hc : c = if okZ (la ++ lb.map ngE) then 0 else 107) :
    Calls Tryd.prog 10 #[va, vb] w fun e w' => ∃ v, e = .returned (.tuple #[v, .int .i64 c]) ∧ EntsIs w' v (mkZ (la ++ lb.map ngE)) ∧ Below w.heap.size w w' := by
  have q1 := refGather la va w (by omega) hka ha
  have q2 : Hid (∀ W, Below w.heap.size w W → Calls Tryd.prog 23 #[vb] W fun e w' => ∃ v, e = .returned v ∧ GatTo lb W W lb.length v w') := fun W hW => refGather lb vb W (by omega) hkb (hb.on hW)
  obtain ⟨a0, cap, rfl⟩ := ha.form
  obtain ⟨b0, capb, rfl⟩ := hb.form
  have hgx := gat_bound (by omega) hka
  have hgy := gat_bound (by omega) hkb
  have hlx := gat_len la
  have hly := gat_len lb
  have HGX : Hid (∀ e ∈ gat la, -604462909807314587353088 ≤ e.2 ∧ e.2 ≤ 604462909807314587353088) := hgx
  have HGY : Hid (∀ e ∈ gat lb, -604462909807314587353088 ≤ e.2 ∧ e.2 ≤ 604462909807314587353088) := hgy
  have HSX : Hid (SortedZ (gat la)) := gat_sorted la
  have HSY : Hid (SortedZ (gat lb)) := gat_sorted lb
  have HM : Hid (fitsZ (dmg (gat la) (gat lb)) = true → c = 0 ∧ mkZ (la ++ lb.map ngE) = nzZ (dmg (gat la) (gat lb))) := fun h => ⟨by rw [hc, sub_ok, h]; rfl, sub_mk la lb h⟩
  have HN : Hid (fitsZ (dmg (gat la) (gat lb)) = false → c = 107 ∧ mkZ (la ++ lb.map ngE) = []) := fun h => ⟨by rw [hc, sub_ok, h]; rfl, by unfold mkZ; rw [sub_ok, h]; rfl⟩
  clear ha hb hka hkb hgx hgy hc
  go_enter Tryd.func10, Tryd.ntmps10
  go_wp2_with fail
  refine q1.mono ?_
  rintro e w1 ⟨v1, rfl, xs, hOx, hRx, hB1⟩
  rw [List.take_length] at hRx
  obtain ⟨avx, capx, rfl⟩ := hOx.form
  have q3 := q2.out w1 hB1
  have HOx : Hid (OwnS w.heap.size w1 (.slice avx xs.length capx) xs) := hOx
  have HRx : Hid (Reads w xs (gat la)) := hRx
  have HB1 : Hid (Below w.heap.size w w1) := hB1
  clear q1 q2 hOx hRx hB1
  go_wp2_with fail
  refine q3.mono ?_
  rintro e W0 ⟨v2, rfl, ys, hOy, hRy, hB2⟩
  rw [List.take_length] at hRy
  obtain ⟨avy, capy, rfl⟩ := hOy.form
  have OX : Hid (OwnS w.heap.size W0 (.slice avx xs.length capx) xs) := HOx.out.on hB2
  have OY : Hid (OwnS w1.heap.size W0 (.slice avy ys.length capy) ys) := hOy
  have RX : Hid (Reads W0 xs (gat la)) := (HRx.out.on HB1.out).on hB2
  have RY : Hid (Reads W0 ys (gat lb)) := hRy.on hB2
  have HB : Hid (Below w.heap.size w W0) := HB1.out.trans (hB2.mono HB1.out.size)
  have hnx : (gat la).length = xs.length := HRx.out.1.symm
  have hny : (gat lb).length = ys.length := hRy.1.symm
  clear q3 HOx HRx hOy hRy hB2 HB1
  generalize gat la = X at *
  generalize gat lb = Y at *
  obtain ⟨i0, hi, hz0, hz1, hz2⟩ := info_parts info_sum
  have H0 : Hid (SubTo X Y W0 0 0 (.slice none 0 0) W0) := ⟨[], [], World.ownsRow_nil _ _ _ _, Reads.nil _, rfl, by simp, Below.refl _ _⟩
  go_wp2_with fail
  go_loopw [8, 9, 10] (fun v i k wr => ∃ ii kk : Nat, ii ≤ xs.length ∧ kk ≤ ys.length ∧ i = .int .i64 ii ∧ k = .int .i64 kk ∧ SubTo X Y W0 ii kk v wr) (fun _ i k _ => (xs.length - (intOf i).toNat) + (ys.length - (intOf k).toNat))
  case atStart => exact ⟨0, 0, by omega, by omega, rfl, rfl, H0.out⟩
  case round =>
    obtain ⟨ii, kk, hii, hkk, rfl, rfl, us, acc, hU, hA, hM, hL, hB⟩ := hrel
    have HU : Hid (wr.ownsRow W0.heap.size 56 4 u8 us.length (ss us)) := hU
    have HA : Hid (Reads W0 us acc) := hA
    have HMr : Hid (acc ++ dmg (X.drop ii) (Y.drop kk) = dmg X Y) := hM
    have HBr : Hid (Below W0.heap.size W0 wr) := hB
    have hul : us.length ≤ ii + kk := by rw [hA.1]; exact hL
    have hal : acc.length ≤ ii + kk := hL
    clear hU hA hM hB hL H0
    by_cases k1 : ii < xs.length
    · have k1' : ii < X.length := by omega
      obtain ⟨gx, rfl, gx1, gx2, x1, x2, x3, x4⟩ := (OX.out.on HBr.out).at ii k1
      obtain ⟨rx1, rx2⟩ := RX.out.2 ii k1 k1'
      obtain ⟨ax, cx, ex⟩ := rx1.form
      rw [ex] at x1 rx1
      have I1 : (ii : Int) < (xs.length : Int) := by omega
      by_cases k2 : kk < ys.length
      · have k2' : kk < Y.length := by omega
        obtain ⟨gy, rfl, gy1, gy2, y1, y2, y3, y4⟩ := (OY.out.on HBr.out).at kk k2
        obtain ⟨ry1, ry2⟩ := RY.out.2 kk k2 k2'
        obtain ⟨ay, cy, ey⟩ := ry1.form
        rw [ey] at y1 ry1
        have I2 : (kk : Int) < (ys.length : Int) := by omega
        rw [rx2] at x2 x3 x4
        obtain ⟨rX, nX, hX⟩ : ∃ rX nX, X[ii] = (rX, nX) := ⟨_, _, rfl⟩
        have HXB := HGX.out _ (List.getElem_mem k1')
        rw [hX] at x1 x2 x3 x4 rx1 HXB
        simp only at x1 x2 x3 x4 rx1 HXB
        have RXR : Hid (RowIs W0 (.slice ax rX.length cx) rX) := rx1
        rw [ry2] at y2 y3 y4
        obtain ⟨rY, nY, hY⟩ : ∃ rY nY, Y[kk] = (rY, nY) := ⟨_, _, rfl⟩
        have HYB := HGY.out _ (List.getElem_mem k2')
        rw [hY] at y1 y2 y3 y4 ry1 HYB
        simp only at y1 y2 y3 y4 ry1 HYB
        have RYR : Hid (RowIs W0 (.slice ay rY.length cy) rY) := ry1
        have q1 : Hid (∀ d os, Calls Tryd.prog 24 #[.slice ax rX.length cx, .slice ay rY.length cy] (grow (redrawn wr d) os) fun e w'' => e = .returned (.int .i64 (cR rX rY)) ∧ ∃ p : Regrown, w'' = grow (redrawn wr p.d) p.os) :=
          fun d os => Calls.regrown_of (refCompareRows _ _ _ _ _ (RXR.out.on (HBr.out.trans ((below_regrown wr d os).mono HBr.out.size))) (RYR.out.on (HBr.out.trans ((below_regrown wr d os).mono HBr.out.size))))
        have EA : Hid (cR rX rY < 0 → dmg (X.drop ii) (Y.drop kk) = (rX, nX) :: dmg (X.drop (ii + 1)) (Y.drop kk)) := fun h => by rw [drop_dmg_x k1' k2' (by rw [hX, hY]; exact h), hX]
        have EB : Hid (0 < cR rX rY → dmg (X.drop ii) (Y.drop kk) = (rY, -nY) :: dmg (X.drop ii) (Y.drop (kk + 1))) := fun h => by rw [drop_dmg_y k1' k2' (by rw [hX, hY]; exact h), hY]; rfl
        have EC : Hid (cR rX rY = 0 → dmg (X.drop ii) (Y.drop kk) = (rX, nX - nY) :: dmg (X.drop (ii + 1)) (Y.drop (kk + 1))) := fun h => by rw [drop_dmg_e k1' k2' (by rw [hX, hY]; exact h), hX, hY]
        have g1 := fun d os => cell_regrown x1 d os
        have g2 := fun d os => cell_regrown y1 d os
        have I3 : ¬ (xs.length : Int) ≤ (ii : Int) := by omega
        have I4 : ¬ (ys.length : Int) ≤ (kk : Int) := by omega
        generalize cR rX rY = c0 at *
        generalize hnxl : rX.length = nxl at *
        generalize hnyl : rY.length = nyl at *
        have X1 : Hid (wr.cell? ⟨gx, ii * 4, none⟩ = some (.slice ax nxl cx) ∧ wr.cell? ⟨gx, ii * 4 + 1, none⟩ = some (.int .u64 (wHi nX)) ∧ wr.cell? ⟨gx, ii * 4 + 2, none⟩ = some (.int .u64 (wMid nX)) ∧ wr.cell? ⟨gx, ii * 4 + 3, none⟩ = some (.int .u64 (wLo nX))) := ⟨x1, x2, x3, x4⟩
        have Y1 : Hid (wr.cell? ⟨gy, kk * 4, none⟩ = some (.slice ay nyl cy) ∧ wr.cell? ⟨gy, kk * 4 + 1, none⟩ = some (.int .u64 (wHi nY)) ∧ wr.cell? ⟨gy, kk * 4 + 2, none⟩ = some (.int .u64 (wMid nY)) ∧ wr.cell? ⟨gy, kk * 4 + 3, none⟩ = some (.int .u64 (wLo nY))) := ⟨y1, y2, y3, y4⟩
        clear rx1 rx2 ex hX ry1 ry2 ey hY x1 x2 x3 x4 y1 y2 y3 y4
        go_wp2_with fail
        refine wp_region_quiet_below (by kernel_rfl) (by kernel_rfl) ?_
        iterate 12 (quiet_step (exact q1.out _ _))
        refine wpQuiet_nil ?_
        intro w6 hw6
        obtain ⟨p6, hw6⟩ := hw6
        have hb6 : Below wr.heap.size wr w6 := by rw [hw6]; exact below_regrown wr _ _
        have B6 : Hid (Below W0.heap.size W0 w6) := HBr.out.trans (hb6.mono HBr.out.size)
        have U6 : Hid (w6.ownsRow W0.heap.size 56 4 u8 us.length (ss us)) := own_on HU.out hb6
        have x1 := cell_on X1.out.1 hb6
        have x2 := cell_on X1.out.2.1 hb6
        have x3 := cell_on X1.out.2.2.1 hb6
        have x4 := cell_on X1.out.2.2.2 hb6
        have y1 := cell_on Y1.out.1 hb6
        have y2 := cell_on Y1.out.2.1 hb6
        have y3 := cell_on Y1.out.2.2.1 hb6
        have y4 := cell_on Y1.out.2.2.2 hb6
        clear hw6 g1 g2 q1 hb6 X1 Y1 HU HBr
        rcases Int.lt_trichotomy c0 0 with hcc | hcc | hcc
        · have EA : Hid (dmg (X.drop ii) (Y.drop kk) = (rX, nX) :: dmg (X.drop (ii + 1)) (Y.drop kk)) := EA.out hcc
          have F : Hid (∀ v3 w3, w3.ownsRow W0.heap.size 56 4 v3 (us.length + 1) (ss us ++ [.slice ax nxl cx, .int .u64 (wHi nX), .int .u64 (wMid nX), .int .u64 (wLo nX)]) → (w6.alloc (.cells #[.slice ax nxl cx, .int .u64 (wHi nX), .int .u64 (wMid nX), .int .u64 (wLo nX)] 56)).grownBy w3 (Value.ownBlock u8) → SubTo X Y W0 (ii + 1) kk v3 w3) := by
            intro v3 w3 g1 g2
            refine ⟨us ++ [(.slice ax nxl cx, nX)], acc ++ [(rX, nX)], by rw [ss_snoc, List.length_append]; exact g1, HA.out.snoc RXR.out nX, by rw [List.append_assoc, List.singleton_append, ← EA.out]; exact HMr.out, by simp; omega, (B6.out.alloc B6.out.size _).grown g2 (by have := B6.out.size; simp; omega) (fun k e => (U6.out.lt k e).1)⟩
          have hsz := B6.out.size
          go_wp2_with (first | (at_builtin; refine wpList_append_own _ rfl _ _ 49 rfl W0.heap.size 56 i0 (.agg #[.slice none 0 0, .int .u64 0, .int .u64 0, .int .u64 0]) 4 48 Tryd.underlying49 hi hz0 hz1 hz2 rfl (by decide) _ us.length (ss us) rfl (U6.out.alloc _) ⟨w6.heap.size, 0, none⟩ 1 1 [.slice ax nxl cx, .int .u64 (wHi nX), .int .u64 (wMid nX), .int .u64 (wLo nX)] rfl rfl (cell_four_new _ _ _ _ _ _) (by simp [Value.oneCell']) (by unfold maxLen; omega) (by omega) (by simp; omega) ?_; intro v3 w3 hown3 hg3 _; have hs3 := F.out _ _ hown3 hg3; clear hown3 hg3 F) | fail)
          go_roundw
          case rel => exact ⟨ii + 1, kk, by omega, by omega, by go_num, rfl, hs3⟩
          case measure => simp [intOf]; omega
        · have EC1 : Hid (dmg (X.drop ii) (Y.drop kk) = (rX, nX - nY) :: dmg (X.drop (ii + 1)) (Y.drop (kk + 1))) := EC.out hcc
          subst hcc
          have F : Hid (∀ w7 v3 w3, Below w6.heap.size w6 w7 → w3.ownsRow W0.heap.size 56 4 v3 (us.length + 1) (ss us ++ [.slice ax nxl cx, .int .u64 (wHi (nX - nY)), .int .u64 (wMid (nX - nY)), .int .u64 (wLo (nX - nY))]) → (w7.alloc (.cells #[.slice ax nxl cx, .int .u64 (wHi (nX - nY)), .int .u64 (wMid (nX - nY)), .int .u64 (wLo (nX - nY))] 56)).grownBy w3 (Value.ownBlock u8) → SubTo X Y W0 (ii + 1) (kk + 1) v3 w3) := by
            intro w7 v3 w3 g0 g1 g2
            have hb7 : Below W0.heap.size W0 w7 := B6.out.trans (g0.mono B6.out.size)
            refine ⟨us ++ [(.slice ax nxl cx, nX - nY)], acc ++ [(rX, nX - nY)], by rw [ss_snoc, List.length_append]; exact g1, HA.out.snoc RXR.out (nX - nY), by rw [List.append_assoc, List.singleton_append, ← EC1.out]; exact HMr.out, by simp; omega, (hb7.alloc hb7.size _).grown g2 (by have := hb7.size; simp; omega) (fun k e => (U6.out.lt k e).1)⟩
          have qm : Hid (∀ W, Calls Tryd.prog 25 #[.agg #[.int .u64 (wHi nY), .int .u64 (wMid nY), .int .u64 (wLo nY)]] W fun e w' => e = .returned (.agg #[.int .u64 (wHi (-nY)), .int .u64 (wMid (-nY)), .int .u64 (wLo (-nY))]) ∧ Below W.heap.size W w') := fun W => refMinus nY W
          have qp : Hid (∀ W, Calls Tryd.prog 26 #[.agg #[.int .u64 (wHi nX), .int .u64 (wMid nX), .int .u64 (wLo nX)], .agg #[.int .u64 (wHi (-nY)), .int .u64 (wMid (-nY)), .int .u64 (wLo (-nY))]] W fun e w' => e = .returned (.agg #[.int .u64 (wHi (nX - nY)), .int .u64 (wMid (nX - nY)), .int .u64 (wLo (nX - nY))]) ∧ Below W.heap.size W w') := fun W => by have := refPlus nX (-nY) W; rw [show nX + -nY = nX - nY by omega] at this; exact this
          have hsz := B6.out.size
          have x1d : Hid (w6.drew.cell? ⟨gx, ii * 4, none⟩ = some (.slice ax nxl cx)) := x1
          have x2d : Hid (w6.drew.cell? ⟨gx, ii * 4 + 1, none⟩ = some (.int .u64 (wHi nX))) := x2
          have x3d : Hid (w6.drew.cell? ⟨gx, ii * 4 + 2, none⟩ = some (.int .u64 (wMid nX))) := x3
          have x4d : Hid (w6.drew.cell? ⟨gx, ii * 4 + 3, none⟩ = some (.int .u64 (wLo nX))) := x4
          have UCd : Hid (w6.drew.ownsRow W0.heap.size 56 4 u8 us.length (ss us)) := U6.out
          have H7d : Hid (∀ w7, Below w6.drew.heap.size w6.drew w7 → Below w6.heap.size w6 w7) := fun w7 h => ⟨h.os, h.tape, h.output, h.size, h.block⟩
          go_wp2_with fail
          go_region_law (first
            | (refine step_call1 (by rfl) 25 (.tmp 66) 54 (by rfl) (enters_of Tryd.func25 (by kernel_rfl) rfl) _ (by rfl) _ _ (qm.out _) ?_; intro w7 hb7; have z1 := cell_on x1d.out hb7; have z2 := cell_on x2d.out hb7; have z3 := cell_on x3d.out hb7; have z4 := cell_on x4d.out hb7; have H7 : Hid (Below w6.drew.heap.size w6.drew w7) := hb7; clear hb7)
            | (refine step_call2 (by rfl) 26 (.tmp 61) (.tmp 67) 54 54 (by rfl) (enters_of Tryd.func26 (by kernel_rfl) rfl) _ _ (by rfl) (by rfl) _ _ (qp.out _) ?_; intro w8 hb8; have hb9 := H7.out.trans (hb8.mono H7.out.size); have t1 := cell_on x1d.out hb9; have o8 : Hid (w8.ownsRow W0.heap.size 56 4 u8 us.length (ss us)) := own_on UCd.out hb9; have H8 : Hid (Below w6.heap.size w6 w8) := H7d.out _ hb9; have hs8 : w6.heap.size ≤ w8.heap.size := H8.out.size; clear hb8 hb9)
            | (refine step_append_own' _ (by rfl) (.tmp 51) (.tmp 70) 49 (by rfl) W0.heap.size 56 i0 (.agg #[.slice none 0 0, .int .u64 0, .int .u64 0, .int .u64 0]) 4 48 Tryd.underlying49 hi hz0 hz1 hz2 rfl (by decide) _ us.length (ss us) (by rfl) (o8.out.alloc _) ⟨w8.heap.size, 0, none⟩ 1 1 [.slice ax nxl cx, .int .u64 (wHi (nX - nY)), .int .u64 (wMid (nX - nY)), .int .u64 (wLo (nX - nY))] (by rfl) (by rfl) (cell_four_new _ _ _ _ _ _) (by simp [Value.oneCell']) (by unfold maxLen; omega) (by omega) (by simp; omega) ?_; intro v3 w3 hown3 hg3; have hs3 := F.out _ _ _ H8.out hown3 hg3; clear hown3 hg3))
          all_goals
            clear F qm qp
            go_wp2_with fail
            go_roundw
            case rel => exact ⟨ii + 1, kk + 1, by omega, by omega, by go_num, by go_num, hs3⟩
            case measure => simp [intOf]; omega
        · have EB : Hid (dmg (X.drop ii) (Y.drop kk) = (rY, -nY) :: dmg (X.drop ii) (Y.drop (kk + 1))) := EB.out hcc
          have hcc2 : ¬ c0 < 0 := by omega
          have F : Hid (∀ w7 v3 w3, Below w6.heap.size w6 w7 → w3.ownsRow W0.heap.size 56 4 v3 (us.length + 1) (ss us ++ [.slice ay nyl cy, .int .u64 (wHi (-nY)), .int .u64 (wMid (-nY)), .int .u64 (wLo (-nY))]) → (w7.alloc (.cells #[.slice ay nyl cy, .int .u64 (wHi (-nY)), .int .u64 (wMid (-nY)), .int .u64 (wLo (-nY))] 56)).grownBy w3 (Value.ownBlock u8) → SubTo X Y W0 ii (kk + 1) v3 w3) := by
            intro w7 v3 w3 g0 g1 g2
            have hb7 : Below W0.heap.size W0 w7 := B6.out.trans (g0.mono B6.out.size)
            refine ⟨us ++ [(.slice ay nyl cy, -nY)], acc ++ [(rY, -nY)], by rw [ss_snoc, List.length_append]; exact g1, HA.out.snoc RYR.out (-nY), by rw [List.append_assoc, List.singleton_append, ← EB.out]; exact HMr.out, by simp; omega, (hb7.alloc hb7.size _).grown g2 (by have := hb7.size; simp; omega) (fun k e => (U6.out.lt k e).1)⟩
          have qm : Hid (∀ W, Calls Tryd.prog 25 #[.agg #[.int .u64 (wHi nY), .int .u64 (wMid nY), .int .u64 (wLo nY)]] W fun e w' => e = .returned (.agg #[.int .u64 (wHi (-nY)), .int .u64 (wMid (-nY)), .int .u64 (wLo (-nY))]) ∧ Below W.heap.size W w') := fun W => refMinus nY W
          have hsz := B6.out.size
          have y1d : Hid (w6.drew.cell? ⟨gy, kk * 4, none⟩ = some (.slice ay nyl cy)) := y1
          have UCd : Hid (w6.drew.ownsRow W0.heap.size 56 4 u8 us.length (ss us)) := U6.out
          have H7d : Hid (∀ w7, Below w6.drew.heap.size w6.drew w7 → Below w6.heap.size w6 w7) := fun w7 h => ⟨h.os, h.tape, h.output, h.size, h.block⟩
          go_wp2_with fail
          go_region_law (first
            | (refine step_call1 (by rfl) 25 (.tmp 101) 54 (by rfl) (enters_of Tryd.func25 (by kernel_rfl) rfl) _ (by rfl) _ _ (qm.out _) ?_; intro w7 hb7; have z1 := cell_on y1d.out hb7; have o7 : Hid (w7.ownsRow W0.heap.size 56 4 u8 us.length (ss us)) := own_on UCd.out hb7; have H7 : Hid (Below w6.heap.size w6 w7) := H7d.out _ hb7; have hs7 : w6.heap.size ≤ w7.heap.size := H7.out.size; clear hb7)
            | (refine step_append_own' _ (by rfl) (.tmp 91) (.tmp 104) 49 (by rfl) W0.heap.size 56 i0 (.agg #[.slice none 0 0, .int .u64 0, .int .u64 0, .int .u64 0]) 4 48 Tryd.underlying49 hi hz0 hz1 hz2 rfl (by decide) _ us.length (ss us) (by rfl) (o7.out.alloc _) ⟨w7.heap.size, 0, none⟩ 1 1 [.slice ay nyl cy, .int .u64 (wHi (-nY)), .int .u64 (wMid (-nY)), .int .u64 (wLo (-nY))] (by rfl) (by rfl) (cell_four_new _ _ _ _ _ _) (by simp [Value.oneCell']) (by unfold maxLen; omega) (by omega) (by simp; omega) ?_; intro v3 w3 hown3 hg3; have hs3 := F.out _ _ _ H7.out hown3 hg3; clear hown3 hg3))
          all_goals
            clear F qm
            go_wp2_with fail
            go_roundw
            case rel => exact ⟨ii, kk + 1, by omega, by omega, rfl, by go_num, hs3⟩
            case measure => simp [intOf]; omega
      · rw [rx2] at x2 x3 x4
        obtain ⟨rX, nX, hX⟩ : ∃ rX nX, X[ii] = (rX, nX) := ⟨_, _, rfl⟩
        have HXB := HGX.out _ (List.getElem_mem k1')
        rw [hX] at x1 x2 x3 x4 rx1 HXB
        simp only at x1 x2 x3 x4 rx1 HXB
        have RXR : Hid (RowIs W0 (.slice ax rX.length cx) rX) := rx1
        have EA : Hid (dmg (X.drop ii) (Y.drop kk) = (rX, nX) :: dmg (X.drop (ii + 1)) (Y.drop kk)) := by show _ = _; rw [drop_dmg_x0 k1' (by omega), hX]
        have I2 : ¬ (kk : Int) < (ys.length : Int) := by omega
        have I3 : (ys.length : Int) ≤ (kk : Int) := by omega
        generalize hnxl : rX.length = nxl at *
        clear rx1 rx2 ex hX
        have F : Hid (∀ v3 w3, w3.ownsRow W0.heap.size 56 4 v3 (us.length + 1) (ss us ++ [.slice ax nxl cx, .int .u64 (wHi nX), .int .u64 (wMid nX), .int .u64 (wLo nX)]) → (wr.alloc (.cells #[.slice ax nxl cx, .int .u64 (wHi nX), .int .u64 (wMid nX), .int .u64 (wLo nX)] 56)).grownBy w3 (Value.ownBlock u8) → SubTo X Y W0 (ii + 1) kk v3 w3) := by
          intro v3 w3 g1 g2
          refine ⟨us ++ [(.slice ax nxl cx, nX)], acc ++ [(rX, nX)], by rw [ss_snoc, List.length_append]; exact g1, HA.out.snoc RXR.out nX, by rw [List.append_assoc, List.singleton_append, ← EA.out]; exact HMr.out, by simp; omega, (HBr.out.alloc HBr.out.size _).grown g2 (by have := HBr.out.size; simp; omega) (fun k e => (HU.out.lt k e).1)⟩
        have hsz := HBr.out.size
        go_wp2_with (first | (at_builtin; refine wpList_append_own _ rfl _ _ 49 rfl W0.heap.size 56 i0 (.agg #[.slice none 0 0, .int .u64 0, .int .u64 0, .int .u64 0]) 4 48 Tryd.underlying49 hi hz0 hz1 hz2 rfl (by decide) _ us.length (ss us) rfl (HU.out.alloc _) ⟨wr.heap.size, 0, none⟩ 1 1 [.slice ax nxl cx, .int .u64 (wHi nX), .int .u64 (wMid nX), .int .u64 (wLo nX)] rfl rfl (cell_four_new _ _ _ _ _ _) (by simp [Value.oneCell']) (by unfold maxLen; omega) (by omega) (by simp; omega) ?_; intro v3 w3 hown3 hg3 _; have hs3 := F.out _ _ hown3 hg3; clear hown3 hg3 F) | fail)
        go_roundw
        case rel => exact ⟨ii + 1, kk, by omega, by omega, by go_num, rfl, hs3⟩
        case measure => simp [intOf]; omega
    · by_cases k2 : kk < ys.length
      · have k2' : kk < Y.length := by omega
        obtain ⟨gy, rfl, gy1, gy2, y1, y2, y3, y4⟩ := (OY.out.on HBr.out).at kk k2
        obtain ⟨ry1, ry2⟩ := RY.out.2 kk k2 k2'
        obtain ⟨ay, cy, ey⟩ := ry1.form
        rw [ey] at y1 ry1
        have I2 : (kk : Int) < (ys.length : Int) := by omega
        rw [ry2] at y2 y3 y4
        obtain ⟨rY, nY, hY⟩ : ∃ rY nY, Y[kk] = (rY, nY) := ⟨_, _, rfl⟩
        have HYB := HGY.out _ (List.getElem_mem k2')
        rw [hY] at y1 y2 y3 y4 ry1 HYB
        simp only at y1 y2 y3 y4 ry1 HYB
        have RYR : Hid (RowIs W0 (.slice ay rY.length cy) rY) := ry1
        have EB : Hid (dmg (X.drop ii) (Y.drop kk) = (rY, -nY) :: dmg (X.drop ii) (Y.drop (kk + 1))) := by show _ = _; rw [drop_dmg_y0 (by omega) k2', hY]; rfl
        have I1 : decide ((ii : Int) < (xs.length : Int)) = false := by simp; omega
        have I3 : (xs.length : Int) ≤ (ii : Int) := by omega
        generalize hnyl : rY.length = nyl at *
        clear ry1 ry2 ey hY
        have F : Hid (∀ w7 v3 w3, Below wr.heap.size wr w7 → w3.ownsRow W0.heap.size 56 4 v3 (us.length + 1) (ss us ++ [.slice ay nyl cy, .int .u64 (wHi (-nY)), .int .u64 (wMid (-nY)), .int .u64 (wLo (-nY))]) → (w7.alloc (.cells #[.slice ay nyl cy, .int .u64 (wHi (-nY)), .int .u64 (wMid (-nY)), .int .u64 (wLo (-nY))] 56)).grownBy w3 (Value.ownBlock u8) → SubTo X Y W0 ii (kk + 1) v3 w3) := by
          intro w7 v3 w3 g0 g1 g2
          have hb7 : Below W0.heap.size W0 w7 := HBr.out.trans (g0.mono HBr.out.size)
          refine ⟨us ++ [(.slice ay nyl cy, -nY)], acc ++ [(rY, -nY)], by rw [ss_snoc, List.length_append]; exact g1, HA.out.snoc RYR.out (-nY), by rw [List.append_assoc, List.singleton_append, ← EB.out]; exact HMr.out, by simp; omega, (hb7.alloc hb7.size _).grown g2 (by have := hb7.size; simp; omega) (fun k e => (HU.out.lt k e).1)⟩
        have qm : Hid (∀ W, Calls Tryd.prog 25 #[.agg #[.int .u64 (wHi nY), .int .u64 (wMid nY), .int .u64 (wLo nY)]] W fun e w' => e = .returned (.agg #[.int .u64 (wHi (-nY)), .int .u64 (wMid (-nY)), .int .u64 (wLo (-nY))]) ∧ Below W.heap.size W w') := fun W => refMinus nY W
        have hsz := HBr.out.size
        have y1d : Hid (wr.drew.cell? ⟨gy, kk * 4, none⟩ = some (.slice ay nyl cy)) := y1
        have UCd : Hid (wr.drew.ownsRow W0.heap.size 56 4 u8 us.length (ss us)) := HU.out
        have H7d : Hid (∀ w7, Below wr.drew.heap.size wr.drew w7 → Below wr.heap.size wr w7) := fun w7 h => ⟨h.os, h.tape, h.output, h.size, h.block⟩
        go_wp2_with fail
        go_region_law (first
          | (refine step_call1 (by rfl) 25 (.tmp 101) 54 (by rfl) (enters_of Tryd.func25 (by kernel_rfl) rfl) _ (by rfl) _ _ (qm.out _) ?_; intro w7 hb7; have z1 := cell_on y1d.out hb7; have o7 : Hid (w7.ownsRow W0.heap.size 56 4 u8 us.length (ss us)) := own_on UCd.out hb7; have H7 : Hid (Below wr.heap.size wr w7) := H7d.out _ hb7; have hs7 : wr.heap.size ≤ w7.heap.size := H7.out.size; clear hb7)
          | (refine step_append_own' _ (by rfl) (.tmp 91) (.tmp 104) 49 (by rfl) W0.heap.size 56 i0 (.agg #[.slice none 0 0, .int .u64 0, .int .u64 0, .int .u64 0]) 4 48 Tryd.underlying49 hi hz0 hz1 hz2 rfl (by decide) _ us.length (ss us) (by rfl) (o7.out.alloc _) ⟨w7.heap.size, 0, none⟩ 1 1 [.slice ay nyl cy, .int .u64 (wHi (-nY)), .int .u64 (wMid (-nY)), .int .u64 (wLo (-nY))] (by rfl) (by rfl) (cell_four_new _ _ _ _ _ _) (by simp [Value.oneCell']) (by unfold maxLen; omega) (by omega) (by simp; omega) ?_; intro v3 w3 hown3 hg3; have hs3 := F.out _ _ _ H7.out hown3 hg3; clear hown3 hg3))
        all_goals
          clear F qm
          go_wp2_with fail
          go_roundw
          case rel => exact ⟨ii, kk + 1, by omega, by omega, rfl, by go_num, hs3⟩
          case measure => simp [intOf]; omega
      · have I1 : decide ((ii : Int) < (xs.length : Int)) = false := by simp; omega
        have I2 : ¬ (kk : Int) < (ys.length : Int) := by omega
        obtain ⟨W1, hW1⟩ : ∃ W1, W1 = wr := ⟨wr, rfl⟩
        subst hW1
        have eacc : acc = dmg X Y := by
          have := HMr.out
          rw [List.drop_eq_nil_of_le (by omega), List.drop_eq_nil_of_le (by omega), dmg_nil, List.append_nil] at this
          exact this
        subst eacc
        obtain ⟨av, capv, hv8⟩ := own_form HU.out
        subst hv8
        have HB0 : Hid (∀ e ∈ dmg X Y, -1208925819614629174706176 ≤ e.2 ∧ e.2 ≤ 1208925819614629174706176) := fun e he => dmg_bound HSX.out HSY.out HGX.out HGY.out e he
        have HO : Hid (OwnS W0.heap.size W1 (.slice av us.length capv) us) := HU.out
        have HB01 : Hid (Below W0.heap.size W0 W1) := HBr.out
        have HB' : Hid (Below w.heap.size w W1) := HB.out.trans (HBr.out.mono HB.out.size)
        have hnz : (dmg X Y).length = us.length := HA.out.1.symm
        have HR : Hid (Reads W0 us (dmg X Y)) := HA.out
        clear HB HU HMr HA HBr OX OY RX RY HGX HGY HSX HSY hi hz0 hz1 hz2
        have HB : Hid (Below w.heap.size w W1) := HB'.out
        clear HB'
        obtain ⟨j0, hi, hz0, hz1, hz2⟩ := info_parts info_entry
        generalize dmg X Y = z at *
        generalize us = vs at *
        have H0 : Hid (MakeTo z W0 W1 0 (.slice none 0 0) W1) := ⟨rfl, [], World.ownsRow_nil _ _ _ _, Reads.nil _, Below.refl _ _⟩
        go_wp2_with fail
        go_loopw [12, 13] (fun v i wr => ∃ j : Nat, j ≤ vs.length ∧ i = .int .i64 j ∧ MakeTo z W0 W1 j v wr) (fun _ i _ => vs.length - (intOf i).toNat)
        case atStart => exact ⟨0, by omega, rfl, H0.out⟩
        case round =>
          obtain ⟨j, hj, rfl, hf, us, hU, hRu, hb⟩ := hrel
          have HU : Hid (wr.ownsRow W1.heap.size 42 2 u12 us.length (es us)) := hU
          have HRu : Hid (Reads W0 us (nzZ (z.take j))) := hRu
          have Hb : Hid (Below W1.heap.size W1 wr) := hb
          have HF : Hid (fitsZ (z.take j) = true) := hf
          have hul : us.length ≤ vs.length := by rw [hRu.1, ← hnz]; exact nz_len z j
          clear hU hRu hb hf
          by_cases k1 : j < vs.length
          · have k2 : j < z.length := by omega
            obtain ⟨g, rfl, hg1, hg2, y1, y2, y3, y4⟩ := (HO.out.on Hb.out).at j k1
            obtain ⟨r1, r2⟩ := HR.out.2 j k1 k2
            obtain ⟨am, cm, em⟩ := r1.form
            rw [em] at y1 r1
            rw [r2] at y2 y3 y4
            have hbd := HB0.out _ (List.getElem_mem k2)
            have I1 : (j : Int) < (vs.length : Int) := by omega
            have EF : Hid (fitsZ (z.take (j + 1)) = (fitsZ (z.take j) && inI z[j].2)) := fits_snoc k2
            have EN : Hid (inI z[j].2 = false → fitsZ z = false) := fits_not k2
            have EZ : Hid (nzZ (z.take (j + 1)) = nzZ (z.take j) ++ (if z[j].2 = 0 then [] else [z[j]])) := nz_snoc k2
            have HRow : Hid (RowIs W0 (.slice am z[j].1.length cm) z[j].1) := r1
            obtain ⟨zr, zn, hzz⟩ : ∃ zr zn, z[j] = (zr, zn) := ⟨_, _, rfl⟩
            rw [hzz] at y1 y2 y3 y4 hbd EF EN EZ HRow
            simp only at y1 y2 y3 y4 hbd EF EN EZ HRow
            clear r1 r2 em hzz
            by_cases hin : -9223372036854775808 ≤ zn ∧ zn ≤ 9223372036854775807
            · have hI : inI zn = true := by unfold inI; simp; exact hin
              have q1 : Hid (Calls Tryd.prog 27 #[wV zn] wr fun e w' => e = .returned (.tuple #[.int .i64 zn, .bool true]) ∧ Below wr.heap.size wr w') := refNarrow zn (by omega) (by omega) zn true (fun _ => ⟨rfl, rfl⟩) (fun h => absurd hin h) wr
              unfold wV at q1
              have EF1 : Hid (fitsZ (z.take (j + 1)) = true) := by show _ = _; rw [EF.out, HF.out, hI]; rfl
              clear EF EN HF hI
              generalize wHi zn = thi at *
              generalize wMid zn = tmid at *
              generalize wLo zn = tlo at *
              generalize hzl : zr.length = nm at *
              go_wp2_with fail
              refine q1.out.mono ?_
              rintro e w2 ⟨rfl, hb2⟩
              have y1' := cell_on y1 hb2
              have HU2 : Hid (w2.ownsRow W1.heap.size 42 2 u12 us.length (es us)) := own_on HU.out hb2
              have Hb2 : Hid (Below W1.heap.size W1 w2) := Hb.out.trans (hb2.mono Hb.out.size)
              clear hb2 q1 y1 y2 y3 y4
              by_cases h0 : zn = 0
              · subst h0
                have hf : MakeTo z W0 W1 (j + 1) u12 w2 := ⟨EF1.out, us, HU2.out, by rw [EZ.out]; simpa using HRu.out, Hb2.out⟩
                clear EZ
                go_wp2_with fail
                go_roundw
                case rel => exact ⟨j + 1, by omega, by go_num, hf⟩
                case measure => simp [intOf]; omega
              · have b0 : (zn == 0) = false := by simp [h0]
                have F : Hid (∀ v2 w3, w3.ownsRow W1.heap.size 42 2 v2 (us.length + 1) (es us ++ ec (.slice am nm cm, zn)) → (w2.alloc (.cells #[.slice am nm cm, .int .i64 zn] 42)).grownBy w3 (Value.ownBlock u12) → MakeTo z W0 W1 (j + 1) v2 w3) := by
                  intro v2 w3 g1 g2
                  refine ⟨EF1.out, us ++ [(.slice am nm cm, zn)], ?_, ?_, ?_⟩
                  · rw [es_snoc, List.length_append]; exact g1
                  · rw [EZ.out, if_neg h0]; exact HRu.out.snoc HRow.out zn
                  · exact (Hb2.out.alloc Hb2.out.size _).grown g2 (by have := Hb2.out.size; simp; omega) (fun k e => (HU2.out.lt k e).1)
                have hsz := Hb2.out.size
                clear EZ EF1
                go_wp2_with (first | (at_builtin; refine wpList_append_own _ rfl _ _ 27 rfl W1.heap.size 42 j0 (.agg #[.slice none 0 0, .int .i64 0]) 2 32 Tryd.underlying27 hi hz0 hz1 hz2 rfl (by decide) _ us.length (es us) rfl (HU2.out.alloc _) ⟨w2.heap.size, 0, none⟩ 1 1 (ec (.slice am nm cm, zn)) rfl rfl (cell_two_new _ _ _ _) (by simp [ec, Value.oneCell']) (by unfold maxLen; omega) (by omega) (by simp; omega) ?_; intro v2 w3 hown3 hg3 _; have hf := F.out _ _ hown3 hg3; clear hown3 hg3 F) | fail)
                go_roundw
                case rel => exact ⟨j + 1, by omega, by go_num, hf⟩
                case measure => simp [intOf]; omega
            · have hI : inI zn = false := by unfold inI; simp; omega
              have q1 : Hid (Calls Tryd.prog 27 #[wV zn] wr fun e w' => e = .returned (.tuple #[.int .i64 0, .bool false]) ∧ Below wr.heap.size wr w') := refNarrow zn (by omega) (by omega) 0 false (fun h => absurd h hin) (fun _ => ⟨rfl, rfl⟩) wr
              unfold wV at q1
              have EM : Hid (c = 107 ∧ mkZ (la ++ lb.map ngE) = []) := HN.out (EN.out hI)
              clear EF EN HF hI EZ
              generalize wHi zn = thi at *
              generalize wMid zn = tmid at *
              generalize wLo zn = tlo at *
              go_wp2_with fail
              refine q1.out.mono ?_
              rintro e w2 ⟨rfl, hb2⟩
              have Hb2 : Hid (Below w.heap.size w w2) := HB.out.trans ((Hb.out.trans (hb2.mono Hb.out.size)).mono HB.out.size)
              clear hb2 q1 y1 y2 y3 y4
              go_wp2_with fail
              go_ret2
              refine ⟨.slice none 0 0, ?_, ?_, Hb2.out⟩
              · rw [EM.out.1]; rfl
              · rw [EM.out.2]; exact EntsIs.nil _ _ _
          · have I1 : ¬ (j : Int) < (vs.length : Int) := by omega
            have e1 : z.take j = z := List.take_of_length_le (by omega)
            have EM : Hid (c = 0 ∧ mkZ (la ++ lb.map ngE) = nzZ z) := HM.out (by rw [← e1]; exact HF.out)
            have hBw : Hid (Below w.heap.size w wr) := HB.out.trans (Hb.out.mono HB.out.size)
            have hB0 : Hid (Below W0.heap.size W0 wr) := HB01.out.trans (Hb.out.mono HB01.out.size)
            have HE : Hid (EntsIs wr u12 (nzZ z)) := ⟨us, EntsAt.of_own HU.out, by rw [← e1]; exact HRu.out.on hB0.out⟩
            clear e1
            go_wp2_with fail
            go_ret2
            refine ⟨u12, ?_, ?_, hBw.out⟩
            · rw [EM.out.1]; rfl
            · rw [EM.out.2]; exact HE.out
end Go.Proofs.YtmpochhcokmaiaaDoor
