/- The law RowChecks answers true at every argument, and writes nothing that was there: its walk. -/
import Derived.Test.YtihijfbbmenbnaaDoorRowPicksWalk
import Derived.Test.YtihijfbbmenbnaaDoorRowCheck
import Derived.Deep.RegionHeld3
import Derived.Deep.AppendLies
import Derived.Deep.DrawnRows
namespace Go.Proofs.YtihijfbbmenbnaaDoor
open Go.RowKit Go.Sort
set_option maxRecDepth 100000

theorem okc_of {kind k n : Int} {s : ByteArray} (h : OkV kind k n s) (hk : kind ≠ 0) : okc (k, n, s) kind = true := by
  have h1 := h.1
  unfold okc
  simp only [Bool.and_eq_true, Bool.or_eq_true, beq_iff_eq]
  refine ⟨h1, ?_⟩
  rcases h.2.2.2.2 with e | e | e
  · exact .inl e
  · exact absurd e hk
  · exact .inr e
theorem okc_null (k : Int) : okc nul k = true := by
  unfold okc; simp [ckV, Lib.toList_data]
theorem okc_kind (kd k : Int) (h : kd = 1 ∨ kd = 2 ∨ kd = 3) : okc (kd, 0, ⟨#[]⟩) k = (kd == k) := by
  rcases h with rfl | rfl | rfl <;> simp [okc, ckV, Lib.toList_data] <;> (intro _; decide)
theorem three {l : List Val} (hl : l.length = 3) (h : OkR [1, 2, 3] l) : okC l [1, 2, 3] = true ∧ ∀ k, k < 3 → okC (l.set k nul) [1, 2, 3] = true ∧ ∀ kd : Int, (kd = 1 ∨ kd = 2 ∨ kd = 3) → okC (l.set k (kd, 0, ⟨#[]⟩)) [1, 2, 3] = (kd == ((k : Int) + 1)) := by
  match l, hl with
  | [a, b, c], _ =>
    have ha : okc a 1 = true := okc_of (h 0 (by simp) (by simp)) (by decide)
    have hb : okc b 2 = true := okc_of (h 1 (by simp) (by simp)) (by decide)
    have hc : okc c 3 = true := okc_of (h 2 (by simp) (by simp)) (by decide)
    refine ⟨by simp [okC, ha, hb, hc], fun k hk => ?_⟩
    match k, hk with
    | 0, _ => exact ⟨by simp [okC, okc_null, hb, hc], fun kd hd => by simp [okC, hb, hc, okc_kind kd _ hd]⟩
    | 1, _ => exact ⟨by simp [okC, okc_null, ha, hc], fun kd hd => by simp [okC, ha, hc, okc_kind kd _ hd]⟩
    | 2, _ => exact ⟨by simp [okC, okc_null, ha, hb], fun kd hd => by simp [okC, ha, hb, okc_kind kd _ hd]⟩
theorem cols_seq {w : World} {a : Option Addr} {len cap : Nat} {zs : List Int} (h : IsRow .i64 w a len cap zs) (ks : List Int) (t t' : TypeId) :
    SeqAt (w.heap.size + 1) a len cap zs 0 ((w.alloc (.cells (ks.map (Value.int .i64)).toArray t')).alloc (.cells #[.slice a len cap, .int .i64 0] t)) ∧ ColsAt w.heap.size ks ((w.alloc (.cells (ks.map (Value.int .i64)).toArray t')).alloc (.cells #[.slice a len cap, .int .i64 0] t)) := by
  constructor
  · have := SeqAt.make (h.below one_box : IsRow .i64 (w.alloc (.cells (ks.map (Value.int .i64)).toArray t')) a len cap zs) t
    simpa using this
  · have h0 : ColsAt w.heap.size ks (w.alloc (.cells (ks.map (Value.int .i64)).toArray t')) := by
      refine ⟨by simp, fun i hi => ?_⟩
      rw [World.cell?_alloc_at _ _ _ _ (by simp)]
      simp [hi]
    exact h0.on one_box
theorem ColsAt.ints {C : Nat} {ks : List Int} {w : World} (h : ColsAt C ks w) (hm : ks.length ≤ maxLen) (n : Nat) (hn : ks.length = n) : IntsIs w (.slice (some ⟨C, 0, none⟩) n n) ks := by
  subst hn
  exact .inr ⟨C, 0, _, rfl, Nat.le_refl _, hm, h.1, fun i hi => by rw [Nat.zero_add]; exact h.2 i hi⟩
theorem cell123 {C : Nat} {w : World} (h : ColsAt C [1, 2, 3] w) : ∀ k : Nat, k < 3 → w.cell? ⟨C, k, none⟩ = some (.int .i64 ((k : Int) + 1))
  | 0, _ => h.2 0 (by decide)
  | 1, _ => h.2 1 (by decide)
  | 2, _ => h.2 2 (by decide)
theorem news_then {W0 w2 : World} {x y z : Value} {t : TypeId} (h : Hid (RowKit.Below (W0.alloc (.cells #[x, y, z] t)).heap.size (W0.alloc (.cells #[x, y, z] t)) w2)) : ∀ j u, [x, y, z][j]? = some u → w2.cell? ((⟨W0.heap.size, 0, none⟩ : Addr).add j) = some u := fun j u e =>
  cell_on (cell_three_new W0 x y z t j u e) h.out
theorem bd_alloc {a w : World} {o : Obj} (h : Hid (RowKit.Below a.heap.size a w)) : Hid (RowKit.Below a.heap.size a (w.alloc o)) := h.out.alloc h.out.size o
theorem bd_drew {a w : World} (h : Hid (RowKit.Below a.heap.size a w)) : Hid (RowKit.Below a.heap.size a w.drew) := h.out.drew
theorem bd_refl {a : World} : Hid (RowKit.Below a.heap.size a a) := RowKit.Below.refl _ _
theorem own_base {w : World} {base base' : Nat} {e : TypeId} {size : Nat} {v : Value} {n : Nat} {xs : List Value} (h : w.ownsRow base e size v n xs) (hb : base' ≤ base) : w.ownsRow base' e size v n xs := by
  obtain ⟨h1, h2 | ⟨g, cap, cur, hv, hg, r⟩⟩ := h
  · exact ⟨h1, .inl h2⟩
  · exact ⟨h1, .inr ⟨g, cap, cur, hv, Nat.le_trans hb hg, r⟩⟩
theorem step_append_want {P : Program} (w : World) {ops : Array Oper} {o : Oper} {a : Act} {K : Act → World → Prop} {Q : Exit → Act → World → Prop} {E : Prop} (hw : Region.wanted o (yielded ops a.tmps) = true) (s x : Operand) (t : TypeId)
    (ho : o.op = .call { callee := .builtin .append, args := #[s, x], argTypes := #[t, t] })
    (base : Nat) (e : TypeId) (i : TypeInfo) (z : Value) (size bytes : Nat) (ht : P.underlying t = some (.slice e)) (hi : P.info? e = some i) (hz : i.zero = some z)
    (hsize : i.size = size) (hby : i.bytes = bytes) (hzs : z.cells.size = size) (hsz : 0 < size)
    (v : Value) (n : Nat) (xs : List Value) (hs : a.eval s = v) (hown : w.ownsRow base e size v n xs)
    (ad : Addr) (m c : Nat) (news : List Value) (hx : a.eval x = .slice (some ad) m c) (hl : news.length = m * size) (hnews : ∀ j u, news[j]? = some u → w.cell? (ad.add j) = some u) (h1 : ∀ u ∈ news, u.oneCell' = true)
    (h63 : n + m ≤ maxLen) (hbytes : (n + m) * bytes ≤ 140737488355328) (hbase : base ≤ w.heap.size)
    (h : ∀ v' w', w'.ownsRow base e size v' (n + m) (xs ++ news) → w.grownBy w' v.ownBlock → (v' = .slice none 0 0 ↔ v = .slice none 0 0 ∧ m = 0) → K (a.put o.dst v') w') :
    if Region.wanted o (yielded ops a.tmps) = true then Oper.wp P o a w K Q else E := by
  rw [if_pos hw]
  exact wp_append_own w s x t ho base e i z size bytes ht hi hz hsize hby hzs hsz v n xs hs hown ad m c news hx hl hnews h1 h63 hbytes hbase h
attribute [local go_sem ↓] Go.wp_at_zero Go.wp_at_succ
set_option maxHeartbeats 4000000 in
theorem rowchecks_main (a : Option Addr) (len cap : Nat) (zs : List Int) (t u : Int) (k j : Nat) (hk : k < 3) (hN : (wrap64 (t.tmod 3 + 3)).tmod 3 = (k : Int)) (hj : j < 3) (hJ : (wrap64 (u.tmod 3 + 3)).tmod 3 = (j : Int))
    (eT eA : Addr) (h1 : (len : Int) ≤ 40) (w : World) (hr : Ready w) (h2 : TwoAt eT eA w) (ha : IsRow .i64 w a len cap zs) :
    Calls Tryd.prog 8 #[.slice a len cap, .int .i64 t, .int .i64 u] w fun e w' => e = .returned (.bool true) ∧ Below w.heap.size w w' := by
  have Ha : Hid (IsRow .i64 w a len cap zs) := ha
  have H2 : Hid (TwoAt eT eA w) := h2
  have I4 : (k : Int) < 3 := by omega
  have I0 : (0 : Int) ≤ (k : Int) := by omega
  have J4 : (j : Int) < 3 := by omega
  have J0 : (0 : Int) ≤ (j : Int) := by omega
  clear ha h2
  go_enter Tryd.func8, Tryd.ntmps8
  go_wp2_with fail
  refine (lawFirst2 _ hr).mono ?_
  rintro e w1 ⟨rfl, hb1⟩
  have B1 : Hid (Below w.heap.size w w1) := hb1
  clear hb1
  go_wp2_with fail
  have M := cols_seq (Ha.out.below B1.out) [1, 2, 3] 29 3
  refine (makeRow (w1.heap.size + 1) a len cap zs 0 w1.heap.size 3 3 [1, 2, 3] _ M.1 (by omega) M.2 (by omega) (by decide) (by intro i h; match i, h with | 0, _ => simp | 1, _ => simp | 2, _ => simp)).mono ?_
  rintro e w2 ⟨v1, rfl, hso⟩
  obtain ⟨l, n1, ok1, O1, hb2, E1⟩ := made_own hso
  have B2 : Hid (Below w.heap.size w w2) := (B1.out.trans (two_boxes.mono B1.out.size)).trans (hb2.below (by have := B1.out.size; omega) (by have := B1.out.size; simp; omega))
  obtain ⟨g1, cap1, rfl, c1, c1', p1, p1'⟩ := own_place O1 (by omega)
  have R1 : Hid (RowIs w2 (.slice (some ⟨g1, 0, none⟩) 3 cap1) l) := own_row O1 n1
  have HC : Hid (ColsAt w1.heap.size [1, 2, 3] w2) := M.2.but hb2 (by omega)
  have HL : Hid (l.length = 3) := n1
  have HT := three n1 ok1
  have T0 : Hid (okC l [1, 2, 3] = true) := HT.1
  have T1 : Hid (okC (l.set k nul) [1, 2, 3] = true) := (HT.2 k hk).1
  have T2 : Hid (okC (l.set k (((j : Int) + 1), 0, ⟨#[]⟩)) [1, 2, 3] = (((j : Int) + 1) == ((k : Int) + 1))) := (HT.2 k hk).2 _ (by omega)
  clear hso hb2 O1 ok1 E1 n1 p1 p1' M HT
  unfold maxLen at c1'
  go_wp2_with fail
  refine (rowCopy l _ w2 (by rw [HL.out]; decide) R1.out).mono ?_
  rintro e w3 ⟨v3, rfl, O3, hb3⟩
  rw [HL.out] at O3
  obtain ⟨g3, cap3, rfl, c3, c3', p3, p3'⟩ := own_place O3 (by omega)
  have F3 : Hid (∀ w4, w3.grownBy w4 (some g3) → Below w2.heap.size w2 w4) := fun w4 hg => hb3.grown hg hb3.size (fun g e => by cases e; exact p3)
  have HO3 : Hid (w3.ownsRow w2.heap.size 31 3 (.slice (some ⟨g3, 0, none⟩) 3 cap3) 3 (rc l)) := O3
  clear O3 hb3 p3 p3'
  go_wp2_with (first | (refine wpList_store_val rfl (.tmp 41) (.tmp 40) rfl k (((j : Int) + 1), 0, ⟨#[]⟩) HO3.out HL.out hk rfl rfl size_value ?_; intro w4 hown4 hg4; have B4 : Hid (RowKit.Below w2.heap.size w2 w4) := F3.out _ hg4; have R4 : Hid (RowIs w4 (.slice (some ⟨g3, 0, none⟩) 3 cap3) (l.set k (((j : Int) + 1), 0, ⟨#[]⟩))) := own_row hown4 (by rw [List.length_set]; exact HL.out); clear hown4 hg4 F3 HO3) | fail)
  refine (rowCopy l _ w4 (by rw [HL.out]; decide) (R1.out.on B4.out)).mono ?_
  rintro e w5 ⟨v5, rfl, O5, hb5⟩
  rw [HL.out] at O5
  obtain ⟨g5, cap5, rfl, c5, c5', p5, p5'⟩ := own_place O5 (by omega)
  have F5 : Hid (∀ w6, w5.grownBy w6 (some g5) → Below w4.heap.size w4 w6) := fun w6 hg => hb5.grown hg hb5.size (fun g e => by cases e; exact p5)
  have HO5 : Hid (w5.ownsRow w4.heap.size 31 3 (.slice (some ⟨g5, 0, none⟩) 3 cap5) 3 (rc l)) := O5
  clear O5 hb5 p5 p5'
  go_wp2_with (first | (refine wpList_store_val rfl (.tmp 47) (.tmp 46) rfl k nul HO5.out HL.out hk rfl rfl size_value ?_; intro w6 hown6 hg6; have B6 : Hid (RowKit.Below w4.heap.size w4 w6) := F5.out _ hg6; have R6 : Hid (RowIs w6 (.slice (some ⟨g5, 0, none⟩) 3 cap5) (l.set k nul)) := own_row hown6 (by rw [List.length_set]; exact HL.out); clear hown6 hg6 F5 HO5) | fail)
  rw [put_none]
  have X1 : Hid (RowIs w6 (.slice (some ⟨g1, 0, none⟩) 3 cap1) l) := (R1.out.on B4.out).on B6.out
  have X3 : Hid (RowIs w6 (.slice (some ⟨g3, 0, none⟩) 3 cap3) (l.set k (((j : Int) + 1), 0, ⟨#[]⟩))) := R4.out.on B6.out
  have XC : Hid (ColsAt w1.heap.size [1, 2, 3] w6) := (HC.out.on B4.out).on B6.out
  have XI : Hid (IntsIs w6 (.slice (some ⟨w1.heap.size, 0, none⟩) 3 3) [1, 2, 3]) := XC.out.ints (by decide) 3 rfl
  have BW : Hid (Below w.heap.size w w6) := ((B2.out.trans (B4.out.mono B2.out.size)).trans (B6.out.mono (B2.out.trans (B4.out.mono B2.out.size)).size))
  have XT : Hid (TwoAt eT eA w6) := H2.out.on BW.out
  have XK : Hid (w6.cell? ⟨w1.heap.size, k, none⟩ = some (.int .i64 ((k : Int) + 1))) := cell123 XC.out k hk
  have KS : Hid (∀ w', Hid (Below w6.heap.size w6 w') → Hid (Below w6.heap.size w6 w') ∧ w'.cell? ⟨w1.heap.size, k, none⟩ = some (.int .i64 ((k : Int) + 1))) := fun w' h => ⟨h, cell_on XK.out h.out⟩
  have Q1 : Hid (∀ W, Hid (Below w6.heap.size w6 W) → Calls Tryd.prog 20 #[.slice (some ⟨g1, 0, none⟩) 3 cap1, .slice (some ⟨w1.heap.size, 0, none⟩) 3 3] W fun e w'' => e = .returned .nilIface ∧ Hid (Below w6.heap.size w6 w'')) := fun W hW =>
    (rowCheck l [1, 2, 3] eT eA _ _ W (XT.out.on hW.out) (by decide) (X1.out.on hW.out) (XI.out.on hW.out)).mono fun e w'' ⟨he, hb⟩ => ⟨by rw [he, ckR, if_pos (show l.length = [(1 : Int), 2, 3].length from HL.out), if_pos T0.out]; rfl, hW.out.trans (hb.mono hW.out.size)⟩
  have Q3 : Hid (∀ W, Hid (Below w6.heap.size w6 W) → Calls Tryd.prog 20 #[.slice (some ⟨g5, 0, none⟩) 3 cap5, .slice (some ⟨w1.heap.size, 0, none⟩) 3 3] W fun e w'' => e = .returned .nilIface ∧ Hid (Below w6.heap.size w6 w'')) := fun W hW =>
    (rowCheck (l.set k nul) [1, 2, 3] eT eA _ _ W (XT.out.on hW.out) (by decide) (R6.out.on hW.out) (XI.out.on hW.out)).mono fun e w'' ⟨he, hb⟩ => ⟨by rw [he, ckR, if_pos (by rw [List.length_set]; exact HL.out), if_pos T1.out]; rfl, hW.out.trans (hb.mono hW.out.size)⟩
  have Q4 : Hid (∀ W, Hid (Below w6.heap.size w6 W) → Calls Tryd.prog 20 #[.slice (some ⟨g1, 0, none⟩) 2 cap1, .slice (some ⟨w1.heap.size, 0, none⟩) 3 3] W fun e w'' => e = .returned (.iface 124 (.pointer (some eA))) ∧ Hid (Below w6.heap.size w6 w'')) := fun W hW =>
    (rowCheck (l.take 2) [1, 2, 3] eT eA _ _ W (XT.out.on hW.out) (by decide) ((X1.out.cut 2 (by rw [HL.out]; decide)).on hW.out) (XI.out.on hW.out)).mono fun e w'' ⟨he, hb⟩ => ⟨by rw [he, ckR, if_neg (by rw [List.length_take, HL.out]; decide)]; rfl, hW.out.trans (hb.mono hW.out.size)⟩
  have Q5 : Hid (∀ W v, Hid (Below w6.heap.size w6 W) → Hid (RowIs W v (l ++ [nul])) → Calls Tryd.prog 20 #[v, .slice (some ⟨w1.heap.size, 0, none⟩) 3 3] W fun e w'' => e = .returned (.iface 124 (.pointer (some eA))) ∧ Hid (Below w6.heap.size w6 w'')) := fun W v hW hR =>
    (rowCheck (l ++ [nul]) [1, 2, 3] eT eA _ _ W (XT.out.on hW.out) (by decide) hR.out (XI.out.on hW.out)).mono fun e w'' ⟨he, hb⟩ => ⟨by rw [he, ckR, if_neg (by rw [List.length_append, HL.out]; decide)]; rfl, hW.out.trans (hb.mono hW.out.size)⟩
  have Q6 : Hid (∀ W, Hid (Below w6.heap.size w6 W) → Calls Tryd.prog 20 #[.slice none 0 0, .slice none 0 0] W fun e w'' => e = .returned .nilIface ∧ Hid (Below w6.heap.size w6 w'')) := fun W hW =>
    (rowCheck [] [] eT eA _ _ W (XT.out.on hW.out) (by decide) (.inl ⟨none, 0, rfl, rfl⟩) (.inl ⟨none, 0, rfl, rfl⟩)).mono fun e w'' ⟨he, hb⟩ => ⟨by rw [he]; rfl, hW.out.trans (hb.mono hW.out.size)⟩
  have Q7 : Hid (∀ W, Hid (Below w6.heap.size w6 W) → Calls Tryd.prog 22 #[.slice (some ⟨g1, 0, none⟩) 3 cap1] W fun e w'' => ∃ g cap, e = .returned (.slice (some ⟨g, 0, none⟩) 3 cap) ∧ Hid (w''.ownsRow w6.heap.size 31 3 (.slice (some ⟨g, 0, none⟩) 3 cap) 3 (rc l)) ∧ Hid (Below W.heap.size W w'') ∧ Hid (Below w6.heap.size w6 w'')) := fun W hW =>
    (rowCopy l _ W (by rw [HL.out]; decide) (X1.out.on hW.out)).mono fun e w'' ⟨v, he, ho, hb⟩ => by
      rw [HL.out] at ho
      obtain ⟨g, cap, rfl, _⟩ := own_place ho (by omega)
      exact ⟨g, cap, he, own_base ho hW.out.size, hb, hW.out.trans (hb.mono hW.out.size)⟩
  obtain ⟨x, hx, hxe⟩ : ∃ x : Value, (x = .nilIface ∧ (((j : Int) + 1) == ((k : Int) + 1)) = true ∨ x = .iface 124 (.pointer (some eT)) ∧ (((j : Int) + 1) == ((k : Int) + 1)) = false) ∧ x = ckE eT eA (ckR (l.set k (((j : Int) + 1), 0, ⟨#[]⟩)) [1, 2, 3]) := by
    refine ⟨_, ?_, rfl⟩
    rw [ckR, if_pos (by rw [List.length_set]; exact HL.out), T2.out]
    cases (((j : Int) + 1) == ((k : Int) + 1)) with
    | true => exact .inl ⟨rfl, rfl⟩
    | false => exact .inr ⟨rfl, rfl⟩
  have Q2 : Hid (∀ W, Hid (Below w6.heap.size w6 W) → Calls Tryd.prog 20 #[.slice (some ⟨g3, 0, none⟩) 3 cap3, .slice (some ⟨w1.heap.size, 0, none⟩) 3 3] W fun e w'' => e = .returned x ∧ Hid (Below w6.heap.size w6 w'')) := fun W hW =>
    (rowCheck (l.set k (((j : Int) + 1), 0, ⟨#[]⟩)) [1, 2, 3] eT eA _ _ W (XT.out.on hW.out) (by decide) (X3.out.on hW.out) (XI.out.on hW.out)).mono fun e w'' ⟨he, hb⟩ => ⟨by rw [he, hxe], hW.out.trans (hb.mono hW.out.size)⟩
  have cc : (2 : Int) ≤ (cap1 : Int) := by omega
  have FA : Hid (∀ W v2 w2 g, Hid (Below w6.heap.size w6 W) → w6.heap.size ≤ g → w2.ownsRow w6.heap.size 31 3 v2 (3 + 1) (rc l ++ vc nul) → W.grownBy w2 (some g) → Hid (RowIs w2 v2 (l ++ [nul])) ∧ Hid (Below w6.heap.size w6 w2)) := fun W v2 w2 g hW hg ho hgr =>
    ⟨own_row (by rw [rc_snoc]; exact ho) (by rw [List.length_append, HL.out]; rfl), hW.out.grown hgr hW.out.size (fun g' e => by cases e; exact hg)⟩
  have FG : Hid (∀ (W : World) g cp, Hid (W.ownsRow w6.heap.size 31 3 (.slice (some ⟨g, 0, none⟩) 3 cp) 3 (rc l)) → w6.heap.size ≤ g) := fun W g cp h => (h.out.lt g rfl).1
  clear hxe X1 X3 XC XI XT XK R1 R4 R6 HC B1 B2 B4 B6 T0 T1 T2 Ha H2 c3 c3' c5 c5'
  obtain ⟨i0, hi, hz0, hz1, hz2⟩ := info_parts info_value
  rcases hx with ⟨rfl, hx⟩ | ⟨rfl, hx⟩
  all_goals
    go_region_held3 (fun w' => Hid (RowKit.Below w6.heap.size w6 w') ∧ w'.cell? ⟨w1.heap.size, k, none⟩ = some (.int .i64 ((k : Int) + 1)))
      (first | exact KS.out _ (by assumption) | exact KS.out _ (bd_alloc (by assumption)) | exact KS.out _ (bd_drew bd_refl))
      (first
        | (go_at_call 20; ((first
            | with_reducible refine (Q1.out _ (by first | assumption | exact bd_alloc (by assumption) | exact bd_drew bd_refl)).mono ?_
            | with_reducible refine (Q2.out _ (by first | assumption | exact bd_alloc (by assumption))).mono ?_
            | with_reducible refine (Q3.out _ (by first | assumption | exact bd_alloc (by assumption))).mono ?_
            | with_reducible refine (Q4.out _ (by first | assumption | exact bd_alloc (by assumption))).mono ?_
            | with_reducible refine (Q6.out _ (by first | assumption | exact bd_alloc (by assumption))).mono ?_
            | with_reducible refine (Q5.out _ _ (by first | assumption | exact bd_alloc (by assumption)) (by assumption)).mono ?_); rintro e w'' ⟨rfl, hbz⟩))
        | (go_at_call 22; refine (Q7.out _ (by first | assumption | exact bd_alloc (by assumption))).mono ?_; rintro e w'' ⟨gz, capz, rfl, hoz, hwz, hbz⟩)
        | (refine step_append_want _ (by rfl) (.tmp 83) (.tmp 85) 25 (by rfl) w6.heap.size 31 i0 (.agg #[.int .i64 0, .int .i64 0, .string ⟨#[]⟩]) 3 32 Tryd.underlying25 hi hz0 hz1 hz2 rfl (by decide) (.slice (some ⟨gz, 0, none⟩) 3 capz) 3 (rc l) (by rfl) (hoz.out.alloc _) ⟨w''.heap.size, 0, none⟩ 1 1 (vc nul) (by rfl) (by rfl) (cell_three_new _ _ _ _ _) (by simp [vc, Value.oneCell']) (by decide) (by decide) (by have := hbz.out.size; simp; omega) ?_; intro vz wz hownz hgz _; obtain ⟨hrz, hbz⟩ := FA.out _ _ _ gz (bd_alloc hbz) (FG.out _ _ _ hoz) hownz hgz)
        | (refine step_append_want _ (by rfl) (.tmp 83) (.tmp 85) 25 (by rfl) w6.heap.size 31 i0 (.agg #[.int .i64 0, .int .i64 0, .string ⟨#[]⟩]) 3 32 Tryd.underlying25 hi hz0 hz1 hz2 rfl (by decide) (.slice (some ⟨gz, 0, none⟩) 3 capz) 3 (rc l) (by rfl) hoz.out _ 1 1 (vc nul) (by rfl) (by rfl) (news_then hwz) (by simp [vc, Value.oneCell']) (by decide) (by decide) hbz.out.size ?_; intro vz wz hownz hgz _; obtain ⟨hrz, hbz⟩ := FA.out _ _ _ gz hbz (FG.out _ _ _ hoz) hownz hgz))
    all_goals go_wp2_with fail
    all_goals go_ret
    all_goals exact ⟨rfl, BW.out.trans (hbz.out.mono BW.out.size)⟩

set_option maxHeartbeats 1000000 in
theorem rowchecks_long (a : Option Addr) (len cap : Nat) (t n : Int) (w : World) (hr : Ready w) (h : 40 < (len : Int)) :
    Calls Tryd.prog 8 #[.slice a len cap, .int .i64 t, .int .i64 n] w fun e w' => e = .returned (.bool true) ∧ Below w.heap.size w w' := by
  go_enter Tryd.func8, Tryd.ntmps8
  go_wp2_with fail
  refine (lawFirst2 _ hr).mono ?_
  rintro e w1 ⟨rfl, hb1⟩
  go_wp2_with fail
  go_ret
  exact ⟨rfl, hb1⟩
end Go.Proofs.YtihijfbbmenbnaaDoor
