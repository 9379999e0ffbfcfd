/- How the program writes predicates; what pred.Show answers. -/
import Derived.Test.YtiphnbpkliglcaaDoorPdWrite3
namespace Go.Proofs.YtiphnbpkliglcaaDoor
open Go.RowKit Go.Sort
set_option maxRecDepth 100000
set_option linter.unusedVariables false

theorem write_leaf {ks : List Int} (hks : ks.length ≤ 16) (n : Nat) (P : Pd) (s : Value) (bs : List UInt8) (w w1 : World) (h : LeafP ks P) (h' : P.k = 1 → okM P.v) (hr : Ready w) (hb : Tryd.BldHas bs w w1) (hl : bs.length ≤ 1000000000000) :
    Calls Tryd.prog 25 #[.pointer (some ⟨w.heap.size, 0, none⟩), pv P s] w1 (WrEnd (bs ++ shP P) w w1) := by
  rcases h with ⟨c, o, v, hc, _, _, _, _, rfl⟩ | ⟨a, b, o, ha, hb', _, _, _, rfl⟩ | ⟨c, hc, rfl⟩
  · obtain ⟨vk, vn, vs⟩ := v
    rw [shP_eq]
    exact write1 c o 0 vk vn vs s bs w w1 hr hb (by omega) (by omega) (h' rfl) hl
  · rw [shP_eq]
    exact write2 a o b 0 0 ⟨#[]⟩ s bs w w1 hr hb (by omega) (by omega) (by omega) (by omega) hl
  · rw [shP_eq]
    exact write3 c 0 0 0 0 ⟨#[]⟩ s bs w w1 hr hb (by omega) (by omega) hl
set_option maxHeartbeats 2000000 in
theorem write_all (ks : List Int) (hks : ks.length ≤ 16) (m : Nat) (ih : WriteAt ks m) (k : Int) (l : List Pd) (s : Value) (bs : List UInt8) (w w1 : World) (hk : k = 4 ∨ k = 5)
    (hq : ∀ q ∈ l, MkP okM ks m q) (h2 : 2 ≤ l.length) (h3 : l.length ≤ 3) (hp : PdL (fun k => k < w.heap.size) (m + 1) w1 s l) (hr : Ready w) (hb : Tryd.BldHas bs w w1) (hl : bs.length + 160 * 4 ^ (m + 1) ≤ 1000000000000) :
    Calls Tryd.prog 25 #[.pointer (some ⟨w.heap.size, 0, none⟩), pv ⟨k, 0, 0, 0, nul, l⟩ s] w1 (WrEnd (bs ++ shP ⟨k, 0, 0, 0, nul, l⟩) w w1) := by
  have hne : l ≠ [] := by rintro rfl; simp at h2
  obtain ⟨a1, cap1, hs⟩ := hp.form
  subst hs
  rcases hk with rfl | rfl
  · have q := fun o => writeParts_at ks hks m ih 4 l (.slice a1 l.length cap1) andB bs w (w1.alloc o) hq h3 (by decide) hne (hp.on one_box) hr (hb.on one_box) (by omega)
    have E : Hid (joinP andB (l.map fun q => shP q) = shP ⟨4, 0, 0, 0, nul, l⟩) := by show _ = _; rw [shP_eq]; simp
    have HQ : Hid (∀ o, Calls Tryd.prog 37 #[.pointer (some ⟨w.heap.size, 0, none⟩), .agg #[.int .i64 4, .int .i64 0, .int .i64 0, .int .i64 0, .int .i64 0, .int .i64 0, .string ⟨#[]⟩, .slice a1 l.length cap1], .string ⟨#[32, 97, 110, 100, 32]⟩] (w1.alloc o) (WrEnd (bs ++ shP ⟨4, 0, 0, 0, nul, l⟩) w (w1.alloc o))) := fun o => by rw [← E.out]; exact q o
    have HB : Hid (w.heap.size ≤ w1.heap.size) := hb.2.size
    unfold pv
    generalize shP ⟨4, 0, 0, 0, nul, l⟩ = U at *
    clear q E hb hr hp hq hne h2 h3 hl ih
    go_enter Tryd.func25, Tryd.ntmps25
    go_wp2_with fail
    refine (HQ.out _).mono ?_
    rintro e w6 ⟨rfl, hb6, hk6, hl6⟩
    have HE : Hid (WrEnd (bs ++ U) w w1 (.returned (.tuple #[])) w6) := ⟨rfl, hb6, fun k hk => kept_trans (kept_below one_box k) (hk6 k hk), ((Below.refl _ _).alloc HB.out _).trans hl6⟩
    clear hb6 hk6 hl6
    go_wp2_with fail
    go_end0
    exact HE.out
  · have q := fun o => writeParts_at ks hks m ih 5 l (.slice a1 l.length cap1) orB bs w (w1.alloc o) hq h3 (by decide) hne (hp.on one_box) hr (hb.on one_box) (by omega)
    have E : Hid (joinP orB (l.map fun q => shP q) = shP ⟨5, 0, 0, 0, nul, l⟩) := by show _ = _; rw [shP_eq]; simp
    have HQ : Hid (∀ o, Calls Tryd.prog 37 #[.pointer (some ⟨w.heap.size, 0, none⟩), .agg #[.int .i64 5, .int .i64 0, .int .i64 0, .int .i64 0, .int .i64 0, .int .i64 0, .string ⟨#[]⟩, .slice a1 l.length cap1], .string ⟨#[32, 111, 114, 32]⟩] (w1.alloc o) (WrEnd (bs ++ shP ⟨5, 0, 0, 0, nul, l⟩) w (w1.alloc o))) := fun o => by rw [← E.out]; exact q o
    have HB : Hid (w.heap.size ≤ w1.heap.size) := hb.2.size
    unfold pv
    generalize shP ⟨5, 0, 0, 0, nul, l⟩ = U at *
    clear q E hb hr hp hq hne h2 h3 hl ih
    go_enter Tryd.func25, Tryd.ntmps25
    go_wp2_with fail
    refine (HQ.out _).mono ?_
    rintro e w6 ⟨rfl, hb6, hk6, hl6⟩
    have HE : Hid (WrEnd (bs ++ U) w w1 (.returned (.tuple #[])) w6) := ⟨rfl, hb6, fun k hk => kept_trans (kept_below one_box k) (hk6 k hk), ((Below.refl _ _).alloc HB.out _).trans hl6⟩
    clear hb6 hk6 hl6
    go_wp2_with fail
    go_end0
    exact HE.out
set_option maxHeartbeats 2000000 in
theorem write_not (ks : List Int) (hks : ks.length ≤ 16) (m : Nat) (ih : WriteAt ks m) (q : Pd) (s : Value) (bs : List UInt8) (w w1 : World)
    (hq : MkP okM ks m q) (hp : PdL (fun k => k < w.heap.size) (m + 1) w1 s [q]) (hr : Ready w) (hb : Tryd.BldHas bs w w1) (hl : bs.length + 160 * 4 ^ (m + 1) ≤ 1000000000000) :
    Calls Tryd.prog 25 #[.pointer (some ⟨w.heap.size, 0, none⟩), pv ⟨6, 0, 0, 0, nul, [q]⟩ s] w1 (WrEnd (bs ++ shP ⟨6, 0, 0, 0, nul, [q]⟩) w w1) := by
  obtain ⟨a1, cap1, hs⟩ := hp.form
  subst hs
  have hpow := pow_pos4 m
  rw [Nat.pow_succ] at hl
  have q8 := Tryd.writeStringK bs ⟨#[110, 111, 116, 32]⟩ w _ (hb.on (one_box (o := .cells #[.int .i64 6, .int .i64 0, .int .i64 0, .int .i64 0, .int .i64 0, .int .i64 0, .string ⟨#[]⟩, .slice a1 1 cap1] 28))) (by have e : (⟨#[110, 111, 116, 32]⟩ : ByteArray).size = 4 := rfl; omega)
  have HQ : Hid (∀ W, Tryd.BldHas (bs ++ [110, 111, 116, 32]) w W → Below w.heap.size w1 W → Calls Tryd.prog 37 #[.pointer (some ⟨w.heap.size, 0, none⟩), .agg #[.int .i64 6, .int .i64 0, .int .i64 0, .int .i64 0, .int .i64 0, .int .i64 0, .string ⟨#[]⟩, .slice a1 1 cap1], .string ⟨#[]⟩] W (WrEnd (bs ++ shP ⟨6, 0, 0, 0, nul, [q]⟩) w W)) := fun W hW hb1 => by
    have := writeParts_at ks hks m ih 6 [q] (.slice a1 1 cap1) [] (bs ++ [110, 111, 116, 32]) w W (fun x hx => by have e : x = q := (by simpa [ptsP] using hx); rw [e]; exact hq) (by simp [ptsP]) (by decide) (by simp [ptsP]) (hp.low hb1) hr hW (by simp only [List.length_append, List.length_cons, List.length_nil]; rw [Nat.pow_succ]; omega)
    have e : bs ++ shP ⟨6, 0, 0, 0, nul, [q]⟩ = bs ++ [110, 111, 116, 32] ++ joinP [] ((ptsP ⟨6, 0, 0, 0, nul, [q]⟩).map fun q => shP q) := by
      rw [shP_eq]; simp [ptsP]
    rw [e]; exact this
  have HB : Hid (w.heap.size ≤ w1.heap.size) := hb.2.size
  have HN : Hid (w1.heap.size ≠ w.heap.size) := by show _ ≠ _; have := hb.1.elim (fun h => h.lt) (fun h => h.lt); omega
  unfold pv
  generalize shP ⟨6, 0, 0, 0, nul, [q]⟩ = U at *
  clear hb hr hp hq hl ih hpow
  go_enter Tryd.func25, Tryd.ntmps25
  go_wp2_with fail
  refine q8.mono ?_
  rintro e w5 ⟨rfl, hb5, hk5, hl5⟩
  have h5 := hk5 w1.heap.size HN.out _ _ (heap_alloc_new w1 _) (by decide)
  have c0 : w5.cell? ⟨w1.heap.size, 0, none⟩ = some (.int .i64 6) := by rw [Lib.cell_of_heap h5]; rfl
  have c1 : w5.cell? ⟨w1.heap.size, 1, none⟩ = some (.int .i64 0) := by rw [Lib.cell_of_heap h5]; rfl
  have c2 : w5.cell? ⟨w1.heap.size, 2, none⟩ = some (.int .i64 0) := by rw [Lib.cell_of_heap h5]; rfl
  have c3 : w5.cell? ⟨w1.heap.size, 3, none⟩ = some (.int .i64 0) := by rw [Lib.cell_of_heap h5]; rfl
  have c4 : w5.cell? ⟨w1.heap.size, 4, none⟩ = some (.int .i64 0) := by rw [Lib.cell_of_heap h5]; rfl
  have c5 : w5.cell? ⟨w1.heap.size, 5, none⟩ = some (.int .i64 0) := by rw [Lib.cell_of_heap h5]; rfl
  have c6 : w5.cell? ⟨w1.heap.size, 6, none⟩ = some (.string ⟨#[]⟩) := by rw [Lib.cell_of_heap h5]; rfl
  have c7 : w5.cell? ⟨w1.heap.size, 7, none⟩ = some (.slice a1 1 cap1) := by rw [Lib.cell_of_heap h5]; rfl
  have L5 : Hid (Below w.heap.size w1 w5) := ((Below.refl _ _).alloc HB.out _).trans hl5
  have K5 : Hid (∀ k, k ≠ w.heap.size → Tryd.Kept k w1 w5) := fun k hk => kept_trans (kept_below one_box k) (hk5 k hk)
  have HB5 : Hid (Tryd.BldHas (bs ++ [110, 111, 116, 32]) w w5) := hb5
  clear q8 h5 hb5 hk5 hl5
  go_wp2_with fail
  refine (HQ.out _ HB5.out L5.out).mono ?_
  rintro e w6 ⟨rfl, hb6, hk6, hl6⟩
  have HE : Hid (WrEnd (bs ++ U) w w1 (.returned (.tuple #[])) w6) := ⟨rfl, hb6, fun k hk => kept_trans (K5.out k hk) (hk6 k hk), L5.out.trans hl6⟩
  clear hb6 hk6 hl6 c0 c1 c2 c3 c4 c5 c6 c7
  go_wp2_with fail
  go_end0
  exact HE.out
/-- How the program writes predicates. -/
theorem writeAt (ks : List Int) (hks : ks.length ≤ 16) : ∀ n, WriteAt ks n := by
  intro n
  induction n with
  | zero => intro P s bs w w1 h _ hr hb hl; exact write_leaf hks 0 P s bs w w1 h.1 h.2 hr hb (by omega)
  | succ n ih =>
    intro P s bs w w1 h hp hr hb hl
    rcases h with h | ⟨q, rfl, hq⟩ | ⟨k, l, rfl, hk4, h2, h3, hl4⟩
    · exact write_leaf hks (n + 1) P s bs w w1 h.1 h.2 hr hb (by omega)
    · exact write_not ks hks n ih q s bs w w1 hq hp hr hb hl
    · exact write_all ks hks n ih k l s bs w w1 hk4 hl4 h2 h3 hp hr hb hl
/-- What pred.Show answers. -/
theorem predShow (ks : List Int) (hks : ks.length ≤ 16) (n : Nat) (hn : n ≤ 10) (F : Nat → Prop) (P : Pd) (s : Value) (w : World) (h : MkP okM ks n P) (hp : PdL F n w s P.l) (hr : Ready w) :
    Calls Tryd.prog 11 #[pv P s] w fun e w' => e = .returned (.string ⟨(shP P).toArray⟩) ∧ Below w.heap.size w w' := by
  have hpow : 4 ^ n ≤ 4 ^ 10 := Nat.pow_le_pow_right (by decide) hn
  obtain ⟨as1, cs1, hs1⟩ := hp.form
  subst hs1
  have Hp : Hid (PdL F n w (.slice as1 P.l.length cs1) P.l) := hp
  have HR : Hid (Ready w) := hr
  have bx := PdBox.new w P (.slice as1 P.l.length cs1)
  obtain ⟨W, hW⟩ : ∃ W, W = w.alloc (.cells (hc P (.slice as1 P.l.length cs1)).toArray 28) := ⟨_, rfl⟩
  have B1 : Hid (Below w.heap.size w W) := by show Below _ _ _; rw [hW]; exact one_box
  have HZ : Hid (W.heap.size = w.heap.size + 1) := by show _ = _; rw [hW]; simp
  rw [← hW] at bx
  have HX : Hid (PdBox w.heap.size P (.slice as1 P.l.length cs1) (W.alloc (.cells #[.pointer none, .slice none 0 0] 61))) := bx.on one_box
  have q1 := writeAt ks hks n P (.slice as1 P.l.length cs1) [] W _ h (((hp.on B1.out).mono (F' := fun k => k < W.heap.size) (fun b _ h => h)).on one_box) (hr.on B1.out) (Tryd.BldHas.new W) (by simp; omega)
  unfold pv at q1 ⊢
  obtain ⟨⟨x0, x1, x2, x3, x4, x5, x6, x7⟩, _, _⟩ := HX.out
  simp only [Nat.zero_add] at x1 x2 x3 x4 x5 x6 x7
  clear hp hr h hpow bx
  have hW' : w.alloc (.cells #[.int .i64 P.k, .int .i64 P.c, .int .i64 P.o, .int .i64 P.d, .int .i64 P.v.1, .int .i64 P.v.2.1, .string P.v.2.2, .slice as1 P.l.length cs1] 28) = W := hW.symm
  clear hW
  go_enter Tryd.func11, Tryd.ntmps11
  go_wp2_with fail
  refine q1.mono ?_
  rintro e w3 ⟨rfl, hb3, _, _⟩
  have q2 := Tryd.builderString (shP P) W w3 (by simpa using hb3)
  clear q1 hb3
  go_wp2_with fail
  refine q2.mono ?_
  rintro e w4 ⟨rfl, hb4⟩
  have F4 : Hid (Below w.heap.size w w4) := B1.out.trans (hb4.mono B1.out.size)
  clear q2 hb4 x0 x1 x2 x3 x4 x5 x6 x7
  go_wp2_with fail
  go_ret
  exact ⟨rfl, F4.out⟩
theorem same_ord : ordOk (regOf Tryd.f12.body 1) ((0, true) :: (2, true) :: (1, false) :: (3, false) :: (4, true) :: (5, true) :: []) = true := by kernel_rfl
set_option maxHeartbeats 2000000 in
/-- What pred.Same answers. -/
theorem predSame (ks : List Int) (hks : ks.length ≤ 16) (n : Nat) (hn : n ≤ 10) (F : Nat → Prop) (P Q : Pd) (s t : Value) (w : World) (h : MkP okM ks n P) (h' : MkP okM ks n Q) (hp : PdL F n w s P.l) (hq : PdL F n w t Q.l) (hr : Ready w) :
    Calls Tryd.prog 12 #[pv P s, pv Q t] w fun e w' => e = .returned (.bool (shP P == shP Q)) ∧ Below w.heap.size w w' := by
  have HP : Hid (∀ W, Below w.heap.size w W → Calls Tryd.prog 11 #[pv P s] W fun e w' => e = .returned (.string ⟨(shP P).toArray⟩) ∧ Below W.heap.size W w') := fun W hW => predShow ks hks n hn F P s W h (hp.on hW) (hr.on hW)
  have HQ : Hid (∀ W, Below w.heap.size w W → Calls Tryd.prog 11 #[pv Q t] W fun e w' => e = .returned (.string ⟨(shP Q).toArray⟩) ∧ Below W.heap.size W w') := fun W hW => predShow ks hks n hn F Q t W h' (hq.on hW) (hr.on hW)
  have bx := (PdBox.new w P s).on (one_box (o := .cells (hc Q t).toArray 28))
  have by' := PdBox.new (w.alloc (.cells (hc P s).toArray 28)) Q t
  obtain ⟨as1, cs1, hs1⟩ := hp.form
  obtain ⟨as2, cs2, hs2⟩ := hq.form
  subst hs1 hs2
  unfold pv at HP HQ ⊢
  obtain ⟨W, hW⟩ : ∃ W, W = (w.alloc (.cells (hc P (.slice as1 P.l.length cs1)).toArray 28)).alloc (.cells (hc Q (.slice as2 Q.l.length cs2)).toArray 28) := ⟨_, rfl⟩
  have hW' : (w.alloc (.cells #[.int .i64 P.k, .int .i64 P.c, .int .i64 P.o, .int .i64 P.d, .int .i64 P.v.1, .int .i64 P.v.2.1, .string P.v.2.2, .slice as1 P.l.length cs1] 28)).alloc (.cells #[.int .i64 Q.k, .int .i64 Q.c, .int .i64 Q.o, .int .i64 Q.d, .int .i64 Q.v.1, .int .i64 Q.v.2.1, .string Q.v.2.2, .slice as2 Q.l.length cs2] 28) = W := hW.symm
  rw [← hW] at bx by'
  have B1 : Hid (Below w.heap.size w W) := by show Below _ _ _; rw [hW]; exact two_boxes
  simp only [World.size_alloc] at by'
  obtain ⟨⟨x0, x1, x2, x3, x4, x5, x6, x7⟩, _, _⟩ := bx
  obtain ⟨⟨y0, y1, y2, y3, y4, y5, y6, y7⟩, _, _⟩ := by'
  simp only [Nat.zero_add] at x1 x2 x3 x4 x5 x6 x7 y1 y2 y3 y4 y5 y6 y7
  have g0 := Ex.cell x0
  have g1 := Ex.cell x1
  have g2 := Ex.cell x2
  have g3 := Ex.cell x3
  have g4 := Ex.cell x4
  have g5 := Ex.cell x5
  have g6 := Ex.cell x6
  have g7 := Ex.cell x7
  have k0 := Ex.cell y0
  have k1 := Ex.cell y1
  have k2 := Ex.cell y2
  have k3 := Ex.cell y3
  have k4 := Ex.cell y4
  have k5 := Ex.cell y5
  have k6 := Ex.cell y6
  have k7 := Ex.cell y7
  have ne := Ex.ne W
  clear x0 x1 x2 x3 x4 x5 x6 x7 y0 y1 y2 y3 y4 y5 y6 y7 hp hq hr h h' hW
  go_enter Tryd.func12, Tryd.ntmps12
  go_wp2_with fail
  refine wp_region_ord_at (Ex W) (regOf Tryd.f12.body 1) ((0, true) :: (2, true) :: (1, false) :: (3, false) :: (4, true) :: (5, true) :: []) (by kernel_rfl) (by kernel_rfl) same_ord ((Below.refl _ _).drew) ?_
  have B2 : Hid (Below W.heap.size W W.drew) := (Below.refl _ _).drew
  generalize W.drew = w2 at *
  repeat (refine ord_quiet rfl ?_; go_big_quiet_step (fail); refine wpQuiet_nil ?_)
  refine ord_call rfl (by rfl) 11 rfl (enters_of Tryd.func11 (by kernel_rfl) rfl) [.agg #[.int .i64 P.k, .int .i64 P.c, .int .i64 P.o, .int .i64 P.d, .int .i64 P.v.1, .int .i64 P.v.2.1, .string P.v.2.2, .slice as1 P.l.length cs1]] (by rfl) _ (HP.out w2 (B1.out.trans (B2.out.mono B1.out.size))) ?_
  rintro e w3 ⟨rfl, hb2⟩
  have B3 : Hid (Below W.heap.size W w3) := B2.out.trans (hb2.mono B2.out.size)
  clear hb2
  refine ⟨_, rfl, Ex.of B3.out, ?_⟩
  simp only [Act.put, List.setIfInBounds_toArray, List.set_cons_zero, List.set_cons_succ]
  repeat (refine ord_quiet rfl ?_; go_big_quiet_step (fail); refine wpQuiet_nil ?_)
  refine ord_call rfl (by rfl) 11 rfl (enters_of Tryd.func11 (by kernel_rfl) rfl) [.agg #[.int .i64 Q.k, .int .i64 Q.c, .int .i64 Q.o, .int .i64 Q.d, .int .i64 Q.v.1, .int .i64 Q.v.2.1, .string Q.v.2.2, .slice as2 Q.l.length cs2]] (by rfl) _ (HQ.out w3 (B1.out.trans (B3.out.mono B1.out.size))) ?_
  rintro e w4 ⟨rfl, hb3⟩
  have B4 : Hid (Below W.heap.size W w4) := B3.out.trans (hb3.mono B3.out.size)
  clear hb3
  refine ⟨_, rfl, Ex.of B4.out, ?_⟩
  simp only [Act.put, List.setIfInBounds_toArray, List.set_cons_zero, List.set_cons_succ]
  repeat (refine ord_quiet rfl ?_; go_big_quiet_step (fail); refine wpQuiet_nil ?_)
  refine ord_end ?_
  go_wp2_with fail
  go_ret
  exact ⟨rfl, B1.out.trans (B4.out.mono B1.out.size)⟩
end Go.Proofs.YtiphnbpkliglcaaDoor
