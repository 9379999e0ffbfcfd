/- The walk of the law that a predicate by other columns holds where it holds of those columns picked. -/
import Derived.Test.YtiphnbpkliglcaaPdMake
import Derived.Test.YtiphnbpkliglcaaPdMapD
import Derived.Test.YtiphnbpkliglcaaPdColsB
import Derived.Test.YtiphnbpkliglcaaPdFirst
import Derived.Test.YtiphnbpkliglcaaRefPick
namespace Go.Proofs.Ytiphnbpkliglcaa
open Go.RowKit Go.Sort
set_option maxRecDepth 100000
set_option linter.unusedVariables false

theorem MkP.ncols {ok : Val → Prop} {ks : List Int} : ∀ {n : Nat} {p : Pd}, MkP ok ks n p → (csP p).length ≤ 2 * 3 ^ n := by
  have leaf : ∀ p, LeafP ks p → (csP p).length ≤ 2 := by
    intro p h
    rcases h with ⟨i, o, v, hi, _, _, _, _, rfl⟩ | ⟨i, j, o, hi, hj, _, _, _, rfl⟩ | ⟨i, hi, rfl⟩ <;> (rw [csP]; simp)
  have pos : ∀ n : Nat, 1 ≤ 3 ^ n := fun n => Nat.pow_pos (by decide)
  intro n
  induction n with
  | zero => intro p h; simpa using leaf p h.1
  | succ n ih =>
    intro p h
    have hp := pos n
    rw [Nat.pow_succ]
    rcases h with h | ⟨q, rfl, hq⟩ | ⟨k, l, rfl, hk, h2, h3, hl⟩
    · have := leaf p h.1; omega
    · have := ih hq
      rw [csP]; simp; omega
    · rw [csP, if_neg (by omega), if_neg (by omega), if_pos hk]
      match l, h2, h3, hl with
      | [x, y], _, _, hl =>
        have a1 := ih (hl x (by simp))
        have a2 := ih (hl y (by simp))
        simp; omega
      | [x, y, z], _, _, hl =>
        have a1 := ih (hl x (by simp))
        have a2 := ih (hl y (by simp))
        have a3 := ih (hl z (by simp))
        simp; omega
theorem four_num (n : Int) : ∃ k : Nat, (wrap64 (n.tmod 4 + 4)).tmod 4 = (k : Int) ∧ k < 4 := by
  have t1 := Int.tmod_lt_of_pos n (by decide : (0 : Int) < 4)
  have t2 := Int.tmod_lt_of_pos (-n) (by decide : (0 : Int) < 4)
  rw [Int.neg_tmod] at t2
  have e : wrap64 (n.tmod 4 + 4) = n.tmod 4 + 4 := by unfold wrap64; omega
  rw [e, Int.tmod_eq_emod_of_nonneg (by omega)]
  exact ⟨((n.tmod 4 + 4) % 4).toNat, by omega, by omega⟩
theorem ints_newP (w : World) (ks : List Int) (t : TypeId) (h : ks.length ≤ maxLen) (n : Nat) (hn : ks.length = n) : IntsIs (w.alloc (.cells (ks.map (Value.int .i64)).toArray t)) (.slice (some ⟨w.heap.size, 0, none⟩) n n) ks := by
  subst hn
  refine .inr ⟨w.heap.size, 0, _, rfl, Nat.le_refl _, h, by simp, fun i hi => ?_⟩
  rw [World.cell?_alloc_at _ _ _ _ (by simp)]
  simp [hi]
theorem cols_newP (w : World) (ks : List Int) (t : TypeId) : ColsAt w.heap.size ks (w.alloc (.cells (ks.map (Value.int .i64)).toArray t)) := by
  refine ⟨by simp, fun i hi => ?_⟩
  rw [World.cell?_alloc_at _ _ _ _ rfl]
  simp [hi]
theorem kinds1231 : ∀ (i : Nat) (h : i < ([1, 2, 3, 1] : List Int).length), ([1, 2, 3, 1] : List Int)[i] = 0 ∨ ([1, 2, 3, 1] : List Int)[i] = 1 ∨ ([1, 2, 3, 1] : List Int)[i] = 2 ∨ ([1, 2, 3, 1] : List Int)[i] = 3 := by
  intro i hi
  have : i = 0 ∨ i = 1 ∨ i = 2 ∨ i = 3 := by simp at hi; omega
  rcases this with rfl | rfl | rfl | rfl <;> simp
set_option maxHeartbeats 1000000 in
theorem pdmoves_long (a : Option Addr) (len cap : Nat) (x y z : Int) (w : World) (h : 100 < (len : Int)) :
    Calls Try.prog 4 #[.slice a len cap, .int .i64 x, .int .i64 y, .int .i64 z] w fun e w' => e = .returned (.bool true) ∧ Below w.heap.size w w' := by
  go_enter Try.func4, Try.ntmps4
  go_wp2_with fail
  refine (lawFirst10 w).mono ?_
  rintro e w1 ⟨rfl, hb1⟩
  go_wp2_with fail
  go_ret
  exact ⟨rfl, hb1⟩
set_option maxHeartbeats 4000000 in
theorem pdmoves_main (a : Option Addr) (len cap : Nat) (zs : List Int) (x y z : Int) (h : (len : Int) ≤ 100) (w : World) (ha : IsRow .i64 w a len cap zs) :
    Calls Try.prog 4 #[.slice a len cap, .int .i64 x, .int .i64 y, .int .i64 z] w fun e w' => e = .returned (.bool true) ∧ Below w.heap.size w w' := by
  have Ha : Hid (IsRow .i64 w a len cap zs) := ha
  clear ha
  obtain ⟨kx, hx, hx4⟩ := four_num x
  obtain ⟨ky, hy, hy4⟩ := four_num y
  obtain ⟨kz, hz, hz4⟩ := four_num z
  go_enter Try.func4, Try.ntmps4
  go_wp2_with fail
  refine (lawFirst10 w).mono ?_
  rintro e w1 ⟨rfl, hb1⟩
  have B1 : Hid (Below w.heap.size w w1) := hb1
  have HS : Hid (SeqAt w1.heap.size a len cap zs 0 (w1.alloc (.cells #[.slice a len cap, .int .i64 0] 26))) := SeqAt.make (Ha.out.below hb1) _
  clear hb1
  go_wp2_with fail
  clear hx hy hz
  obtain ⟨W3, hW3⟩ : ∃ W3, W3 = ((w1.alloc (.cells #[.slice a len cap, .int .i64 0] 26)).alloc (.cells #[.int .i64 kx, .int .i64 ky, .int .i64 kz] 3)).alloc (.cells #[.int .i64 1, .int .i64 2, .int .i64 3, .int .i64 1] 3) := ⟨_, rfl⟩
  rw [← hW3]
  have F3 : Hid (SeqAt w1.heap.size a len cap zs 0 W3 ∧ IntsIs W3 (.slice (some ⟨w1.heap.size + 1, 0, none⟩) 3 3) [(kx : Int), ky, kz] ∧ ColsAt (w1.heap.size + 1 + 1) [1, 2, 3, 1] W3 ∧ Below w.heap.size w W3 ∧ w1.heap.size < W3.heap.size) := by
    have i1 := ints_newP (w1.alloc (.cells #[.slice a len cap, .int .i64 0] 26)) [(kx : Int), ky, kz] 3 (by simp [maxLen]) 3 rfl
    have c1 := cols_newP ((w1.alloc (.cells #[.slice a len cap, .int .i64 0] 26)).alloc (.cells #[.int .i64 kx, .int .i64 ky, .int .i64 kz] 3)) [1, 2, 3, 1] 3
    have hs1 : (w1.alloc (.cells #[.slice a len cap, .int .i64 0] 26)).heap.size = w1.heap.size + 1 := by simp
    have hs2 : ((w1.alloc (.cells #[.slice a len cap, .int .i64 0] 26)).alloc (.cells #[.int .i64 kx, .int .i64 ky, .int .i64 kz] 3)).heap.size = w1.heap.size + 1 + 1 := by simp
    rw [hs1] at i1
    rw [hs2] at c1
    rw [hW3]
    refine ⟨(HS.out.on one_box).on one_box, i1.on one_box, c1, ?_, by simp; omega⟩
    exact B1.out.trans ((one_box.trans ((one_box.trans (one_box.mono (by simp))).mono (by simp))).mono B1.out.size)
  clear hW3 HS
  obtain ⟨S, hS⟩ : ∃ S, S = w1.heap.size := ⟨_, rfl⟩
  have HSW : Hid (w.heap.size ≤ S) := by show w.heap.size ≤ S; rw [hS]; exact B1.out.size
  rw [← hS] at F3
  rw [← hS]
  clear hS
  refine (makeRow S a len cap zs 0 (S + 1 + 1) 4 4 [1, 2, 3, 1] W3 F3.out.1 (by omega) F3.out.2.2.1 (by omega) (by simp) kinds1231).mono ?_
  rintro e w4 ⟨v4, rfl, l4, p4, hl4, ok4, own4, hp4, seq4, but4, _⟩
  have F4 : Hid (l4.length = 4 ∧ w4.ownsRow W3.heap.size 28 3 v4 4 (rc l4) ∧ SeqAt S a len cap zs p4 w4 ∧ But S W3 w4 ∧ p4 ≤ 16) := ⟨hl4, own4, seq4, but4, by omega⟩
  clear hl4 ok4 own4 hp4 seq4 but4
  have q5 : Calls Try.prog 6 #[.pointer (some ⟨S, 0, none⟩), .slice (some ⟨w4.heap.size, 0, none⟩) 3 3, .int .i64 3] (w4.alloc (.cells #[.int .i64 1, .int .i64 2, .int .i64 1] 3)) (PdMade S a len cap zs [1, 2, 1] 3 p4 (w4.alloc (.cells #[.int .i64 1, .int .i64 2, .int .i64 1] 3))) := by
    have hz4 := F4.out.2.2.2.1.size
    have hS3 := F3.out.2.2.2.2
    exact makePred S a len cap zs p4 w4.heap.size 0 3 [1, 2, 1] 3 (by omega) _ (F4.out.2.2.1.on one_box) (by have := F4.out.2.2.2.2; omega) (ints_newP w4 [1, 2, 1] 3 (by simp [maxLen]) 3 rfl) (by omega) (by simp) (by simp) (by simp)
  go_wp2_with fail
  refine q5.mono ?_
  rintro e w5 ⟨P, s5, p5, rfl, mk5, pl5, _, seq5, but5⟩
  obtain ⟨as5, cs5, hs5⟩ := pl5.form
  unfold pv
  have F5 : Hid (MkP okM [1, 2, 1] 3 P ∧ PdL (fun _ => True) 3 w5 s5 P.l ∧ RowIs w5 v4 l4 ∧ IntsIs w5 (.slice (some ⟨S + 1, 0, none⟩) 3 3) [(kx : Int), ky, kz] ∧ Below w.heap.size w w5) := by
    have hz4 := F4.out.2.2.2.1.size
    have hS3 := F3.out.2.2.2.2
    have b34 : But S W3 w5 := F4.out.2.2.2.1.trans ((But.of_below one_box).trans but5)
    refine ⟨mk5, pl5.any, ?_, ?_, ?_⟩
    · have o5 : w5.ownsRow W3.heap.size 28 3 v4 4 (rc l4) := own_but (own_onP F4.out.2.1 one_box) but5 hS3
      exact RowIs.of_own (base := W3.heap.size) (by rw [F4.out.1]; exact o5)
    · exact F3.out.2.1.but b34 (by simp [Value.ownBlock])
    · exact F3.out.2.2.2.1.trans (b34.below HSW.out F3.out.2.2.2.1.size)
  subst hs5
  clear q5 mk5 pl5 seq5 but5
  obtain ⟨a4, c4, hv4⟩ := F5.out.2.2.1.form
  rw [F4.out.1] at hv4
  have HL4 : Hid (l4.length = 4) := F4.out.1
  clear F3 F4
  subst hv4
  have q6 : Calls Try.prog 10 #[.slice a4 4 c4, .slice (some ⟨S + 1, 0, none⟩) 3 3] (w5.alloc (.cells #[.int .i64 P.k, .int .i64 P.c, .int .i64 P.o, .int .i64 P.d, .int .i64 P.v.1, .int .i64 P.v.2.1, .string P.v.2.2, .slice as5 P.l.length cs5] 31)) fun e w' => ∃ v, e = .returned (.tuple #[v, .bool true]) ∧ RowIs w' v ([(kx : Int), ky, kz].map (colR l4)) ∧ Below w5.heap.size w5 w' ∧ PdBox w5.heap.size P (.slice as5 P.l.length cs5) w' := by
    have bx : PdBox w5.heap.size P (.slice as5 P.l.length cs5) (w5.alloc (.cells #[.int .i64 P.k, .int .i64 P.c, .int .i64 P.o, .int .i64 P.d, .int .i64 P.v.1, .int .i64 P.v.2.1, .string P.v.2.2, .slice as5 P.l.length cs5] 31)) := PdBox.new w5 P _
    refine (refPick l4 [(kx : Int), ky, kz] _ _ _ (by simp) (F5.out.2.2.1.on one_box) (F5.out.2.2.2.1.on one_box)).mono ?_
    have hal : allIn l4 [(kx : Int), ky, kz] = true := by
      have hl := HL4.out
      simp only [allIn, List.all_cons, List.all_nil, inR, Bool.and_eq_true, decide_eq_true_eq, Bool.and_true]
      omega
    have hpk : pk l4 [(kx : Int), ky, kz] = [(kx : Int), ky, kz].map (colR l4) := by
      unfold pk
      rw [hal, if_pos rfl]
      apply List.map_congr_left
      intro k hk
      have h0 : 0 ≤ k := by simp at hk; omega
      unfold atV colR
      rw [if_pos h0]
    rw [hal, hpk]
    rintro e w6 ⟨v6, rfl, r6, hb6⟩
    exact ⟨v6, rfl, r6, one_box.trans (hb6.mono (by simp)), bx.on hb6⟩
  go_wp2_with fail
  refine q6.mono ?_
  rintro e w6 ⟨v6, rfl, r6, b6, bx6⟩
  have B6 : Hid (Below w5.heap.size w5 w6) := b6
  have BX6 : Hid (PdBox w5.heap.size P (.slice as5 P.l.length cs5) w6) := bx6
  obtain ⟨a6, c6, hv6⟩ := r6.form
  simp only [List.length_map, List.length_cons, List.length_nil] at hv6
  subst hv6
  have R6 : Hid (RowIs w6 (.slice a6 (0 + 1 + 1 + 1) c6) ([(kx : Int), ky, kz].map (colR l4))) := r6
  have q7 := predMap 3 (fun _ => True) P (.slice as5 P.l.length cs5) (.slice (some ⟨S + 1, 0, none⟩) 3 3) [(kx : Int), ky, kz] w6 (F5.out.1.slim) (F5.out.2.1.on b6) (F5.out.2.2.2.1.on b6)
  unfold MapEnd pv at q7
  have HM : Hid (hd (mpP [(kx : Int), ky, kz] P) l4 = hd P ([(kx : Int), ky, kz].map (colR l4)) ∧ ∀ u ∈ riseOf (csP (mpP [(kx : Int), ky, kz] P)), u = kx ∨ u = ky ∨ u = kz) := by
    have hcs := F5.out.1.cols
    refine ⟨hd_map _ _ _ hcs, fun u hu => ?_⟩
    have h1 := ((riseOf_ok _).2 u).1 hu
    rw [csP_map] at h1
    obtain ⟨c, hc, rfl⟩ := List.mem_map.1 h1
    have := mpC_mem (cols := [(kx : Int), ky, kz]) (hcs c hc).1 (hcs c hc).2
    simpa using this
  have HC : Hid ((csP (mpP [(kx : Int), ky, kz] P)).length ≤ 65536) := by
    show _ ≤ _
    rw [csP_map, List.length_map]
    exact Nat.le_trans (MkP.ncols F5.out.1) (by decide)
  obtain ⟨⟨y0, y1, y2, y3, y4, y5, y6, y7⟩, _, _⟩ := bx6
  simp only [Nat.zero_add] at y1 y2 y3 y4 y5 y6 y7
  generalize mpP [(kx : Int), ky, kz] P = M at *
  clear q6 r6 b6
  go_wp2_with fail
  refine q7.mono ?_
  rintro e w7 ⟨s7, rfl, pl7, b7⟩
  obtain ⟨as7, cs7, hs7⟩ := pl7.form
  subst hs7
  have F7 : Hid (PdL (fun _ => True) 3 w7 (.slice as7 M.l.length cs7) M.l ∧ Below w6.heap.size w6 w7) := ⟨pl7.any, b7⟩
  have q8 : Calls Try.prog 12 #[.agg #[.int .i64 M.k, .int .i64 M.c, .int .i64 M.o, .int .i64 M.d, .int .i64 M.v.1, .int .i64 M.v.2.1, .string M.v.2.2, .slice as7 M.l.length cs7]] (w7.alloc (.cells #[.int .i64 M.k, .int .i64 M.c, .int .i64 M.o, .int .i64 M.d, .int .i64 M.v.1, .int .i64 M.v.2.1, .string M.v.2.2, .slice as7 M.l.length cs7] 31)) fun e w' => ∃ v, e = .returned v ∧ IntsIs w' v (riseOf (csP M)) ∧ Below w7.heap.size w7 w' ∧ PdBox w7.heap.size M (.slice as7 M.l.length cs7) w' := by
    have bx : PdBox w7.heap.size M (.slice as7 M.l.length cs7) (w7.alloc (.cells #[.int .i64 M.k, .int .i64 M.c, .int .i64 M.o, .int .i64 M.d, .int .i64 M.v.1, .int .i64 M.v.2.1, .string M.v.2.2, .slice as7 M.l.length cs7] 31)) := PdBox.new w7 M _
    have q := predColsP (fun _ => True) 3 M (.slice as7 M.l.length cs7) (w7.alloc (.cells #[.int .i64 M.k, .int .i64 M.c, .int .i64 M.o, .int .i64 M.d, .int .i64 M.v.1, .int .i64 M.v.2.1, .string M.v.2.2, .slice as7 M.l.length cs7] 31)) (F7.out.1.on one_box) HC.out
    refine q.mono ?_
    rintro e w8 ⟨v8, rfl, i8, hb8⟩
    exact ⟨v8, rfl, i8, one_box.trans (hb8.mono (by simp)), bx.on hb8⟩
  clear q7 pl7 b7 y0 y1 y2 y3 y4 y5 y6 y7
  go_wp2_with fail
  refine q8.mono ?_
  rintro e w8 ⟨v8, rfl, i8, b8, bx8⟩
  have HR : Hid (Rising (riseOf (csP M))) := (riseOf_ok _).1
  have HU : Hid (∀ u ∈ riseOf (csP M), u = kx ∨ u = ky ∨ u = kz) := HM.out.2
  have HH : Hid (hd M l4 = hd P ([(kx : Int), ky, kz].map (colR l4))) := HM.out.1
  have b68 : Below w6.heap.size w6 w8 := F7.out.2.trans (b8.mono F7.out.2.size)
  have b58 : Below w5.heap.size w5 w8 := B6.out.trans (b68.mono B6.out.size)
  have F8 : Hid (PdBox w5.heap.size P (.slice as5 P.l.length cs5) w8 ∧ PdBox w7.heap.size M (.slice as7 M.l.length cs7) w8 ∧ PdL (fun _ => True) 3 w8 (.slice as5 P.l.length cs5) P.l ∧ PdL (fun _ => True) 3 w8 (.slice as7 M.l.length cs7) M.l ∧ RowIs w8 (.slice a4 4 c4) l4 ∧ RowIs w8 (.slice a6 (0 + 1 + 1 + 1) c6) ([(kx : Int), ky, kz].map (colR l4)) ∧ IntsIs w8 (.slice (some ⟨S + 1, 0, none⟩) 3 3) [(kx : Int), ky, kz] ∧ Below w.heap.size w w8) :=
    ⟨BX6.out.on b68, bx8, F5.out.2.1.on b58, F7.out.1.on b8, F5.out.2.2.1.on b58, R6.out.on b68, F5.out.2.2.2.1.on b58, F5.out.2.2.2.2.trans (b58.mono F5.out.2.2.2.2.size)⟩
  obtain ⟨a8, c8, hv8⟩ := i8.form
  have lU := i8.le
  unfold maxLen at lU
  subst hv8
  have I8 : Hid (IntsIs w8 (.slice a8 (riseOf (csP M)).length c8) (riseOf (csP M))) := i8
  clear q8 i8 b8 bx8 b68 b58 F7 F5 B6 BX6 R6 HM HC B1 HSW HL4
  generalize riseOf (csP M) = U at *
  go_wp2_with fail
  go_loopw [18] (fun i wr => ∃ j : Nat, j ≤ U.length ∧ i = .int .i64 j ∧ Below w8.heap.size w8 wr) (fun i _ => U.length - (intOf i).toNat)
  case atStart => exact ⟨0, by omega, rfl, Below.refl _ _⟩
  case round =>
    obtain ⟨j, hj, rfl, hB⟩ := hrel
    have c0 := (F8.out.2.2.2.2.2.2.1.on hB).at 0 (by simp)
    have c1 := (F8.out.2.2.2.2.2.2.1.on hB).at 1 (by simp)
    have c2 := (F8.out.2.2.2.2.2.2.1.on hB).at 2 (by simp)
    simp only [List.getElem_cons_zero, List.getElem_cons_succ, Nat.add_zero] at c0 c1 c2
    by_cases hlt : j < U.length
    · have hu := HU.out U[j] (List.getElem_mem hlt)
      have I1 : (j : Int) < (U.length : Int) := by omega
      obtain ⟨b8, o8, cp8, e8⟩ := (I8.out.on hB).addr (by intro e; rw [e] at hlt; simp at hlt)
      have x1 := I8.out.on hB
      rw [e8] at x1
      have x1 := x1.at j hlt
      simp only [Value.slice.injEq, true_and] at e8
      obtain ⟨ea, ec⟩ := e8
      subst ea ec
      have HN : Hid (∀ t : Nat, j = t + 1 → ∃ u' : Int, wr.cell? ⟨b8, o8 + t, none⟩ = some (.int .i64 u') ∧ u' < U[j] ∧ t < U.length) := fun t e => by
        subst e
        exact ⟨U[t], (I8.out.on hB).at t (by omega), List.pairwise_iff_getElem.1 HR.out t (t + 1) (by omega) hlt (by omega), by omega⟩
      have HB : Hid (Below w8.heap.size w8 wr) := hB
      clear hB
      generalize U[j] = u at *
      cases j with
      | zero =>
        simp only [Nat.add_zero] at x1
        clear HN
        by_cases hn0 : u = kx
        · subst hn0
          go_wp2_with fail
          go_quiet (fail)
          go_wp2_with fail
          go_roundw
          case rel => exact ⟨0 + 1, by omega, by first | rfl | go_num, HB.out.trans ⟨rfl, rfl, rfl, Nat.le_refl _, fun _ _ => rfl⟩⟩
          case measure => simp [intOf]; omega
        · by_cases hn1 : u = ky
          · have n0 : ((u : Int) != (kx : Int)) = true := bne_iff_ne.2 hn0
            subst hn1
            clear hn0
            go_wp2_with fail
            go_quiet (fail)
            go_wp2_with fail
            go_roundw
            case rel => exact ⟨0 + 1, by omega, by first | rfl | go_num, HB.out.trans ⟨rfl, rfl, rfl, Nat.le_refl _, fun _ _ => rfl⟩⟩
            case measure => simp [intOf]; omega
          · have hn2 : u = kz := by omega
            have n0 : ((u : Int) != (kx : Int)) = true := bne_iff_ne.2 hn0
            have n1 : ((u : Int) != (ky : Int)) = true := bne_iff_ne.2 hn1
            subst hn2
            clear hn0 hn1
            go_wp2_with fail
            go_quiet (fail)
            go_wp2_with fail
            go_roundw
            case rel => exact ⟨0 + 1, by omega, by first | rfl | go_num, HB.out.trans ⟨rfl, rfl, rfl, Nat.le_refl _, fun _ _ => rfl⟩⟩
            case measure => simp [intOf]; omega
      | succ t =>
        obtain ⟨u', x0, hlu, htl⟩ := HN.out t rfl
        have J1 : ((t + 1 : Nat) : Int) = (t : Int) + 1 := by omega
        have J2 : IntKind.i64.wrap ((t : Int) + 1 - 1) = (t : Int) := by rw [IntKind.wrap_i64]; omega
        have J3 : (t : Int) + 1 - 1 = (t : Int) := by omega
        have J4 : (0 : Int) < (t : Int) + 1 := by omega
        have J5 : IntKind.i64.wrap (t : Int) = (t : Int) := by rw [IntKind.wrap_i64]; omega
        have J6 : (0 : Int) ≤ (t : Int) := by omega
        have J7 : (t : Int) < (U.length : Int) := by omega
        rw [J1] at I1
        clear HN
        by_cases hn0 : u = kx
        · subst hn0
          go_wp2_with fail
          have DD : decide ((kx : Int) ≤ u') = false := decide_eq_false (by omega)
          go_quiet (fail)
          go_wp2_with fail
          go_roundw
          case rel => exact ⟨(t + 1) + 1, by omega, by first | rfl | go_num, HB.out.trans ⟨rfl, rfl, rfl, Nat.le_refl _, fun _ _ => rfl⟩⟩
          case measure => simp [intOf]; omega
        · by_cases hn1 : u = ky
          · have n0 : ((u : Int) != (kx : Int)) = true := bne_iff_ne.2 hn0
            subst hn1
            clear hn0
            go_wp2_with fail
            have DD : decide ((ky : Int) ≤ u') = false := decide_eq_false (by omega)
            go_quiet (fail)
            go_wp2_with fail
            go_roundw
            case rel => exact ⟨(t + 1) + 1, by omega, by first | rfl | go_num, HB.out.trans ⟨rfl, rfl, rfl, Nat.le_refl _, fun _ _ => rfl⟩⟩
            case measure => simp [intOf]; omega
          · have hn2 : u = kz := by omega
            have n0 : ((u : Int) != (kx : Int)) = true := bne_iff_ne.2 hn0
            have n1 : ((u : Int) != (ky : Int)) = true := bne_iff_ne.2 hn1
            subst hn2
            clear hn0 hn1
            go_wp2_with fail
            have DD : decide ((kz : Int) ≤ u') = false := decide_eq_false (by omega)
            go_quiet (fail)
            go_wp2_with fail
            go_roundw
            case rel => exact ⟨(t + 1) + 1, by omega, by first | rfl | go_num, HB.out.trans ⟨rfl, rfl, rfl, Nat.le_refl _, fun _ _ => rfl⟩⟩
            case measure => simp [intOf]; omega
    · obtain rfl : j = U.length := by omega
      have I1 : ¬ (U.length : Int) < (U.length : Int) := by omega
      obtain ⟨k1, k2, k3, k4, k5, k6, _, k8⟩ := F8.out
      obtain ⟨⟨x0, x1, x2, x3, x4, x5, x6, x7⟩, _, _⟩ := k1.on hB
      obtain ⟨⟨y0, y1, y2, y3, y4, y5, y6, y7⟩, _, _⟩ := k2.on hB
      simp only [Nat.zero_add] at x1 x2 x3 x4 x5 x6 x7 y1 y2 y3 y4 y5 y6 y7
      have HB : Hid (Below w.heap.size w wr) := k8.trans (hB.mono k8.size)
      have q1 : Hid (∀ d' os, Calls Try.prog 9 #[.agg #[.int .i64 M.k, .int .i64 M.c, .int .i64 M.o, .int .i64 M.d, .int .i64 M.v.1, .int .i64 M.v.2.1, .string M.v.2.2, .slice as7 M.l.length cs7], .slice a4 4 c4] (grow (redrawn wr d') os) fun e w'' => e = .returned (.bool (hd M l4)) ∧ ∃ p : Regrown, w'' = grow (redrawn wr p.d) p.os) :=
        fun d' os => Calls.regrown_of (predHolds 3 _ M _ _ l4 _ ((k4.on hB).on (below_regrown wr d' os)) ((k5.on hB).on (below_regrown wr d' os)))
      have q2 : Hid (∀ d' os, Calls Try.prog 9 #[.agg #[.int .i64 P.k, .int .i64 P.c, .int .i64 P.o, .int .i64 P.d, .int .i64 P.v.1, .int .i64 P.v.2.1, .string P.v.2.2, .slice as5 P.l.length cs5], .slice a6 (0 + 1 + 1 + 1) c6] (grow (redrawn wr d') os) fun e w'' => e = .returned (.bool (hd M l4)) ∧ ∃ p : Regrown, w'' = grow (redrawn wr p.d) p.os) :=
        fun d' os => by rw [HH.out]; exact Calls.regrown_of (predHolds 3 _ P _ _ _ _ ((k3.on hB).on (below_regrown wr d' os)) ((k6.on hB).on (below_regrown wr d' os)))
      generalize hd M l4 = res at *
      have g0 := fun d os => cell_regrown x0 d os
      have g1 := fun d os => cell_regrown x1 d os
      have g2 := fun d os => cell_regrown x2 d os
      have g3 := fun d os => cell_regrown x3 d os
      have g4 := fun d os => cell_regrown x4 d os
      have g5 := fun d os => cell_regrown x5 d os
      have g6 := fun d os => cell_regrown x6 d os
      have g7 := fun d os => cell_regrown x7 d os
      have f0 := fun d os => cell_regrown y0 d os
      have f1 := fun d os => cell_regrown y1 d os
      have f2 := fun d os => cell_regrown y2 d os
      have f3 := fun d os => cell_regrown y3 d os
      have f4 := fun d os => cell_regrown y4 d os
      have f5 := fun d os => cell_regrown y5 d os
      have f6 := fun d os => cell_regrown y6 d os
      have f7 := fun d os => cell_regrown y7 d os
      clear k1 k2 k3 k4 k5 k6 k8 hB x0 x1 x2 x3 x4 x5 x6 x7 y0 y1 y2 y3 y4 y5 y6 y7 c0 c1 c2 hlt F8 I8 HH HR HU
      go_wp2_with fail
      refine wp_region_quiet_below (by kernel_rfl) (by kernel_rfl) ?_
      iterate 8 (go_big_quiet_step (exact q1.out _ _))
      iterate 6 (go_big_quiet_step (exact q2.out _ _))
      refine wpQuiet_nil ?_
      intro w9 hw9
      obtain ⟨p9, hw9⟩ := hw9
      have B9 : Hid (Below w.heap.size w w9) := by show Below _ _ _; rw [hw9]; exact HB.out.trans ((below_regrown wr _ _).mono HB.out.size)
      clear hw9 g0 g1 g2 g3 g4 g5 g6 g7 f0 f1 f2 f3 f4 f5 f6 f7 q1 q2
      go_wp2_with fail
      go_ret
      exact ⟨retB (by simp), B9.out⟩
theorem predMoves_walk (a : Option Addr) (len cap : Nat) (zs : List Int) (x : Int) (_ : (Lit.int .i64 x).wf = true) (y : Int) (_ : (Lit.int .i64 y).wf = true) (z : Int) (_ : (Lit.int .i64 z).wf = true) (w : World) (ha : IsRow .i64 w a len cap zs) :
    Calls Try.prog 4 #[.slice a len cap, .int .i64 x, .int .i64 y, .int .i64 z] w fun e w' => e = .returned (.bool true) ∧ Below w.heap.size w w' := by
  by_cases h : (len : Int) ≤ 100
  · exact pdmoves_main a len cap zs x y z h w ha
  · exact pdmoves_long a len cap x y z w (by omega)
end Go.Proofs.Ytiphnbpkliglcaa
