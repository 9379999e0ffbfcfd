/- What linear.Filter answers: copies of those entries of which a predicate holds. -/
import Derived.Test.YtaccinophamgmaaDoorPackLin
import Derived.Test.YtaccinophamgmaaDoorPackSets
import Derived.Test.YtaccinophamgmaaDoorPackPut
import Derived.Test.YtaccinophamgmaaDoorPackHolds
import Derived.Test.YtaccinophamgmaaDoorPdMk
import Derived.Test.YtaccinophamgmaaDoorPackStep
import Derived.Test.YtaccinophamgmaaDoorOrd
namespace Go.Proofs.YtaccinophamgmaaDoor
open Go.RowKit Go.Sort
set_option maxRecDepth 100000
set_option linter.unusedVariables false

theorem flt_ord6 : ordOk (regOf Tryd.f16.body 6) ((0, true) :: (1, true) :: (2, true) :: (4, true) :: (5, true) :: (3, false) :: (6, true) :: (7, false) :: (8, false) :: (9, true) :: []) = true := by kernel_rfl
theorem flt_snoc {p : Pd} {l : List Ent} {j : Nat} (h : j < l.length) : fltP p (l.take (j + 1)) = if hd p l[j].1 = true then fltP p (l.take j) ++ [l[j]] else fltP p (l.take j) := by
  rw [List.take_succ_eq_append_getElem h]
  unfold fltP
  rw [List.filter_append, List.filter_cons, List.filter_nil]
  split
  · rfl
  · rw [List.append_nil]
/-- How far it has come. -/
def FltSo (p : Pd) (s : Value) (l : List Ent) (w : World) (j : Nat) (v : Value) (wr : World) : Prop :=
  (∃ us, us.length ≤ j ∧ ZOwn (w.heap.size + 1) us (fltP p (l.take j)) v wr) ∧ Below w.heap.size w wr ∧ PdBox w.heap.size p s wr
set_option maxHeartbeats 4000000 in
theorem lnFilter (n : Nat) (F : Nat → Prop) (p : Pd) (s va : Value) (l : List Ent) (w : World) (hn : l.length ≤ 65536) (hl : EOk l) (hp : PdL F n w s p.l) (ha : EntsIs w va l) :
    Calls Tryd.prog 16 #[pv p s, va] w fun e w' => ∃ v, e = .returned v ∧ ZHas w.heap.size (fltP p l) v w' ∧ Below w.heap.size w w' := by
  obtain ⟨i0, hi, hz0, hz1, hz2⟩ := info_parts info_entry
  obtain ⟨a0, cap, rfl⟩ := ha.form
  have Ha : Hid (EntsIs w (.slice a0 l.length cap) l) := ha
  have Hl : Hid (EOk l) := hl
  have HD : Hid (∀ W r rv, Below w.heap.size w W → RowIs W rv r → Calls Tryd.prog 34 #[.agg #[.int .i64 p.k, .int .i64 p.c, .int .i64 p.o, .int .i64 p.d, .int .i64 p.v.1, .int .i64 p.v.2.1, .string p.v.2.2, s], rv] W fun e w' => e = .returned (.bool (hd p r)) ∧ Below W.heap.size W w') := fun W r rv hW hr => predHolds n F p s rv r W (hp.on hW) hr
  have bx : PdBox w.heap.size p s (w.alloc (.cells #[.int .i64 p.k, .int .i64 p.c, .int .i64 p.o, .int .i64 p.d, .int .i64 p.v.1, .int .i64 p.v.2.1, .string p.v.2.2, s] 33)) := PdBox.new w p s
  have F0 : Hid (FltSo p s l w 0 (.slice none 0 0) (w.alloc (.cells #[.int .i64 p.k, .int .i64 p.c, .int .i64 p.o, .int .i64 p.d, .int .i64 p.v.1, .int .i64 p.v.2.1, .string p.v.2.2, s] 33))) := ⟨⟨[], Nat.le_refl _, by rw [List.take_zero]; exact ZOwn.nil _ _⟩, one_box, bx⟩
  have HF0 : Hid (∀ j v wr, FltSo p s l w j v wr → PdAt wr w.heap.size 0 p s) := fun j v wr h => h.2.2.1
  clear ha hl hp bx
  unfold pv
  go_enter Tryd.func16, Tryd.ntmps16
  go_wp2_with fail
  go_loopw [5, 10] (fun v i wr => ∃ j : Nat, j ≤ l.length ∧ i = .int .i64 j ∧ Hid (FltSo p s l w j v wr)) (fun _ i _ => l.length - (intOf i).toNat)
  case atStart => exact ⟨0, by omega, rfl, F0.out⟩
  case round =>
    clear F0
    obtain ⟨j, hj, rfl, hS⟩ := hrel
    by_cases k1 : j < l.length
    · have I1 : (j : Int) < (l.length : Int) := by omega
      obtain ⟨⟨us, hu, s1⟩, s3, s4⟩ := hS.out
      obtain ⟨b, o, a1, c1, rfl, x1, x2, x3⟩ := (Ha.out.on s3).at j k1
      have hr1 : l[j].1.length ≤ 65536 := (Hl.out _ (List.getElem_mem k1)).2
      obtain ⟨W, hW⟩ : ∃ W, W = wr.alloc (.cells #[.slice a1 l[j].1.length c1, .int .i64 l[j].2] 52) := ⟨_, rfl⟩
      have hbW : Hid (Below wr.heap.size wr W) := by rw [hW]; exact one_box
      have hs3 := s3.size
      have hsW := hbW.out.size
      have BW : Hid (Below w.heap.size w W) := s3.trans (hbW.out.mono hs3)
      have XW : Hid (RowIs W (.slice a1 l[j].1.length c1) l[j].1) := x3.on hbW.out
      have q1 : Hid (Calls Tryd.prog 34 #[.agg #[.int .i64 p.k, .int .i64 p.c, .int .i64 p.o, .int .i64 p.d, .int .i64 p.v.1, .int .i64 p.v.2.1, .string p.v.2.2, s], .slice a1 l[j].1.length c1] W fun e w' => e = .returned (.bool (hd p l[j].1)) ∧ Below W.heap.size W w') := HD.out W _ _ BW.out XW.out
      have HW : Hid (wr.alloc (.cells #[.slice a1 l[j].1.length c1, .int .i64 l[j].2] 52) = W) := hW.symm
      have z1 : W.cell? ⟨wr.heap.size, 0, none⟩ = some (.slice a1 l[j].1.length c1) := by rw [hW, World.cell?_alloc_at _ _ _ _ (by simp)]; rfl
      have Z2 : Hid (W.heap[wr.heap.size]? = some (.cells #[.slice a1 l[j].1.length c1, .int .i64 l[j].2] 52 (0, 0))) := by rw [hW]; exact heap_alloc_new wr _
      obtain ⟨⟨y0, y1, y2, y3, y4, y5, y6, y7⟩, _, _⟩ := s4.on hbW.out
      simp only [Nat.zero_add] at y1 y2 y3 y4 y5 y6 y7
      obtain ⟨av, cav, rfl⟩ := own_form s1.1
      by_cases hin : hd p l[j].1 = true
      · rw [hin] at q1
        have FA : Hid (∀ w6, Below W.heap.size W w6 → (∀ V, Below w6.heap.size w6 V → Calls Tryd.prog 35 #[.slice a1 l[j].1.length c1] V fun e w' => ∃ v, e = .returned v ∧ w'.ownsRow V.heap.size 30 3 v l[j].1.length (rc l[j].1) ∧ Below V.heap.size V w') ∧
            ∀ w7 v7 base7, Below w6.heap.size w6 w7 → w6.heap.size ≤ base7 → w7.ownsRow base7 30 3 v7 l[j].1.length (rc l[j].1) →
            w7.ownsRow (w.heap.size + 1) 52 2 (.slice av us.length cav) us.length (es us) ∧ w.heap.size + 1 ≤ w7.heap.size ∧ (∀ k, (Value.slice av us.length cav).ownBlock = some k → k < wr.heap.size) ∧
            ∀ v8 w8, w8.ownsRow (w.heap.size + 1) 52 2 v8 (us.length + 1) (es us ++ ec (v7, l[j].2)) → (w7.alloc (.cells #[v7, .int .i64 l[j].2] 52)).grownBy w8 (Value.ownBlock (.slice av us.length cav)) → FltSo p s l w (j + 1) v8 w8) := by
          intro w6 h6
          refine ⟨fun V hV => rowCopy l[j].1 _ V hr1 ((XW.out.on h6).on hV), fun w7 v7 base7 h7' hb7 g7 => ?_⟩
          have h7 : Below W.heap.size W w7 := h6.trans (h7'.mono h6.size)
          have b7 := BW.out.trans (h7.mono BW.out.size)
          have o7 := (s1.on hbW.out).on h7
          have p7 := (s4.on hbW.out).on h7
          have hlt := s1.1.lt
          have hwx := s4.2.2
          have hz6 := h6.size
          refine ⟨o7.1, by have := h7.size; omega, fun k e => (hlt k e).2, fun v8 w8 g1 g2 => ⟨⟨us ++ [(v7, l[j].2)], by simp; omega, ?_, ?_⟩, ?_, ?_⟩⟩
          · rw [List.length_append, es_snoc]; exact g1
          · rw [flt_snoc k1, if_pos hin]
            exact OwnRows.grown (w := w7.alloc (.cells #[v7, .int .i64 l[j].2] 52)) (OwnRows.snoc (o7.2.on one_box) (own_on (own_mono g7 (by omega)) one_box) l[j].2) (own_on o7.1 one_box) g2
          · exact (b7.alloc (by have := b7.size; omega) _).grown g2 (by have := b7.size; simp; omega) (fun k e => by have := (o7.1.lt k e).1; omega)
          · exact (p7.on one_box).grown g2 (fun e => by have := (o7.1.lt _ e).1; omega)
        rw [hW] at y0 y1 y2 y3 y4 y5 y6 y7 z1
        clear hS s1 s3 s4 x3 hbW hW hin XW
        generalize rc l[j].1 = R at *
        generalize l[j].1.length = n1 at *
        generalize l[j].2 = i1 at *
        go_wp2_with fail
        rw [HW.out]
        refine q1.out.mono ?_
        rintro e w6 ⟨rfl, h6⟩
        have FB : Hid _ := FA.out w6 h6
        have hx6 : w6.heap[wr.heap.size]? = some (.cells #[.slice a1 n1 c1, .int .i64 i1] 52 (0, 0)) := by rw [h6.block _ (by have := hsW; have e2 := Z2.out; exact (Array.getElem?_eq_some_iff.1 e2).1)]; exact Z2.out
        obtain ⟨K, hK⟩ : ∃ K : World → Prop, K = fun w' => w'.heap[wr.heap.size]? = some (.cells #[.slice a1 n1 c1, .int .i64 i1] 52 (0, 0)) := ⟨_, rfl⟩
        have KO : Hid (∀ w', w'.heap[wr.heap.size]? = some (.cells #[.slice a1 n1 c1, .int .i64 i1] 52 (0, 0)) → K w') := fun w' h => by rw [hK]; exact h
        have KX : Hid (∀ w', K w' → w'.heap[wr.heap.size]? = some (.cells #[.slice a1 n1 c1, .int .i64 i1] 52 (0, 0))) := fun w' h => by rw [hK] at h; exact h
        have g0 : ∀ p : Wd K, p.v.cell? ⟨wr.heap.size, 0, none⟩ = some (.slice a1 n1 c1) := fun p => by rw [Lib.cell_of_heap (KX.out _ p.ok)]; rfl
        have g1 : ∀ p : Wd K, p.v.cell? ⟨wr.heap.size, 1, none⟩ = some (.int .i64 i1) := fun p => by rw [Lib.cell_of_heap (KX.out _ p.ok)]; rfl
        have K6 : Hid (∀ w', Below w6.heap.size w6 w' → K w') := fun w' h => KO.out w' (by rw [h.block _ (Array.getElem?_eq_some_iff.1 hx6).1]; exact hx6)
        have ne : Nonempty (Wd K) := ⟨⟨_, K6.out _ (Below.refl _ _)⟩⟩
        clear FA h6 q1 z1 y0 y1 y2 y3 y4 y5 y6 y7 Z2 hx6 hK
        go_wp2_with fail
        refine wp_region_ord_at K (regOf Tryd.f16.body 6) ((0, true) :: (1, true) :: (2, true) :: (4, true) :: (5, true) :: (3, false) :: (6, true) :: (7, false) :: (8, false) :: (9, true) :: []) (by kernel_rfl) (by kernel_rfl) flt_ord6 (K6.out _ (Below.refl _ _).drew) ?_
        have hb2 : Below w6.heap.size w6 w6.drew := (Below.refl _ _).drew
        generalize w6.drew = w5 at *
        repeat (refine ord_quiet rfl ?_; go_big_quiet_step (fail); refine wpQuiet_nil ?_)
        refine ord_call rfl (by rfl) 35 rfl (enters_of Tryd.func35 (by kernel_rfl) rfl) [.slice a1 n1 c1] (by rfl) _ (FB.out.1 w5 hb2) ?_
        rintro e w7 ⟨v7, rfl, g7, h7⟩
        have B7 : Below w6.heap.size w6 w7 := hb2.trans (h7.mono hb2.size)
        obtain ⟨o7, hz7, hne7, hf7⟩ := FB.out.2 w7 v7 _ B7 hb2.size g7
        obtain ⟨av7, cv7, rfl⟩ := own_form g7
        refine ⟨_, rfl, Wd.of (K6.out _ B7), ?_⟩
        simp only [Act.put, List.setIfInBounds_toArray, List.set_cons_zero, List.set_cons_succ]
        repeat (refine ord_quiet rfl ?_; go_big_quiet_step (fail); refine wpQuiet_nil ?_)
        refine ord_loud rfl ?_
        intro K' hK'
        go_simp
        refine hK' _ _ (Wd.of (K6.out _ (B7.alloc B7.size _))) ?_
        clear hK'
        have hx7 : w7.heap[wr.heap.size]? = some (.cells #[.slice a1 n1 c1, .int .i64 i1] 52 (0, 0)) := KX.out _ (K6.out _ B7)
        refine ord_loud rfl ?_
        intro K' hK'
        refine step_append_at _ rfl _ _ 27 rfl (w.heap.size + 1) 52 i0 (.agg #[.slice none 0 0, .int .i64 0]) 2 32 Tryd.underlying27 hi hz0 hz1 hz2 rfl (by decide) (.slice av us.length cav) us.length (es us) rfl (own_on o7 one_box) ⟨w7.heap.size, 0, none⟩ 1 1 (ec (.slice av7 n1 cv7, i1)) rfl rfl (cell_two_new _ _ _ _) (by simp [ec, Value.oneCell']) (by unfold maxLen; omega) (by omega) (by simp; omega) ?_
        intro v8 w8 hown8 hg8 _
        refine hK' _ _ (Wd.of (KO.out _ ?_)) ?_
        · rw [hg8.block _ (by have := (Array.getElem?_eq_some_iff.1 hx7).1; simp; omega) (fun e => Nat.lt_irrefl _ (hne7 _ e.symm))]
          rw [heap_alloc_old _ _ (Array.getElem?_eq_some_iff.1 hx7).1]; exact hx7
        clear hK' hx7 hne7
        have hf : Hid (FltSo p s l w (j + 1) v8 w8) := hf7 _ _ hown8 hg8
        clear hf7 hown8 hg8 o7 g7 h7 B7 hb2 KX KO K6 FB
        simp only [Act.put, List.setIfInBounds_toArray, List.set_cons_zero, List.set_cons_succ]
        repeat (refine ord_quiet rfl ?_; go_big_quiet_step (fail); refine wpQuiet_nil ?_)
        refine ord_end ?_
        go_wp2_with fail
        go_roundw
        case rel => exact ⟨j + 1, by omega, by go_num, hf.out⟩
        case measure => simp [intOf]; omega
      · have hin' : hd p l[j].1 = false := by simpa using hin
        rw [hin'] at q1
        have FA : Hid (∀ w6, Below W.heap.size W w6 → FltSo p s l w (j + 1) (.slice av us.length cav) w6) := by
          intro w6 h6
          refine ⟨⟨us, by omega, ?_⟩, BW.out.trans (h6.mono BW.out.size), (s4.on hbW.out).on h6⟩
          rw [flt_snoc k1, if_neg hin]
          exact (s1.on hbW.out).on h6
        rw [hW] at y0 y1 y2 y3 y4 y5 y6 y7 z1
        clear hS s1 s3 s4 x3 hbW hW hin XW
        generalize l[j].1.length = n1 at *
        generalize l[j].2 = i1 at *
        go_wp2_with fail
        rw [HW.out]
        refine q1.out.mono ?_
        rintro e w6 ⟨rfl, h6⟩
        have hf : Hid _ := FA.out w6 h6
        clear FA h6 q1 z1 y0 y1 y2 y3 y4 y5 y6 y7 Z2
        go_wp2_with fail
        go_roundw
        case rel => exact ⟨j + 1, by omega, by go_num, hf.out⟩
        case measure => simp [intOf]; omega
    · have I1 : ¬ (j : Int) < (l.length : Int) := by omega
      obtain rfl : j = l.length := by omega
      obtain ⟨⟨us, hu, s1⟩, s3, s4⟩ := hS.out
      rw [List.take_length] at s1
      have E : Hid (ZHas w.heap.size (fltP p l) u5 wr ∧ Below w.heap.size w wr) := ⟨⟨us, s1.mono (by omega)⟩, s3⟩
      clear hS s1 s3 s4 hu
      go_wp2_with fail
      go_ret
      exact ⟨_, rfl, E.out.1, E.out.2⟩
end Go.Proofs.YtaccinophamgmaaDoor
