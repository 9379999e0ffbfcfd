/- The law RowSays answers true at every argument, and writes nothing that was there: its walk. -/
import Derived.Test.YtihijfbbmenbnaaDoorRowPicksWalk
import Derived.Test.YtihijfbbmenbnaaDoorRowCheck
import Derived.Test.YtihijfbbmenbnaaDoorRowChecksWalk
namespace Go.Proofs.YtihijfbbmenbnaaDoor
open Go.RowKit Go.Sort
set_option maxRecDepth 100000

/-- Which error Check answers. -/
def kE (c : Int) : Option (Fin 11) := if c = 0 then none else if c = 102 then some 1 else some 5
theorem ckR_of (l : List Val) (ks : List Int) : ckR l ks = 0 ∨ ckR l ks = 102 ∨ ckR l ks = 106 := by
  unfold ckR; split
  · split
    · exact .inl rfl
    · exact .inr (.inl rfl)
  · exact .inr (.inr rfl)
theorem ckE_kE (ad : Fin 11 → Addr) (l : List Val) (ks : List Int) : ckE (ad 1) (ad 5) (ckR l ks) = errC ad (kE (ckR l ks)) ∧ codeC (kE (ckR l ks)) = ckR l ks := by
  rcases ckR_of l ks with e | e | e <;> rw [e] <;> exact ⟨rfl, rfl⟩
theorem cut5 (w : World) (n : Nat) (hn : n ≤ 5) (t : TypeId) : IntsIs (w.alloc (.cells #[.int .i64 1, .int .i64 2, .int .i64 3, .int .i64 1, .int .i64 2] t)) (.slice (some ⟨w.heap.size, 0, none⟩) n 5) ([1, 2, 3, 1, 2].take n) := by
  have e : (([1, 2, 3, 1, 2] : List Int).take n).length = n := by rw [List.length_take]; simp; omega
  refine .inr ⟨w.heap.size, 0, 5, by rw [e], by omega, by decide, by simp, fun i hi => ?_⟩
  have h5 : i < 5 := by omega
  rw [World.cell?_alloc_at _ _ _ _ (by simp)]
  simp only [List.getElem_take, Nat.zero_add]
  match i, h5 with
  | 0, _ => rfl
  | 1, _ => rfl
  | 2, _ => rfl
  | 3, _ => rfl
  | 4, _ => rfl
theorem cut5' (w : World) (o : Obj) (n : Nat) (hn : n ≤ 5) (t : TypeId) : IntsIs ((w.alloc o).alloc (.cells #[.int .i64 1, .int .i64 2, .int .i64 3, .int .i64 1, .int .i64 2] t)) (.slice (some ⟨w.heap.size + 1, 0, none⟩) n 5) ([1, 2, 3, 1, 2].take n) := by
  have := cut5 (w.alloc o) n hn t
  simpa using this
attribute [local go_sem ↓] Go.wp_at_zero Go.wp_at_succ
theorem kinds5 : ∀ i (h : i < ([1, 2, 3, 0, 0] : List Int).length), ([1, 2, 3, 0, 0] : List Int)[i] = 0 ∨ ([1, 2, 3, 0, 0] : List Int)[i] = 1 ∨ ([1, 2, 3, 0, 0] : List Int)[i] = 2 ∨ ([1, 2, 3, 0, 0] : List Int)[i] = 3 := by
  intro i h; match i, h with | 0, _ => simp | 1, _ => simp | 2, _ => simp | 3, _ => simp | 4, _ => simp
theorem nm6 (x : Int) : ∃ n : Nat, n ≤ 5 ∧ nm x 6 = (n : Int) := by
  have := nm_bd x 6 (by decide)
  exact ⟨(nm x 6).toNat, by omega, by omega⟩
theorem but_below {B S : Nat} {w w' : World} (h : But S w w') (hB : B ≤ S) (hS : B ≤ w.heap.size) : RowKit.Below B w w' := h.below hB hS

set_option maxHeartbeats 4000000 in
theorem rowsays_at (a : Option Addr) (len cap : Nat) (zs : List Int) (a' : Option Addr) (len' cap' : Nat) (zs' : List Int) (b o capa : Nat) (la : List Val) (b1 : Option Addr) (capb : Nat) (lb : List Val) (c1 : Option Addr) (lc capc : Nat) (zc : List Int) (ad : Fin 11 → Addr)
    (h1 : (len : Int) ≤ 80) (h2 : (len' : Int) ≤ 80) (h3 : (la.length : Int) ≤ 16) (h4 : (lb.length : Int) ≤ 16) (h5 : (lc : Int) ≤ 20) (w : World) (hr : Ready w) (he : ErrsAt ad w) (ha : IsRow .i64 w a len cap zs) (ha' : IsRow .i64 w a' len' cap' zs')
    (ra : RowIs w (.slice (some ⟨b, o, none⟩) la.length capa) la) (rb : RowIs w (.slice b1 lb.length capb) lb) (hc : IsRow .i64 w c1 lc capc zc) :
    Calls Tryd.prog 4 #[.slice a len cap, .slice a' len' cap', .slice (some ⟨b, o, none⟩) la.length capa, .slice b1 lb.length capb, .slice c1 lc capc] w fun e w' => e = .returned (.bool true) ∧ Below w.heap.size w w' := by
  have Ha : Hid (IsRow .i64 w a len cap zs) := ha
  have Ha' : Hid (IsRow .i64 w a' len' cap' zs') := ha'
  have RA : Hid (RowIs w (.slice (some ⟨b, o, none⟩) la.length capa) la) := ra
  have RB : Hid (RowIs w (.slice b1 lb.length capb) lb) := rb
  have RK : Hid (IntsIs w (.slice c1 lc capc) (zc.take lc)) := IntsIs.of_row hc
  have HK : Hid ((zc.take lc).length ≤ 65536) := by show _ ≤ _; rw [List.length_take]; omega
  have HE : Hid (ErrsAt ad w) := he
  clear ha ha' ra rb hc he
  generalize zc.take lc = ks at *
  go_enter Tryd.func4, Tryd.ntmps4
  go_wp2_with fail
  refine (lawFirst2 _ hr).mono ?_
  rintro e w1 ⟨rfl, hb1⟩
  have B1 : Hid (Below w.heap.size w w1) := hb1
  clear hb1
  go_wp2_with fail
  go_loopw [12] (fun i wr => ∃ j : Nat, j ≤ la.length ∧ i = .int .i64 j ∧ wr = w1) (fun i _ => la.length - (intOf i).toNat)
  case atStart => exact ⟨0, by omega, rfl, rfl⟩
  case round =>
    obtain ⟨j, hj, rfl, rfl⟩ := hrel
    by_cases hlt : j < la.length
    · have I1 : (j : Int) < (la.length : Int) := by omega
      have X := ((RA.out.on B1.out).at' j hlt).2.2
      generalize la[j].2.2 = s at *
      by_cases hs : (s.size : Int) ≤ 100
      · go_wp2_with fail
        go_roundw
        case rel => exact ⟨j + 1, by omega, by go_num, by first | rfl | trivial⟩
        case measure => simp [intOf]; omega
      · have hs' : 100 < (s.size : Int) := by omega
        go_wp2_with fail
        go_ret
        exact ⟨rfl, B1.out⟩
    · obtain rfl : j = la.length := by omega
      go_wp2_with fail
      have M := seq_cols (Ha.out.below B1.out) [1, 2, 3, 0, 0] 29 3
      have HC : Hid (ColsAt (wr.heap.size + 1) [1, 2, 3, 0, 0] _) := M.2
      refine (next wr.heap.size a len cap zs 0 6 _ M.1 (by decide) (by decide) (by decide)).mono ?_
      clear M
      rintro e w2 ⟨rfl, hseq, hb2⟩
      obtain ⟨n, hn5, hnn⟩ := nm6 (sq zs len 0)
      rw [hnn]
      have HC2 : Hid (ColsAt (wr.heap.size + 1) [1, 2, 3, 0, 0] w2) := HC.out.but hb2 (by omega)
      have B2 : Hid (Below w.heap.size w w2) := (B1.out.trans (two_boxes.mono B1.out.size)).trans (hb2.below B1.out.size (by have := B1.out.size; simp; omega))
      have HS : Hid (SeqAt wr.heap.size a len cap zs (0 + 1) w2) := hseq
      have z2 := hb2.size
      simp only [World.size_alloc] at z2
      have I5 : (n : Int) ≤ 5 := by omega
      have I6 : (0 : Int) ≤ (n : Int) := by omega
      clear HC hb2 hseq hnn
      go_wp2_with fail
      refine (makeRow wr.heap.size a len cap zs (0 + 1) (wr.heap.size + 1) n 5 [1, 2, 3, 0, 0] w2 HS.out (by omega) HC2.out (by omega) (by simp; omega) kinds5).mono ?_
      rintro e w3 ⟨v1, rfl, hso⟩
      obtain ⟨l1, n1, ok1, O1, hb3, _⟩ := made_own hso
      have B3 : Hid (Below w.heap.size w w3) := B2.out.trans (hb3.below B1.out.size B2.out.size)
      have V1 : Hid (∀ v ∈ l1, okv v) := okr_okv ok1 (by simp; omega)
      have N1 : Hid (l1.length = n) := n1
      have HO1 : Hid (w3.ownsRow w2.heap.size 31 3 v1 n (rc l1)) := O1
      have z3 := hb3.size
      clear hso hb3 O1 ok1 n1 HC2 HS
      go_wp2_with fail
      have M := seq_cols (Ha'.out.below B3.out) [1, 2, 3, 0, 0] 29 3
      have HC : Hid (ColsAt (w3.heap.size + 1) [1, 2, 3, 0, 0] _) := M.2
      refine (next w3.heap.size a' len' cap' zs' 0 6 _ M.1 (by decide) (by decide) (by decide)).mono ?_
      clear M
      rintro e w4 ⟨rfl, hseq, hb4⟩
      obtain ⟨m, hm5, hmm⟩ := nm6 (sq zs' len' 0)
      rw [hmm]
      have HC2 : Hid (ColsAt (w3.heap.size + 1) [1, 2, 3, 0, 0] w4) := HC.out.but hb4 (by omega)
      have B4 : Hid (Below w.heap.size w w4) := (B3.out.trans (two_boxes.mono B3.out.size)).trans (hb4.below B3.out.size (by have := B3.out.size; simp; omega))
      have HS : Hid (SeqAt w3.heap.size a' len' cap' zs' (0 + 1) w4) := hseq
      have lt1 := HO1.out.lt
      have HO1' : Hid (w4.ownsRow w2.heap.size 31 3 v1 n (rc l1)) := own_but' (own_on HO1.out two_boxes) hb4 (fun g hg => by have := (lt1 g hg).2; omega)
      have I7 : (m : Int) ≤ 5 := by omega
      have I8 : (0 : Int) ≤ (m : Int) := by omega
      clear HC hb4 hseq hmm
      go_wp2_with fail
      refine (makeRow w3.heap.size a' len' cap' zs' (0 + 1) (w3.heap.size + 1) m 5 [1, 2, 3, 0, 0] w4 HS.out (by omega) HC2.out (by omega) (by simp; omega) kinds5).mono ?_
      rintro e w5 ⟨v2, rfl, hso⟩
      obtain ⟨l2, n2, ok2, O2, hb5, _⟩ := made_own hso
      have B5 : Hid (Below w.heap.size w w5) := B4.out.trans (hb5.below B3.out.size B4.out.size)
      have R2 : Hid (RowIs w5 v2 l2) := own_row O2 n2
      have R1 : Hid (RowIs w5 v1 l1) := own_row (own_but' HO1'.out hb5 (fun g hg => by have := (lt1 g hg).2; omega)) N1.out
      clear hso hb5 O2 ok2 n2 HC2 HS HO1 HO1' lt1 B4 B3 B2 z3 z2
      obtain ⟨x1, cx, hv1⟩ := R1.out.form
      rw [N1.out] at hv1
      subst hv1
      go_wp2_with fail
      refine (rowPick l1 ks _ _ w5 HK.out R1.out (RK.out.on B5.out)).mono ?_
      rintro e w6 ⟨v3, rfl, R3, hb6⟩
      have B6 : Hid (Below w5.heap.size w5 w6) := hb6
      have P3 : Hid (RowIs w6 v3 (pk l1 ks)) := R3
      clear R3 hb6
      obtain ⟨bb, hbb⟩ : ∃ b, allIn l1 ks = b := ⟨_, rfl⟩
      rw [hbb]
      go_wp2_with fail
      refine (refPick l1 ks _ _ w6 (by have := HK.out; omega) (R1.out.on B6.out) ((RK.out.on B5.out).on B6.out)).mono ?_
      rintro e w7 ⟨v4, rfl, R4, hb7⟩
      rw [hbb]
      have BX : Hid (Below w5.heap.size w5 w7) := B6.out.trans (hb7.mono B6.out.size)
      have P4 : Hid (RowIs w7 v4 (pk l1 ks)) := R4
      have P3' : Hid (RowIs w7 v3 (pk l1 ks)) := P3.out.on hb7
      have Q1 : Hid (RowIs w7 (.slice x1 n cx) l1) := R1.out.on BX.out
      have Q2 : Hid (RowIs w7 v2 l2) := R2.out.on BX.out
      have BY : Hid (Below w.heap.size w w7) := B5.out.trans (BX.out.mono B5.out.size)
      have QA : Hid (RowIs w7 (.slice (some ⟨b, o, none⟩) la.length capa) la) := RA.out.on BY.out
      have QB : Hid (RowIs w7 (.slice b1 lb.length capb) lb) := RB.out.on BY.out
      have QK : Hid (IntsIs w7 (.slice c1 lc capc) ks) := RK.out.on BY.out
      have QE : Hid (ErrsAt ad w7) := HE.out.on BY.out
      have QR : Hid (Ready w7) := hr.on BY.out
      clear R4 hb7 hbb P3 B6 R1 R2 RA RB RK BX B5 Ha Ha' HE B1
      obtain ⟨c, hc⟩ : ∃ c, c = cR l1 l2 := ⟨_, rfl⟩
      obtain ⟨c', hc'⟩ : ∃ c, c = cR la lb := ⟨_, rfl⟩
      obtain ⟨A, hA⟩ : ∃ A : ByteArray, A = ⟨(shR l1).toArray⟩ := ⟨_, rfl⟩
      obtain ⟨ev, hev⟩ : ∃ v, v = ckE (ad 1) (ad 5) (ckR la ks) := ⟨_, rfl⟩
      obtain ⟨ec, hec⟩ : ∃ v, v = ckR la ks := ⟨_, rfl⟩
      obtain ⟨fv', hfv⟩ : ∃ v, v = ckE (ad 1) (ad 5) (ckR l1 ([1, 2, 3, 1, 2].take n)) := ⟨_, rfl⟩
      obtain ⟨fc, hfc⟩ : ∃ v, v = ckR l1 ([1, 2, 3, 1, 2].take n) := ⟨_, rfl⟩
      have G1 : Hid (∀ W, Hid (Below w7.heap.size w7 W) → Calls Tryd.prog 11 #[.slice x1 n cx, v2] W fun e w'' => e = .returned (.int .i64 c) ∧ Hid (Below W.heap.size W w'') ∧ Hid (Below w7.heap.size w7 w'')) := fun W h =>
        (rowCompare l1 l2 _ _ W (Q1.out.on h.out) (Q2.out.on h.out)).mono fun e w'' ⟨he, hb⟩ => ⟨by rw [he, hc], hb, h.out.trans (hb.mono h.out.size)⟩
      have G2 : Hid (∀ W, Hid (Below w7.heap.size w7 W) → Calls Tryd.prog 16 #[.slice x1 n cx, v2] W fun e w'' => e = .returned (.int .i64 c) ∧ Hid (Below W.heap.size W w'') ∧ Hid (Below w7.heap.size w7 w'')) := fun W h =>
        (refCompareRows l1 l2 _ _ W (Q1.out.on h.out) (Q2.out.on h.out)).mono fun e w'' ⟨he, hb⟩ => ⟨by rw [he, hc], hb, h.out.trans (hb.mono h.out.size)⟩
      have G3 : Hid (∀ W, Hid (Below w7.heap.size w7 W) → Calls Tryd.prog 11 #[.slice (some ⟨b, o, none⟩) la.length capa, .slice b1 lb.length capb] W fun e w'' => e = .returned (.int .i64 c') ∧ Hid (Below W.heap.size W w'') ∧ Hid (Below w7.heap.size w7 w'')) := fun W h =>
        (rowCompare la lb _ _ W (QA.out.on h.out) (QB.out.on h.out)).mono fun e w'' ⟨he, hb⟩ => ⟨by rw [he, hc'], hb, h.out.trans (hb.mono h.out.size)⟩
      have G4 : Hid (∀ W, Hid (Below w7.heap.size w7 W) → Calls Tryd.prog 16 #[.slice (some ⟨b, o, none⟩) la.length capa, .slice b1 lb.length capb] W fun e w'' => e = .returned (.int .i64 c') ∧ Hid (Below W.heap.size W w'') ∧ Hid (Below w7.heap.size w7 w'')) := fun W h =>
        (refCompareRows la lb _ _ W (QA.out.on h.out) (QB.out.on h.out)).mono fun e w'' ⟨he, hb⟩ => ⟨by rw [he, hc'], hb, h.out.trans (hb.mono h.out.size)⟩
      have G5 : Hid (∀ W, Hid (Below w7.heap.size w7 W) → Calls Tryd.prog 12 #[v3, v4] W fun e w'' => e = .returned (.bool true) ∧ Hid (Below W.heap.size W w'') ∧ Hid (Below w7.heap.size w7 w'')) := fun W h =>
        (sameRow _ _ _ _ W (P3'.out.on h.out) (P4.out.on h.out)).mono fun e w'' ⟨he, hb⟩ => ⟨by rw [he, (sR_iff _ _).2 rfl], hb, h.out.trans (hb.mono h.out.size)⟩
      have G6 : Hid (∀ W, Hid (Below w7.heap.size w7 W) → Calls Tryd.prog 17 #[.slice x1 n cx] W fun e w'' => e = .returned (.string A) ∧ Hid (Below W.heap.size W w'') ∧ Hid (Below w7.heap.size w7 w'')) := fun W h =>
        (rowShow l1 _ W (QR.out.on h.out) (by have := N1.out; omega) V1.out (Q1.out.on h.out)).mono fun e w'' ⟨he, hb⟩ => ⟨by rw [he, hA], hb, h.out.trans (hb.mono h.out.size)⟩
      have G7 : Hid (∀ W, Hid (Below w7.heap.size w7 W) → Calls Tryd.prog 18 #[.slice x1 n cx] W fun e w'' => e = .returned (.string A) ∧ Hid (Below W.heap.size W w'') ∧ Hid (Below w7.heap.size w7 w'')) := fun W h =>
        (refShowRow l1 _ W (QR.out.on h.out) (by have := N1.out; omega) V1.out (Q1.out.on h.out)).mono fun e w'' ⟨he, hb⟩ => ⟨by rw [he, hA], hb, h.out.trans (hb.mono h.out.size)⟩
      have G8 : Hid (∀ W, Hid (Below w7.heap.size w7 W) → Calls Tryd.prog 20 #[.slice (some ⟨b, o, none⟩) la.length capa, .slice c1 lc capc] W fun e w'' => e = .returned ev ∧ Hid (Below W.heap.size W w'') ∧ Hid (Below w7.heap.size w7 w'')) := fun W h =>
        (rowCheck la ks (ad 1) (ad 5) _ _ W (QE.out.on h.out).two HK.out (QA.out.on h.out) (QK.out.on h.out)).mono fun e w'' ⟨he, hb⟩ => ⟨by rw [he, hev], hb, h.out.trans (hb.mono h.out.size)⟩
      have G9 : Hid (∀ W, Hid (Below w7.heap.size w7 W) → Calls Tryd.prog 21 #[.slice (some ⟨b, o, none⟩) la.length capa, .slice c1 lc capc] W fun e w'' => e = .returned (.int .i64 ec) ∧ Hid (Below W.heap.size W w'') ∧ Hid (Below w7.heap.size w7 w'')) := fun W h =>
        (refCheckRow la ks _ _ W (QA.out.on h.out) (QK.out.on h.out)).mono fun e w'' ⟨he, hb⟩ => ⟨by rw [he, hec], hb, h.out.trans (hb.mono h.out.size)⟩
      have G10 : Hid (∀ W, Hid (Below w7.heap.size w7 W) → Calls Tryd.prog 19 #[ev, .int .i64 ec] W fun e w'' => e = .returned (.bool true) ∧ Hid (Below W.heap.size W w'') ∧ Hid (Below w7.heap.size w7 w'')) := fun W h => by
        rw [hev, hec, (ckE_kE ad _ _).1]
        exact (seeIs ad _ _ W (QE.out.on h.out)).mono fun e w'' ⟨he, hb⟩ => ⟨by rw [he, (ckE_kE ad _ _).2, beq_self_eq_true], hb, h.out.trans (hb.mono h.out.size)⟩
      have G11 : Hid (∀ W g, Hid (Below w7.heap.size w7 W) → Hid (IntsIs W (.slice (some ⟨g, 0, none⟩) n 5) ([1, 2, 3, 1, 2].take n)) → Calls Tryd.prog 20 #[.slice x1 n cx, .slice (some ⟨g, 0, none⟩) n 5] W fun e w'' => e = .returned fv' ∧ Hid (Below W.heap.size W w'') ∧ Hid (Below w7.heap.size w7 w'')) := fun W g h hi =>
        (rowCheck l1 _ (ad 1) (ad 5) _ _ W (QE.out.on h.out).two (by rw [List.length_take]; simp; omega) (Q1.out.on h.out) hi.out).mono fun e w'' ⟨he, hb⟩ => ⟨by rw [he, hfv], hb, h.out.trans (hb.mono h.out.size)⟩
      have G12 : Hid (∀ W g, Hid (Below w7.heap.size w7 W) → Hid (IntsIs W (.slice (some ⟨g, 0, none⟩) n 5) ([1, 2, 3, 1, 2].take n)) → Calls Tryd.prog 21 #[.slice x1 n cx, .slice (some ⟨g, 0, none⟩) n 5] W fun e w'' => e = .returned (.int .i64 fc) ∧ Hid (Below W.heap.size W w'') ∧ Hid (Below w7.heap.size w7 w'')) := fun W g h hi =>
        (refCheckRow l1 _ _ _ W (Q1.out.on h.out) hi.out).mono fun e w'' ⟨he, hb⟩ => ⟨by rw [he, hfc], hb, h.out.trans (hb.mono h.out.size)⟩
      have G13 : Hid (∀ W, Hid (Below w7.heap.size w7 W) → Calls Tryd.prog 19 #[fv', .int .i64 fc] W fun e w'' => e = .returned (.bool true) ∧ Hid (Below W.heap.size W w'') ∧ Hid (Below w7.heap.size w7 w'')) := fun W h => by
        rw [hfv, hfc, (ckE_kE ad _ _).1]
        exact (seeIs ad _ _ W (QE.out.on h.out)).mono fun e w'' ⟨he, hb⟩ => ⟨by rw [he, (ckE_kE ad _ _).2, beq_self_eq_true], hb, h.out.trans (hb.mono h.out.size)⟩
      have G14 : Hid (∀ W, Hid (Below w7.heap.size w7 W) → Calls Tryd.prog 22 #[.slice (some ⟨b, o, none⟩) la.length capa] W fun e w'' => ∃ v, e = .returned v ∧ Hid (RowIs w'' v la) ∧ Hid (Below w7.heap.size w7 w'')) := fun W h =>
        (rowCopy la _ W (by first | omega | decide) (QA.out.on h.out)).mono fun e w'' ⟨v, he, ho, hb⟩ => ⟨v, he, own_row ho rfl, h.out.trans (hb.mono h.out.size)⟩
      have G15 : Hid (∀ W v, Hid (Below w7.heap.size w7 W) → Hid (RowIs W v la) → Calls Tryd.prog 12 #[v, .slice (some ⟨b, o, none⟩) la.length capa] W fun e w'' => e = .returned (.bool true) ∧ Hid (Below W.heap.size W w'') ∧ Hid (Below w7.heap.size w7 w'')) := fun W v h hv =>
        (sameRow _ _ _ _ W hv.out (QA.out.on h.out)).mono fun e w'' ⟨he, hb⟩ => ⟨by rw [he, (sR_iff _ _).2 rfl], hb, h.out.trans (hb.mono h.out.size)⟩
      have F1 : Hid (∀ (W : World) t, Hid (IntsIs (W.alloc (.cells #[.int .i64 1, .int .i64 2, .int .i64 3, .int .i64 1, .int .i64 2] t)) (.slice (some ⟨W.heap.size, 0, none⟩) n 5) ([1, 2, 3, 1, 2].take n))) := fun W t => cut5 W n hn5 t
      have F2 : Hid (∀ (W : World) o t, Hid (IntsIs ((W.alloc o).alloc (.cells #[.int .i64 1, .int .i64 2, .int .i64 3, .int .i64 1, .int .i64 2] t)) (.slice (some ⟨W.heap.size + 1, 0, none⟩) n 5) ([1, 2, 3, 1, 2].take n))) := fun W o t => cut5' W o n hn5 t
      have F3 : Hid (∀ (W : World) t o, Hid (IntsIs ((W.alloc (.cells #[.int .i64 1, .int .i64 2, .int .i64 3, .int .i64 1, .int .i64 2] t)).alloc o) (.slice (some ⟨W.heap.size, 0, none⟩) n 5) ([1, 2, 3, 1, 2].take n))) := fun W t o => (cut5 W n hn5 t).on one_box
      have F4 : Hid (∀ (W : World) o t w'', Hid (Below ((W.alloc o).alloc (.cells #[.int .i64 1, .int .i64 2, .int .i64 3, .int .i64 1, .int .i64 2] t)).heap.size ((W.alloc o).alloc (.cells #[.int .i64 1, .int .i64 2, .int .i64 3, .int .i64 1, .int .i64 2] t)) w'') → Hid (IntsIs w'' (.slice (some ⟨W.heap.size + 1, 0, none⟩) n 5) ([1, 2, 3, 1, 2].take n))) := fun W o t w'' h => (cut5' W o n hn5 t).on h.out
      have F5 : Hid (∀ (W : World) t o w'', Hid (Below ((W.alloc (.cells #[.int .i64 1, .int .i64 2, .int .i64 3, .int .i64 1, .int .i64 2] t)).alloc o).heap.size ((W.alloc (.cells #[.int .i64 1, .int .i64 2, .int .i64 3, .int .i64 1, .int .i64 2] t)).alloc o) w'') → Hid (IntsIs w'' (.slice (some ⟨W.heap.size, 0, none⟩) n 5) ([1, 2, 3, 1, 2].take n))) := fun W t o w'' h => ((cut5 W n hn5 t).on one_box).on h.out
      clear hc hc' hA hev hec hfv hfc Q1 Q2 QA QB QK QE QR P3' P4 HK V1
      go_wp2_with fail
      simp only [List.append_eq, List.cons_append, List.nil_append]
      go_region_held3 (fun w' => Hid (RowKit.Below w7.heap.size w7 w'))
        (first | assumption | exact bd_alloc (by assumption) | exact bd_drew bd_refl)
        (first
          | (go_at_call 11; (first | with_reducible refine (G1.out _ (by first | assumption | exact bd_drew bd_refl)).mono ?_ | with_reducible refine (G3.out _ (by assumption)).mono ?_); rintro e w'' ⟨rfl, hwz, hbz⟩)
          | (go_at_call 16; (first | with_reducible refine (G2.out _ (by assumption)).mono ?_ | with_reducible refine (G4.out _ (by assumption)).mono ?_); rintro e w'' ⟨rfl, hwz, hbz⟩)
          | (go_at_call 17; with_reducible refine (G6.out _ (by assumption)).mono ?_; rintro e w'' ⟨rfl, hwz, hbz⟩)
          | (go_at_call 18; with_reducible refine (G7.out _ (by assumption)).mono ?_; rintro e w'' ⟨rfl, hwz, hbz⟩)
          | (go_at_call 19; (first | with_reducible refine (G10.out _ (by assumption)).mono ?_ | with_reducible refine (G13.out _ (by assumption)).mono ?_); rintro e w'' ⟨rfl, hwz, hbz⟩)
          | (go_at_call 22; with_reducible refine (G14.out _ (by assumption)).mono ?_; rintro e w'' ⟨vz, rfl, hrz, hbz⟩)
          | (go_at_call 12; (first | with_reducible refine (G5.out _ (by assumption)).mono ?_ | with_reducible refine (G15.out _ _ (by assumption) (by assumption)).mono ?_); rintro e w'' ⟨rfl, hwz, hbz⟩)
          | (go_at_call 20; (first | with_reducible refine (G8.out _ (by assumption)).mono ?_ | with_reducible refine (G11.out _ _ (by first | assumption | exact bd_alloc (by assumption) | exact bd_alloc (bd_alloc (by assumption))) (by first | exact F1.out _ _ | exact F2.out _ _ _ | exact F3.out _ _ _)).mono ?_); rintro e w'' ⟨rfl, hwz, hbz⟩)
          | (go_at_call 21; (first | with_reducible refine (G9.out _ (by assumption)).mono ?_ | with_reducible refine (G12.out _ _ (by first | assumption | exact bd_alloc (by assumption)) (by first | exact F1.out _ _ | exact F4.out _ _ _ _ hwz | exact F5.out _ _ _ _ hwz)).mono ?_); rintro e w'' ⟨rfl, hwz, hbz⟩))
      all_goals go_wp2_with fail
      all_goals go_ret
      all_goals exact ⟨rfl, BY.out.trans (hbz.out.mono BY.out.size)⟩
end Go.Proofs.YtihijfbbmenbnaaDoor
