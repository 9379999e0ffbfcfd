/- The walk of the law of a change that goes over none, or does not. -/
import Derived.Test.YtmpochhcokmaiaaDoorOlPlain
import Derived.Test.YtmpochhcokmaiaaDoorOnceChg
import Derived.Test.YtmpochhcokmaiaaDoorOnceFirst
import Derived.Test.YtmpochhcokmaiaaDoorZMake
namespace Go.Proofs.YtmpochhcokmaiaaDoor
open Go.RowKit Go.Sort
set_option maxRecDepth 100000
set_option linter.unusedVariables false

/-- The four ways. -/
def LitWay (m k : Int) : Prop := m ≤ 0 ∧ 0 < m + k ∨ 0 < m ∧ m + k ≤ 0 ∨ m ≤ 0 ∧ ¬ 0 < m + k ∨ 0 < m ∧ ¬ m + k ≤ 0
theorem lit_way (m k : Int) : LitWay m k := by unfold LitWay; omega
set_option maxHeartbeats 8000000 in
theorem onceLittle_walk (x : Int) (wx : (Lit.int .i64 x).wf = true) (y : Int) (wy : (Lit.int .i64 y).wf = true) (n : Int) (_ : (Lit.int .i64 n).wf = true) (w : World) (he : ∃ ad, OverAt ad w) :
    Calls Tryd.prog 5 #[.int .i64 x, .int .i64 y, .int .i64 n] w fun e w' => e = .returned (.bool true) ∧ Below w.heap.size w w' := by
  obtain ⟨eO, he⟩ := he
  have q := lawFirst13 w
  have HE : Hid (OverAt eO w) := he
  have bm := tmod_bd x
  have bk := tmod_bd y
  clear he
  go_enter Tryd.func5, Tryd.ntmps5
  go_wp2_with fail
  refine q.mono ?_
  rintro e w1 ⟨rfl, hb1⟩
  have B1 : Hid (Below w.heap.size w w1) := hb1
  clear q hb1
  go_wp2_with fail
  have HR : Hid (RowIs (w1.alloc (.cells #[.int .i64 1, .int .i64 n, .string ⟨#[]⟩] 44)) (.slice (some ⟨w1.heap.size, 0, none⟩) 1 1) [(1, n, ⟨#[]⟩)]) := row_new w1 1 n ⟨#[]⟩
  generalize x.tmod 100 = m at *
  generalize y.tmod 100 = k at *
  have BM : Hid (-100 < m ∧ m < 100) := bm
  have BK : Hid (-100 < k ∧ k < 100) := bk
  have q1 := refMake [([(1, n, ⟨#[]⟩)], m)] _ _ (by simp) (fun e he => by rw [List.mem_singleton.1 he]; exact inI_small (by omega)) (ents_one HR.out m) 0 (by rw [ok_lone _ bm]; rfl)
  rw [World.size_alloc] at q1
  refine q1.mono ?_
  rintro e w2 ⟨v2, rfl, e2, b2⟩
  have A2 : Hid (EntsIs w2 v2 (mkZ [([(1, n, ⟨#[]⟩)], m)]) ∧ RowIs w2 (.slice (some ⟨w1.heap.size, 0, none⟩) 1 1) [(1, n, ⟨#[]⟩)] ∧ Below w.heap.size w w2) := by
    have c1 := (one_box (w := w1.alloc (.cells #[.int .i64 1, .int .i64 n, .string ⟨#[]⟩] 44)) (o := .cells #[.slice (some ⟨w1.heap.size, 0, none⟩) 1 1, .int .i64 m] 42)).trans (b2.mono (by simp))
    exact ⟨e2, HR.out.on c1, B1.out.trans ((one_box.trans (c1.mono (by simp))).mono B1.out.size)⟩
  clear q1 e2 b2 B1 HR
  have q2 := refMake [([(1, n, ⟨#[]⟩)], k)] _ _ (by simp) (fun e he => by rw [List.mem_singleton.1 he]; exact inI_small (by omega)) (ents_one A2.out.2.1 k) 0 (by rw [ok_lone _ bk]; rfl)
  go_wp2_with fail
  refine q2.mono ?_
  generalize w1.heap.size = br at *
  rintro e w3 ⟨v3, rfl, e3, b3⟩
  have A3 : Hid (EntsIs w3 v2 (mkZ [([(1, n, ⟨#[]⟩)], m)]) ∧ EntsIs w3 v3 (mkZ [([(1, n, ⟨#[]⟩)], k)]) ∧ RowIs w3 (.slice (some ⟨br, 0, none⟩) 1 1) [(1, n, ⟨#[]⟩)] ∧ Below w.heap.size w w3) := by
    have c1 := (one_box (w := w2) (o := .cells #[.slice (some ⟨br, 0, none⟩) 1 1, .int .i64 k] 42)).trans (b3.mono (by simp))
    exact ⟨A2.out.1.on c1, e3, A2.out.2.1.on c1, A2.out.2.2.trans (c1.mono A2.out.2.2.size)⟩
  clear q2 e3 b3 A2
  have q3 := onChange _ _ v2 v3 eO w3 (HE.out.on A3.out.2.2.2) (by have h1 := lone_len [(1, n, ⟨#[]⟩)] m; have h2 := lone_len [(1, n, ⟨#[]⟩)] k; omega) (lone_ok _ (by simp)) (lone_ok _ (by simp)) (mkZ_isZ _) (mkZ_isZ _) A3.out.1 A3.out.2.1
  rw [(ch_little [(1, n, ⟨#[]⟩)] BM.out BK.out).1, (ch_little [(1, n, ⟨#[]⟩)] BM.out BK.out).2, show ovE eO true = .nilIface from rfl] at q3
  go_wp2_with fail
  refine q3.mono ?_
  rintro e w4 ⟨v4, rfl, e4, b4⟩
  have A4 : Hid (EntsIs w4 v4 (chL [(1, n, ⟨#[]⟩)] m k) ∧ RowIs w4 (.slice (some ⟨br, 0, none⟩) 1 1) [(1, n, ⟨#[]⟩)] ∧ Below w.heap.size w w4) := ⟨e4.ents, A3.out.2.2.1.on b4, A3.out.2.2.2.trans (b4.mono A3.out.2.2.2.size)⟩
  clear q3 e4 b4 A3
  have Q4 : Hid (∀ l, chL [(1, n, ⟨#[]⟩)] m k = l → Calls Tryd.prog 17 #[v4, .slice (some ⟨br, 0, none⟩) 1 1] w4 fun e w' => e = .returned (.int .i64 (gt [(1, n, ⟨#[]⟩)] l)) ∧ Below w4.heap.size w4 w') := fun l h => refGet l _ _ _ w4 (h ▸ A4.out.1) A4.out.2.1
  have F4 : Hid (∀ l, chL [(1, n, ⟨#[]⟩)] m k = l → ∃ a c, v4 = .slice a l.length c) := fun l h => EntsIs.form (h ▸ A4.out.1)
  have F5 : Hid (Below w.heap.size w w4) := A4.out.2.2
  clear A4 HE
  rcases lit_way m k with ⟨c1, c2⟩ | ⟨c1, c2⟩ | ⟨c1, c2⟩ | ⟨c1, c2⟩
  · have hc : chL [(1, n, ⟨#[]⟩)] m k = [([(1, n, ⟨#[]⟩)], 1)] := by
      have e : wantL m k = 1 := by unfold wantL; rw [if_pos ⟨c1, c2⟩]
      unfold chL; rw [e]; rfl
    have q4 := Q4.out _ hc
    obtain ⟨a4, cp4, rfl⟩ := F4.out _ hc
    rw [show gt [(1, n, ⟨#[]⟩)] [([(1, n, ⟨#[]⟩)], 1)] = 1 from gt_lone _ _] at q4
    simp only [List.length_cons, List.length_nil, Nat.zero_add]
    clear hc Q4 F4 BM BK
    go_wp2_with fail
    refine q4.mono ?_
    rintro e w5 ⟨rfl, b5⟩
    have A5 : Hid (Below w.heap.size w w5) := F5.out.trans (b5.mono F5.out.size)
    clear q4 b5 F5
    go_wp2_with fail
    go_ret
    exact ⟨rfl, A5.out⟩
  · have hc : chL [(1, n, ⟨#[]⟩)] m k = [([(1, n, ⟨#[]⟩)], -1)] := by
      have e : wantL m k = -1 := by unfold wantL; rw [if_neg (by omega), if_pos ⟨c1, c2⟩]
      unfold chL; rw [e]; rfl
    have q4 := Q4.out _ hc
    obtain ⟨a4, cp4, rfl⟩ := F4.out _ hc
    rw [show gt [(1, n, ⟨#[]⟩)] [([(1, n, ⟨#[]⟩)], -1)] = -1 from gt_lone _ _] at q4
    simp only [List.length_cons, List.length_nil, Nat.zero_add]
    clear hc Q4 F4 BM BK
    go_wp2_with fail
    refine q4.mono ?_
    rintro e w5 ⟨rfl, b5⟩
    have A5 : Hid (Below w.heap.size w w5) := F5.out.trans (b5.mono F5.out.size)
    clear q4 b5 F5
    go_wp2_with fail
    go_ret
    exact ⟨rfl, A5.out⟩
  · have hc : chL [(1, n, ⟨#[]⟩)] m k = ([] : List Ent) := by
      have e : wantL m k = 0 := by unfold wantL; rw [if_neg (by omega), if_neg (by omega)]
      unfold chL; rw [e]; rfl
    have q4 := Q4.out _ hc
    obtain ⟨a4, cp4, rfl⟩ := F4.out _ hc
    rw [show gt [(1, n, ⟨#[]⟩)] ([] : List Ent) = 0 from rfl] at q4
    simp only [List.length_nil]
    clear hc Q4 F4 BM BK
    go_wp2_with fail
    refine q4.mono ?_
    rintro e w5 ⟨rfl, b5⟩
    have A5 : Hid (Below w.heap.size w w5) := F5.out.trans (b5.mono F5.out.size)
    clear q4 b5 F5
    go_wp2_with fail
    go_ret
    exact ⟨rfl, A5.out⟩
  · have hc : chL [(1, n, ⟨#[]⟩)] m k = ([] : List Ent) := by
      have e : wantL m k = 0 := by unfold wantL; rw [if_neg (by omega), if_neg (by omega)]
      unfold chL; rw [e]; rfl
    have q4 := Q4.out _ hc
    obtain ⟨a4, cp4, rfl⟩ := F4.out _ hc
    rw [show gt [(1, n, ⟨#[]⟩)] ([] : List Ent) = 0 from rfl] at q4
    simp only [List.length_nil]
    clear hc Q4 F4 BM BK
    go_wp2_with fail
    refine q4.mono ?_
    rintro e w5 ⟨rfl, b5⟩
    have A5 : Hid (Below w.heap.size w w5) := F5.out.trans (b5.mono F5.out.size)
    clear q4 b5 F5
    go_wp2_with fail
    go_ret
    exact ⟨rfl, A5.out⟩
end Go.Proofs.YtmpochhcokmaiaaDoor
