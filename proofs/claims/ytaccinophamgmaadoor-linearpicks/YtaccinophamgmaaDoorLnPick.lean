/- What linear.pickAll answers: of each entry's row the columns asked for. -/
import Derived.Test.YtaccinophamgmaaDoorLnEach
import Derived.Test.YtaccinophamgmaaDoorErrs
import Derived.Test.YtaccinophamgmaaDoorPackPut
namespace Go.Proofs.YtaccinophamgmaaDoor
open Go.RowKit Go.Sort
set_option maxRecDepth 100000
set_option linter.unusedVariables false

theorem prjOk_snoc {ks : List Int} {l : List Ent} {j : Nat} (h : j < l.length) : prjOk ks (l.take (j + 1)) = (prjOk ks (l.take j) && allIn l[j].1 ks) := by
  unfold prjOk
  rw [List.take_succ_eq_append_getElem h, List.all_append]; simp
theorem prjP_snoc {ks : List Int} {l : List Ent} {j : Nat} (h : j < l.length) : prjP ks (l.take (j + 1)) = prjP ks (l.take j) ++ [(pk l[j].1 ks, l[j].2)] := by
  rw [List.take_succ_eq_append_getElem h, prj_append]; rfl
/-- How far it has come. -/
def PickSo (ks : List Int) (l : List Ent) (w : World) (j : Nat) (v : Value) (wr : World) : Prop :=
  prjOk ks (l.take j) = true ∧ (∃ us, us.length = j ∧ ZOwn w.heap.size us (prjP ks (l.take j)) v wr) ∧ Below w.heap.size w wr
/-- The error where a row has not all columns. -/
def pickE (eA : Addr) (ks : List Int) (l : List Ent) : Value := if prjOk ks l = true then .nilIface else errV eA
def pickP (ks : List Int) (l : List Ent) : List Ent := if prjOk ks l = true then prjP ks l else []
set_option maxHeartbeats 4000000 in
theorem lnPickAll (ks : List Int) (l : List Ent) (cv va : Value) (eA : Addr) (w : World) (hA : w.cell? ⟨0, 0, none⟩ = some (errV eA)) (hn : l.length ≤ 65536) (hks : ks.length ≤ 65536) (hc : IntsIs w cv ks) (ha : EntsIs w va l) :
    Calls Tryd.prog 27 #[cv, va] w fun e w' => ∃ v, e = .returned (.tuple #[v, pickE eA ks l]) ∧ ZHas w.heap.size (pickP ks l) v w' ∧ Below w.heap.size w w' := by
  obtain ⟨i0, hi, hz0, hz1, hz2⟩ := info_parts info_entry
  obtain ⟨a0, cap, rfl⟩ := ha.form
  obtain ⟨ak, ck, rfl⟩ := hc.form
  have Ha : Hid (EntsIs w (.slice a0 l.length cap) l) := ha
  have Hc : Hid (IntsIs w (.slice ak ks.length ck) ks) := hc
  have HA : Hid (w.cell? ⟨0, 0, none⟩ = some (errV eA)) := hA
  have F0 : Hid (PickSo ks l w 0 (.slice none 0 0) w) := ⟨by rw [List.take_zero]; rfl, ⟨[], rfl, by rw [List.take_zero]; exact ZOwn.nil _ _⟩, Below.refl _ _⟩
  clear ha hc hA
  go_enter Tryd.func27, Tryd.ntmps27
  go_wp2_with fail
  go_loopw [6, 13] (fun v i wr => ∃ j : Nat, j ≤ l.length ∧ i = .int .i64 j ∧ Hid (PickSo ks l w j v wr)) (fun _ i _ => l.length - (intOf i).toNat)
  case atStart => exact ⟨0, by omega, rfl, F0.out⟩
  case round =>
    clear F0
    obtain ⟨j, hj, rfl, hS⟩ := hrel
    by_cases k1 : j < l.length
    · have I1 : (j : Int) < (l.length : Int) := by omega
      obtain ⟨h1, ⟨us, hu, s1⟩, s3⟩ := hS.out
      obtain ⟨b, o, a1, c1, rfl, x1, x2, x3⟩ := (Ha.out.on s3).at j k1
      obtain ⟨W, hW⟩ : ∃ W, W = wr.alloc (.cells #[.slice a1 l[j].1.length c1, .int .i64 l[j].2] 52) := ⟨_, rfl⟩
      have hbW : Hid (Below wr.heap.size wr W) := by rw [hW]; exact one_box
      have q : Hid (Calls Tryd.prog 45 #[.slice a1 l[j].1.length c1, .slice ak ks.length ck] W fun e w' => ∃ v, e = .returned (.tuple #[v, .bool (allIn l[j].1 ks)]) ∧ w'.ownsRow W.heap.size 30 3 v (pk l[j].1 ks).length (rc (pk l[j].1 ks)) ∧ Below W.heap.size W w') :=
        rowPickO l[j].1 ks _ _ W hks (x3.on hbW.out) ((Hc.out.on s3).on hbW.out)
      have hs3 := s3.size
      have hsW := hbW.out.size
      have BW : Hid (∀ w7, Below W.heap.size W w7 → Below w.heap.size w w7) := fun w7 h7 => (s3.trans (hbW.out.mono hs3)).trans (h7.mono (by omega))
      have HW : Hid (wr.alloc (.cells #[.slice a1 l[j].1.length c1, .int .i64 l[j].2] 52) = W) := hW.symm
      have z1 : W.cell? ⟨wr.heap.size, 0, none⟩ = some (.slice a1 l[j].1.length c1) := by rw [hW, World.cell?_alloc_at _ _ _ _ (by simp)]; rfl
      have Z2 : Hid (W.cell? ⟨wr.heap.size, 1, none⟩ = some (.int .i64 l[j].2)) := by rw [hW, World.cell?_alloc_at _ _ _ _ (by simp)]; rfl
      obtain ⟨av, cav, rfl⟩ := own_form s1.1
      by_cases hin : allIn l[j].1 ks = true
      · rw [hin] at q
        have FA : Hid (∀ w7 v7, Below W.heap.size W w7 → w7.ownsRow W.heap.size 30 3 v7 (pk l[j].1 ks).length (rc (pk l[j].1 ks)) → w7.ownsRow w.heap.size 52 2 (.slice av us.length cav) us.length (es us) ∧ w.heap.size ≤ w7.heap.size ∧
            ∀ v8 w8, w8.ownsRow w.heap.size 52 2 v8 (us.length + 1) (es us ++ ec (v7, l[j].2)) → (w7.alloc (.cells #[v7, .int .i64 l[j].2] 52)).grownBy w8 (Value.ownBlock (.slice av us.length cav)) → PickSo ks l w (j + 1) v8 w8) := by
          intro w7 v7 h7 g7
          have b7 := BW.out w7 h7
          have o7 := (s1.on hbW.out).on h7
          refine ⟨o7.1, b7.size, fun v8 w8 g1 g2 => ⟨by rw [prjOk_snoc k1, h1, hin]; rfl, ⟨us ++ [(v7, l[j].2)], by simp [hu], ?_, ?_⟩, ?_⟩⟩
          · rw [List.length_append, es_snoc]; exact g1
          · rw [prjP_snoc k1]
            exact OwnRows.grown (w := w7.alloc (.cells #[v7, .int .i64 l[j].2] 52)) (OwnRows.snoc (o7.2.on one_box) (own_on (own_mono g7 (by omega)) one_box) l[j].2) (own_on o7.1 one_box) g2
          · exact (b7.alloc (by have := b7.size; omega) _).grown g2 (by have := b7.size; simp; omega) (fun k e => (o7.1.lt k e).1)
        clear hS s1 s3 x3 hbW hW h1
        generalize (pk l[j].1 ks) = P at *
        generalize l[j].1.length = n1 at *
        generalize l[j].2 = i1 at *
        subst hu
        go_wp2_with fail
        rw [HW.out]
        go_wp2_with fail
        refine q.out.mono ?_
        rintro e w7 ⟨v7, rfl, g7, h7⟩
        obtain ⟨o7, hz7, hf7⟩ := FA.out w7 v7 h7 g7
        have z2 := cell_on Z2.out h7
        obtain ⟨av7, cv7, rfl⟩ := own_form g7
        have HF : Hid _ := hf7
        clear FA q g7 h7 hf7 z1 BW
        go_wp2_with (first | (at_builtin; refine wpList_append_own _ rfl _ _ 27 rfl w.heap.size 52 i0 (.agg #[.slice none 0 0, .int .i64 0]) 2 32 Tryd.underlying27 hi hz0 hz1 hz2 rfl (by decide) _ us.length (es us) rfl (own_on o7 one_box) ⟨w7.heap.size, 0, none⟩ 1 1 (ec (.slice av7 P.length cv7, i1)) rfl rfl (cell_two_new _ _ _ _) (by simp [ec, Value.oneCell']) (by unfold maxLen; omega) (by omega) (by simp; omega) ?_; intro v8 w8 hown8 hg8 _; have hf : Hid _ := HF.out _ _ hown8 hg8; clear hown8 hg8 HF) | go_in)
        go_roundw
        case rel => exact ⟨us.length + 1, by omega, by go_num, hf.out⟩
        case measure => simp [intOf]; omega
      · have hin' : allIn l[j].1 ks = false := by simpa using hin
        rw [hin'] at q
        have E : Hid (pickE eA ks l = errV eA ∧ pickP ks l = []) := by
          have := prjOk_not ks k1 hin'
          unfold pickE pickP; rw [this]; exact ⟨rfl, rfl⟩
        clear hS s1 s3 x3 hbW hW h1 hin
        generalize (pk l[j].1 ks) = P at *
        generalize l[j].1.length = n1 at *
        generalize l[j].2 = i1 at *
        subst hu
        go_wp2_with fail
        rw [HW.out]
        go_wp2_with fail
        refine q.out.mono ?_
        rintro e w7 ⟨v7, rfl, g7, h7⟩
        have b7 := BW.out w7 h7
        have hA7 := cell_on HA.out b7
        have B7 : Hid (Below w.heap.size w w7) := b7
        clear q g7 h7 z1 BW b7
        unfold errV at hA7
        go_wp2_with fail
        go_region
        all_goals (
          go_wp2_with fail
          go_ret2
          refine ⟨.slice none 0 0, by rw [E.out.1]; rfl, by rw [E.out.2]; exact ⟨[], ZOwn.nil _ _⟩, B7.out.drew⟩)
    · have I1 : ¬ (j : Int) < (l.length : Int) := by omega
      obtain rfl : j = l.length := by omega
      obtain ⟨h1, ⟨us, hu, s1⟩, s3⟩ := hS.out
      rw [List.take_length] at h1 s1
      have E : Hid (pickE eA ks l = .nilIface ∧ ZHas w.heap.size (pickP ks l) u6 wr ∧ Below w.heap.size w wr) := by
        unfold pickE pickP; rw [h1]; exact ⟨rfl, ⟨us, s1⟩, s3⟩
      clear hS s1 s3 h1 hu
      go_wp2_with fail
      go_ret2
      exact ⟨_, by rw [E.out.1]; rfl, E.out.2.1, E.out.2.2⟩
end Go.Proofs.YtaccinophamgmaaDoor
