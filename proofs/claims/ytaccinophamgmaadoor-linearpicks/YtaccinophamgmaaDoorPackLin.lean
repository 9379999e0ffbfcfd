/- Texts of one claim, one behind the other. -/
import Derived.Test.YtaccinophamgmaaDoorRefHolds
import Derived.Test.YtaccinophamgmaaDoorZLin
import Derived.Test.YtaccinophamgmaaDoorPackMake
import Derived.Test.YtaccinophamgmaaDoorPackSets
/- What the document's own Filter and Project answer. -/
namespace Go.Proofs.YtaccinophamgmaaDoor
open Go.RowKit Go.Sort
set_option maxRecDepth 100000
set_option linter.unusedVariables false

/-- How far a filter has come: a list of the call's own, its rows those that came in. -/
def FltTo (p : Pd) (l : List Ent) (w : World) (j : Nat) (v : Value) (wr : World) : Prop := EntsN (w.heap.size + 1) w (fltP p (l.take j)) v wr ∧ Below w.heap.size w wr
theorem flt_take (p : Pd) {l : List Ent} {j : Nat} (hj : j < l.length) : fltP p (l.take (j + 1)) = if hd p l[j].1 = true then fltP p (l.take j) ++ [l[j]] else fltP p (l.take j) := by
  unfold fltP
  rw [List.take_succ_eq_append_getElem hj, List.filter_append]
  by_cases h : hd p l[j].1 = true
  · rw [if_pos h, List.filter_cons_of_pos (by exact h)]; rfl
  · rw [if_neg h, List.filter_cons_of_neg (by exact h)]; simp
theorem rf_ord : ordOk (regOf Tryd.f17.body 5) ((0, true) :: (1, true) :: (2, true) :: (3, true) :: (4, true) :: (5, true) :: (6, false) :: []) = true := by kernel_rfl
set_option maxHeartbeats 4000000 in
theorem refFilter (n : Nat) (F : Nat → Prop) (p : Pd) (s va : Value) (l : List Ent) (w : World) (hn : l.length ≤ 65536) (hp : PdL F n w s p.l) (ha : EntsIs w va l) :
    Calls Tryd.prog 17 #[pv p s, va] w fun e w' => ∃ v, e = .returned v ∧ EntsN w.heap.size w (fltP p l) v w' ∧ Below w.heap.size w w' := by
  obtain ⟨a0, cap, rfl⟩ := ha.form
  obtain ⟨as0, cs0, rfl⟩ := hp.form
  obtain ⟨i0, hi, hz0, hz1, hz2⟩ := info_parts info_entry
  have Ha : Hid (EntsIs w (.slice a0 l.length cap) l) := ha
  have Hp : Hid (PdL F n w (.slice as0 p.l.length cs0) p.l) := hp
  have BX : Hid (PdBox w.heap.size p (.slice as0 p.l.length cs0) (w.alloc (.cells #[.int .i64 p.k, .int .i64 p.c, .int .i64 p.o, .int .i64 p.d, .int .i64 p.v.1, .int .i64 p.v.2.1, .string p.v.2.2, .slice as0 p.l.length cs0] 33))) := PdBox.new w p _
  have H0 : Hid (FltTo p l w 0 (.slice none 0 0) (w.alloc (.cells #[.int .i64 p.k, .int .i64 p.c, .int .i64 p.o, .int .i64 p.d, .int .i64 p.v.1, .int .i64 p.v.2.1, .string p.v.2.2, .slice as0 p.l.length cs0] 33))) :=
    ⟨⟨[], by simpa [es] using World.ownsRow_nil _ _ _ _, by simpa [fltP] using Reads.nil w⟩, one_box⟩
  unfold pv
  clear ha hp
  go_enter Tryd.func17, Tryd.ntmps17
  go_wp2_with fail
  go_loopw [5, 6] (fun v i wr => ∃ j : Nat, j ≤ l.length ∧ i = .int .i64 j ∧ Hid (FltTo p l w j v wr ∧ PdBox w.heap.size p (.slice as0 p.l.length cs0) wr)) (fun _ i _ => l.length - (intOf i).toNat)
  case atStart => exact ⟨0, by omega, rfl, H0.out, BX.out⟩
  case round =>
    obtain ⟨j, hj, rfl, hT⟩ := hrel
    have BT : Hid (Below w.heap.size w wr) := hT.out.1.2
    have BXr : Hid (PdBox w.heap.size p (.slice as0 p.l.length cs0) wr) := hT.out.2
    by_cases hlt : j < l.length
    · obtain ⟨us, hown, hrd⟩ := hT.out.1.1
      have HO : Hid (wr.ownsRow (w.heap.size + 1) 52 2 u5 us.length (es us)) := hown
      obtain ⟨b, o, a', cap', rfl, y1, y2, hrow⟩ := (Ha.out.on BT.out).at j hlt
      obtain ⟨_, _, a'', cap'', hb0, z1, z2, hrow0⟩ := Ha.out.at j hlt
      have hus : us.length ≤ l.length := by
        rw [hrd.1]; exact Nat.le_trans (flt_len _ _) (by rw [List.length_take]; omega)
      have I0 : (0 : Int) ≤ (j : Int) := by omega
      have I1 : (j : Int) < (l.length : Int) := by omega
      have HQ : Hid (∀ V, Below wr.heap.size wr V → Calls Tryd.prog 20 #[.agg #[.int .i64 p.k, .int .i64 p.c, .int .i64 p.o, .int .i64 p.d, .int .i64 p.v.1, .int .i64 p.v.2.1, .string p.v.2.2, .slice as0 p.l.length cs0], .slice a' l[j].1.length cap'] V fun e w' => e = .returned (.bool (hd p l[j].1)) ∧ Below V.heap.size V w') := fun V hV => refHolds n F p _ _ l[j].1 V ((Hp.out.on BT.out).on hV) (hrow.on hV)
      have hsame : Value.slice a'' l[j].1.length cap'' = .slice a' l[j].1.length cap' := by
        simp only [Option.some.injEq, Addr.mk.injEq, and_true] at hb0
        obtain ⟨rfl, rfl⟩ := hb0
        have := cell_on z1 BT.out
        rw [y1] at this
        exact (Option.some.inj this).symm
      rw [hsame] at hrow0
      have HS : Hid (RowIs w (.slice a' l[j].1.length cap') l[j].1) := hrow0
      have HR : Hid (Reads w us (fltP p (l.take j))) := hrd
      have HT : Hid (fltP p (l.take (j + 1)) = if hd p l[j].1 = true then fltP p (l.take j) ++ [l[j]] else fltP p (l.take j)) := flt_take p hlt
      obtain ⟨⟨x0, x1, x2, x3, x4, x5, x6, x7⟩, _, _⟩ := BXr.out
      simp only [Nat.zero_add] at x1 x2 x3 x4 x5 x6 x7
      have g0 := Ex.cell x0
      have g1 := Ex.cell x1
      have g2 := Ex.cell x2
      have g3 := Ex.cell x3
      have g4 := Ex.cell x4
      have g5 := Ex.cell x5
      have g6 := Ex.cell x6
      have g7 := Ex.cell x7
      have gy := Ex.cell y1
      have ne := Ex.ne wr
      have B0 : Hid (Below wr.heap.size wr wr.drew) := (Below.refl _ _).drew
      have HY : Hid (wr.cell? ⟨b, o + j * 2, none⟩ = some (.slice a' l[j].1.length cap') ∧ wr.cell? ⟨b, o + j * 2 + 1, none⟩ = some (.int .i64 l[j].2)) := ⟨y1, y2⟩
      clear hT hown hrd hb0 z1 z2 hrow0 hsame x0 x1 x2 x3 x4 x5 x6 x7 y1 y2
      go_wp2_with fail
      refine wp_region_ord_at (Ex wr) (regOf Tryd.f17.body 5) ((0, true) :: (1, true) :: (2, true) :: (3, true) :: (4, true) :: (5, true) :: (6, false) :: []) (by kernel_rfl) (by kernel_rfl) rf_ord B0.out ?_
      generalize wr.drew = v0 at *
      repeat (refine ord_quiet rfl ?_; go_big_quiet_step (fail); refine wpQuiet_nil ?_)
      refine ord_call rfl (by rfl) 20 rfl (enters_of Tryd.func20 (by kernel_rfl) rfl) [.agg #[.int .i64 p.k, .int .i64 p.c, .int .i64 p.o, .int .i64 p.d, .int .i64 p.v.1, .int .i64 p.v.2.1, .string p.v.2.2, .slice as0 p.l.length cs0], .slice a' l[j].1.length cap'] (by rfl) _ (HQ.out v0 B0.out) ?_
      rintro e v1 ⟨rfl, hb0⟩
      have B1 : Hid (Below wr.heap.size wr v1) := B0.out.trans (hb0.mono B0.out.size)
      clear hb0
      refine ⟨_, rfl, Ex.of B1.out, ?_⟩
      simp only [Act.put, List.setIfInBounds_toArray, List.set_cons_zero, List.set_cons_succ]
      refine ord_end ?_
      have O1 : Hid (v1.ownsRow (w.heap.size + 1) 52 2 u5 us.length (es us)) := own_onP HO.out B1.out
      have BW : Hid (Below w.heap.size w v1) := BT.out.trans (B1.out.mono BT.out.size)
      have BX1 : Hid (PdBox w.heap.size p (.slice as0 p.l.length cs0) v1) := BXr.out.on B1.out
      have y1 := cell_on HY.out.1 B1.out
      have y2 := cell_on HY.out.2 B1.out
      have hlu := fun g hg => O1.out.lt g hg
      clear HQ g0 g1 g2 g3 g4 g5 g6 g7 gy ne
      by_cases hh : hd p l[j].1 = true
      · have HT2 : Hid (fltP p (l.take (j + 1)) = fltP p (l.take j) ++ [l[j]]) := by show _ = _; rw [HT.out, if_pos hh]
        have F : Hid (∀ v2 w2, w2.ownsRow (w.heap.size + 1) 52 2 v2 (us.length + 1) (es us ++ ec (.slice a' l[j].1.length cap', l[j].2)) → (v1.alloc (.cells #[.slice a' l[j].1.length cap', .int .i64 l[j].2] 52)).grownBy w2 (Value.ownBlock u5) → FltTo p l w (j + 1) v2 w2 ∧ PdBox w.heap.size p (.slice as0 p.l.length cs0) w2) := by
          intro v2 w2 q1 q2
          refine ⟨⟨⟨us ++ [(.slice a' l[j].1.length cap', l[j].2)], ?_, ?_⟩, ?_⟩, ?_⟩
          · rw [es_snoc, List.length_append]; exact q1
          · rw [HT2.out]; exact HR.out.snoc HS.out l[j].2
          · exact (BW.out.alloc BW.out.size _).grown q2 (by simp; have := BW.out.size; omega) (fun k e => by have := (hlu k e).1; omega)
          · exact (BX1.out.on one_box).grown q2 (fun e => by have := (hlu _ e).1; omega)
        rw [hh]
        generalize l[j].1.length = nm at *
        generalize l[j].2 = xn at *
        go_wp2_with (first | (at_builtin; refine wpList_append_own _ rfl _ _ 27 rfl (w.heap.size + 1) 52 i0 (.agg #[.slice none 0 0, .int .i64 0]) 2 32 Tryd.underlying27 hi hz0 hz1 hz2 rfl (by decide) _ us.length (es us) rfl (O1.out.alloc _) ⟨v1.heap.size, 0, none⟩ 1 1 (ec (.slice a' nm cap', xn)) rfl rfl (cell_two_new _ _ _ _) (by simp [ec, Value.oneCell']) (by unfold maxLen; omega) (by omega) (by simp; have := BW.out.size; have := BX1.out.2.2; omega) ?_; intro v2 w2 hown2 hg2 _; have hs2 := F.out _ _ hown2 hg2; clear hown2 hg2 F) | fail)
        go_roundw
        case rel => exact ⟨j + 1, by omega, by go_num, hs2⟩
        case measure => simp [intOf]; omega
      · have hf : hd p l[j].1 = false := by simpa using hh
        have HN : Hid (FltTo p l w (j + 1) u5 v1 ∧ PdBox w.heap.size p (.slice as0 p.l.length cs0) v1) := by
          refine ⟨⟨⟨us, O1.out, ?_⟩, BW.out⟩, BX1.out⟩
          rw [HT.out, if_neg hh]; exact HR.out
        rw [hf]
        clear hh hlu y1 y2
        go_wp2_with fail
        go_roundw
        case rel => exact ⟨j + 1, by omega, by go_num, HN.out⟩
        case measure => simp [intOf]; omega
    · obtain rfl : j = l.length := by omega
      have I1 : ¬ (l.length : Int) < (l.length : Int) := by omega
      have h := hT.out.1
      unfold FltTo at h
      rw [List.take_length] at h
      have HE : Hid (EntsN w.heap.size w (fltP p l) u5 wr ∧ Below w.heap.size w wr) := ⟨by obtain ⟨us, h1, h2⟩ := h.1; exact ⟨us, own_mono0 h1 (by omega), h2⟩, h.2⟩
      clear hT h
      go_wp2_with fail
      go_ret
      exact ⟨_, rfl, HE.out.1, HE.out.2⟩
/-- How far a projection has come: a list of the call's own, its rows in memory of their own. -/
def PrjTo (ks : List Int) (l : List Ent) (w : World) (j : Nat) (v : Value) (wr : World) : Prop := prjOk ks (l.take j) = true ∧ (∃ us, wr.ownsRow w.heap.size 52 2 v us.length (es us) ∧ OwnRows w.heap.size wr us (prjP ks (l.take j))) ∧ Below w.heap.size w wr
theorem prj_take (ks : List Int) {l : List Ent} {j : Nat} (hj : j < l.length) : prjP ks (l.take (j + 1)) = prjP ks (l.take j) ++ [(pk l[j].1 ks, l[j].2)] := by
  unfold prjP; rw [List.take_succ_eq_append_getElem hj, List.map_append]; rfl
theorem prjOk_take (ks : List Int) {l : List Ent} {j : Nat} (hj : j < l.length) : prjOk ks (l.take (j + 1)) = (prjOk ks (l.take j) && allIn l[j].1 ks) := by
  unfold prjOk; rw [List.take_succ_eq_append_getElem hj, List.all_append]; simp
theorem prjOk_not (ks : List Int) {l : List Ent} {j : Nat} (hj : j < l.length) (h : allIn l[j].1 ks = false) : prjOk ks l = false := by
  unfold prjOk; rw [List.all_eq_false]; exact ⟨_, List.getElem_mem hj, by simp [h]⟩
/-- What a projection comes to: a z-set and the error's number. -/
def prjZ (ks : List Int) (l : List Ent) : List Ent := if prjOk ks l then mkZ (prjP ks l) else []
def prjC (ks : List Int) (l : List Ent) : Int := if prjOk ks l then (if okZ (prjP ks l) then 0 else 107) else 106
set_option maxHeartbeats 4000000 in
theorem refProjectN (ks : List Int) (cv va : Value) (l : List Ent) (w : World) (hn : l.length ≤ 65536) (hks : ks.length ≤ 65536) (hk : ∀ e ∈ l, inI e.2 = true) (hc : IntsIs w cv ks) (ha : EntsIs w va l) :
    Calls Tryd.prog 11 #[cv, va] w fun e w' => ∃ v, e = .returned (.tuple #[v, .int .i64 (prjC ks l)]) ∧ EntsNew w.heap.size (prjZ ks l) v w' ∧ Below w.heap.size w w' := by
  obtain ⟨a0, cap, rfl⟩ := ha.form
  obtain ⟨a1, cap1, rfl⟩ := hc.form
  obtain ⟨i0, hi, hz0, hz1, hz2⟩ := info_parts info_entry
  have Ha : Hid (EntsIs w (.slice a0 l.length cap) l) := ha
  have Hc : Hid (IntsIs w (.slice a1 ks.length cap1) ks) := hc
  have Hk : Hid (∀ e ∈ l, inI e.2 = true) := hk
  have H0 : Hid (PrjTo ks l w 0 (.slice none 0 0) w) := ⟨by simp [prjOk], ⟨[], by simpa [es] using World.ownsRow_nil _ _ _ _, ⟨by simp [prjP], fun i h => by simp at h⟩⟩, Below.refl _ _⟩
  have RZ : Hid (prjOk ks l = false → prjC ks l = 106 ∧ prjZ ks l = []) := fun h => by unfold prjC prjZ; rw [h]; exact ⟨rfl, rfl⟩
  have RY : Hid (prjOk ks l = true → prjC ks l = (if okZ (prjP ks l) then 0 else 107) ∧ prjZ ks l = mkZ (prjP ks l)) := fun h => by unfold prjC prjZ; rw [h]; exact ⟨rfl, rfl⟩
  generalize prjC ks l = C at *
  generalize prjZ ks l = Z at *
  clear ha hc hk
  go_enter Tryd.func11, Tryd.ntmps11
  go_wp2_with fail
  go_loopw [6, 7] (fun v i wr => ∃ j : Nat, j ≤ l.length ∧ i = .int .i64 j ∧ Hid (PrjTo ks l w j v wr)) (fun _ i _ => l.length - (intOf i).toNat)
  case atStart => exact ⟨0, by omega, rfl, H0.out⟩
  case round =>
    obtain ⟨j, hj, rfl, hT⟩ := hrel
    have BT : Hid (Below w.heap.size w wr) := hT.out.2.2
    by_cases hlt : j < l.length
    · obtain ⟨us, hown, hrd⟩ := hT.out.2.1
      have HO : Hid (wr.ownsRow w.heap.size 52 2 u6 us.length (es us)) := hown
      have HR : Hid (OwnRows w.heap.size wr us (prjP ks (l.take j))) := hrd
      obtain ⟨b, o, a', cap', rfl, y1, y2, hrow⟩ := (Ha.out.on BT.out).at j hlt
      have hus : us.length ≤ l.length := by rw [hrd.1, prj_len, List.length_take]; omega
      have I0 : (0 : Int) ≤ (j : Int) := by omega
      have I1 : (j : Int) < (l.length : Int) := by omega
      have HQ := refPickO l[j].1 ks (.slice a' l[j].1.length cap') (.slice a1 ks.length cap1) wr (by omega) hrow (Hc.out.on BT.out)
      have HN : Hid (allIn l[j].1 ks = false → prjOk ks l = false) := fun h => prjOk_not ks hlt h
      have HY : Hid (allIn l[j].1 ks = true → prjOk ks (l.take (j + 1)) = true) := fun h => by rw [prjOk_take ks hlt, hT.out.1, h]; rfl
      have HM : Hid (prjP ks (l.take (j + 1)) = prjP ks (l.take j) ++ [(pk l[j].1 ks, l[j].2)]) := prj_take ks hlt
      have HY2 : Hid (wr.cell? ⟨b, o + j * 2 + 1, none⟩ = some (.int .i64 l[j].2)) := y2
      have HC : Hid (Calls Tryd.prog 29 #[.slice a' l[j].1.length cap', .slice a1 ks.length cap1] wr fun e w' => ∃ v, e = .returned (.tuple #[v, .bool (allIn l[j].1 ks)]) ∧ w'.ownsRow wr.heap.size 30 3 v (pk l[j].1 ks).length (rc (pk l[j].1 ks)) ∧ Below wr.heap.size wr w') := HQ
      clear hT hown hrd hrow HQ y2
      generalize allIn l[j].1 ks = ai at *
      generalize pk l[j].1 ks = pr at *
      generalize l[j].1.length = nm at *
      generalize l[j].2 = xn at *
      go_wp2_with fail
      refine HC.out.mono ?_
      rintro e w2 ⟨v2, rfl, ow2, hb2⟩
      have B2 : Hid (Below w.heap.size w w2) := BT.out.trans (hb2.mono BT.out.size)
      have O2 : Hid (w2.ownsRow w.heap.size 52 2 u6 us.length (es us)) := own_onP HO.out hb2
      have R2 : Hid (OwnRows w.heap.size w2 us (prjP ks (l.take j))) := HR.out.on hb2
      have V2 : Hid (w2.ownsRow w.heap.size 30 3 v2 pr.length (rc pr)) := own_mono ow2 BT.out.size
      have y2 := cell_on HY2.out hb2
      obtain ⟨av, cv, hv⟩ := own_formP ow2
      subst hv
      clear ow2 hb2 HC y1 HY2
      cases ai
      · obtain ⟨r1, r2⟩ := RZ.out (HN.out rfl)
        subst r1 r2
        clear RZ RY HN HY
        go_wp2_with fail
        go_ret2
        exact ⟨.slice none 0 0, rfl, ⟨[], World.ownsRow_nil _ _ _ _, Reads.nil _, fun i h => by simp at h⟩, B2.out⟩
      · have hok := HY.out rfl
        have HK : Hid (prjOk ks (l.take (j + 1)) = true) := hok
        have hlu := fun g hg => O2.out.lt g hg
        have F : Hid (∀ v3 w3, w3.ownsRow w.heap.size 52 2 v3 (us.length + 1) (es us ++ ec (.slice av pr.length cv, xn)) → (w2.alloc (.cells #[.slice av pr.length cv, .int .i64 xn] 52)).grownBy w3 (Value.ownBlock u6) → PrjTo ks l w (j + 1) v3 w3) := by
          intro v3 w3 q1 q2
          refine ⟨HK.out, ⟨us ++ [(.slice av pr.length cv, xn)], ?_, ?_⟩, ?_⟩
          · rw [es_snoc, List.length_append]; exact q1
          · rw [HM.out]
            have o2 := O2.out.alloc (.cells #[.slice av pr.length cv, .int .i64 xn] 52)
            exact (((R2.out.on one_box).snoc (own_onP V2.out one_box) xn)).grown o2 q2
          · exact (B2.out.alloc B2.out.size _).grown q2 (by simp; have := B2.out.size; omega) (fun k e => (hlu k e).1)
        clear hok HN HY RZ hlu
        go_wp2_with (first | (at_builtin; refine wpList_append_own _ rfl _ _ 27 rfl w.heap.size 52 i0 (.agg #[.slice none 0 0, .int .i64 0]) 2 32 Tryd.underlying27 hi hz0 hz1 hz2 rfl (by decide) _ us.length (es us) rfl (O2.out.alloc _) ⟨w2.heap.size, 0, none⟩ 1 1 (ec (.slice av pr.length cv, xn)) rfl rfl (cell_two_new _ _ _ _) (by simp [ec, Value.oneCell']) (by unfold maxLen; omega) (by omega) (by simp; have := B2.out.size; omega) ?_; intro v3 w3 hown2 hg2 _; have hs2 := F.out _ _ hown2 hg2; have HS2 : Hid (PrjTo ks l w (j + 1) v3 w3) := hs2; clear hown2 hg2 F hs2) | fail)
        go_roundw
        case rel => exact ⟨j + 1, by omega, by go_num, HS2.out⟩
        case measure => simp [intOf]; omega
    · obtain rfl : j = l.length := by omega
      have I1 : ¬ (l.length : Int) < (l.length : Int) := by omega
      have h := hT.out
      unfold PrjTo at h
      rw [List.take_length] at h
      obtain ⟨h1, ⟨us, h2, h3⟩, h4⟩ := h
      obtain ⟨r1, r2⟩ := RY.out h1
      have EI : EntsR wr (above w.heap.size wr) u6 (prjP ks l) := ⟨us, EntsAt.of_own h2, h3.above.reads⟩
      have q := refMakeR (prjP ks l) u6 wr (above w.heap.size wr) (fun _ _ h => (row_above h).1) (by rw [prj_len]; exact hn) (fun e he => by
        obtain ⟨x, hx, rfl⟩ := List.mem_map.1 he
        exact Hk.out x hx) EI C r1
      obtain ⟨au, cu, hu⟩ := own_formP h2
      subst hu
      have Q : Hid (Calls Tryd.prog 23 #[.slice au us.length cu] wr fun e w' => ∃ v, e = .returned (.tuple #[v, .int .i64 C]) ∧ EntsN wr.heap.size (above w.heap.size wr) Z v w' ∧ Below wr.heap.size wr w') := by rw [r2]; exact q
      clear hT h1 h2 h3 h4 r1 r2 EI q RZ RY
      go_wp2_with fail
      refine Q.out.mono ?_
      rintro e w2 ⟨v2, rfl, e2, b2⟩
      have E2 : Hid (EntsNew w.heap.size Z v2 w2 ∧ Below w.heap.size w w2) := ⟨e2.new b2 BT.out.size, BT.out.trans (b2.mono BT.out.size)⟩
      clear e2 b2 Q
      go_wp2_with fail
      go_ret2
      exact ⟨v2, rfl, E2.out.1, E2.out.2⟩
theorem refProject (ks : List Int) (cv va : Value) (l : List Ent) (w : World) (hn : l.length ≤ 65536) (hks : ks.length ≤ 65536) (hk : ∀ e ∈ l, inI e.2 = true) (hc : IntsIs w cv ks) (ha : EntsIs w va l) :
    Calls Tryd.prog 11 #[cv, va] w fun e w' => ∃ v, e = .returned (.tuple #[v, .int .i64 (prjC ks l)]) ∧ EntsIs w' v (prjZ ks l) ∧ Below w.heap.size w w' :=
  (refProjectN ks cv va l w hn hks hk hc ha).mono fun _ _ ⟨v, h1, h2, h3⟩ => ⟨v, h1, h2.ents, h3⟩
end Go.Proofs.YtaccinophamgmaaDoor
/- Columns each once, and where each stands there: a projection onto each once, then onto their places, is the projection. -/
namespace Go.Proofs.YtaccinophamgmaaDoor
set_option maxRecDepth 100000
set_option linter.unusedVariables false

/-- One more column, unless it is there. -/
def addO (o : List Int) (c : Int) : List Int := if c ∈ o then o else o ++ [c]
/-- Each once, by where it is named first. -/
def onceL (ks : List Int) : List Int := ks.foldl addO []
/-- For each its place there. -/
def plcL (ks : List Int) : List Int := ks.map fun c => (((onceL ks).idxOf c : Nat) : Int)
theorem onceL_snoc (l : List Int) (c : Int) : onceL (l ++ [c]) = addO (onceL l) c := by unfold onceL; rw [List.foldl_append]; rfl
theorem mem_addO {o : List Int} {c x : Int} : x ∈ addO o c ↔ x ∈ o ∨ x = c := by
  unfold addO
  split
  · rename_i h
    constructor
    · exact .inl
    · rintro (h1 | h1)
      · exact h1
      · rw [h1]; exact h
  · simp
theorem ind_snoc {P : List Int → Prop} (h0 : P []) (hs : ∀ l c, P l → P (l ++ [c])) (l : List Int) : P l := by
  have : ∀ n, ∀ l : List Int, l.length = n → P l := by
    intro n
    induction n with
    | zero => intro l hl; rw [List.eq_nil_of_length_eq_zero hl]; exact h0
    | succ n ih =>
      intro l hl
      have hne : l ≠ [] := by intro e; rw [e] at hl; simp at hl
      rw [← List.dropLast_concat_getLast hne]
      exact hs _ _ (ih _ (by rw [List.length_dropLast]; omega))
  exact this _ l rfl
theorem mem_onceL {x : Int} (l : List Int) : x ∈ onceL l ↔ x ∈ l := by
  refine ind_snoc (P := fun l => x ∈ onceL l ↔ x ∈ l) ?_ ?_ l
  · simp [onceL]
  · intro l c ih
    rw [onceL_snoc, mem_addO, ih, List.mem_append, List.mem_singleton]
theorem onceL_len (l : List Int) : (onceL l).length ≤ l.length := by
  refine ind_snoc (P := fun l => (onceL l).length ≤ l.length) ?_ ?_ l
  · simp [onceL]
  · intro l c ih
    rw [onceL_snoc]; unfold addO
    split <;> simp <;> omega
theorem idx_addO {o : List Int} {c x : Int} (h : x ∈ o) : (addO o c).idxOf x = o.idxOf x := by
  unfold addO
  split
  · rfl
  · rw [List.idxOf_append, if_pos h]
theorem idx_new {o : List Int} {c : Int} (h : c ∉ o) : (addO o c).idxOf c = o.length := by
  unfold addO
  rw [if_neg h, List.idxOf_append, if_neg h]; simp
theorem plcL_snoc (l : List Int) (c : Int) : plcL (l ++ [c]) = plcL l ++ [(((addO (onceL l) c).idxOf c : Nat) : Int)] := by
  unfold plcL
  rw [onceL_snoc, List.map_append]
  congr 1
  refine List.map_congr_left (fun x hx => ?_)
  rw [idx_addO ((mem_onceL l).2 hx)]
theorem plcL_len (l : List Int) : (plcL l).length = l.length := by unfold plcL; rw [List.length_map]
theorem plcL_in {l : List Int} : ∀ j ∈ plcL l, 0 ≤ j ∧ j < ((onceL l).length : Int) := by
  intro j hj
  obtain ⟨c, hc, rfl⟩ := List.mem_map.1 hj
  have := List.idxOf_lt_length_iff.2 ((mem_onceL l).2 hc)
  omega
theorem plcL_back (l : List Int) : (plcL l).map (fun j => (onceL l).getD j.toNat 0) = l := by
  unfold plcL
  rw [List.map_map]
  conv => rhs; rw [← List.map_id l]
  refine List.map_congr_left (fun c hc => ?_)
  have hlt := List.idxOf_lt_length_iff.2 ((mem_onceL l).2 hc)
  simp only [Function.comp, Int.toNat_natCast, id]
  rw [List.getD_eq_getElem?_getD, List.getElem?_eq_getElem hlt]
  exact List.getElem_idxOf hlt
theorem allIn_once (r : List Val) (ks : List Int) : allIn r (onceL ks) = allIn r ks := by
  unfold allIn
  rw [Bool.eq_iff_iff, List.all_eq_true, List.all_eq_true]
  exact ⟨fun h c hc => h c ((mem_onceL ks).2 hc), fun h c hc => h c ((mem_onceL ks).1 hc)⟩
theorem prjOk_once (ks : List Int) (z : List Ent) : prjOk (onceL ks) z = prjOk ks z := by
  unfold prjOk
  congr 1
  funext e
  exact allIn_once _ _
theorem pk_once {r : List Val} {ks : List Int} (h : allIn r ks = true) : pk (pk r (onceL ks)) (plcL ks) = pk r ks ∧ allIn (pk r (onceL ks)) (plcL ks) = true := by
  have := pk_pk r (onceL ks) (plcL ks) (by rw [allIn_once]; exact h) plcL_in
  rw [plcL_back] at this
  exact ⟨this.1, this.2.1⟩
theorem pk_len {r : List Val} {ks : List Int} (h : allIn r ks = true) : (pk r ks).length = ks.length := by
  unfold pk; rw [if_pos h, List.length_map]
theorem cR_snoc : ∀ {a b : List Val} (h : a.length = b.length) (x y : Val), cR (a ++ [x]) (b ++ [y]) = if cR a b = 0 then cVal x y else cR a b
  | [], [], _, x, y => by simp [cR]; intro h; exact h.symm
  | a :: l, b :: m, h, x, y => by
    simp only [List.cons_append, cR]
    rw [cR_snoc (by simpa using h) x y]
    by_cases e : cVal a b = 0
    · simp [e]
    · simp [e]
  | [], _ :: _, h, _, _ => by simp at h
  | _ :: _, [], h, _, _ => by simp at h
/-- Places of columns each once, by where each is named first, neither part rows nor change their order. -/
theorem plc_order (s t : List Val) (ks : List Int) : (onceL ks).length ≤ s.length → (onceL ks).length ≤ t.length →
    cR ((plcL ks).map (atV s)) ((plcL ks).map (atV t)) = cR (s.take (onceL ks).length) (t.take (onceL ks).length) := by
  refine ind_snoc (P := fun ks => (onceL ks).length ≤ s.length → (onceL ks).length ≤ t.length → cR ((plcL ks).map (atV s)) ((plcL ks).map (atV t)) = cR (s.take (onceL ks).length) (t.take (onceL ks).length)) ?_ ?_ ks
  · intro _ _; rfl
  · intro l c ih hs ht
    rw [onceL_snoc] at hs ht
    rw [plcL_snoc, onceL_snoc, List.map_append, List.map_append, List.map_singleton, List.map_singleton, cR_snoc (by simp)]
    by_cases hc : c ∈ onceL l
    · have e : addO (onceL l) c = onceL l := by unfold addO; rw [if_pos hc]
      rw [e] at hs ht ⊢
      rw [ih hs ht]
      split
      · rename_i h0
        have h1 := (cR_zero _ _).1 h0
        have hi := List.idxOf_lt_length_iff.2 hc
        have e2 : atV s (((onceL l).idxOf c : Nat) : Int) = atV t (((onceL l).idxOf c : Nat) : Int) := by
          have g := congrArg (fun q => q[(onceL l).idxOf c]?) h1
          simp only [List.getElem?_take, if_pos hi] at g
          unfold atV
          rw [List.getD_eq_getElem?_getD, List.getD_eq_getElem?_getD]
          simp only [Int.toNat_natCast]
          rw [g]
        rw [e2, (cVal_zero _ _).2 rfl, h0]
      · rfl
    · have e : addO (onceL l) c = onceL l ++ [c] := by unfold addO; rw [if_neg hc]
      have en : (addO (onceL l) c).length = (onceL l).length + 1 := by rw [e]; simp
      rw [en] at hs ht
      rw [en, idx_new hc, ih (by omega) (by omega), List.take_succ_eq_append_getElem (by omega), List.take_succ_eq_append_getElem (by omega), cR_snoc (by simp; omega)]
      have ea : ∀ {r : List Val} (h : (onceL l).length < r.length), atV r (((onceL l).length : Nat) : Int) = r[(onceL l).length] := by
        intro r h
        unfold atV
        rw [List.getD_eq_getElem?_getD]
        simp [h]
      rw [ea (by omega), ea (by omega)]
theorem plc_all {ks : List Int} {s : List Val} (h : s.length = (onceL ks).length) : allIn s (plcL ks) = true := by
  unfold allIn
  rw [List.all_eq_true]
  intro j hj
  have := plcL_in j hj
  unfold inR
  simp only [Bool.and_eq_true, decide_eq_true_eq]
  omega
theorem plc_cR {ks : List Int} {s t : List Val} (hs : s.length = (onceL ks).length) (ht : t.length = (onceL ks).length) : cR (pk s (plcL ks)) (pk t (plcL ks)) = cR s t := by
  have h := plc_order s t ks (by omega) (by omega)
  unfold pk
  rw [if_pos (plc_all hs), if_pos (plc_all ht), h, ← hs, List.take_length, hs, ← ht, List.take_length]
theorem plc_inj {ks : List Int} {s t : List Val} (hs : s.length = (onceL ks).length) (ht : t.length = (onceL ks).length) (h : pk s (plcL ks) = pk t (plcL ks)) : s = t := by
  have := plc_cR hs ht
  rw [(cR_zero _ _).2 h] at this
  exact (cR_zero _ _).1 this.symm
theorem wt_plc {ks : List Int} {s : List Val} (hs : s.length = (onceL ks).length) : ∀ {m : List Ent}, (∀ e ∈ m, e.1.length = (onceL ks).length) → wt (pk s (plcL ks)) (prjP (plcL ks) m) = wt s m
  | [], _ => rfl
  | e :: m, h => by
    have ih := wt_plc hs (m := m) (fun x hx => h x (by simp [hx]))
    unfold prjP at ih ⊢
    rw [List.map_cons]
    simp only [wt]
    rw [ih]
    by_cases he : e.1 = s
    · rw [if_pos he, if_pos (by rw [he])]
    · rw [if_neg he, if_neg (fun h' => he (plc_inj (h e (by simp)) hs h'))]
theorem okZ_plc {ks : List Int} {m : List Ent} (h : ∀ e ∈ m, e.1.length = (onceL ks).length) : okZ (prjP (plcL ks) m) = okZ m := by
  rw [Bool.eq_iff_iff, okZ_iff, okZ_iff]
  constructor
  · intro g r
    by_cases h0 : wt r m = 0
    · rw [h0]; rfl
    · obtain ⟨e, he, rfl⟩ := mem_of_wt h0
      rw [← wt_plc (h e he) h]; exact g _
  · intro g r
    by_cases h0 : wt r (prjP (plcL ks) m) = 0
    · rw [h0]; rfl
    · obtain ⟨e, he, rfl⟩ := mem_of_wt h0
      obtain ⟨x, hx, rfl⟩ := List.mem_map.1 he
      show inI (wt (pk x.1 (plcL ks)) _) = true
      rw [wt_plc (h x hx) h]; exact g _
theorem mkZ_plc {ks : List Int} {m : List Ent} (h : ∀ e ∈ m, e.1.length = (onceL ks).length) : mkZ (prjP (plcL ks) m) = prjP (plcL ks) (mkZ m) := by
  by_cases hok : okZ m = true
  · have hm : ∀ e ∈ mkZ m, e.1.length = (onceL ks).length := fun e he => by
      have h1 := wt_mem (mkZ_isZ m).1 he
      have h2 := (mkZ_isZ m).2 e he
      rw [wt_mkZ hok] at h1
      obtain ⟨x, hx, ex⟩ := mem_of_wt (by rw [h1]; exact h2)
      rw [← ex]; exact h x hx
    refine mkZ_of (by rw [okZ_plc h]; exact hok) ⟨?_, ?_⟩ (fun r => ?_)
    · unfold SortedZ prjP
      rw [List.pairwise_map]
      refine List.Pairwise.imp_of_mem ?_ (mkZ_isZ m).1
      intro a b ha hb hlt
      show cR (pk a.1 _) (pk b.1 _) < 0
      rw [plc_cR (hm a ha) (hm b hb)]; exact hlt
    · intro e he
      obtain ⟨x, hx, rfl⟩ := List.mem_map.1 he
      exact (mkZ_isZ m).2 x hx
    · by_cases h1 : ∃ s : List Val, s.length = (onceL ks).length ∧ pk s (plcL ks) = r
      · obtain ⟨s, hs, rfl⟩ := h1
        rw [wt_plc hs hm, wt_plc hs h, wt_mkZ hok]
      · have z : ∀ l : List Ent, (∀ e ∈ l, e.1.length = (onceL ks).length) → wt r (prjP (plcL ks) l) = 0 := by
          intro l hl
          by_cases h0 : wt r (prjP (plcL ks) l) = 0
          · exact h0
          · obtain ⟨e, he, er⟩ := mem_of_wt h0
            obtain ⟨x, hx, rfl⟩ := List.mem_map.1 he
            exact absurd ⟨x.1, hl x hx, er⟩ h1
        rw [z _ hm, z _ h]
  · have h2 : okZ (prjP (plcL ks) m) = false := by rw [okZ_plc h]; simpa using hok
    have h3 : okZ m = false := by simpa using hok
    unfold mkZ; rw [h2, h3]; rfl
/-- The rows of a projection onto columns each once. -/
theorem once_rows {ks : List Int} {z : List Ent} (h : prjOk ks z = true) : ∀ e ∈ prjP (onceL ks) z, e.1.length = (onceL ks).length := by
  intro e he
  obtain ⟨x, hx, rfl⟩ := List.mem_map.1 he
  exact pk_len (by rw [allIn_once]; unfold prjOk at h; exact List.all_eq_true.1 h x hx)
theorem once_prj {ks : List Int} {z : List Ent} (h : prjOk ks z = true) : prjP (plcL ks) (prjP (onceL ks) z) = prjP ks z := by
  unfold prjP
  rw [List.map_map]
  refine List.map_congr_left (fun e he => ?_)
  unfold prjOk at h
  simp only [Function.comp]
  rw [(pk_once (List.all_eq_true.1 h e he)).1]
/-- What the projection is, by way of each column once. -/
theorem prj_by_once {ks : List Int} {z : List Ent} (h : prjOk ks z = true) : okZ (prjP (onceL ks) z) = okZ (prjP ks z) ∧ prjZ ks z = prjP (plcL ks) (mkZ (prjP (onceL ks) z)) ∧ prjOk (plcL ks) (mkZ (prjP (onceL ks) z)) = true := by
  have hr := once_rows h
  refine ⟨by rw [← okZ_plc hr, once_prj h], ?_, ?_⟩
  · unfold prjZ
    rw [if_pos h, ← once_prj h, mkZ_plc hr]
  · unfold prjOk
    rw [List.all_eq_true]
    intro e he
    by_cases hok : okZ (prjP (onceL ks) z) = true
    · have h1 := wt_mem (mkZ_isZ (prjP (onceL ks) z)).1 he
      have h2 := (mkZ_isZ (prjP (onceL ks) z)).2 e he
      rw [wt_mkZ hok] at h1
      obtain ⟨x, hx, ex⟩ := mem_of_wt (by rw [h1]; exact h2)
      exact plc_all (by rw [← ex]; exact hr x hx)
    · unfold mkZ at he
      rw [if_neg hok] at he
      cases he
end Go.Proofs.YtaccinophamgmaaDoor
