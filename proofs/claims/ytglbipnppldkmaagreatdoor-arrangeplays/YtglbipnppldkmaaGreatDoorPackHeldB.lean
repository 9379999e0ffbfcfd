/- Texts of one claim, one behind the other. -/
import Derived.Test.YtglbipnppldkmaaGreatDoorPackBatchB
/- What a spine's put and held answer. -/
namespace Go.Proofs.YtglbipnppldkmaaGreatDoor
open Go.RowKit Go.Sort
set_option maxRecDepth 100000
theorem spPut0 (al az : Option Addr) (nl cl cz : Nat) (w : World) :
    Calls Tryz.prog 57 #[.slice al nl cl, .slice az 0 cz] w fun e w' => e = .returned (.slice al nl cl) ∧ w' = w := by
  go_enter Tryz.func57, Tryz.ntmps57
  go_wp2_with fail
  go_ret
  exact ⟨rfl, rfl⟩
/-- Where put ends. -/
def PutIs (w : World) (vl vz : Value) (vs : List Value) (v' : Value) (w' : World) : Prop :=
  w'.ownsRow 0 29 1 v' (vs.length + 1) (vs ++ [vz]) ∧ w.grownBy w' vl.ownBlock ∧ (v'.ownBlock = vl.ownBlock ∨ ∃ k, v'.ownBlock = some k ∧ w.heap.size ≤ k)
set_option maxHeartbeats 2000000 in
theorem spPut1 (vl : Value) (vs : List Value) (az : Option Addr) (nz cz : Nat) (w : World) (h : w.ownsRow 0 29 1 vl vs.length vs) (hn : 0 < nz) (hl : vs.length ≤ 65536) :
    Calls Tryz.prog 57 #[vl, .slice az nz cz] w fun e w' => ∃ v', e = .returned v' ∧ PutIs w vl (.slice az nz cz) vs v' w' := by
  obtain ⟨i0, hi0, hz0, hz1, hz2⟩ := info_parts info_list
  obtain ⟨al, cl, rfl⟩ := own_form h
  have HO : Hid ((w.alloc (.cells #[.slice az nz cz] 29)).ownsRow 0 29 1 (.slice al vs.length cl) vs.length vs) := own_on h one_box
  have I0 : ((nz : Int) == 0) = false := by simp; omega
  have H : Hid (∀ v' w', w'.ownsRow 0 29 1 v' (vs.length + 1) (vs ++ [.slice az nz cz]) → (w.alloc (.cells #[.slice az nz cz] 29)).grownBy w' (Value.ownBlock (.slice al vs.length cl)) → (v'.ownBlock = Value.ownBlock (.slice al vs.length cl) ∨ v'.ownBlock = some (w.alloc (.cells #[.slice az nz cz] 29)).heap.size) → PutIs w (.slice al vs.length cl) (.slice az nz cz) vs v' w') := fun v' w' g1 g2 g3 =>
    ⟨g1, grown_box g2, g3.elim .inl (fun e => .inr ⟨_, e, by simp⟩)⟩
  clear h
  go_enter Tryz.func57, Tryz.ntmps57
  go_wp2_with (first | (at_builtin; refine wpList_append_own_at _ rfl _ _ 62 rfl 0 29 i0 (.slice none 0 0) 1 24 Tryz.underlying62 hi0 hz0 hz1 hz2 rfl (by decide) _ vs.length vs rfl HO.out ⟨w.heap.size, 0, none⟩ 1 1 [.slice az nz cz] rfl rfl (cell_one_new _ _ _) (by simp [Value.oneCell']) (by unfold maxLen; omega) (by omega) (Nat.zero_le _) ?_; intro v5 w5 hown5 hg5 _ hat5; have R5 : Hid (PutIs w (.slice al vs.length cl) (.slice az nz cz) vs v5 w5) := H.out _ _ hown5 hg5 hat5; clear hown5 hg5 hat5 H HO) | fail)
  go_ret
  exact ⟨_, rfl, R5.out⟩
/-- How far held has come. -/
def HeldTo (w : World) (A Z : List Ent) (j : Nat) (v : Value) (us : List VEnt) (wr : World) : Prop :=
  wr.ownsRow w.heap.size 37 2 v us.length (es us) ∧ Reads w us (heldZ A (Z.take j)) ∧ Below w.heap.size w wr
theorem HeldTo.on {w : World} {A Z : List Ent} {j : Nat} {v : Value} {us : List VEnt} {wr w' : World} (h : HeldTo w A Z j v us wr) (hB : Below wr.heap.size wr w') : HeldTo w A Z j v us w' :=
  ⟨own_on h.1 hB, h.2.1, h.2.2.trans (hB.mono h.2.2.size)⟩
theorem HeldTo.zero {w : World} {A Z : List Ent} {j : Nat} {v : Value} {us : List VEnt} {wr : World} (h : HeldTo w A Z j v us wr) (hj : j < Z.length) (h0 : wt Z[j].1 A = 0) : HeldTo w A Z (j + 1) v us wr :=
  ⟨h.1, by rw [List.take_succ_eq_append_getElem hj, heldZ_snoc, if_pos h0, List.append_nil]; exact h.2.1, h.2.2⟩
theorem HeldTo.more {w : World} {A Z : List Ent} {j : Nat} {v v' vr : Value} {us : List VEnt} {wr w' : World} {o : Obj} (h : HeldTo w A Z j v us wr) (hj : j < Z.length) (h0 : wt Z[j].1 A ≠ 0) (hr : RowIs w vr Z[j].1)
    (g1 : w'.ownsRow w.heap.size 37 2 v' (us.length + 1) (es us ++ ec (vr, wt Z[j].1 A))) (g2 : (wr.alloc o).grownBy w' v.ownBlock) : HeldTo w A Z (j + 1) v' (us ++ [(vr, wt Z[j].1 A)]) w' :=
  ⟨by rw [List.length_append, es_snoc]; exact g1, by rw [List.take_succ_eq_append_getElem hj, heldZ_snoc, if_neg h0]; exact h.2.1.snoc hr _, h.2.2.grown (grown_box g2) h.2.2.size (fun k e => (h.1.lt k e).1)⟩
set_option maxHeartbeats 8000000 in
theorem spHeld (F : Nat → Prop) (sb : Sb) (A : List Ent) (n m : Nat) (st : Option (Nat × Nat × Nat)) (Z : List Ent) (v : Value) (w : World) (h : SpX F sb A n m st w) (hv : EntsIs w v Z) (hz : Z.length ≤ 60000) :
    Calls Tryz.prog 56 #[.pointer (some ⟨sb.b, 1, none⟩), v] w fun e w' => ∃ v', e = .returned v' ∧ EntsIs w' v' (heldZ A Z) ∧ Below w.heap.size w w' := by
  obtain ⟨i0, hi0, hz0, hz1, hz2⟩ := info_parts info_entry
  obtain ⟨a0, c0, rfl⟩ := hv.form
  have HX : Hid (SpX F sb A n m st w) := h
  have HV : Hid (EntsIs w (.slice a0 Z.length c0) Z) := hv
  have F0 : Hid (HeldTo w A Z 0 (.slice none 0 0) [] w) := ⟨World.ownsRow_nil _ _ _ _, Reads.nil _, Below.refl _ _⟩
  have HU : Hid (∀ j us v wr, j ≤ Z.length → HeldTo w A Z j v us wr → us.length ≤ Z.length) := fun j us v wr hj h => by
    rw [h.2.1.1]; have := heldZ_len A (Z.take j); rw [List.length_take] at this; omega
  clear h hv
  go_enter Tryz.func56, Tryz.ntmps56
  go_wp2_with fail
  go_loopw [5, 11] (fun s5 s11 wr => ∃ (j : Nat) (us : List VEnt), j ≤ Z.length ∧ s11 = .int .i64 j ∧ Hid (HeldTo w A Z j s5 us wr)) (fun _ i _ => Z.length - (intOf i).toNat)
  case atStart => exact ⟨0, [], by omega, rfl, F0⟩
  case round =>
    clear F0
    obtain ⟨j, us, hj, rfl, hT⟩ := hrel
    by_cases k1 : j < Z.length
    · have I1 : (j : Int) < (Z.length : Int) := by omega
      obtain ⟨b, o, a1, c1, rfl, x1, x2, x3⟩ := HV.out.at j k1
      have y1 := cell_on x1 (hT.out.2.2)
      have y2 := cell_on x2 (hT.out.2.2)
      have hul := HU.out j us _ wr hj hT.out
      obtain ⟨av, cv, hv⟩ := own_form hT.out.1
      subst hv
      obtain ⟨W, hW⟩ : ∃ W, W = wr.alloc (.cells #[.slice a1 Z[j].1.length c1, .int .i64 Z[j].2] 37) := ⟨_, rfl⟩
      have bW : Below wr.heap.size wr W := by rw [hW]; exact one_box
      have hT1 : HeldTo w A Z j (.slice av us.length cv) us W := hT.out.on bW
      have q := spGetX F sb A n m st Z[j].1 _ W (HX.out.on hT1.2.2) (x3.on hT1.2.2)
      have hWc : W.cell? ⟨wr.heap.size, 0, none⟩ = some (.slice a1 Z[j].1.length c1) ∧ W.cell? ⟨wr.heap.size, 1, none⟩ = some (.int .i64 Z[j].2) := by
        rw [hW]; exact ⟨by rw [World.cell?_alloc_at _ _ _ _ rfl]; rfl, by rw [World.cell?_alloc_at _ _ _ _ rfl]; rfl⟩
      have HC : Hid (∀ w2, Below W.heap.size W w2 → w2.cell? ⟨wr.heap.size, 0, none⟩ = some (.slice a1 Z[j].1.length c1)) := fun w2 hb => cell_on hWc.1 hb
      have HT1 : Hid (HeldTo w A Z j (.slice av us.length cv) us W) := hT1
      have HR : Hid (RowIs w (.slice a1 Z[j].1.length c1) Z[j].1) := x3
      have HW : Hid (wr.alloc (.cells #[.slice a1 Z[j].1.length c1, .int .i64 Z[j].2] 37) = W) := hW.symm
      have H0 : Hid (∀ w2 us v, wt Z[j].1 A = 0 → HeldTo w A Z j v us w2 → HeldTo w A Z (j + 1) v us w2) := fun w2 us v e h => h.zero k1 e
      have H1 : Hid (∀ w2 us v v' w' o, wt Z[j].1 A ≠ 0 → HeldTo w A Z j v us w2 → w'.ownsRow w.heap.size 37 2 v' (us.length + 1) (es us ++ ec (.slice a1 Z[j].1.length c1, wt Z[j].1 A)) → (w2.alloc o).grownBy w' v.ownBlock → HeldTo w A Z (j + 1) v' (us ++ [(.slice a1 Z[j].1.length c1, wt Z[j].1 A)]) w') := fun w2 us v v' w' o e h g1 g2 => h.more k1 e x3 g1 g2
      clear hT hT1 x1 x2 x3 hW bW hWc
      generalize Z[j].1.length = n3 at *
      generalize Z[j].2 = k3 at *
      generalize wt Z[j].1 A = g3 at *
      go_wp2_with fail
      rw [HW.out]
      refine q.mono ?_
      rintro e w2 ⟨rfl, hb2⟩
      have hT2 : HeldTo w A Z j (.slice av us.length cv) us w2 := HT1.out.on hb2
      have hc2 := HC.out w2 hb2
      clear q HT1 HC hb2 y1 y2 HW
      by_cases h0 : g3 = 0
      · have G : Hid (HeldTo w A Z (j + 1) (.slice av us.length cv) us w2) := H0.out _ _ _ h0 hT2
        clear hT2 H0 H1
        subst h0
        go_wp2_with fail
        go_roundw
        case rel => exact ⟨j + 1, us, by omega, by go_num, G⟩
        case measure => simp [intOf]; omega
      · have b0 : (g3 != 0) = true := by simpa using h0
        have HO : Hid (w2.ownsRow w.heap.size 37 2 (.slice av us.length cv) us.length (es us)) := hT2.1
        have HS : w.heap.size ≤ w2.heap.size := hT2.2.2.size
        have G : Hid (∀ v' w' o, w'.ownsRow w.heap.size 37 2 v' (us.length + 1) (es us ++ ec (.slice a1 n3 c1, g3)) → (w2.alloc o).grownBy w' (Value.ownBlock (.slice av us.length cv)) → HeldTo w A Z (j + 1) v' (us ++ [(.slice a1 n3 c1, g3)]) w') := fun v' w' o g1 g2 => H1.out _ _ _ _ _ o h0 hT2 g1 g2
        clear hT2 H0 H1
        go_wp2_with (first | (at_builtin; refine wpList_append_own _ rfl _ _ 29 rfl w.heap.size 37 i0 (.agg #[.slice none 0 0, .int .i64 0]) 2 32 Tryz.underlying29 hi0 hz0 hz1 hz2 rfl (by decide) _ us.length (es us) rfl (own_on HO.out one_box) ⟨w2.heap.size, 0, none⟩ 1 1 (ec (.slice a1 n3 c1, g3)) rfl rfl (cell_two_new _ _ _ _) (by simp [ec, Value.oneCell']) (by unfold maxLen; omega) (by omega) (by simp; omega) ?_; intro v5 w5 hown5 hg5 _; have R5 : Hid (HeldTo w A Z (j + 1) v5 (us ++ [(.slice a1 n3 c1, g3)]) w5) := G.out _ _ _ hown5 hg5; clear hown5 hg5 G HO) | fail)
        go_roundw
        case rel => exact ⟨j + 1, _, by omega, by go_num, R5⟩
        case measure => simp [intOf]; omega
    · have I1 : ¬ (j : Int) < (Z.length : Int) := by omega
      obtain rfl : j = Z.length := by omega
      have F : Hid (EntsIs wr u5 (heldZ A Z) ∧ Below w.heap.size w wr) := ⟨⟨us, EntsAt.of_own hT.out.1, by have := hT.out.2.1.on hT.out.2.2; rwa [List.take_length] at this⟩, hT.out.2.2⟩
      obtain ⟨av, cv, hv⟩ := own_form hT.out.1
      subst hv
      clear hT
      go_wp2_with fail
      go_ret
      exact ⟨_, rfl, F.out⟩
end Go.Proofs.YtglbipnppldkmaaGreatDoor
/- What a spine's Insert answers. -/
namespace Go.Proofs.YtglbipnppldkmaaGreatDoor
open Go.RowKit Go.Sort
set_option maxRecDepth 100000
theorem cell_set_same {w : World} {b o : Nat} {u : Value} {cs : Array Value} {t : TypeId} {fz : Nat × Nat} (h : w.heap[b]? = some (.cells cs t fz)) (hu : cs[o]? = some u) : w.setCell ⟨b, o, none⟩ u = w := by
  have hc : cs.setIfInBounds o u = cs := by
    apply Array.ext_getElem?
    intro j
    rw [Array.getElem?_setIfInBounds]
    split
    · rename_i e; subst e
      split
      · exact hu.symm
      · rw [Array.getElem?_eq_none (by omega)]
    · rfl
  have e : (w.setCell ⟨b, o, none⟩ u).heap = w.heap := by
    apply Array.ext_getElem?
    intro j
    simp only [World.setCell, Array.getElem?_modify]
    split
    · rename_i e; subst e
      rw [h]; simp [hc]
    · rfl
  cases w
  simp only [World.setCell] at e ⊢
  rw [e]
/-- Where Insert ends. -/
def InsIs (F : Nat → Prop) (sb : Sb) (A : List Ent) (n m : Nat) (Z : List Ent) (w w' : World) : Prop :=
  Chg F w w' ∧ (okZ (A ++ Z) = true → SpIs (Grow F w w') sb (mkZ (A ++ Z)) (n + if Z = [] then 0 else 1) (m + Z.length) w') ∧ (okZ (A ++ Z) = false → SpIs (Grow F w w') sb A n m w')
theorem isZ_mk {Z : List Ent} (hz : IsZ Z) (he : EOk Z) : okZ Z = true ∧ mkZ Z = Z := by
  have h1 : okZ Z = true := (okZ_iff Z).2 (fun r => wt_in hz he r)
  exact ⟨h1, mkZ_of h1 hz (fun _ => rfl)⟩
set_option maxHeartbeats 1000000 in
theorem spInsert (F : Nat → Prop) (sb : Sb) (A : List Ent) (n m : Nat) (Z : List Ent) (v : Value) (a : Addr) (w : World) (h : SpIs F sb A n m w) (ho : OverAt a w) (hz : IsZ Z) (he : EOk Z) (hv : EntsIs w v Z) (hm : m + Z.length ≤ 30000) :
    Calls Tryz.prog 33 #[.pointer (some ⟨sb.b, 1, none⟩), v] w fun e w' => e = .returned (ovE a (okZ (A ++ Z))) ∧ InsIs F sb A n m Z w w' := by
  obtain ⟨st, hx, hst⟩ := h
  have q1 := zMakeO Z v a w ho (by omega) he hv
  rw [(isZ_mk hz he).1, (isZ_mk hz he).2, ovE_t] at q1
  have HST : Hid (∀ mb many y, st = some (mb, many, y) → 0 < y) := hst
  have HX : Hid (SpX F sb A n m st w) := hx
  have HZ : Hid (IsZ Z ∧ EOk Z) := ⟨hz, he⟩
  have HO : Hid (OverAt a w) := ho
  obtain ⟨a0, c0, rfl⟩ := hv.form
  have HK : Hid (okZ (heldZ A Z ++ Z) = okZ (A ++ Z)) := held_over hx.inAll hz.1
  have HA : Hid (EOk (heldZ A Z) ∧ SortedZ (heldZ A Z) ∧ (heldZ A Z).length ≤ Z.length) := ⟨heldZ_ok hx.inAll he, heldZ_sorted hz.1, heldZ_len A Z⟩
  clear hx hst hz he hv ho
  obtain ⟨lz, hlz⟩ : ∃ lz, lz = Z.length := ⟨_, rfl⟩
  rw [← hlz]
  have HLZ : Hid (lz = Z.length) := hlz
  rw [← hlz] at hm q1
  clear hlz
  obtain ⟨ok, hok⟩ : ∃ ok, ok = okZ (A ++ Z) := ⟨_, rfl⟩
  have HOK : Hid (ok = okZ (A ++ Z)) := hok
  rw [← hok]
  rw [← hok] at HK
  clear hok
  go_enter Tryz.func33, Tryz.ntmps33
  go_wp2_with fail
  refine q1.mono ?_
  rintro e w1 ⟨v1, rfl, z1, b1⟩
  obtain ⟨a1, c1, e1⟩ := z1.ents.form
  rw [← HLZ.out] at e1
  subst e1
  have B1 : Hid (Below w.heap.size w w1) := b1
  have Z1 : Hid (ZHas w.heap.size Z (.slice a1 lz c1) w1) := z1
  have q2 := spHeld F sb A n m st Z _ w1 (HX.out.on b1) z1.ents (by have := HLZ.out; omega)
  clear q1 z1 b1
  go_wp2_with fail
  refine q2.mono ?_
  rintro e w2 ⟨v2, rfl, y2, b2⟩
  obtain ⟨a2, c2, e2⟩ := y2.form
  subst e2
  have B2 : Hid (Below w1.heap.size w1 w2) := b2
  have q3 : Hid (Calls Tryz.prog 55 #[.slice a2 (heldZ A Z).length c2, .slice a1 lz c1] w2 fun e w' => ∃ v, e = .returned (.tuple #[v, ovE a ok]) ∧ EntsIs w' v (mkZ (heldZ A Z ++ Z)) ∧ Below w2.heap.size w2 w') := by
    have := zAdd (heldZ A Z) Z (.slice a2 (heldZ A Z).length c2) (.slice a1 lz c1) a w2 (HO.out.on (B1.out.trans (b2.mono B1.out.size))) (by have := HA.out.2.2; have := HLZ.out; omega) HA.out.1 HZ.out.2 HA.out.2.1 HZ.out.1.1 y2 (Z1.out.ents.on b2)
    rw [HK.out] at this; exact this
  clear q2 y2 b2
  generalize (heldZ A Z).length = l2 at *
  go_wp2_with fail
  refine q3.out.mono ?_
  rintro e w3 ⟨v3, rfl, y3, b3⟩
  have B3 : Hid (Below w1.heap.size w1 w3) := B2.out.trans (b3.mono B2.out.size)
  have B03 : Hid (Below w.heap.size w w3) := B1.out.trans (B3.out.mono B1.out.size)
  clear q3 y3 b3 B2
  cases ok
  · have G : Hid (InsIs F sb A n m Z w w3) := ⟨Chg.of_below B03.out, fun e => (by rw [← HOK.out] at e; cases e), fun _ => ⟨st, (HX.out.on B03.out).grow, HST.out⟩⟩
    rw [ovE_f, errV_ne]
    go_wp2_with fail
    go_ret
    exact ⟨rfl, G.out⟩
  · rw [ovE_t]
    obtain ⟨R, bv, pv, X, h1, h2, h3, h4, h5, h6, h7⟩ := HX.out
    have h13 : SpX F sb A n m st w3 := HX.out.on B03.out
    have hsb := h2.2.1 sb.b h2.2.2.1
    have hb3 : w3.heap[sb.b]? = some (.cells #[sb.cv, bv, pv] 67 (0, 0)) := by rw [B03.out.block sb.b hsb]; exact h1.1
    have c0' : w3.cell? ⟨sb.b, 1, none⟩ = some bv := by simp [World.cell?, hb3]
    have f0' : w3.frozen? ⟨sb.b, 1, none⟩ = false := by simp [World.frozen?, hb3]
    obtain ⟨ab, cb, eb⟩ := h1.ls.form
    by_cases hZ0 : Z = []
    · have hl0 : lz = 0 := by rw [HLZ.out, hZ0]; rfl
      have q4 := spPut0 ab a1 X.length cb c1 w3
      have e0 : w3.setCell ⟨sb.b, 1, none⟩ bv = w3 := cell_set_same hb3 (by simp)
      have G : Hid (InsIs F sb A n m Z w w3) := ⟨Chg.of_below B03.out, fun _ => ⟨st, by
        have := h13.grow (w := w)
        rw [hZ0, List.append_nil, List.length_nil, if_pos rfl, Nat.add_zero, Nat.add_zero]
        rw [show mkZ A = A from by rw [← h6]; exact mkZ_of ((okZ_iff _).2 (fun r => by rw [wt_mkZ h5]; exact (okZ_iff _).1 h5 r)) (mkZ_isZ _) (fun _ => rfl)]
        exact this, HST.out⟩, fun e => (by rw [← HOK.out] at e; cases e)⟩
      subst eb
      subst hl0
      clear h1 h2 h3 h4 h5 h6 h7 h13 hb3
      go_wp2_with fail
      refine q4.mono ?_
      rintro e w4 ⟨rfl, rfl⟩
      clear q4
      go_wp2_with fail
      go_ret
      exact ⟨rfl, G.out⟩
    · have hl0 : 0 < lz := by rw [HLZ.out]; exact List.length_pos_iff.2 hZ0
      have hXl := h1.2.2.2.2.2.2
      have hown : w3.ownsRow 0 29 1 bv (X.map (·.1)).length (X.map (·.1)) := by rw [List.length_map]; exact own_on h1.2.1 B03.out
      have q4 := spPut1 bv (X.map (·.1)) a1 lz c1 w3 hown hl0 (by rw [List.length_map]; exact hXl)
      have G : Hid (∀ v' w4, PutIs w3 bv (.slice a1 lz c1) (X.map (·.1)) v' w4 → w4.cell? ⟨sb.b, 1, none⟩ = some bv ∧ w4.frozen? ⟨sb.b, 1, none⟩ = false ∧ InsIs F sb A n m Z w (w4.setCell ⟨sb.b, 1, none⟩ v')) := fun v' w4 ⟨p1, p2, p3⟩ => by
        rw [List.length_map] at p1
        have hb4 : w4.heap[sb.b]? = some (.cells #[sb.cv, bv, pv] 67 (0, 0)) := by
          rw [p2.block sb.b (Nat.lt_of_lt_of_le hsb B03.out.size) (fun e => by obtain ⟨c, hc⟩ := own_blk h1.2.1 e.symm; exact blk_ne h1.1 hc (by decide) rfl)]; exact hb3
        obtain ⟨k1, k2⟩ := SpX.more h1 h2 h3 h4 h6 h7 h5 HZ.out.1 HZ.out.2 hZ0 (by have := HLZ.out; omega) Z1.out B1.out B3.out HOK.out.symm p1 p2 p3
        exact ⟨by simp [World.cell?, hb4], by simp [World.frozen?, hb4], k2, fun _ => ⟨st, by rw [if_neg hZ0]; exact k1, HST.out⟩, fun e => (by rw [← HOK.out] at e; cases e)⟩
      subst eb
      clear h1 h2 h3 h4 h5 h6 h7 h13 hb3 hown
      go_wp2_with fail
      refine q4.mono ?_
      rintro e w4 ⟨v4, rfl, p4⟩
      obtain ⟨g1, g2, g3⟩ := G.out _ _ p4
      obtain ⟨a4, c4, e4⟩ := own_form p4.1
      subst e4
      have G3 : Hid (InsIs F sb A n m Z w (w4.setCell ⟨sb.b, 1, none⟩ (.slice a4 (X.length + 1) c4))) := by rw [List.length_map] at g3; exact g3
      clear q4 p4 G g3 c0' f0'
      go_wp2_with fail
      go_ret
      exact ⟨rfl, G3.out⟩
end Go.Proofs.YtglbipnppldkmaaGreatDoor
