/- What a spine's Insert answers. -/
import Derived.Test.YtanfjnhpdchbbaaGreatDoorSpHeld
namespace Go.Proofs.YtanfjnhpdchbbaaGreatDoor
open Go.RowKit Go.Sort
set_option maxRecDepth 100000
theorem cell_set_same {w : World} {b o : Nat} {u : Value} {cs : Array Value} {t : TypeId} {fz : Nat × Nat} (h : w.heap[b]? = some (.cells cs t fz)) (hu : cs[o]? = some u) : w.setCell ⟨b, o, none⟩ u = w := by
  have hc : cs.setIfInBounds o u = cs := by
    apply Array.ext_getElem?
    intro j
    rw [Array.getElem?_setIfInBounds]
    split
    · rename_i e; subst e
      split
      · exact hu.symm
      · rw [Array.getElem?_eq_none (by omega)]
    · rfl
  have e : (w.setCell ⟨b, o, none⟩ u).heap = w.heap := by
    apply Array.ext_getElem?
    intro j
    simp only [World.setCell, Array.getElem?_modify]
    split
    · rename_i e; subst e
      rw [h]; simp [hc]
    · rfl
  cases w
  simp only [World.setCell] at e ⊢
  rw [e]
/-- Where Insert ends. -/
def InsIs (F : Nat → Prop) (sb : Nat) (A : List Ent) (n m : Nat) (Z : List Ent) (w w' : World) : Prop :=
  Chg F w w' ∧ (okZ (A ++ Z) = true → SpIs (Grow F w w') sb (mkZ (A ++ Z)) (n + if Z = [] then 0 else 1) (m + Z.length) w') ∧ (okZ (A ++ Z) = false → SpIs (Grow F w w') sb A n m w')
theorem isZ_mk {Z : List Ent} (hz : IsZ Z) (he : EOk Z) : okZ Z = true ∧ mkZ Z = Z := by
  have h1 : okZ Z = true := (okZ_iff Z).2 (fun r => wt_in hz he r)
  exact ⟨h1, mkZ_of h1 hz (fun _ => rfl)⟩
set_option maxHeartbeats 1000000 in
theorem spInsert (F : Nat → Prop) (sb : Nat) (A : List Ent) (n m : Nat) (Z : List Ent) (v : Value) (a : Addr) (w : World) (h : SpIs F sb A n m w) (ho : OverAt a w) (hz : IsZ Z) (he : EOk Z) (hv : EntsIs w v Z) (hm : m + Z.length ≤ 30000) :
    Calls Tryz.prog 7 #[.pointer (some ⟨sb, 0, none⟩), v] w fun e w' => e = .returned (ovE a (okZ (A ++ Z))) ∧ InsIs F sb A n m Z w w' := by
  obtain ⟨st, hx, hst⟩ := h
  have q1 := zMakeO Z v a w ho (by omega) he hv
  rw [(isZ_mk hz he).1, (isZ_mk hz he).2, ovE_t] at q1
  have HST : Hid (∀ mb many y, st = some (mb, many, y) → 0 < y) := hst
  have HX : Hid (SpX F sb A n m st w) := hx
  have HZ : Hid (IsZ Z ∧ EOk Z) := ⟨hz, he⟩
  have HO : Hid (OverAt a w) := ho
  obtain ⟨a0, c0, rfl⟩ := hv.form
  have HK : Hid (okZ (heldZ A Z ++ Z) = okZ (A ++ Z)) := held_over hx.inAll hz.1
  have HA : Hid (EOk (heldZ A Z) ∧ SortedZ (heldZ A Z) ∧ (heldZ A Z).length ≤ Z.length) := ⟨heldZ_ok hx.inAll he, heldZ_sorted hz.1, heldZ_len A Z⟩
  clear hx hst hz he hv ho
  obtain ⟨lz, hlz⟩ : ∃ lz, lz = Z.length := ⟨_, rfl⟩
  rw [← hlz]
  have HLZ : Hid (lz = Z.length) := hlz
  rw [← hlz] at hm q1
  clear hlz
  obtain ⟨ok, hok⟩ : ∃ ok, ok = okZ (A ++ Z) := ⟨_, rfl⟩
  have HOK : Hid (ok = okZ (A ++ Z)) := hok
  rw [← hok]
  rw [← hok] at HK
  clear hok
  go_enter Tryz.func7, Tryz.ntmps7
  go_wp2_with fail
  refine q1.mono ?_
  rintro e w1 ⟨v1, rfl, z1, b1⟩
  obtain ⟨a1, c1, e1⟩ := z1.ents.form
  rw [← HLZ.out] at e1
  subst e1
  have B1 : Hid (Below w.heap.size w w1) := b1
  have Z1 : Hid (ZHas w.heap.size Z (.slice a1 lz c1) w1) := z1
  have q2 := spHeld F sb A n m st Z _ w1 (HX.out.on b1) z1.ents (by have := HLZ.out; omega)
  clear q1 z1 b1
  go_wp2_with fail
  refine q2.mono ?_
  rintro e w2 ⟨v2, rfl, y2, b2⟩
  obtain ⟨a2, c2, e2⟩ := y2.form
  subst e2
  have B2 : Hid (Below w1.heap.size w1 w2) := b2
  have q3 : Hid (Calls Tryz.prog 21 #[.slice a2 (heldZ A Z).length c2, .slice a1 lz c1] w2 fun e w' => ∃ v, e = .returned (.tuple #[v, ovE a ok]) ∧ EntsIs w' v (mkZ (heldZ A Z ++ Z)) ∧ Below w2.heap.size w2 w') := by
    have := zAdd (heldZ A Z) Z (.slice a2 (heldZ A Z).length c2) (.slice a1 lz c1) a w2 (HO.out.on (B1.out.trans (b2.mono B1.out.size))) (by have := HA.out.2.2; have := HLZ.out; omega) HA.out.1 HZ.out.2 HA.out.2.1 HZ.out.1.1 y2 (Z1.out.ents.on b2)
    rw [HK.out] at this; exact this
  clear q2 y2 b2
  generalize (heldZ A Z).length = l2 at *
  go_wp2_with fail
  refine q3.out.mono ?_
  rintro e w3 ⟨v3, rfl, y3, b3⟩
  have B3 : Hid (Below w1.heap.size w1 w3) := B2.out.trans (b3.mono B2.out.size)
  have B03 : Hid (Below w.heap.size w w3) := B1.out.trans (B3.out.mono B1.out.size)
  clear q3 y3 b3 B2
  cases ok
  · have G : Hid (InsIs F sb A n m Z w w3) := ⟨Chg.of_below B03.out, fun e => (by rw [← HOK.out] at e; cases e), fun _ => ⟨st, (HX.out.on B03.out).grow, HST.out⟩⟩
    rw [ovE_f, errV_ne]
    go_wp2_with fail
    go_ret
    exact ⟨rfl, G.out⟩
  · rw [ovE_t]
    obtain ⟨R, bv, pv, X, h1, h2, h3, h4, h5, h6, h7⟩ := HX.out
    have h13 : SpX F sb A n m st w3 := HX.out.on B03.out
    have hsb := h2.2.1 sb h2.2.2.1
    have hb3 : w3.heap[sb]? = some (.cells #[bv, pv] 30 (0, 0)) := by rw [B03.out.block sb hsb]; exact h1.1
    have c0' : w3.cell? ⟨sb, 0, none⟩ = some bv := by simp [World.cell?, hb3]
    have f0' : w3.frozen? ⟨sb, 0, none⟩ = false := by simp [World.frozen?, hb3]
    obtain ⟨ab, cb, eb⟩ := h1.ls.form
    by_cases hZ0 : Z = []
    · have hl0 : lz = 0 := by rw [HLZ.out, hZ0]; rfl
      have q4 := spPut0 ab a1 X.length cb c1 w3
      have e0 : w3.setCell ⟨sb, 0, none⟩ bv = w3 := cell_set_same hb3 (by simp)
      have G : Hid (InsIs F sb A n m Z w w3) := ⟨Chg.of_below B03.out, fun _ => ⟨st, by
        have := h13.grow (w := w)
        rw [hZ0, List.append_nil, List.length_nil, if_pos rfl, Nat.add_zero, Nat.add_zero]
        rw [show mkZ A = A from by rw [← h6]; exact mkZ_of ((okZ_iff _).2 (fun r => by rw [wt_mkZ h5]; exact (okZ_iff _).1 h5 r)) (mkZ_isZ _) (fun _ => rfl)]
        exact this, HST.out⟩, fun e => (by rw [← HOK.out] at e; cases e)⟩
      subst eb
      subst hl0
      clear h1 h2 h3 h4 h5 h6 h7 h13 hb3
      go_wp2_with fail
      refine q4.mono ?_
      rintro e w4 ⟨rfl, rfl⟩
      clear q4
      go_wp2_with fail
      go_ret
      exact ⟨rfl, G.out⟩
    · have hl0 : 0 < lz := by rw [HLZ.out]; exact List.length_pos_iff.2 hZ0
      have hXl := h1.2.2.2.2.2.2
      have hown : w3.ownsRow 0 31 1 bv (X.map (·.1)).length (X.map (·.1)) := by rw [List.length_map]; exact own_on h1.2.1 B03.out
      have q4 := spPut1 bv (X.map (·.1)) a1 lz c1 w3 hown hl0 (by rw [List.length_map]; exact hXl)
      have G : Hid (∀ v' w4, PutIs w3 bv (.slice a1 lz c1) (X.map (·.1)) v' w4 → w4.cell? ⟨sb, 0, none⟩ = some bv ∧ w4.frozen? ⟨sb, 0, none⟩ = false ∧ InsIs F sb A n m Z w (w4.setCell ⟨sb, 0, none⟩ v')) := fun v' w4 ⟨p1, p2, p3⟩ => by
        rw [List.length_map] at p1
        have hb4 : w4.heap[sb]? = some (.cells #[bv, pv] 30 (0, 0)) := by
          rw [p2.block sb (Nat.lt_of_lt_of_le hsb B03.out.size) (fun e => by obtain ⟨c, hc⟩ := own_blk h1.2.1 e.symm; exact blk_ne h1.1 hc (by decide) rfl)]; exact hb3
        obtain ⟨k1, k2⟩ := SpX.more h1 h2 h3 h4 h6 h7 h5 HZ.out.1 HZ.out.2 hZ0 (by have := HLZ.out; omega) Z1.out B1.out B3.out HOK.out.symm p1 p2 p3
        exact ⟨by simp [World.cell?, hb4], by simp [World.frozen?, hb4], k2, fun _ => ⟨st, by rw [if_neg hZ0]; exact k1, HST.out⟩, fun e => (by rw [← HOK.out] at e; cases e)⟩
      subst eb
      clear h1 h2 h3 h4 h5 h6 h7 h13 hb3 hown
      go_wp2_with fail
      refine q4.mono ?_
      rintro e w4 ⟨v4, rfl, p4⟩
      obtain ⟨g1, g2, g3⟩ := G.out _ _ p4
      obtain ⟨a4, c4, e4⟩ := own_form p4.1
      subst e4
      have G3 : Hid (InsIs F sb A n m Z w (w4.setCell ⟨sb, 0, none⟩ (.slice a4 (X.length + 1) c4))) := by rw [List.length_map] at g3; exact g3
      clear q4 p4 G g3 c0' f0'
      go_wp2_with fail
      go_ret
      exact ⟨rfl, G3.out⟩
end Go.Proofs.YtanfjnhpdchbbaaGreatDoor
