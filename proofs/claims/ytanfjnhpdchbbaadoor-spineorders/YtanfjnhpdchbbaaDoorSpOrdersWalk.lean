/- The walk of the law that the order in which batches come does not matter. -/
import Derived.Test.YtanfjnhpdchbbaaDoorPackFirst
import Derived.Test.YtanfjnhpdchbbaaDoorMgSets
import Derived.Test.YtanfjnhpdchbbaaDoorMgRef
namespace Go.Proofs.YtanfjnhpdchbbaaDoor
open Go.RowKit Go.Sort
set_option maxRecDepth 100000
/-- How far the z-sets are made. -/
def OsTo (S : Nat) (a : Option Addr) (len cap : Nat) (zs : List Int) (w : World) (X : List QEnt) (v : Value) (wr : World) : Prop :=
  wr.ownsRow w.heap.size 32 1 v X.length (X.map (·.1)) ∧ (∀ x ∈ X, MadeOk false w.heap.size wr x) ∧ (∃ p, p ≤ 100 * X.length ∧ SeqAt S a len cap zs p wr) ∧ But S w wr
theorem OsTo.more {S : Nat} {a : Option Addr} {len cap : Nat} {zs : List Int} {w : World} {X : List QEnt} {v v4 : Value} {wr wc w2 w4 : World} {x : QEnt} (h : OsTo S a len cap zs w X v wr) (hS : S < w.heap.size) (p' : Nat) (hp : p' ≤ 100 * X.length + 100) (hc : Below wr.heap.size wr wc)
    (hx : MadeOk false wc.heap.size w2 x) (hs : SeqAt S a len cap zs p' w2) (hb : But S wc w2) (g1 : w4.ownsRow w.heap.size 32 1 v4 (X.length + 1) (X.map (·.1) ++ [x.1])) (g2 : (w2.alloc (.cells #[x.1] 32)).grownBy w4 v.ownBlock) : OsTo S a len cap zs w (X ++ [x]) v4 w4 := by
  obtain ⟨h1, h2, _, h6⟩ := h
  have hB : Below w2.heap.size w2 (w2.alloc (.cells #[x.1] 32)) := one_box
  have o2 := own_on (own_but (own_on h1 hc) hb hS) hB
  have hsz := h6.size
  have hlt : ∀ k, v.ownBlock = some k → w.heap.size ≤ k := fun k e => (h1.lt k e).1
  refine ⟨?_, fun y hy => ?_, ⟨p', by simp; omega, ?_⟩, ?_⟩
  · rw [List.map_append, List.length_append]; exact g1
  · rcases List.mem_append.1 hy with hy | hy
    · exact ⟨(((((h2 y hy).on hc).but hb hS).1.on hB).beside o2 g2), (h2 y hy).2⟩
    · simp at hy
      subst hy
      exact ⟨((hx.1.on hB).beside o2 g2).mono (by have := hc.size; omega), hx.2⟩
  · exact SeqAt.beside (hs.on hB) g2 (fun e => by have := hlt S e; omega) (fun b hb' e => by have := hlt b e; omega)
  · have : But S w (w2.alloc (.cells #[x.1] 32)) := ((h6.trans (But.of_below hc)).trans hb).trans (But.of_below hB)
    exact ⟨g2.os.trans this.1, g2.tape.trans this.2.1, g2.output.trans this.2.2.1, Nat.le_trans this.2.2.2.1 g2.size, fun i i1 i2 => (g2.block i (Nat.lt_of_lt_of_le i2 this.2.2.2.1) (fun e => by have := hlt i e.symm; omega)).trans (this.2.2.2.2 i i1 i2)⟩
theorem OsTo.ls {S : Nat} {a : Option Addr} {len cap : Nat} {zs : List Int} {w : World} {X : List QEnt} {v : Value} {wr : World} (h : OsTo S a len cap zs w X v wr) (hl : X.length ≤ 65536) : LsIs wr v X := by
  refine ⟨?_, fun x hx => ?_, hl⟩
  · exact LsAt.of_own (base := w.heap.size) (by rw [List.length_map]; exact h.1)
  · obtain ⟨m1, m2, m3, m4, _⟩ := h.2.1 x hx
    exact ⟨m1.ents, m2.1, m3, by omega⟩
/-- Two spines behind a world that stays. -/
def P2 (wA : World) (sa sb : Nat) (Aa : List Ent) (na ma : Nat) (Ab : List Ent) (nb mb : Nat) (wr : World) : Prop := ∃ Fa Fb, (∀ k, Fa k → wA.heap.size ≤ k) ∧ (∀ k, Fb k → wA.heap.size ≤ k) ∧ (∀ k, Fa k → ¬ Fb k) ∧ Below wA.heap.size wA wr ∧ SpIs Fa sa Aa na ma wr ∧ SpIs Fb sb Ab nb mb wr
section
variable {wA : World} {sa sb : Nat} {Aa : List Ent} {na ma : Nat} {Ab : List Ent} {nb mb : Nat} {w : World}
theorem P2.swap (h : P2 wA sa sb Aa na ma Ab nb mb w) : P2 wA sb sa Ab nb mb Aa na ma w := by
  obtain ⟨Fa, Fb, h1, h2, h3, h4, h5, h6⟩ := h
  exact ⟨Fb, Fa, h2, h1, fun k e e' => h3 k e' e, h4, h6, h5⟩
theorem P2.below (h : P2 wA sa sb Aa na ma Ab nb mb w) : Below wA.heap.size wA w := by obtain ⟨Fa, Fb, h1, h2, h3, h4, h5, h6⟩ := h; exact h4
theorem P2.isZ (h : P2 wA sa sb Aa na ma Ab nb mb w) : IsZ Aa := by obtain ⟨Fa, Fb, h1, h2, h3, h4, h5, h6⟩ := h; exact h5.le.2.2.2
theorem P2.on (h : P2 wA sa sb Aa na ma Ab nb mb w) {w' : World} (hB : Below w.heap.size w w') : P2 wA sa sb Aa na ma Ab nb mb w' := by
  obtain ⟨Fa, Fb, h1, h2, h3, h4, h5, h6⟩ := h
  exact ⟨Fa, Fb, h1, h2, h3, h4.trans (hB.mono h4.size), h5.on hB, h6.on hB⟩
theorem P2.step (h : P2 wA sa sb Aa na ma Ab nb mb w) : ∃ F, SpIs F sa Aa na ma w ∧ ∀ w' A' n' m', Chg F w w' → SpIs (Grow F w w') sa A' n' m' w' → P2 wA sa sb A' n' m' Ab nb mb w' := by
  obtain ⟨Fa, Fb, h1, h2, h3, h4, h5, h6⟩ := h
  refine ⟨Fa, h5, fun w' A' n' m' hc hs => ⟨Grow Fa w w', Fb, fun k e => ?_, h2, fun k e e' => ?_, h4.trans ⟨hc.1, hc.2.1, hc.2.2.1, hc.size, fun k hk => hc.2.2.2.2 k (fun e => ?_) ?_⟩, hs, h6.keep hc.size (fun k e => hc.2.2.2.2 k (fun e' => h3 k e' e) (h6.lt k e))⟩⟩
  · rcases e with e | e
    · exact h1 k e
    · exact Nat.le_trans h4.size e.1
  · rcases e with e | e
    · exact h3 k e e'
    · have := h6.lt k e'; omega
  · have := h1 k e; omega
  · have := h4.size; omega
end
theorem P2.start (w : World) : P2 w w.heap.size (w.heap.size + 1) [] 0 0 [] 0 0 ((w.alloc (.cells #[.slice none 0 0, .pointer none] 31)).alloc (.cells #[.slice none 0 0, .pointer none] 31)) := by
  have h2 := SpIs.new (w.alloc (.cells #[.slice none 0 0, .pointer none] 31))
  rw [show (w.alloc (.cells #[.slice none 0 0, .pointer none] 31)).heap.size = w.heap.size + 1 by simp] at h2
  exact ⟨fun k => k = w.heap.size, fun k => k = w.heap.size + 1, fun k e => by omega, fun k e => by omega, fun k e e' => by omega, one_box.trans (one_box.mono (by simp)), (SpIs.new w).on one_box, h2⟩
theorem p2Insert (wA : World) (sa sb : Nat) (Aa : List Ent) (na ma : Nat) (Ab : List Ent) (nb mb : Nat) (w : World) (ad : Addr) (h : P2 wA sa sb Aa na ma Ab nb mb w) (ho : OverAt ad wA) (v : Value) (Z : List Ent) (hz : IsZ Z) (he : EOk Z) (hv : EntsIs wA v Z) (hm : ma + Z.length ≤ 30000) (hok : okZ (Aa ++ Z) = true) :
    Calls Tryd.prog 11 #[.pointer (some ⟨sa, 0, none⟩), v] w fun e w' => e = .returned .nilIface ∧ P2 wA sa sb (mkZ (Aa ++ Z)) (na + if Z = [] then 0 else 1) (ma + Z.length) Ab nb mb w' := by
  have hB := h.below
  obtain ⟨F, h3, hst⟩ := h.step
  refine (spInsert F sa Aa na ma Z v ad w h3 (ho.on hB) hz he (hv.on hB) hm).mono ?_
  rintro e w' ⟨rfl, h2, h4, h5⟩
  rw [hok] at *
  exact ⟨rfl, hst w' _ _ _ h2 (h4 rfl)⟩
def P2Work (wA : World) (sa sb : Nat) (Aa : List Ent) (ma : Nat) (Ab : List Ent) (nb mb : Nat) (e : Ending) (w' : World) : Prop := ∃ (k : Int) (n' m' : Nat), e = .returned (.int .i64 k) ∧ P2 wA sa sb Aa n' m' Ab nb mb w' ∧ m' ≤ ma
theorem p2Work (wA : World) (sa sb : Nat) (Aa : List Ent) (na ma : Nat) (Ab : List Ent) (nb mb : Nat) (w : World) (h : P2 wA sa sb Aa na ma Ab nb mb w) (f : Int) (hm : ma ≤ 30000) (hf : -1000000 ≤ f ∧ f ≤ 1000000) :
    Calls Tryd.prog 13 #[.pointer (some ⟨sa, 0, none⟩), .int .i64 f] w fun e w' => P2Work wA sa sb Aa ma Ab nb mb e w' := by
  obtain ⟨F, h3, hst⟩ := h.step
  refine (spWork F sa Aa na ma f w h3 hm hf).mono ?_
  rintro e w' ⟨k, rfl, n', m', g1, g2, g3, g4, g5, g6, g7, g8⟩
  exact ⟨k, n', m', rfl, hst w' _ _ _ g2 g1, g6⟩
theorem p2All (wA : World) (sa sb : Nat) (Aa : List Ent) (na ma : Nat) (Ab : List Ent) (nb mb : Nat) (w : World) (ad : Addr) (h : P2 wA sa sb Aa na ma Ab nb mb w) (ho : OverAt ad wA) (hm : ma ≤ 30000) :
    Calls Tryd.prog 14 #[.pointer (some ⟨sa, 0, none⟩)] w fun e w' => ∃ v, e = .returned v ∧ ZHas w.heap.size Aa v w' ∧ Below w.heap.size w w' := by
  have hB := h.below
  obtain ⟨Fa, Fb, _, _, _, _, ⟨st, h3, _⟩, _⟩ := h
  exact spAllX Fa sa Aa na ma st ad w h3 (ho.on hB) (by omega)
theorem p2Rows (wA : World) (sa sb : Nat) (Aa : List Ent) (na ma : Nat) (Ab : List Ent) (nb mb : Nat) (w : World) (ad : Addr) (h : P2 wA sa sb Aa na ma Ab nb mb w) (ho : OverAt ad wA) (hm : ma ≤ 30000) :
    Calls Tryd.prog 16 #[.pointer (some ⟨sa, 0, none⟩)] w fun e w' => e = .returned (.int .i64 Aa.length) ∧ Below w.heap.size w w' := by
  have hB := h.below
  obtain ⟨Fa, Fb, _, _, _, _, ⟨st, h3, _⟩, _⟩ := h
  exact spRowsX Fa sa Aa na ma st ad w h3 (ho.on hB) (by omega)
/-- A spine that has taken the first i ones. -/
def Took (X : List QEnt) (i : Nat) (A : List Ent) (m : Nat) : Prop := (∀ r, wt r A = wt r (flat (X.take i))) ∧ m ≤ 8 * i ∧ ∀ r, -(800 * (i : Int)) ≤ wt r A ∧ wt r A ≤ 800 * (i : Int)
theorem Took.ok {X : List QEnt} {i : Nat} {A : List Ent} {m : Nat} (h : Took X i A m) (hi : i ≤ 6) {Z : List Ent} (hz : ∀ r, -800 ≤ wt r Z ∧ wt r Z ≤ 800) : okZ (A ++ Z) = true :=
  (okZ_iff _).2 (fun r => by rw [wt_append]; have := h.2.2 r; have := hz r; exact okI (by omega))
theorem Took.more {X : List QEnt} {i : Nat} {A : List Ent} {m : Nat} (h : Took X i A m) (hi : i < X.length) (h6 : i ≤ 6) (hz : ∀ r, -800 ≤ wt r X[i].2 ∧ wt r X[i].2 ≤ 800) (hl : X[i].2.length ≤ 8) : Took X (i + 1) (mkZ (A ++ X[i].2)) (m + X[i].2.length) := by
  have hok := h.ok h6 hz
  refine ⟨fun r => ?_, by have := h.2.1; omega, fun r => ?_⟩
  · rw [wt_mkZ hok, wt_append, h.1 r, flat_take hi, wt_append]
  · rw [wt_mkZ hok, wt_append]
    have := h.2.2 r; have := hz r; omega
theorem rot_at {X : List QEnt} {k i : Nat} (hX : X.length = 6) (hk : k < 6) (hi : i < 6) (h : (i + k) % 6 < X.length) (h' : i < (X.drop k ++ X.take k).length) : (X.drop k ++ X.take k)[i] = X[(i + k) % 6] := by
  by_cases hik : i + k < 6
  · rw [List.getElem_append_left (by rw [List.length_drop]; omega), List.getElem_drop]
    congr 1; omega
  · rw [List.getElem_append_right (by rw [List.length_drop]; omega), List.getElem_take]
    congr 1; rw [List.length_drop]; omega
theorem rot_wt (X : List QEnt) (k : Nat) (r : List Val) : wt r (flat (X.drop k ++ X.take k)) = wt r (flat X) := by
  rw [flat_app, wt_append]
  conv => rhs; rw [← List.take_append_drop k X, flat_app, wt_append]
  omega
/-- How far the inserts have come. -/
def OrTo (wA : World) (sa sb : Nat) (X : List QEnt) (k i : Nat) (wr : World) : Prop := ∃ Aa na ma Ab nb mb, P2 wA sa sb Aa na ma Ab nb mb wr ∧ Took X i Aa ma ∧ Took (X.drop k ++ X.take k) i Ab mb
theorem row_cell {w : World} {a2 : Option Addr} {len2 cap2 : Nat} {zs2 : List Int} (h : IsRow .i64 w a2 len2 cap2 zs2) {i : Nat} (hi : i < len2) : ∃ ba ob, a2 = some ⟨ba, ob, none⟩ ∧ w.cell? ⟨ba, ob + i, none⟩ = some (.int .i64 (zs2.getD i 0)) := by
  rcases h with ⟨_, e, _⟩ | ⟨x, hx, d1, d2, d3, d4, d5⟩
  · omega
  · have hc := d4 i (by omega)
    have hc0 := d4 0 (by omega)
    obtain ⟨b, o, sp⟩ := x
    cases sp with
    | none =>
      refine ⟨b, o, hx, ?_⟩
      have e : (⟨b, o, none⟩ : Addr).add i = ⟨b, o + i, none⟩ := by
        unfold Addr.add; split
        · rename_i h0; rw [h0]; rfl
        · rfl
      rw [← e]; exact hc
    | some s =>
      exfalso
      have e : (⟨b, o, some s⟩ : Addr).add 0 = ⟨b, o, some s⟩ := rfl
      rw [e] at hc0
      unfold World.cell? at hc0
      split at hc0 <;> simp at hc0
set_option maxHeartbeats 4000000 in
theorem spineOrders_walk (a : Option Addr) (len cap : Nat) (zs : List Int) (turn : Int) (_ : (Lit.int .i64 turn).wf = true) (a2 : Option Addr) (len2 cap2 : Nat) (zs2 : List Int) (w : World) (he : ∃ ad, OverAt ad w) (ha : IsRow .i64 w a len cap zs) (ha2 : IsRow .i64 w a2 len2 cap2 zs2) :
    Calls Tryd.prog 4 #[.slice a len cap, .int .i64 turn, .slice a2 len2 cap2] w fun e w' => e = .returned (.bool true) ∧ Below w.heap.size w w' := by
  obtain ⟨i0, hi0, hz0, hz1, hz2⟩ := info_parts info_list
  obtain ⟨ad, hE⟩ := he
  have q0 := lawFirst6 ad w hE
  have HE : Hid (OverAt ad w) := hE
  have HA : Hid (IsRow .i64 w a len cap zs) := ha
  have HA2 : Hid (IsRow .i64 w a2 len2 cap2 zs2) := ha2
  clear hE ha ha2
  go_enter Tryd.func4, Tryd.ntmps4
  go_wp2_with fail
  refine q0.mono ?_
  rintro e w1 ⟨rfl, hb1⟩
  have B1 : Hid (Below w.heap.size w w1) := hb1
  clear q0 hb1
  by_cases hl : 200 < len
  · have I1 : (200 : Int) < (len : Int) := by omega
    go_wp2_with fail
    go_ret
    exact ⟨rfl, B1.out⟩
  · have I1 : ¬ (200 : Int) < (len : Int) := by omega
    by_cases hl2 : 10 < len2
    · have I2 : (10 : Int) < (len2 : Int) := by omega
      go_wp2_with fail
      go_ret
      exact ⟨rfl, B1.out⟩
    · have I2 : ¬ (10 : Int) < (len2 : Int) := by omega
      obtain ⟨k, hk, hk6⟩ : ∃ k : Nat, (wrap64 (turn.tmod 6 + 6)).tmod 6 = (k : Int) ∧ k < 6 := by
        have t1 := Int.tmod_lt_of_pos turn (by decide : (0 : Int) < 6)
        have t2 := Int.tmod_lt_of_pos (-turn) (by decide : (0 : Int) < 6)
        rw [Int.neg_tmod] at t2
        have e : wrap64 (turn.tmod 6 + 6) = turn.tmod 6 + 6 := by unfold wrap64; omega
        rw [e, Int.tmod_eq_emod_of_nonneg (by omega)]
        exact ⟨((turn.tmod 6 + 6) % 6).toNat, by omega, by omega⟩
      have hS0 := SeqAt.make (HA.out.below B1.out) 27
      obtain ⟨V, hV⟩ : ∃ V, V = w1.alloc (.cells #[.slice a len cap, .int .i64 0] 27) := ⟨_, rfl⟩
      rw [← hV] at hS0
      have hBV : Below w.heap.size w V := by rw [hV]; exact B1.out.trans (one_box.mono B1.out.size)
      have BV : Hid (Below w.heap.size w V) := hBV
      have P0 : Hid (OsTo w1.heap.size a len cap zs V [] (.slice none 0 0) V) := ⟨World.ownsRow_nil _ _ _ _, fun x hx => (by cases hx), ⟨0, by simp, hS0⟩, But.refl _ _⟩
      have hVS : w1.heap.size < V.heap.size := hS0.2.2.2.1
      have HV : Hid (w1.alloc (.cells #[.slice a len cap, .int .i64 0] 27) = V) := hV.symm
      have hwS : w.heap.size ≤ w1.heap.size := B1.out.size
      clear hS0 hV hBV
      go_wp2_with fail
      rw [HV.out]
      go_loopw [9, 10] (fun v s wr => ∃ (i : Nat) (X : List QEnt), s = .int .i64 i ∧ i ≤ 6 ∧ X.length = i ∧ Hid (OsTo w1.heap.size a len cap zs V X v wr)) (fun _ s _ => 6 - (intOf s).toNat)
      case atStart => exact ⟨0, [], rfl, by omega, rfl, P0⟩
      case round =>
        clear P0
        obtain ⟨i, X, rfl, hi, hXi, hM⟩ := hrel
        by_cases k1 : i < 6
        · have J1 : (i : Int) < 6 := by omega
          obtain ⟨p, hp, hsq⟩ := hM.out.2.2.1
          obtain ⟨W, hW⟩ : ∃ W, W = wr.alloc (.cells #[.int .i64 1, .int .i64 3] 3) := ⟨_, rfl⟩
          have bW : Below wr.heap.size wr W := by rw [hW]; exact one_box
          have hC : ColsAt wr.heap.size [1, 3] W := by rw [hW]; exact cols_xy wr 1 3
          have hSl := hsq.2.2.2.1
          have q2 := makeSet w1.heap.size a len cap zs p wr.heap.size 2 2 [1, 3] 5 W (hsq.on bW) (by omega) (by omega) hC (by omega) (by omega) (by simp) (fun i h => by
            obtain rfl | rfl : i = 0 ∨ i = 1 := by simp at h; omega
            · simp
            · simp)
          have HW : Hid (wr.alloc (.cells #[.int .i64 1, .int .i64 3] 3) = W) := hW.symm
          have FA : Hid (∀ w2 x p', p' ≤ p + 100 → MadeOk false W.heap.size w2 x → SeqAt w1.heap.size a len cap zs p' w2 → But w1.heap.size W w2 → (w2.alloc (.cells #[x.1] 32)).ownsRow V.heap.size 32 1 u9 X.length (X.map (·.1)) ∧ V.heap.size ≤ w2.heap.size ∧ ∀ v4 w4, w4.ownsRow V.heap.size 32 1 v4 (X.length + 1) (X.map (·.1) ++ [x.1]) → (w2.alloc (.cells #[x.1] 32)).grownBy w4 (Value.ownBlock u9) → OsTo w1.heap.size a len cap zs V (X ++ [x]) v4 w4) := by
            intro w2 x p' g1 g2 g3 g4
            have h1 := hM.out.2.2.2.size
            have h2 := g4.size
            have h3 := bW.size
            exact ⟨own_on (own_but (own_on hM.out.1 bW) g4 hVS) one_box, by omega, fun v4 w4 g5 g6 => hM.out.more hVS p' (by omega) bW g2 g3 g4 g5 g6⟩
          have hXl : X.length ≤ 5 := by omega
          obtain ⟨au, cu, eu⟩ := own_form hM.out.1
          have HXI : Hid (X.length = i) := hXi
          clear hM hsq hW bW hC hXi
          subst eu
          go_wp2_with fail
          rw [HW.out]
          refine q2.mono ?_
          rintro e w3 ⟨vz, Z, rfl, ⟨p', z1, z2, z3, z4, z5, z6, z7⟩, z8, z9⟩
          obtain ⟨az, cz, ez⟩ := z4.ents.form
          have hX3 : MadeOk false W.heap.size w3 (vz, Z) := ⟨z4, z1, z2, by show Z.length ≤ 8; omega, fun _ r => by have := z8 r; show -800 ≤ wt r Z ∧ wt r Z ≤ 800; omega⟩
          obtain ⟨f1, f2, f3⟩ := FA.out w3 (vz, Z) p' (by omega) hX3 z6 z7
          simp only at f1 f3
          have F1 : Hid ((w3.alloc (.cells #[vz] 32)).ownsRow V.heap.size 32 1 (.slice au X.length cu) X.length (X.map (·.1))) := f1
          have F3 : Hid (∀ v4 w4, w4.ownsRow V.heap.size 32 1 v4 (X.length + 1) (X.map (·.1) ++ [vz]) → (w3.alloc (.cells #[vz] 32)).grownBy w4 (Value.ownBlock (.slice au X.length cu)) → OsTo w1.heap.size a len cap zs V (X ++ [(vz, Z)]) v4 w4) := f3
          clear q2 z1 z2 z3 z4 z5 z6 z7 z8 z9 hX3 f1 f3 FA
          generalize Z.length = zl at *
          subst ez
          go_wp2_with (first | (at_builtin; refine wpList_append_own _ rfl _ _ 28 rfl V.heap.size 32 i0 (.slice none 0 0) 1 24 Tryd.underlying28 hi0 hz0 hz1 hz2 rfl (by decide) _ X.length _ rfl F1.out ⟨w3.heap.size, 0, none⟩ 1 1 [.slice az zl cz] rfl rfl cell_one_new (by simp [Value.oneCell']) (by unfold maxLen; omega) (by omega) (by simp; omega) ?_; intro v4 w4 hown4 hg4 _; have F : Hid (OsTo w1.heap.size a len cap zs V (X ++ [(.slice az zl cz, Z)]) v4 w4) := F3.out _ _ hown4 hg4; clear hown4 hg4 F1 F3) | fail)
          go_roundw
          case rel => exact ⟨i + 1, _, by go_num, by omega, by have := HXI.out; simp; omega, F⟩
          case measure => simp [intOf]; omega
        · have J1 : ¬ (i : Int) < 6 := by omega
          have hX6 : X.length = 6 := by omega
          have hLs := hM.out.ls (by omega)
          obtain ⟨av, cv, ev⟩ := hLs.form
          rw [hX6] at ev
          have BA : Hid (Below w.heap.size w wr) := BV.out.trans (hM.out.2.2.2.below hwS BV.out.size)
          have HL : Hid (LsIs wr (.slice av 6 cv) X) := by rw [← ev]; exact hLs
          have HMk : Hid (∀ x ∈ X, IsZ x.2 ∧ EOk x.2 ∧ x.2.length ≤ 8 ∧ ∀ r, -800 ≤ wt r x.2 ∧ wt r x.2 ≤ 800) := fun x hx => by
            obtain ⟨m1, m2, m3, m4, m5⟩ := hM.out.2.1 x hx
            exact ⟨m2, m3, m4, m5 rfl⟩
          have Q0 : Hid (OrTo wr wr.heap.size (wr.heap.size + 1) X k 0 ((wr.alloc (.cells #[.slice none 0 0, .pointer none] 31)).alloc (.cells #[.slice none 0 0, .pointer none] 31))) :=
            ⟨[], 0, 0, [], 0, 0, P2.start wr, ⟨fun r => by simp [flat, wt], by omega, fun r => by simp [wt]⟩, ⟨fun r => by simp [flat, wt], by omega, fun r => by simp [wt]⟩⟩
          have HX6 : Hid (X.length = 6) := hX6
          clear hM hLs hXi hX6 hi
          subst ev
          obtain ⟨wA, hwA⟩ : ∃ wA, wA = wr := ⟨_, rfl⟩
          go_wp2_with fail
          subst hwA
          go_loopw [14] (fun s wr => ∃ (i : Nat), s = .int .i64 i ∧ i ≤ 6 ∧ Hid (OrTo wA wA.heap.size (wA.heap.size + 1) X k i wr)) (fun s _ => 6 - (intOf s).toNat)
          case atStart => exact ⟨0, rfl, by omega, Q0⟩
          case round =>
            clear Q0
            obtain ⟨t, rfl, ht, hO⟩ := hrel
            by_cases k2 : t < 6
            · have J2 : (t : Int) < 6 := by omega
              obtain ⟨Aa, na, ma, Ab, nb, mb, h1, h2, h3⟩ := hO.out
              have htX : t < X.length := by rw [HX6.out]; exact k2
              obtain ⟨b, o, a1, c1, eb, y1, e1⟩ := HL.out.at t htX
              subst eb
              obtain ⟨j, hj⟩ : ∃ j, j = (t + k) % 6 := ⟨_, rfl⟩
              have hj6 : j < 6 := by omega
              have hjX : j < X.length := by rw [HX6.out]; exact hj6
              obtain ⟨b', o', a3, c3, eb', y3, e3⟩ := HL.out.at j hjX
              cases eb'
              have hmt := HMk.out X[t] (List.getElem_mem _)
              have hmj := HMk.out X[j] (List.getElem_mem _)
              have hLt := (HL.out.2.1 X[t] (List.getElem_mem _)).1
              have hLj := (HL.out.2.1 X[j] (List.getElem_mem _)).1
              have hrl : (X.drop k ++ X.take k).length = 6 := by rw [List.length_append, List.length_drop, List.length_take, HX6.out]; omega
              have hrt : (X.drop k ++ X.take k)[t]'(by rw [hrl]; exact k2) = X[j] := by
                subst hj; exact rot_at HX6.out hk6 k2 (by omega) (by rw [hrl]; exact k2)
              have q3 := p2Insert wA wA.heap.size (wA.heap.size + 1) Aa na ma Ab nb mb wr ad h1 (HE.out.on BA.out) X[t].1 X[t].2 hmt.1 hmt.2.1 hLt (by have := h2.2.1; have := hmt.2.2.1; omega) (h2.ok ht hmt.2.2.2)
              rw [e1] at q3
              have T2 : Hid (Took X (t + 1) (mkZ (Aa ++ X[t].2)) (ma + X[t].2.length)) := h2.more htX ht hmt.2.2.2 hmt.2.2.1
              have h3m := h3.more (by rw [hrl]; exact k2) ht (by rw [hrt]; exact hmj.2.2.2) (by rw [hrt]; exact hmj.2.2.1)
              rw [hrt] at h3m
              have T3 : Hid (Took (X.drop k ++ X.take k) (t + 1) (mkZ (Ab ++ X[j].2)) (mb + X[j].2.length)) := h3m
              have hb8 := hmj.2.2.1
              have hm3 := h3.2.1
              have Q4 : Hid (∀ w4 A n m, P2 wA wA.heap.size (wA.heap.size + 1) A n m Ab nb mb w4 → Calls Tryd.prog 11 #[.pointer (some ⟨wA.heap.size + 1, 0, none⟩), .slice a3 X[j].2.length c3] w4 fun e w' => e = .returned .nilIface ∧ ∃ n', P2 wA (wA.heap.size + 1) wA.heap.size (mkZ (Ab ++ X[j].2)) n' (mb + X[j].2.length) A n m w') := fun w4 A n m h4 => by
                have := p2Insert wA (wA.heap.size + 1) wA.heap.size Ab nb mb A n m w4 ad h4.swap (HE.out.on BA.out) X[j].1 X[j].2 hmj.1 hmj.2.1 hLj (by omega) (h3.ok ht hmj.2.2.2)
                rw [e3] at this
                exact this.mono fun e w' ⟨g1, g2⟩ => ⟨g1, _, g2⟩
              have Y1 := cell_on y1 h1.below
              have Y3 : Hid (∀ w4, Below wA.heap.size wA w4 → w4.cell? ⟨b, o + j, none⟩ = some (.slice a3 X[j].2.length c3)) := fun w4 hB => cell_on y3 hB
              have hjk : Hid (j = (t + k) % 6) := hj
              clear hO h1 h2 h3 h3m hmt hmj hLt hLj hrl hrt y1 y3 e1 e3 hj
              generalize mkZ (Aa ++ X[t].2) = A4 at *
              generalize ma + X[t].2.length = m4 at *
              generalize X[t].2.length = nt at *
              generalize mkZ (Ab ++ X[j].2) = A5 at *
              generalize hm5 : mb + X[j].2.length = m5 at *
              have hm5' : m5 ≤ 8 * t + 8 := by omega
              clear hm5 hb8 hm3
              generalize X[j].2.length = nj at *
              go_wp2_with fail
              refine q3.mono ?_
              rintro e w4 ⟨rfl, h4⟩
              obtain ⟨n4, hn4⟩ : ∃ n4, n4 = (na + if X[t].2 = [] then 0 else 1) := ⟨_, rfl⟩
              rw [← hn4] at h4
              clear hn4
              have y3 := Y3.out w4 h4.below
              have q4 := Q4.out w4 _ _ _ h4
              clear q3 Q4 Y3 h4 Y1
              have hjx : ((t : Int) % 6 + (k : Int)) % 6 = (j : Int) := by have := hjk.out; omega
              have J3 : (j : Int) < 6 := by omega
              go_wp2_with fail
              refine q4.mono ?_
              rintro e w5 ⟨rfl, n5, h5⟩
              clear q4 y3 hjx
              by_cases hw : t < len2
              · have J4 : (t : Int) < (len2 : Int) := by omega
                obtain ⟨ba, ob, ea2, x0⟩ := row_cell HA2.out hw
                have x1 := cell_on (cell_on x0 BA.out) h5.below
                have EA : Hid (a2 = some ⟨ba, ob, none⟩) := ea2
                clear x0
                generalize zs2.getD t 0 = zi at *
                obtain ⟨tt, htt⟩ : ∃ tt, zi.tmod 40 = tt := ⟨_, rfl⟩
                have t1 : -39 ≤ tt := by have := Int.tmod_lt_of_pos (-zi) (show (0 : Int) < 40 by omega); rw [Int.neg_tmod] at this; omega
                have t2 : tt ≤ 39 := by have := Int.tmod_lt_of_pos zi (show (0 : Int) < 40 by omega); omega
                have q6 := p2Work wA (wA.heap.size + 1) wA.heap.size A5 n5 m5 A4 n4 m4 w5 h5 tt (by omega) (by omega)
                have H6 : Hid (∀ e w6, P2Work wA (wA.heap.size + 1) wA.heap.size A5 m5 A4 n4 m4 e w6 → ∃ k', e = .returned (.int .i64 k') ∧ OrTo wA wA.heap.size (wA.heap.size + 1) X k (t + 1) w6) := fun e w6 ⟨k', n', m', g1, g2, g3⟩ =>
                  ⟨k', g1, A4, n4, m4, A5, n', m', g2.swap, T2.out, ⟨T3.out.1, Nat.le_trans g3 T3.out.2.1, T3.out.2.2⟩⟩
                clear h5 T2 T3
                subst ea2
                go_wp2_with fail
                refine q6.mono ?_
                intro e w6 h6
                obtain ⟨k', rfl, h7⟩ := H6.out e w6 h6
                have H7 : Hid (OrTo wA wA.heap.size (wA.heap.size + 1) X k (t + 1) w6) := h7
                clear q6 H6 h6 h7 x1 htt
                go_wp2_with fail
                go_roundw
                case rel => exact ⟨t + 1, by go_num, by omega, H7⟩
                case measure => simp [intOf]; omega
              · have J4 : ¬ (t : Int) < (len2 : Int) := by omega
                have H7 : Hid (OrTo wA wA.heap.size (wA.heap.size + 1) X k (t + 1) w5)   := ⟨A4, n4, m4, A5, n5, m5, h5.swap, T2.out, T3.out⟩
                clear h5 T2 T3
                go_wp2_with fail
                go_roundw
                case rel => exact ⟨t + 1, by go_num, by omega, H7⟩
                case measure => simp [intOf]; omega
            · have J2 : ¬ (t : Int) < 6 := by omega
              obtain rfl : t = 6 := by omega
              obtain ⟨Aa, na, ma, Ab, nb, mb, h1, h2, h3⟩ := hO.out
              have hm1 := h2.2.1
              have hm2 := h3.2.1
              have hrl : (X.drop k ++ X.take k).length = 6 := by rw [List.length_append, List.length_drop, List.length_take, HX6.out]; omega
              have w1' : ∀ r, wt r Aa = wt r (flat X) := fun r => by rw [h2.1 r, ← HX6.out, List.take_length]
              have w2' : ∀ r, wt r Ab = wt r (flat X) := fun r => by rw [h3.1 r, ← rot_wt X k r]; congr 2; rw [← hrl, List.take_length]
              have hokX : okZ (flat X) = true := (okZ_iff _).2 (fun r => by rw [← w1' r]; have := h2.2.2 r; exact okI (by omega))
              obtain rfl : mkZ (flat X) = Aa := mkZ_of hokX h1.isZ w1'
              obtain rfl : mkZ (flat X) = Ab := mkZ_of hokX h1.swap.isZ w2'
              have hfl : (flat X).length ≤ 65536 := by
                have : ∀ Y : List QEnt, (∀ x ∈ Y, x.2.length ≤ 8) → (flat Y).length ≤ 8 * Y.length := by
                  intro Y
                  induction Y with
                  | nil => intro _; simp [flat]
                  | cons x Y ih =>
                    intro h
                    have h1 := ih (fun y hy => h y (by simp [hy]))
                    have h2 := h x (by simp)
                    rw [flat_cons, List.length_append, List.length_cons]; omega
                have := this X (fun x hx => (HMk.out x hx).2.2.1)
                rw [HX6.out] at this; omega
              have q7 := refAll X _ wA wr HL.out h1.below hfl 0 (by rw [hokX]; rfl)
              have H1 : Hid (P2 wA wA.heap.size (wA.heap.size + 1) (mkZ (flat X)) na ma (mkZ (flat X)) nb mb wr) := h1
              clear hO h1 h2 h3 w1' w2' hokX hfl hrl
              generalize mkZ (flat X) = M at *
              go_wp2_with fail
              refine q7.mono ?_
              rintro e w7 ⟨v7, rfl, ⟨us7, g1, g2⟩, hb7⟩
              have E7 : Hid (EntsIs w7 v7 M) := ⟨us7, EntsAt.of_own g1, g2.on (H1.out.below.trans (hb7.mono H1.out.below.size))⟩
              have H7 : Hid (P2 wA wA.heap.size (wA.heap.size + 1) M na ma M nb mb w7) := H1.out.on hb7
              have q8 := p2All wA wA.heap.size (wA.heap.size + 1) M na ma M nb mb w7 ad H7.out (HE.out.on BA.out) (by omega)
              obtain ⟨a7, c7, e7⟩ := E7.out.form
              clear q7 g1 g2 hb7 H1
              subst e7
              go_wp2_with fail
              refine q8.mono ?_
              rintro e w8 ⟨v8, rfl, h8, hb8⟩
              have q9 := sameEnts6 M v8 _ w8 h8.ents (E7.out.on hb8)
              have B8 : Hid (Below w7.heap.size w7 w8) := hb8
              obtain ⟨a8, c8, e8⟩ := h8.ents.form
              clear q8 h8 hb8
              subst e8
              go_wp2_with fail
              refine q9.mono ?_
              rintro e w9 ⟨rfl, hb9⟩
              have B9 : Hid (Below w7.heap.size w7 w9) := B8.out.trans (hb9.mono B8.out.size)
              have qa := p2All wA (wA.heap.size + 1) wA.heap.size M nb mb M na ma w9 ad (H7.out.on B9.out).swap (HE.out.on BA.out) (by omega)
              clear q9 hb9 B8
              go_wp2_with fail
              refine qa.mono ?_
              rintro e wa ⟨va, rfl, ha, hba⟩
              have Ba : Hid (Below w7.heap.size w7 wa) := B9.out.trans (hba.mono B9.out.size)
              have qb := sameEnts6 M va _ wa ha.ents (E7.out.on Ba.out)
              obtain ⟨aa, ca, ea⟩ := ha.ents.form
              clear qa ha hba B9
              subst ea
              go_wp2_with fail
              refine qb.mono ?_
              rintro e wb ⟨rfl, hbb⟩
              have Bb : Hid (Below w7.heap.size w7 wb) := Ba.out.trans (hbb.mono Ba.out.size)
              have qc := p2Rows wA wA.heap.size (wA.heap.size + 1) M na ma M nb mb wb ad (H7.out.on Bb.out) (HE.out.on BA.out) (by omega)
              clear qb hbb Ba
              go_wp2_with fail
              refine qc.mono ?_
              rintro e wc ⟨rfl, hbc⟩
              have Bc : Hid (Below w7.heap.size w7 wc) := Bb.out.trans (hbc.mono Bb.out.size)
              have qd := p2Rows wA (wA.heap.size + 1) wA.heap.size M nb mb M na ma wc ad (H7.out.on Bc.out).swap (HE.out.on BA.out) (by omega)
              clear qc hbc Bb
              go_wp2_with fail
              refine qd.mono ?_
              rintro e wd ⟨rfl, hbd⟩
              have BF : Hid (Below w.heap.size w wd) := by
                have h9 := (H7.out.on (Bc.out.trans (hbd.mono Bc.out.size))).below
                exact BA.out.trans (h9.mono BA.out.size)
              clear qd hbd Bc
              go_wp2_with fail
              go_ret
              exact ⟨rfl, BF.out⟩
end Go.Proofs.YtanfjnhpdchbbaaDoor
