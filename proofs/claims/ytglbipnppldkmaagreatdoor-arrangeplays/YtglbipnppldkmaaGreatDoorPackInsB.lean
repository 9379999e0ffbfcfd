/- Texts of one claim, one behind the other. -/
import Derived.Test.YtglbipnppldkmaaGreatDoorPackMakeB
import Derived.Test.YtglbipnppldkmaaGreatDoorPackWorkB
import Derived.Test.YtglbipnppldkmaaGreatDoorPackHeldB
import Derived.Test.YtglbipnppldkmaaGreatDoorPackTurnB
import Derived.Test.YtglbipnppldkmaaGreatDoorPackArrB
import Derived.Test.YtglbipnppldkmaaGreatDoorPackLawB
/- Rows and entries that are newly made. -/
namespace Go.Proofs.YtglbipnppldkmaaGreatDoor
open Go.RowKit
set_option maxRecDepth 100000
theorem isZ_one (r : List Val) (k : Int) (h0 : k ≠ 0) : IsZ [(r, k)] := ⟨by simp [SortedZ], fun e he => by simp at he; rw [he]; exact h0⟩
theorem row_new (w : World) (k n : Int) (s : ByteArray) : RowIs (w.alloc (.cells #[.int .i64 k, .int .i64 n, .string s] 56)) (.slice (some ⟨w.heap.size, 0, none⟩) 1 1) [(k, n, s)] := by
  refine .inr ⟨w.heap.size, 0, 1, rfl, Nat.le_refl _, by unfold maxLen; omega, by simp, fun i hi => ?_⟩
  obtain rfl : i = 0 := by simp at hi; exact hi
  exact ⟨by rw [World.cell?_alloc_at _ _ _ _ rfl]; rfl, by rw [World.cell?_alloc_at _ _ _ _ rfl]; rfl, by rw [World.cell?_alloc_at _ _ _ _ rfl]; rfl⟩
theorem ents_one {w : World} {v : Value} {r : List Val} (h : RowIs w v r) (n : Int) : EntsIs (w.alloc (.cells #[v, .int .i64 n] 37)) (.slice (some ⟨w.heap.size, 0, none⟩) 1 1) [(r, n)] := by
  refine ⟨[(v, n)], .inr ⟨w.heap.size, 0, 1, rfl, Nat.le_refl _, by unfold maxLen; omega, by simp, fun i hi => ?_⟩, Reads.one (h.on one_box) n⟩
  obtain rfl : i = 0 := by simp at hi; exact hi
  exact ⟨by rw [World.cell?_alloc_at _ _ _ _ rfl]; rfl, by rw [World.cell?_alloc_at _ _ _ _ rfl]; rfl⟩
theorem ents_two {w : World} {v : Value} {r : List Val} (h : RowIs w v r) (n m : Int) : EntsIs (w.alloc (.cells #[v, .int .i64 n, v, .int .i64 m] 37)) (.slice (some ⟨w.heap.size, 0, none⟩) 2 2) [(r, n), (r, m)] := by
  refine ⟨[(v, n), (v, m)], .inr ⟨w.heap.size, 0, 2, rfl, Nat.le_refl _, by unfold maxLen; omega, by simp, fun i hi => ?_⟩, (Reads.one (h.on one_box) n).snoc (h.on one_box) m⟩
  obtain rfl | rfl : i = 0 ∨ i = 1 := by simp at hi; omega
  · exact ⟨by rw [World.cell?_alloc_at _ _ _ _ rfl]; rfl, by rw [World.cell?_alloc_at _ _ _ _ rfl]; rfl⟩
  · exact ⟨by rw [World.cell?_alloc_at _ _ _ _ rfl]; rfl, by rw [World.cell?_alloc_at _ _ _ _ rfl]; rfl⟩
end Go.Proofs.YtglbipnppldkmaaGreatDoor
/- What an arrange's Insert answers, and what it leaves. -/
namespace Go.Proofs.YtglbipnppldkmaaGreatDoor
open Go.RowKit Go.Sort
set_option maxRecDepth 100000
/-- The error of rows without the key's columns. -/
def ArityAt (a : Addr) (w : World) : Prop := w.cell? ⟨0, 0, none⟩ = some (errV a)
theorem ArityAt.on {a : Addr} {w w' : World} (h : ArityAt a w) (hb : Below w.heap.size w w') : ArityAt a w' := cell_on h hb
/-- Have all rows the key's columns? -/
def hasK (ks : List Int) (Z : List Ent) : Bool := Z.all fun e => allIn e.1 ks
theorem hasK_take {ks : List Int} {Z : List Ent} {j : Nat} (h : j < Z.length) : hasK ks (Z.take (j + 1)) = (hasK ks (Z.take j) && allIn Z[j].1 ks) := by
  unfold hasK; rw [List.take_succ_eq_append_getElem h, List.all_append]; simp
theorem hasK_not {ks : List Int} {Z : List Ent} {j : Nat} (h : j < Z.length) (h' : allIn Z[j].1 ks = false) : hasK ks Z = false := by
  unfold hasK; rw [List.all_eq_false]; exact ⟨Z[j], List.getElem_mem h, by simp [h']⟩
/-- What Insert answers. -/
def insE (aa ad : Addr) (k ok : Bool) : Value := if k then ovE ad ok else errV aa
/-- All of it behind an Insert. -/
def insZ (ks : List Int) (A Z : List Ent) : List Ent := if hasK ks Z && okZ (A ++ Z) then mkZ (A ++ Z) else A
/-- What Insert leaves. -/
def InsA (F G : Nat → Prop) (sb : Sb) (ks : List Int) (A : List Ent) (m : Nat) (Z : List Ent) (w w' : World) : Prop :=
  Chg F w w' ∧ ∃ n' m', m' ≤ m + Z.length ∧ ArIs (Grow F w w') G sb ks (insZ ks A Z) n' m' w'
theorem InsA.of {F G : Nat → Prop} {sb : Sb} {ks : List Int} {A : List Ent} {n m n' m' : Nat} {Z : List Ent} {w w' : World} (h : ArIs F G sb ks A n m w) (hc : Chg F w w') (hs : SpIs (Grow F w w') sb (insZ ks A Z) n' m' w') (hm : m' ≤ m + Z.length) : InsA F G sb ks A m Z w w' := by
  refine ⟨hc, n', m', hm, hs, h.2.1.keep hc.size (fun k e => hc.2.2.2.2 k (fun e' => h.2.2.1 k e' e) (h.2.1.2.1 k e)), fun k e g => ?_, fun e he => ?_, h.2.2.2.2⟩
  · rcases e with e | e
    · exact h.2.2.1 k e g
    · have := h.2.1.2.1 k g; omega
  · unfold insZ at he
    split at he
    · rename_i hk
      obtain ⟨x, hx, hxe⟩ := mkZ_rows _ e he
      rw [← hxe]
      rcases List.mem_append.1 hx with hx | hx
      · exact h.2.2.2.1 x hx
      · have hk1 : hasK ks Z = true := by
          cases h1 : hasK ks Z with
          | true => rfl
          | false => rw [h1] at hk; cases hk
        unfold hasK at hk1
        exact List.all_eq_true.1 hk1 x hx
    · exact h.2.2.2.1 e he
theorem SpIs.grow2 {F : Nat → Prop} {sb : Sb} {A : List Ent} {n m : Nat} {a b c : World} (h : SpIs (Grow (Grow F a b) b c) sb A n m c) (hab : a.heap.size ≤ b.heap.size) (hbc : b.heap.size ≤ c.heap.size) (hF : ∀ k, F k → k < a.heap.size) : SpIs (Grow F a c) sb A n m c := by
  obtain ⟨st, h1, h2⟩ := h
  exact ⟨st, h1.grow2 hab hbc hF, h2⟩
theorem SpIs.from {F : Nat → Prop} {sb : Sb} {A : List Ent} {n m : Nat} {a b c : World} (h : SpIs (Grow F b c) sb A n m c) (hab : a.heap.size ≤ b.heap.size) (hbc : b.heap.size ≤ c.heap.size) (hF : ∀ k, F k → k < a.heap.size) : SpIs (Grow F a c) sb A n m c := by
  obtain ⟨st, h1, h2⟩ := h
  refine ⟨st, h1.mono (fun k e => ?_) (fun k e => ?_), h2⟩
  · rcases e with e | e
    · exact .inl e
    · exact .inr ⟨by omega, e.2⟩
  · rcases e with e | e
    · have := hF k e; omega
    · exact e.2
theorem Chg.of_grow {F : Nat → Prop} {w w1 w2 : World} (h : Below w.heap.size w w1) (k : Chg F w1 w2) : Chg F w w2 := (Chg.of_below h).trans' k
theorem RowIs.chg {F : Nat → Prop} {w w' : World} {v : Value} {l : List Val} (h : RowIs w v l) (hc : Chg F w w') (hn : ∀ k, v.ownBlock = some k → ¬ F k) : RowIs w' v l := by
  rcases h with h | ⟨g, o, cap, rfl, g1, g2, g3, g4⟩
  · exact .inl h
  · have hb := hc.2.2.2.2 g (hn g rfl) g3
    refine .inr ⟨g, o, cap, rfl, g1, g2, Nat.lt_of_lt_of_le g3 hc.size, fun i hi => ?_⟩
    have hc : ∀ q, w'.cell? ⟨g, q, none⟩ = w.cell? ⟨g, q, none⟩ := fun q => World.cell?_of_block (w := w) hb
    rw [hc, hc, hc]
    exact g4 i hi
set_option maxHeartbeats 8000000 in
theorem arInsert (F G : Nat → Prop) (sb : Sb) (ks : List Int) (A : List Ent) (n m : Nat) (Z : List Ent) (v : Value) (aa ad : Addr) (w : World) (h : ArIs F G sb ks A n m w) (hy : ArityAt aa w) (ho : OverAt ad w) (hz : hasK ks Z = true → IsZ Z ∧ EOk Z) (hv : EntsIs w v Z) (hm : m + Z.length ≤ 30000) :
    Calls Tryz.prog 14 #[.pointer (some ⟨sb.b, 0, none⟩), v] w fun e w' => e = .returned (insE aa ad (hasK ks Z) (okZ (A ++ Z))) ∧ InsA F G sb ks A m Z w w' := by
  obtain ⟨a0, c0, rfl⟩ := hv.form
  have HA : Hid (ArIs F G sb ks A n m w) := h
  have HV : Hid (EntsIs w (.slice a0 Z.length c0) Z) := hv
  have HY : Hid (ArityAt aa w) := hy
  have HO : Hid (OverAt ad w) := ho
  have HZ : Hid (hasK ks Z = true → IsZ Z ∧ EOk Z) := hz
  have hZl : Z.length ≤ 30000 := by omega
  have hcv := h.2.1.1.form
  clear h hv hy ho hz
  go_enter Tryz.func14, Tryz.ntmps14
  go_wp2_with fail
  go_loopw [12] (fun i wr => ∃ j : Nat, j ≤ Z.length ∧ i = .int .i64 j ∧ hasK ks (Z.take j) = true ∧ Below w.heap.size w wr) (fun i _ => Z.length - (intOf i).toNat)
  case atStart => exact ⟨0, by omega, rfl, rfl, Below.refl _ _⟩
  case round =>
    obtain ⟨j, hj, rfl, hK, hB⟩ := hrel
    have HB : Hid (Below w.heap.size w wr) := hB
    have HK : Hid (hasK ks (Z.take j) = true) := hK
    clear hB hK
    by_cases k1 : j < Z.length
    · have I1 : (j : Int) < (Z.length : Int) := by omega
      obtain ⟨b, o, a1, c1, rfl, x1, x2, x3⟩ := HV.out.at j k1
      have y1 := cell_on x1 HB.out
      have y2 := cell_on x2 HB.out
      obtain ⟨W, hW⟩ : ∃ W, W = wr.alloc (.cells #[.slice a1 Z[j].1.length c1, .int .i64 Z[j].2] 37) := ⟨_, rfl⟩
      have bW : Below wr.heap.size wr W := by rw [hW]; exact one_box
      have hBW : Below w.heap.size w W := HB.out.trans (bW.mono HB.out.size)
      have u0 : W.cell? ⟨wr.heap.size, 0, none⟩ = some (.slice a1 Z[j].1.length c1) := by rw [hW, World.cell?_alloc_at _ _ _ _ rfl]; rfl
      obtain ⟨ac, cc, ec⟩ := hcv
      have u1 : W.cell? ⟨sb.b, 0, none⟩ = some (.slice ac ks.length cc) := by rw [← ec]; exact (HA.out.on hBW).1.cols
      have HQ : Hid (∀ W', Below W.heap.size W W' → Calls Tryz.prog 32 #[.slice a1 Z[j].1.length c1, .slice ac ks.length cc] W' fun e w' => ∃ r, e = .returned r ∧ ∃ a2 n2 c2, r = .tuple #[.slice a2 n2 c2, .bool (allIn Z[j].1 ks)] ∧ Below W.heap.size W w') := fun W' hW' => by
        have hA := (HA.out.on hBW).on hW'
        have := rowPick Z[j].1 ks _ _ W' hA.2.2.2.2 ((x3.on hBW).on hW') hA.2.1.1
        rw [ec] at this
        refine this.mono ?_
        rintro e w' ⟨v, rfl, k1, k2⟩
        obtain ⟨a2, c2, rfl⟩ := k1.form
        exact ⟨_, rfl, a2, _, c2, rfl, hW'.trans (k2.mono hW'.size)⟩
      have HW : Hid (wr.alloc (.cells #[.slice a1 Z[j].1.length c1, .int .i64 Z[j].2] 37) = W) := hW.symm
      have HBW : Hid (Below w.heap.size w W) := hBW
      have HN : Hid (allIn Z[j].1 ks = false → hasK ks Z = false) := hasK_not k1
      have HT : Hid (allIn Z[j].1 ks = true → hasK ks (Z.take (j + 1)) = true) := fun h => by rw [hasK_take k1, HK.out, h]; rfl
      clear x1 x2 x3 hW bW hBW ec
      generalize Z[j].1.length = n3 at *
      generalize Z[j].2 = k3 at *
      generalize allIn Z[j].1 ks = c at *
      go_wp2_with fail
      rw [HW.out]
      go_region_law (first | (refine step_call2e (by rfl) 32 (.tmp 18) (.tmp 22) 33 22 (by rfl) (enters_of Tryz.func32 (by kernel_rfl) rfl) _ _ (by rfl) (by rfl) _ (HQ.out _ ((Below.refl _ _).drew)) ?_; rintro r7 w7 ⟨a7, n7, c7, rfl, b7⟩; have B7 : Hid (Below W.heap.size W w7) := b7; clear b7))
      all_goals (
        have hb7 : Below w.heap.size w w7 := HBW.out.trans (B7.out.mono HBW.out.size)
        have z7 := HY.out.on hb7
        unfold ArityAt at z7
        have HB7 : Hid (Below w.heap.size w w7) := hb7
        clear hb7 HQ HW y1 y2 u0 u1
        cases c
        · have E : Hid (hasK ks Z = false) := HN.out rfl
          have R : Hid (InsA F G sb ks A m Z w w7) := by
            refine InsA.of HA.out (Chg.of_below HB7.out) (n' := n) (m' := m) ?_ (by omega)
            have e : insZ ks A Z = A := by unfold insZ; rw [E.out]; rfl
            rw [e]; exact (HA.out.1.on HB7.out).grow
          clear HN HT
          go_wp2_with fail
          go_ret
          exact ⟨by rw [E.out]; rfl, R.out⟩
        · have E : Hid (hasK ks (Z.take (j + 1)) = true) := HT.out rfl
          clear HN HT z7
          go_wp2_with fail
          go_roundw
          case rel => exact ⟨j + 1, by omega, by go_num, E.out, HB7.out⟩
          case measure => simp [intOf]; omega)
    · have I1 : ¬ (j : Int) < (Z.length : Int) := by omega
      have E : Hid (hasK ks Z = true) := by
        have := HK.out
        rw [List.take_of_length_le (by omega)] at this; exact this
      have hF := HA.out.1.lt
      have q := spInsert F sb A n m Z _ ad wr (HA.out.1.on HB.out) (HO.out.on HB.out) (HZ.out E.out).1 (HZ.out E.out).2 (HV.out.on HB.out) hm
      have HF : Hid (∀ k, F k → k < w.heap.size) := hF
      obtain ⟨ok, hok⟩ : ∃ ok, okZ (A ++ Z) = ok := ⟨_, rfl⟩
      have HI : Hid (∀ w2, InsIs F sb A n m Z wr w2 → (ok = true → ∃ n2, Chg F wr w2 ∧ SpIs (Grow F wr w2) sb (insZ ks A Z) n2 (m + Z.length) w2) ∧ (ok = false → InsA F G sb ks A m Z w w2)) := fun w2 ⟨h1, h2, h3⟩ => by
        refine ⟨fun e => ⟨n + if Z = [] then 0 else 1, h1, ?_⟩, fun e => ?_⟩
        · have e2 : insZ ks A Z = mkZ (A ++ Z) := by unfold insZ; rw [E.out, hok, e]; rfl
          rw [e2]; exact h2 (by rw [hok]; exact e)
        · refine InsA.of HA.out (Chg.of_grow HB.out h1) (n' := n) (m' := m) ?_ (by omega)
          have e2 : insZ ks A Z = A := by unfold insZ; rw [E.out, hok, e]; rfl
          rw [e2]
          exact (h3 (by rw [hok]; exact e)).from HB.out.size h1.size HF.out
      rw [hok] at q
      have HOK : Hid (okZ (A ++ Z) = ok) := hok
      have BW : Hid (∀ w2 w3, Chg F wr w2 → Chg (Grow F wr w2) w2 w3 → ∀ n3 m3, m3 ≤ m + Z.length → SpIs (Grow (Grow F wr w2) w2 w3) sb (insZ ks A Z) n3 m3 w3 → InsA F G sb ks A m Z w w3) := fun w2 w3 h1 h2 n3 m3 h3 h4 => by
        have hF' : ∀ k, F k → k < wr.heap.size := fun k e => Nat.lt_of_lt_of_le (HF.out k e) HB.out.size
        exact InsA.of HA.out (Chg.of_grow HB.out (h1.trans h2)) ((h4.grow2 h1.size h2.size hF').from HB.out.size (Nat.le_trans h1.size h2.size) HF.out) h3
      clear hok hF HK HV HZ HO HY
      go_wp2_with fail
      refine q.mono ?_
      rintro e w2 ⟨rfl, h2⟩
      have hI := HI.out w2 h2
      clear q HI h2
      cases ok
      · have R : Hid (InsA F G sb ks A m Z w w2) := hI.2 rfl
        clear hI
        rw [ovE_f, errV_ne]
        go_wp2_with fail
        go_ret
        exact ⟨by rw [E.out, HOK.out]; rfl, R.out⟩
      · obtain ⟨n2, h3, h4⟩ := hI.1 rfl
        obtain ⟨st, h5, h6⟩ := h4
        have qb := spBatchesX _ sb _ n2 _ st w2 h5
        have H4 : Hid (SpIs (Grow F wr w2) sb (insZ ks A Z) n2 (m + Z.length) w2) := ⟨st, h5, h6⟩
        have H3 : Hid (Chg F wr w2) := h3
        clear hI h5 h6 h3
        rw [ovE_t]
        by_cases hb : 16 < n2
        · have I2 : (16 : Int) < (n2 : Int) := by omega
          have qw := spWork _ sb _ n2 _ 9223372036854775807 w2 H4.out hm (by omega)
          go_wp2_with fail
          refine qb.mono ?_
          rintro e w3 ⟨rfl, rfl⟩
          clear qb
          go_wp2_with fail
          refine qw.mono ?_
          rintro e w4 ⟨k4, rfl, n4, m4, s4, c4, _, _, _, l4, _⟩
          have R : Hid (InsA F G sb ks A m Z w w4) := BW.out _ w4 H3.out c4 n4 m4 l4 s4
          clear qw s4 c4
          go_wp2_with fail
          go_ret
          exact ⟨by rw [E.out, HOK.out]; rfl, R.out⟩
        · have I2 : ¬ (16 : Int) < (n2 : Int) := by omega
          have R : Hid (InsA F G sb ks A m Z w w2) := BW.out w2 w2 H3.out (Chg.refl _ _) n2 _ (Nat.le_refl _) H4.out.grow
          go_wp2_with fail
          refine qb.mono ?_
          rintro e w3 ⟨rfl, rfl⟩
          clear qb
          go_wp2_with fail
          go_ret
          exact ⟨by rw [E.out, HOK.out]; rfl, R.out⟩
end Go.Proofs.YtglbipnppldkmaaGreatDoor
/- An arrange among what a law holds: what each call leaves. -/
namespace Go.Proofs.YtglbipnppldkmaaGreatDoor
open Go.RowKit Go.Sort
set_option maxRecDepth 100000
theorem fr_cols (cv : Value) (ks : List Int) : Fr (ColsP cv ks) := fun _ _ h => ⟨h.2.1, fun _ hs hk => h.keep hs hk⟩
/-- What a law holds: its maker, z-sets that it reads, an arrange. -/
def PA (ks : List Int) (L : List QEnt) (S : Nat) (a : Option Addr) (len cap : Nat) (zs : List Int) (p : Nat) (sb : Sb) (A : List Ent) (m : Nat) (w0 w : World) : Prop :=
  (∃ n, PS (ColsP sb.cv ks) L S a len cap zs p sb A n m w0 w) ∧ (∀ e ∈ A, allIn e.1 ks = true) ∧ ks.length ≤ 65536
section
variable {ks : List Int} {L : List QEnt} {S : Nat} {a : Option Addr} {len cap : Nat} {zs : List Int} {p : Nat} {sb : Sb} {A : List Ent} {m : Nat} {w0 w : World}
theorem PA.below (h : PA ks L S a len cap zs p sb A m w0 w) : Below w0.heap.size w0 w := by obtain ⟨⟨n, h1⟩, _⟩ := h; exact h1.below
theorem PA.seq (h : PA ks L S a len cap zs p sb A m w0 w) : SeqAt S a len cap zs p w := by obtain ⟨⟨n, h1⟩, _⟩ := h; exact h1.seq
theorem PA.ents (h : PA ks L S a len cap zs p sb A m w0 w) {x : QEnt} (hx : x ∈ L) : EntsIs w x.1 x.2 := by obtain ⟨⟨n, h1⟩, _⟩ := h; exact h1.ents hx
theorem PA.on (h : PA ks L S a len cap zs p sb A m w0 w) {w' : World} (hB : Below w.heap.size w w') : PA ks L S a len cap zs p sb A m w0 w' := by
  obtain ⟨⟨n, h1⟩, h2⟩ := h; exact ⟨⟨n, h1.on (fr_cols _ _) hB⟩, h2⟩
theorem PA.sub (h : PA ks L S a len cap zs p sb A m w0 w) {L' : List QEnt} (hL : ∀ x ∈ L', x ∈ L) : PA ks L' S a len cap zs p sb A m w0 w := by
  obtain ⟨⟨n, h1⟩, h2⟩ := h; exact ⟨⟨n, h1.sub hL⟩, h2⟩
theorem PA.made (h : PA ks L S a len cap zs p sb A m w0 w) {W w' : World} {p' : Nat} {v : Value} {Z : List Ent} (hB : Below w.heap.size w W) (hb : But S W w') (hz : EntsNew W.heap.size Z v w') (hq : SeqAt S a len cap zs p' w') : PA ks ((v, Z) :: L) S a len cap zs p' sb A m w0 w' := by
  obtain ⟨⟨n, h1⟩, h2⟩ := h; exact ⟨⟨n, h1.made (fr_cols _ _) hB hb hz hq⟩, h2⟩
theorem PA.seqd (h : PA ks L S a len cap zs p sb A m w0 w) {W w' : World} {p' : Nat} (hB : Below w.heap.size w W) (hb : But S W w') (hq : SeqAt S a len cap zs p' w') : PA ks L S a len cap zs p' sb A m w0 w' :=
  (h.made hB hb (v := .slice none 0 0) (Z := []) ⟨[], World.ownsRow_nil _ _ _ _, Reads.nil _, fun i h => (by simp at h)⟩ hq).sub (fun x hx => List.mem_cons_of_mem _ hx)
theorem PA.ar (h : PA ks L S a len cap zs p sb A m w0 w) : ∃ F G n, ArIs F G sb ks A n m w := by
  obtain ⟨⟨n, F, G, Rl, h1, h2, h3, h4, h5, h6⟩, h7, h8⟩ := h
  exact ⟨F, G, n, h3, h4, h2, h7, h8⟩
theorem PA.all (h : PA ks L S a len cap zs p sb A m w0 w) : IsZ A ∧ A.length ≤ m ∧ EOk A := by
  obtain ⟨F, G, n, h1⟩ := h.ar; exact h1.1.all
end
theorem paInsert (ks : List Int) (L : List QEnt) (S : Nat) (a : Option Addr) (len cap : Nat) (zs : List Int) (p : Nat) (sb : Sb) (A : List Ent) (m : Nat) (w0 w : World) (aa ad : Addr) (h : PA ks L S a len cap zs p sb A m w0 w) (hy : ArityAt aa w0) (ho : OverAt ad w0) (v : Value) (Z : List Ent) (hz : hasK ks Z = true → IsZ Z ∧ EOk Z) (hv : EntsIs w v Z) (hm : m + Z.length ≤ 30000) :
    Calls Tryz.prog 14 #[.pointer (some ⟨sb.b, 0, none⟩), v] w fun e w' => e = .returned (insE aa ad (hasK ks Z) (okZ (A ++ Z))) ∧ ∃ m', m' ≤ m + Z.length ∧ PA ks L S a len cap zs p sb (insZ ks A Z) m' w0 w' := by
  have hB := h.below
  obtain ⟨⟨n, h1⟩, h7, h8⟩ := h
  obtain ⟨F, G, h2, h3, h4, hst⟩ := h1.step2 (fr_cols _ _)
  refine (arInsert F G sb ks A n m Z v aa ad w ⟨h2, h3, h4, h7, h8⟩ (hy.on hB) (ho.on hB) hz hv hm).mono ?_
  rintro e w' ⟨rfl, c1, n', m', c2, c3⟩
  exact ⟨rfl, m', c2, ⟨n', hst w' _ _ _ c1 c3.1⟩, c3.2.2.2.1, h8⟩
theorem paAll (ks : List Int) (L : List QEnt) (S : Nat) (a : Option Addr) (len cap : Nat) (zs : List Int) (p : Nat) (sb : Sb) (A : List Ent) (m : Nat) (w0 w : World) (ad : Addr) (h : PA ks L S a len cap zs p sb A m w0 w) (ho : OverAt ad w0) (hm : m ≤ 30000) :
    Calls Tryz.prog 17 #[.pointer (some ⟨sb.b, 0, none⟩)] w fun e w' => ∃ v, e = .returned v ∧ EntsIs w' v A ∧ Below w.heap.size w w' := by
  obtain ⟨F, G, n, h1⟩ := h.ar
  refine (arAll F G sb ks A n m ad w h1 (ho.on h.below) (by omega)).mono ?_
  rintro e w' ⟨v, rfl, k1, k2⟩
  exact ⟨v, rfl, k1.ents, k2⟩
theorem paKeys (ks : List Int) (L : List QEnt) (S : Nat) (a : Option Addr) (len cap : Nat) (zs : List Int) (p : Nat) (sb : Sb) (A : List Ent) (m : Nat) (w0 w : World) (ad : Addr) (h : PA ks L S a len cap zs p sb A m w0 w) (ho : OverAt ad w0) (hm : m ≤ 30000) :
    Calls Tryz.prog 21 #[.pointer (some ⟨sb.b, 0, none⟩)] w fun e w' => KeysEnd ks A w e w' := by
  obtain ⟨F, G, n, h1⟩ := h.ar
  exact arKeys F G sb ks A n m ad w h1 (ho.on h.below) (by omega)
theorem paLookup (ks : List Int) (L : List QEnt) (S : Nat) (a : Option Addr) (len cap : Nat) (zs : List Int) (p : Nat) (sb : Sb) (A : List Ent) (m : Nat) (w0 w : World) (ad : Addr) (h : PA ks L S a len cap zs p sb A m w0 w) (ho : OverAt ad w0) (hm : m ≤ 30000) (r : List Val) (vr : Value) (hr : RowIs w vr r) :
    Calls Tryz.prog 22 #[.pointer (some ⟨sb.b, 0, none⟩), vr] w fun e w' => ∃ v, e = .returned v ∧ EntsNew w.heap.size (under ks r A) v w' ∧ Below w.heap.size w w' := by
  obtain ⟨F, G, n, h1⟩ := h.ar
  exact arLookup F G sb ks A n m ad w h1 (ho.on h.below) (by omega) r vr hr
theorem paChunk (ks : List Int) (L : List QEnt) (S : Nat) (a : Option Addr) (len cap : Nat) (zs : List Int) (p : Nat) (sb : Sb) (A : List Ent) (m : Nat) (w0 w : World) (ad : Addr) (h : PA ks L S a len cap zs p sb A m w0 w) (ho : OverAt ad w0) (hm : m ≤ 30000) (r : List Val) (vr : Value) (hr : RowIs w vr r) (any : Bool) (k : Int) :
    Calls Tryz.prog 19 #[.pointer (some ⟨sb.b, 0, none⟩), vr, .bool any, .int .i64 k] w fun e w' => ∃ v, e = .returned v ∧ EntsIs w' v (after any r A k) ∧ Below w.heap.size w w' := by
  obtain ⟨F, G, n, h1⟩ := h.ar
  exact arChunk F G sb ks A n m ad w h1 (ho.on h.below) (by omega) r vr hr any k
theorem paAdd (ks : List Int) (L : List QEnt) (S : Nat) (a : Option Addr) (len cap : Nat) (zs : List Int) (p : Nat) (sb : Sb) (A : List Ent) (m : Nat) (w0 w : World) (h : PA ks L S a len cap zs p sb A m w0 w) (va vb : Value) (la lb : List Ent) (ha : (va, la) ∈ L) (hb : (vb, lb) ∈ L) (hka : ∀ e ∈ la, inI e.2 = true) (hkb : ∀ e ∈ lb, inI e.2 = true) (hn : la.length + lb.length ≤ 65536) (c : Int) (hc : c = if okZ (la ++ lb) then 0 else 107) :
    Calls Tryz.prog 12 #[va, vb] w fun e w' => ∃ v, e = .returned (.tuple #[v, .int .i64 c]) ∧ PA ks ((v, mkZ (la ++ lb)) :: L) S a len cap zs p sb A m w0 w' := by
  obtain ⟨⟨n, h1⟩, h7⟩ := h
  refine (psAdd (fr_cols _ _) L S a len cap zs p sb A n m w0 w h1 va vb la lb ha hb hka hkb hn c hc).mono ?_
  rintro e w' ⟨v, rfl, k1⟩
  exact ⟨v, rfl, ⟨n, k1⟩, h7⟩
/-- Where a law begins: the arrange, then its maker. -/
theorem PA.start {ks : List Int} {sb : Sb} {G : Nat → Prop} {a : Option Addr} {len cap : Nat} {zs : List Int} {w0 w1 V : World} (h : ArIs (fun k => k = sb.b) G sb ks [] 0 0 w1) (hG : ∀ k, G k → w0.heap.size ≤ k) (hb : w0.heap.size ≤ sb.b) (hB : Below w0.heap.size w0 w1) (hV : Below w1.heap.size w1 V) (hS : SeqAt w1.heap.size a len cap zs 0 V) (ha : ∀ x, a = some x → 0 < cap → x.block < w0.heap.size) : PA ks [] w1.heap.size a len cap zs 0 sb [] 0 w0 V := by
  have hf : ∀ k, Free { w1 with heap := #[] } k := fun k p v hp => by simp [World.cell?] at hp
  have hl := h.1.lt sb.b rfl
  refine ⟨⟨0, fun k => k = sb.b, G, { w1 with heap := #[] }, ⟨⟨by simp, fun p v hp => by simp [World.cell?] at hp⟩, hf _, fun k e => ⟨hf k, ?_⟩, hB.size, hS.2.2.2.1, hB.trans (hV.mono hB.size)⟩, h.2.2.1, h.1.on hV, h.2.1.on hV, fun x hx => (by cases hx), hS, ha⟩, h.2.2.2⟩
  rcases e with e | e
  · rw [e]; exact ⟨by omega, hb⟩
  · have := h.2.1.2.1 k e
    exact ⟨by omega, hG k e⟩
theorem ErrsAt.arity {ad : Fin 11 → Addr} {w : World} (h : ErrsAt ad w) : ArityAt (ad 5) w := by
  obtain ⟨_, _, c0, c1, c2, c3, c4, c5, _⟩ := h; exact c5
/-- What more is read, of what was made meanwhile. -/
theorem PA.open {ks : List Int} {L : List QEnt} {S : Nat} {a : Option Addr} {len cap : Nat} {zs : List Int} {p : Nat} {sb : Sb} {A : List Ent} {m : Nat} {w0 w : World} (h : PA ks L S a len cap zs p sb A m w0 w) : ∃ Rl, Sees Rl w ∧ (∀ x ∈ L, EntsIs Rl x.1 x.2) ∧ ∀ w' v Z, Below w.heap.size w w' → EntsIs (joinW Rl w' fun k => decide (w.heap.size ≤ k)) v Z → PA ks ((v, Z) :: L) S a len cap zs p sb A m w0 w' := by
  obtain ⟨⟨n, F, G, Rl, h1, h2, h3, h4, h5, h6⟩, h7⟩ := h
  refine ⟨Rl, h1.1, h5, fun w' v Z hB hE => ?_⟩
  have hG := h4.2.1
  have hF : ∀ k, F k ∨ G k → k < w.heap.size := fun k e => e.elim (h3.lt k) (hG k)
  have l1 := h1.on hB
  refine ⟨⟨n, F, G, _, l1.join (base := w.heap.size) h1.2.2.2.2.1 hF, h2, h3.on hB, h4.on hB, fun x hx => ?_, h6.1.on hB, h6.2⟩, h7⟩
  rcases List.mem_cons.1 hx with rfl | hx
  · exact hE
  · exact (h5 x hx).sees (joinW_up l1.1)
/-- A list with one entry more, of a row of its own. -/
theorem ents_app {R w : World} {base : Nat} {vs : List VEnt} {Z : List Ent} {v' vr : Value} {r : List Val} {k : Int} (hs : Sees R w) (hr : Reads R vs Z) (ho : w.ownsRow base 37 2 v' (vs.length + 1) (es vs ++ ec (vr, k))) (hrow : RowIs w vr r) (hb : ∀ b, vr.ownBlock = some b → base ≤ b) : EntsIs (joinW R w fun k => decide (base ≤ k)) v' (Z ++ [(r, k)]) := by
  refine ⟨vs ++ [(vr, k)], EntsAt.of_own (base := base) (own_same (by rw [es_snoc, List.length_append]; exact ho) (fun k e => joinW_heap (by have := (ho.lt k e).1; simpa using this))), (hr.sees (joinW_up hs)).snoc ?_ k⟩
  rcases hrow with h | ⟨g, o, cap, rfl, g1, g2, g3, g4⟩
  · exact .inl h
  · have hg := hb g rfl
    have hc : ∀ {q : Nat} {u : Value}, w.cell? ⟨g, q, none⟩ = some u → (joinW R w fun k => decide (base ≤ k)).cell? ⟨g, q, none⟩ = some u := fun hq => joinW_at hs (by simpa using hg) hq
    exact .inr ⟨g, o, cap, rfl, g1, g2, by rw [joinW_size]; exact g3, fun i hi => ⟨hc (g4 i hi).1, hc (g4 i hi).2.1, hc (g4 i hi).2.2⟩⟩
theorem paNeg (ks : List Int) (L : List QEnt) (S : Nat) (a : Option Addr) (len cap : Nat) (zs : List Int) (p : Nat) (sb : Sb) (A : List Ent) (m : Nat) (w0 w : World) (h : PA ks L S a len cap zs p sb A m w0 w) (va : Value) (l : List Ent) (ha : (va, l) ∈ L) (hn : l.length ≤ 65536) (hk : ∀ e ∈ l, inI e.2 = true) (c : Int) (hc : c = if ngOk l then 0 else 107) :
    Calls Tryz.prog 26 #[va] w fun e w' => ∃ v, e = .returned (.tuple #[v, .int .i64 c]) ∧ PA ks ((v, ngZ l) :: L) S a len cap zs p sb A m w0 w' := by
  obtain ⟨Rl, h1, h2, h3⟩ := h.open
  obtain ⟨vs, k1, k2⟩ := h2 _ ha
  refine (refNegR l va w Rl hn hk ⟨vs, k1.sees h1, k2⟩ c hc).mono ?_
  rintro e w' ⟨v, rfl, g1, g2⟩
  exact ⟨v, rfl, h3 w' v _ g2 (g1.join (h1.on g2))⟩
end Go.Proofs.YtglbipnppldkmaaGreatDoor
/- The chapter's examples of an arrange hold: what the laws of layer 7 ask first. -/
namespace Go.Proofs.YtglbipnppldkmaaGreatDoor
open Go.RowKit Go.Sort
set_option maxRecDepth 100000
theorem ints_x (w : World) (x : Int) : IntsIs (w.alloc (.cells #[.int .i64 x] 3)) (.slice (some ⟨w.heap.size, 0, none⟩) 1 1) [x] := by
  refine .inr ⟨w.heap.size, 0, 1, rfl, by simp, by unfold maxLen; omega, by simp, fun i hi => ?_⟩
  obtain rfl : i = 0 := by simp at hi; exact hi
  rw [World.cell?_alloc_at _ _ _ _ rfl]; rfl
theorem ints_xy (w : World) (x y : Int) : IntsIs (w.alloc (.cells #[.int .i64 x, .int .i64 y] 3)) (.slice (some ⟨w.heap.size, 0, none⟩) 2 2) [x, y] := by
  refine .inr ⟨w.heap.size, 0, 2, rfl, by simp, by unfold maxLen; omega, by simp, fun i hi => ?_⟩
  obtain rfl | rfl : i = 0 ∨ i = 1 := by simp at hi; omega
  · rw [World.cell?_alloc_at _ _ _ _ rfl]; rfl
  · rw [World.cell?_alloc_at _ _ _ _ rfl]; rfl
theorem KeysEnd.len {ks : List Int} {A : List Ent} {w w' : World} {e : Ending} {K : List (List Val)} (h : KeysEnd ks A w e w') (hK : KeysOf ks A K) : ∃ a cap, e = .returned (.slice a K.length cap) ∧ RowsIs w' (.slice a K.length cap) K ∧ Below w.heap.size w w' := by
  obtain ⟨v, K', rfl, h1, h2, h3⟩ := h
  obtain rfl := h1.uniq hK
  obtain ⟨a, cap, rfl⟩ := h2.form
  exact ⟨a, cap, rfl, h2, h3⟩
theorem chg_below {F : Nat → Prop} {B : Nat} {w w' : World} (h : Chg F w w') (hF : ∀ k, F k → B ≤ k) (hB : B ≤ w.heap.size) : Below B w w' :=
  ⟨h.1, h.2.1, h.2.2.1, h.size, fun k hk => h.2.2.2.2 k (fun e => by have := hF k e; omega) (by omega)⟩
theorem isZ_self {z : List Ent} (h : IsZ z) (hk : EOk z) : okZ z = true ∧ mkZ z = z := by
  have h0 : okZ z = true := (okZ_iff z).2 (wt_in h hk)
  exact ⟨h0, mkZ_of h0 h (fun _ => rfl)⟩
theorem sameEnts7 (l : List Ent) (va vb : Value) (w : World) (ha : EntsIs w va l) (hb : EntsIs w vb l) :
    Calls Tryz.prog 16 #[va, vb] w fun e w' => e = .returned (.bool true) ∧ Below w.heap.size w w' := by
  have := sameEntries l l va vb w ha hb
  have e : sEs l l = true := by unfold sEs; simp
  rw [e] at this; exact this
/-- The example's row. -/
def r5 : List Val := [(1, 5, ⟨#[]⟩)]
theorem pk5 : pk r5 [0] = r5 := by simp [pk, allIn, inR, atV, r5]
theorem keys5 : KeysOf [0] [(r5, 2)] [r5] := by
  have := (KeysOf.nil [0]).ins (r5, 2) 0 (fun i hi => by simp at hi) (fun i hi => by simp at hi)
  rw [pk5] at this; exact this
theorem under5 : under [0] r5 [(r5, 2)] = [(r5, 2)] := by
  unfold under
  rw [List.filter_cons_of_pos (by rw [kP_iff]; exact pk5)]; rfl
set_option maxHeartbeats 4000000 in
theorem lawFirst7 (aa ad : Addr) (w : World) (hy : ArityAt aa w) (ho : OverAt ad w) :
    Calls Tryz.prog 6 #[] w fun e w' => e = .returned (.bool true) ∧ Below w.heap.size w w' := by
  have q1 := arNew [0] (.slice (some ⟨w.heap.size, 0, none⟩) 1 1) (w.alloc (.cells #[.int .i64 0] 3)) (by simp) (ints_x w 0) (.inl (by simp))
  have HY : Hid (∀ W, Below w.heap.size w W → ArityAt aa W ∧ OverAt ad W) := fun W hB => ⟨hy.on hB, ho.on hB⟩
  clear hy ho
  go_enter Tryz.func6, Tryz.ntmps6
  go_wp2_with fail
  refine q1.mono ?_
  rintro e w1 ⟨sb, G, rfl, hA, hG, hb, hB1⟩
  have b1 : Below w.heap.size w w1 := one_box.trans (hB1.mono (by simp))
  have q2 := arKeys _ G sb [0] [] 0 0 ad w1 hA (HY.out w1 b1).2 (by omega)
  have HA : Hid (ArIs (fun k => k = sb.b) G sb [0] [] 0 0 w1) := hA
  have B1 : Hid (Below w.heap.size w w1) := b1
  have Hb : Hid (w.heap.size + 1 ≤ sb.b ∧ sb.b < w1.heap.size) := ⟨by simpa using hb, hA.1.lt _ rfl⟩
  clear q1 hA hG hb hB1 b1
  go_wp2_with fail
  refine q2.mono ?_
  intro e w2 hE
  obtain ⟨a2, c2, rfl, _, hB2⟩ := hE.len (KeysOf.nil [0])
  have B2 : Hid (Below w1.heap.size w1 w2) := hB2
  obtain ⟨W3, hW3⟩ : ∃ W3, W3 = w2.alloc (.cells #[.int .i64 1, .int .i64 5, .string ⟨#[]⟩] 56) := ⟨_, rfl⟩
  have hs3 : W3.heap.size = w2.heap.size + 1 := by rw [hW3]; simp
  have hr : RowIs W3 (.slice (some ⟨w2.heap.size, 0, none⟩) 1 1) r5 := by rw [hW3]; exact row_new w2 1 5 ⟨#[]⟩
  have he := ents_one hr 2
  obtain ⟨W4, hW4⟩ : ∃ W4, W4 = W3.alloc (.cells #[.slice (some ⟨w2.heap.size, 0, none⟩) 1 1, .int .i64 2] 37) := ⟨_, rfl⟩
  rw [← hW4, hs3] at he
  have b4 : Below w2.heap.size w2 W4 := by
    have h1 : Below w2.heap.size w2 W3 := by rw [hW3]; exact one_box
    have h2 : Below W3.heap.size W3 W4 := by rw [hW4]; exact one_box
    exact h1.trans (h2.mono h1.size)
  have hr4 : RowIs W4 (.slice (some ⟨w2.heap.size, 0, none⟩) 1 1) r5 := hr.on (by rw [hW4]; exact one_box)
  have HW : Hid ((w2.alloc (.cells #[.int .i64 1, .int .i64 5, .string ⟨#[]⟩] 56)).alloc (.cells #[.slice (some ⟨w2.heap.size, 0, none⟩) 1 1, .int .i64 2] 37) = W4) := by show _ = _; rw [hW4, hW3]
  have b14 : Below w1.heap.size w1 W4 := B2.out.trans (b4.mono B2.out.size)
  have bw4 : Below w.heap.size w W4 := B1.out.trans (b14.mono B1.out.size)
  have hZ : IsZ [(r5, (2 : Int))] := isZ_one _ 2 (by decide)
  have hE' : EOk [(r5, (2 : Int))] := fun e h => by simp at h; rw [h]; exact ⟨by decide, by simp [r5]⟩
  have hk : hasK [0] [(r5, (2 : Int))] = true := by simp [hasK, allIn, inR, r5]
  obtain ⟨z1, z2⟩ := isZ_self hZ hE'
  have q3 := arInsert _ G sb [0] [] 0 0 [(r5, 2)] _ aa ad W4 (HA.out.on b14) (HY.out W4 bw4).1 (HY.out W4 bw4).2 (fun _ => ⟨hZ, hE'⟩) he (by simp)
  rw [hk, List.nil_append, z1] at q3
  have HI : Hid (∀ w5, InsA (fun k => k = sb.b) G sb [0] [] 0 [(r5, 2)] W4 w5 → ∃ F n m, m ≤ 1 ∧ ArIs F G sb [0] [(r5, 2)] n m w5 ∧ RowIs w5 (.slice (some ⟨w2.heap.size, 0, none⟩) 1 1) r5 ∧ Below w.heap.size w w5) := fun w5 ⟨c1, n', m', c2, c3⟩ => by
    have e : insZ [0] [] [(r5, (2 : Int))] = [(r5, 2)] := by unfold insZ; rw [hk, List.nil_append, z1, z2]; rfl
    rw [e] at c3
    refine ⟨_, n', m', by simpa using c2, c3, hr4.chg c1 (fun k ek e' => ?_), bw4.trans (chg_below c1 (fun k e => ?_) bw4.size)⟩
    · simp only [Value.ownBlock, Option.some.injEq] at ek
      have := Hb.out.2; have := B2.out.size; omega
    · have := Hb.out.1; omega
  clear q2 hE hB2 hW3 hs3 hr he hW4 b4 hr4 b14 bw4 hZ hE' hk z1 z2
  go_wp2_with fail
  rw [HW.out]
  refine q3.mono ?_
  rintro e w5 ⟨rfl, h5⟩
  obtain ⟨F, n, m, hm, hA5, hr5, hB5⟩ := HI.out w5 h5
  have q4 := arKeys F G sb [0] _ n m ad w5 hA5 (HY.out w5 hB5).2 (by omega)
  have HA5 : Hid (ArIs F G sb [0] [(r5, 2)] n m w5) := hA5
  have HR5 : Hid (RowIs w5 (.slice (some ⟨w2.heap.size, 0, none⟩) 1 1) r5) := hr5
  have B5 : Hid (Below w.heap.size w w5) := hB5
  clear q3 h5 HI hA5 hr5 hB5
  have ei : insE aa ad true true = .nilIface := rfl
  rw [ei]
  clear ei
  go_wp2_with fail
  refine q4.mono ?_
  intro e w6 hE
  obtain ⟨a6, c6, rfl, _, hB6⟩ := hE.len keys5
  have b6 : Below w.heap.size w w6 := B5.out.trans (hB6.mono B5.out.size)
  have q5 := arLookup F G sb [0] _ n m ad w6 (HA5.out.on hB6) (HY.out w6 b6).2 (by omega) r5 _ (HR5.out.on hB6)
  rw [under5] at q5
  have B6 : Hid (Below w.heap.size w w6) := b6
  clear q4 hE hB6 b6
  have el : ([r5] : List (List Val)).length = 1 := rfl
  rw [el]
  clear el
  go_wp2_with fail
  refine q5.mono ?_
  rintro e w7 ⟨v7, rfl, k1, k2⟩
  obtain ⟨a7, c7, e7⟩ := k1.ents.form
  have B7 : Hid (Below w.heap.size w w7) := B6.out.trans (k2.mono B6.out.size)
  have el : ([(r5, (2 : Int))] : List Ent).length = 1 := rfl
  rw [el] at e7
  clear q5 k1 k2 el
  subst e7
  go_wp2_with fail
  go_ret
  exact ⟨rfl, B7.out⟩
end Go.Proofs.YtglbipnppldkmaaGreatDoor
