/- The law SliceChunks answers true at every argument. -/
import Derived.Test.YtjpgnohhgkalbaaSlSaysWalk
import Derived.Test.YtjpgnohhgkalbaaSlPlain
namespace Go.Proofs.Ytjpgnohhgkalbaa
open Go.RowKit Go.Sort
set_option maxRecDepth 100000
theorem OwnRows.append {base : Nat} {w : World} {us vs : List VEnt} {l m : List Ent} (h : OwnRows base w us l) (k : OwnRows base w vs m) : OwnRows base w (us ++ vs) (l ++ m) := by
  refine ⟨by simp [h.1, k.1], fun i h1 h2 => ?_⟩
  by_cases hi : i < us.length
  · have hi' : i < l.length := by rw [← h.1]; exact hi
    rw [List.getElem_append_left hi, List.getElem_append_left hi']; exact h.2 i hi hi'
  · have hi' : l.length ≤ i := by rw [← h.1]; omega
    rw [List.getElem_append_right (by omega), List.getElem_append_right hi']
    have e : i - us.length = i - l.length := by rw [h.1]
    simp only [e]
    exact k.2 _ _ _
theorem chunk_size (c : Int) : ∃ cN : Nat, wrap64 ((wrap64 (c.tmod 6 + 6)).tmod 6 + 1) = (cN : Int) ∧ 1 ≤ cN ∧ cN ≤ 6 := by
  have h2 := Int.tmod_lt_of_pos c (b := 6) (by decide)
  have h1 : -6 < c.tmod 6 := Int.neg_lt_of_neg_lt (by have := Int.tmod_lt_of_pos (-c) (b := 6) (by decide); rw [Int.neg_tmod] at this; omega)
  have e1 : wrap64 (c.tmod 6 + 6) = c.tmod 6 + 6 := by unfold wrap64; omega
  rw [e1]
  have h3 := Int.tmod_lt_of_pos (c.tmod 6 + 6) (b := 6) (by decide)
  have h4 := Int.tmod_nonneg 6 (a := c.tmod 6 + 6) (by omega)
  have e2 : wrap64 ((c.tmod 6 + 6).tmod 6 + 1) = (c.tmod 6 + 6).tmod 6 + 1 := by unfold wrap64; omega
  rw [e2]
  exact ⟨((c.tmod 6 + 6).tmod 6 + 1).toNat, by omega, by omega, by omega⟩
/-- How far the reading has come: p entries. -/
def ReadTo (w : World) (z : List Ent) (vz : Value) (p : Nat) (all at_ : Value) (W : World) : Prop :=
  ZHas w.heap.size (z.take p) all W ∧ W.ownsRow w.heap.size 45 3 at_ (readAt z p).length (rc (readAt z p)) ∧ EntsIs W vz z ∧ Below w.heap.size w W
set_option maxHeartbeats 4000000 in
theorem slchunks_main (a : Option Addr) (len cap : Nat) (zs : List Int) (c : Int) (h1 : (len : Int) ≤ 150) (w : World) (ha : IsRow .i64 w a len cap zs) :
    Calls Try.prog 4 #[.slice a len cap, .int .i64 c] w fun e w' => e = .returned (.bool true) ∧ Below w.heap.size w w' := by
  have Ha : Hid (IsRow .i64 w a len cap zs) := ha
  have qf := lawFirst4 w
  clear ha
  go_enter Try.func4, Try.ntmps4
  go_wp2_with fail
  refine qf.mono ?_
  rintro e w1 ⟨rfl, hb⟩
  have B1 : Hid (Below w.heap.size w w1) := hb
  clear hb qf
  go_wp2_with fail
  have M := seqCols (Ha.out.below B1.out) [1, 2] 26 3
  refine (makeSet w1.heap.size a len cap zs 0 (w1.heap.size + 1) 2 2 [1, 2] 20 _ M.1 (by decide) (by decide) M.2 (by omega) (by decide) (by simp) (by intro i h; match i, h with | 0, _ => simp | 1, _ => simp)).mono ?_
  clear M
  rintro e w2 ⟨vz, z, rfl, ⟨p, i1, i2, i3, i4, i5, i6, i7⟩, _⟩
  have B2 : Hid (Below w.heap.size w w2) := (B1.out.trans (below_two.mono B1.out.size)).trans (i7.below B1.out.size (by have := B1.out.size; simp; omega))
  have HE2 : Hid (EntsIs w2 vz z) := i4.ents
  have HZ : Hid (IsZ z ∧ EOk z) := ⟨i1, i2⟩
  have hzl : z.length ≤ 20 := by omega
  obtain ⟨aZ, cZ, rfl⟩ := HE2.out.form
  clear i1 i2 i3 i4 i5 i6 i7 Ha B1
  obtain ⟨cN, hcN, hc1, hc6⟩ := chunk_size c
  go_wp2_with fail
  rw [hcN]
  generalize wrap64 (c.tmod 6 + 6) = y1 at *
  generalize c.tmod 6 = y2 at *
  generalize y1.tmod 6 = y3 at *
  clear hcN
  have F0 : Hid (ReadTo w2 z (.slice aZ z.length cZ) 0 (.slice none 0 0) (.slice none 0 0) w2) := ⟨⟨[], by simpa using ZOwn.nil w2.heap.size w2⟩, by unfold readAt; simpa [rc] using World.ownsRow_nil _ _ _ _, HE2.out, Below.refl _ _⟩
  go_loopw [7, 8, 9, 10] (fun all at_ any i wr => ∃ p j : Nat, j ≤ p ∧ p ≤ z.length ∧ any = .bool (decide (0 < p)) ∧ i = .int .i64 j ∧ ReadTo w2 z (.slice aZ z.length cZ) p all at_ wr) (fun _ _ _ i _ => z.length - (intOf i).toNat)
  case atStart => exact ⟨0, 0, by omega, by omega, rfl, rfl, F0.out⟩
  case round =>
    obtain ⟨p, j, hjp, hpz, rfl, rfl, hR⟩ := hrel
    clear F0
    have I1 : (j : Int) ≤ (z.length : Int) := by omega
    obtain ⟨⟨us, hZO⟩, hAt, hEz, hB⟩ := hR
    have ul0 : us.length = p := by rw [hZO.2.1, List.length_take]; omega
    have hO1 := hZO.1
    rw [ul0] at hO1
    have ul : Hid (us.length = p) := ul0
    clear ul0
    obtain ⟨aA, cA, rfl⟩ := own_form hO1
    obtain ⟨aT, cT, rfl⟩ := own_form hAt
    have HO : Hid (wr.ownsRow w2.heap.size 34 2 (.slice aA p cA) p (es us) ∧ OwnRows w2.heap.size wr us (z.take p)) := ⟨hO1, hZO.2⟩
    have HT : Hid (wr.ownsRow w2.heap.size 45 3 (.slice aT (readAt z p).length cT) (readAt z p).length (rc (readAt z p))) := hAt
    have HE : Hid (EntsIs wr (.slice aZ z.length cZ) z) := hEz
    have HB : Hid (Below w2.heap.size w2 wr) := hB
    have EA : Hid (z.filter (afP (decide (0 < p)) (readAt z p)) = z.drop p) := after_read HZ.out.1.1 hpz
    have q1 := slAfter z (readAt z p) (.slice aZ z.length cZ) (.slice aT (readAt z p).length cT) (decide (0 < p)) (cN : Int) wr (by omega) HZ.out.1 HZ.out.2 hEz (RowIs.of_own hAt)
    have e1 : after (decide (0 < p)) (readAt z p) z (cN : Int) = (z.drop p).take cN := by unfold after; rw [EA.out]; rfl
    rw [e1] at q1
    clear hZO hO1 hAt hEz hB e1
    generalize hrl : (readAt z p).length = rl at *
    generalize hany : decide (0 < p) = any at *
    have HANY : Hid (decide (0 < p) = any) := hany
    clear hany
    go_wp2_with fail
    refine q1.mono ?_
    rintro e w3 ⟨vx, rfl, x1, x2⟩
    clear q1
    have B3 : Hid (Below w2.heap.size w2 w3) := HB.out.trans (x2.mono HB.out.size)
    have E3 : Hid (EntsIs w3 (.slice aZ z.length cZ) z) := HE.out.on x2
    have O3 : Hid (w3.ownsRow w2.heap.size 34 2 (.slice aA p cA) p (es us) ∧ OwnRows w2.heap.size w3 us (z.take p)) := ⟨own_on HO.out.1 x2, HO.out.2.on x2⟩
    have T3 : Hid (w3.ownsRow w2.heap.size 45 3 (.slice aT rl cT) rl (rc (readAt z p))) := own_on HT.out x2
    have HX : Hid (ZHas wr.heap.size ((z.drop p).take cN) vx w3) := x1
    have hsz := HB.out.size
    clear HB HE HO HT x1 x2
    by_cases hp : p < z.length
    · obtain ⟨m, hm⟩ : ∃ m, m + 1 = min cN (z.length - p) := ⟨min cN (z.length - p) - 1, by omega⟩
      have hxl : ((z.drop p).take cN).length = m + 1 := by rw [List.length_take, List.length_drop]; omega
      obtain ⟨xs, xo, xr⟩ := HX.out
      have xl : xs.length = m + 1 := by rw [xr.1, hxl]
      rw [xl] at xo
      obtain ⟨g, cX, rfl⟩ : ∃ g cX, vx = .slice (some ⟨g, 0, none⟩) (m + 1) cX := by
        rcases xo.2 with ⟨_, e⟩ | ⟨g, cap', cur, hv, q1, _⟩
        · omega
        · exact ⟨g, cap', hv⟩
      obtain ⟨lr, lw⟩ := xr.2 m (by omega) (by omega)
      have el : ((z.drop p).take cN)[m].1 = readAt z (p + m + 1) := by
        unfold readAt
        rw [dif_pos ⟨by omega, by omega⟩, List.getElem_take, List.getElem_drop]
        congr 1
      rw [el] at lr
      obtain ⟨aL, cL, hL⟩ := own_form lr
      rw [hL] at lr
      have y1 : w3.cell? ⟨g, m * 2, none⟩ = some (.slice aL (readAt z (p + m + 1)).length cL) := by
        rw [xo.cellAt (m * 2) (by omega), (es_at xs m (by omega)).1, hL]
      have LR : Hid (w3.ownsRow w2.heap.size 45 3 (.slice aL (readAt z (p + m + 1)).length cL) (readAt z (p + m + 1)).length (rc (readAt z (p + m + 1)))) := own_mono lr hsz
      have XO : Hid (w3.ownsRow w2.heap.size 34 2 (.slice (some ⟨g, 0, none⟩) (m + 1) cX) (m + 1) (es xs)) := own_mono xo hsz
      have XR : Hid (OwnRows w2.heap.size w3 xs ((z.drop p).take cN)) := ⟨xr.1, fun i h1 h2 => ⟨own_mono (xr.2 i h1 h2).1 hsz, (xr.2 i h1 h2).2⟩⟩
      have q2 : Hid (Calls Try.prog 18 #[.slice aZ z.length cZ, .slice aL (readAt z (p + m + 1)).length cL, .bool true] w3 fun e w' => e = .returned (.int .i64 ((z.length : Int) - ((p : Int) + (m : Int) + 1))) ∧ Below w3.heap.size w3 w') := by
        have := slCount z (readAt z (p + m + 1)) _ _ true w3 (by omega) HZ.out.1 HZ.out.2 E3.out (RowIs.of_own LR.out)
        have e := after_read HZ.out.1.1 (p := p + m + 1) (by omega)
        rw [decide_eq_true (by omega)] at e
        rw [e, List.length_drop] at this
        exact this.mono fun e w' ⟨h1, h2⟩ => ⟨by rw [h1]; exact retI (by omega), h2⟩
      have q3 : Hid (∀ W, Below w3.heap.size w3 W → Calls Try.prog 18 #[.slice aZ z.length cZ, .slice aT rl cT, .bool any] W fun e w' => e = .returned (.int .i64 ((z.length : Int) - (p : Int))) ∧ Below W.heap.size W w') := fun W hW => by
        have := slCount z (readAt z p) (.slice aZ z.length cZ) (.slice aT rl cT) any W (by omega) HZ.out.1 HZ.out.2 (E3.out.on hW) ((RowIs.of_own (by rw [hrl]; exact T3.out)).on hW)
        rw [EA.out, List.length_drop] at this
        exact this.mono fun e w' ⟨h1, h2⟩ => ⟨by rw [h1]; exact retI (by omega), h2⟩
      have q4 : Hid (∀ W, EntsIs W (.slice aZ z.length cZ) z → RowIs W (.slice aL (readAt z (p + m + 1)).length cL) (readAt z (p + m + 1)) → Calls Try.prog 14 #[.slice aZ z.length cZ, .slice aL (readAt z (p + m + 1)).length cL, .bool true] W fun e w' => ∃ v, e = .returned v ∧ EntsIs w' v (z.take (p + m + 1)) ∧ Below W.heap.size W w') := fun W hW hr => by
        have := slUpto z (readAt z (p + m + 1)) _ _ true W (by omega) HZ.out.1 HZ.out.2 hW hr
        rw [upto_read HZ.out.1.1 (by omega) (by omega)] at this
        exact this.mono fun e w' ⟨v, h1, h2, h3⟩ => ⟨v, h1, h2.ents, h3⟩
      have ET : Hid (z.take (p + m + 1) = z.take p ++ (z.drop p).take cN) := by
        show _ = _
        have e2 : (z.drop p).take cN = (z.drop p).take (m + 1) := by
          apply List.ext_getElem?; intro i
          simp only [List.getElem?_take]
          by_cases h : i < cN
          · by_cases h' : i < m + 1
            · simp [h, h']
            · simp [h, h']; omega
          · simp [h, show ¬ i < m + 1 by omega]
        rw [e2, Nat.add_assoc, List.take_add]
      have hm1 : m + 1 ≤ cN := by omega
      have I2 : ((m : Int) + 1) ≤ (cN : Int) := by omega
      have I3 : ((m : Int) + 1) + ((z.length : Int) - ((p : Int) + (m : Int) + 1)) = (z.length : Int) - (p : Int) := by omega
      have XL : Hid (xs.length = m + 1) := xl
      have hpm : p + m + 1 ≤ z.length := by omega
      clear xo xr lr lw el hL HX EA xl hm hxl HANY
      generalize hll : (readAt z (p + m + 1)).length = ll at *
      go_wp2_with fail
      refine q2.out.mono ?_
      rintro e w4 ⟨rfl, hb4⟩
      have H4 : Hid (Below w3.heap.size w3 w4) := hb4
      clear hb4 q2
      go_wp2_with fail
      refine (q3.out _ H4.out).mono ?_
      rintro e w5 ⟨rfl, hb5⟩
      have H5 : Hid (Below w3.heap.size w3 w5) := H4.out.trans (hb5.mono H4.out.size)
      have z1 := cell_on y1 H5.out
      have s35 : w2.heap.size ≤ w5.heap.size := Nat.le_trans B3.out.size H5.out.size
      have b3 : Below w2.heap.size w2 w3 := B3.out
      have O5 : Hid (w5.ownsRow w2.heap.size 34 2 (.slice aA p cA) p (es us)) := own_on O3.out.1 H5.out
      have XC : Hid (∀ j u, (es xs)[j]? = some u → w5.cell? ((⟨g, 0, none⟩ : Addr).add j) = some u) := by
        have := own_on XO.out H5.out
        rw [← XL.out] at this
        exact (EntsAt.of_own this).cells
      have X1 : Hid (∀ u ∈ es xs, u.oneCell' = true) := XR.out.reads.one'
      have XN : Hid ((es xs).length = (m + 1) * 2) := by show _ = _; rw [es_len, XL.out]
      have FA : Hid (∀ v6 w6, w6.ownsRow w2.heap.size 34 2 v6 (p + (m + 1)) (es us ++ es xs) → w5.grownBy w6 (Value.ownBlock (.slice aA p cA)) → Hid (ReadTo w2 z (.slice aZ z.length cZ) (p + m + 1) v6 (.slice aL ll cL) w6)) := by
        intro v6 w6 g1 g2
        have b6 : Below w2.heap.size w2 w6 := (b3.trans (H5.out.mono B3.out.size)).grown g2 s35 (fun k e => (O5.out.lt k e).1)
        refine ⟨⟨us ++ xs, ?_, ?_⟩, ?_, HE2.out.on b6, b6⟩
        · have e : es (us ++ xs) = es us ++ es xs := by simp [es]
          rw [e, List.length_append, ul.out, XL.out]; exact g1
        · rw [ET.out]
          exact ((O3.out.2.on H5.out).append (XR.out.on H5.out)).grown O5.out g2
        · rw [hll]
          refine (own_on LR.out H5.out).kept g2 ?_
          cases hv : Value.ownBlock (.slice aA p cA) with
          | none => cases e : Value.ownBlock (.slice aL ll cL) with
            | none => exact .inl rfl
            | some k => exact .inr (by simp)
          | some k => exact .inr (own_ne_types (own_on LR.out H5.out) O5.out (by decide) k hv)
      clear hb5 q3 H4 b3 y1 O3 XO XR LR T3 E3 XL B3 ET
      obtain ⟨i0, hi, hz0, hz1, hz2⟩ := info_parts info_entry
      go_wp2_with (first | (at_builtin; refine wpList_append_own _ rfl _ _ 27 rfl w2.heap.size 34 i0 (.agg #[.slice none 0 0, .int .i64 0]) 2 32 Try.underlying27 hi hz0 hz1 hz2 rfl (by decide) _ p (es us) rfl O5.out ⟨g, 0, none⟩ (m + 1) cX (es xs) rfl XN.out XC.out X1.out (by unfold maxLen; omega) (by omega) (by omega) ?_; intro v6 w6 hown6 hg6 _; have hs6 := FA.out _ _ hown6 hg6; clear hown6 hg6 FA) | fail)
      clear hi hz0 hz1 hz2 O5 XC X1 XN z1
      obtain ⟨aB, cB, rfl⟩ : ∃ aB cB, v6 = .slice aB (p + m + 1) cB := by
        obtain ⟨us6, h6⟩ := hs6.out.1
        obtain ⟨x, y, e⟩ := own_form h6.1
        have : us6.length = p + m + 1 := by rw [h6.2.1, List.length_take]; omega
        exact ⟨x, y, by rw [e, this]⟩
      go_wp2_with fail
      refine (q4.out _ hs6.out.2.2.1 (RowIs.of_own (by rw [← hll]; have := hs6.out.2.1; rw [← hll] at this; exact this))).mono ?_
      rintro e w7 ⟨v7, rfl, u1, u2⟩
      clear q4
      have q5 := same_ok u1 (hs6.out.1.ents.on u2)
      have R7 : Hid (ReadTo w2 z (.slice aZ z.length cZ) (p + m + 1) (.slice aB (p + m + 1) cB) (.slice aL ll cL) w7) := ⟨hs6.out.1.on u2, own_on hs6.out.2.1 u2, hs6.out.2.2.1.on u2, hs6.out.2.2.2.trans (u2.mono hs6.out.2.2.2.size)⟩
      clear u1 u2 hs6
      go_wp2_with fail
      refine q5.mono ?_
      rintro e w8 ⟨rfl, u2⟩
      have R8 : Hid (ReadTo w2 z (.slice aZ z.length cZ) (p + m + 1) (.slice aB (p + m + 1) cB) (.slice aL ll cL) w8) := ⟨R7.out.1.on u2, own_on R7.out.2.1 u2, R7.out.2.2.1.on u2, R7.out.2.2.2.trans (u2.mono R7.out.2.2.2.size)⟩
      clear u2 q5 R7
      go_wp2_with fail
      go_roundw
      case rel => exact ⟨p + m + 1, j + 1, by omega, by omega, by rw [decide_eq_true (by omega)], by go_num, R8.out⟩
      case measure => simp [intOf]; omega
    · obtain rfl : p = z.length := by omega
      have hxl : (z.drop z.length).take cN = [] := by simp
      obtain ⟨aX, cX, rfl⟩ : ∃ aX cX, vx = .slice aX 0 cX := by
        have := HX.out
        rw [hxl] at this
        obtain ⟨x, y, e⟩ := this.ents.form
        exact ⟨x, y, e⟩
      have q5 : Hid (Calls Try.prog 11 #[.slice aA z.length cA, .slice aZ z.length cZ] w3 fun e w' => e = .returned (.bool true) ∧ Below w3.heap.size w3 w') := same_ok (by have := ZOwn.ents (us := us) (base := w2.heap.size) (l := z.take z.length) (v := .slice aA z.length cA) (w := w3) ⟨by rw [ul.out]; exact O3.out.1, O3.out.2⟩; rwa [List.take_length] at this) E3.out
      have q3 : Hid (∀ W, Below w3.heap.size w3 W → Calls Try.prog 18 #[.slice aZ z.length cZ, .slice aT rl cT, .bool any] W fun e w' => e = .returned (.int .i64 0) ∧ Below W.heap.size W w') := fun W hW => by
        have := slCount z (readAt z z.length) (.slice aZ z.length cZ) (.slice aT rl cT) any W (by omega) HZ.out.1 HZ.out.2 (E3.out.on hW) ((RowIs.of_own (by rw [hrl]; exact T3.out)).on hW)
        rw [EA.out, List.length_drop] at this
        exact this.mono fun e w' ⟨h1, h2⟩ => ⟨by rw [h1]; exact retI (by omega), h2⟩
      have V3 : Hid (Below w.heap.size w w3) := B2.out.trans (B3.out.mono B2.out.size)
      clear HX hxl O3 E3 T3 EA B3 HANY HE2
      go_wp2_with fail
      refine q5.out.mono ?_
      rintro e w4 ⟨rfl, hb4⟩
      have H4 : Hid (Below w3.heap.size w3 w4) := hb4
      clear hb4 q5
      go_wp2_with fail
      refine (q3.out _ H4.out).mono ?_
      rintro e w5 ⟨rfl, hb5⟩
      have H5 : Hid (Below w.heap.size w w5) := (V3.out.trans (H4.out.mono V3.out.size)).trans (hb5.mono (Nat.le_trans V3.out.size H4.out.size))
      clear hb5 q3 H4
      go_wp2_with fail
      go_ret
      exact ⟨rfl, H5.out⟩
set_option maxHeartbeats 1000000 in
theorem slchunks_long (a : Option Addr) (len cap : Nat) (c : Int) (w : World) (h : 150 < (len : Int)) :
    Calls Try.prog 4 #[.slice a len cap, .int .i64 c] w fun e w' => e = .returned (.bool true) ∧ Below w.heap.size w w' := by
  go_enter Try.func4, Try.ntmps4
  go_wp2_with fail
  refine (lawFirst4 _).mono ?_
  rintro e w1 ⟨rfl, hb1⟩
  go_wp2_with fail
  go_ret
  exact ⟨rfl, hb1⟩
theorem sliceChunks_walk (a : Option Addr) (len cap : Nat) (zs : List Int) (c : Int) (_ : (Lit.int .i64 c).wf = true) (w : World) (ha : IsRow .i64 w a len cap zs) :
    Calls Try.prog 4 #[.slice a len cap, .int .i64 c] w fun e w' => e = .returned (.bool true) ∧ Below w.heap.size w w' := by
  by_cases h : (len : Int) ≤ 150
  · exact slchunks_main a len cap zs c h w ha
  · exact slchunks_long a len cap c w (by omega)
end Go.Proofs.Ytjpgnohhgkalbaa
