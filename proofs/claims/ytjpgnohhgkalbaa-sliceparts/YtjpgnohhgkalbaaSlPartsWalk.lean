/- The law SliceParts answers true at every argument. -/
import Derived.Test.YtjpgnohhgkalbaaSlChunksWalk
import Derived.Test.YtjpgnohhgkalbaaRowMod
namespace Go.Proofs.Ytjpgnohhgkalbaa
open Go.RowKit Go.Sort
set_option maxRecDepth 100000
theorem cR_nil (l : List Val) : 0 ≤ cR l [] := by cases l <;> simp [cR]
/-- Rows of two columns, a number first, stand between nothing and a row that begins with a truth. -/
theorem range_all {z : List Ent} (h : ∀ e ∈ z, e.1.length = 2 ∧ OkR [1, 3] e.1) (m : List Val) : range [] ((3, 1, ⟨#[]⟩) :: m) z = z := by
  unfold range
  refine List.filter_eq_self.2 (fun e he => ?_)
  obtain ⟨h1, h2⟩ := h e he
  obtain ⟨x, l, hx⟩ : ∃ x l, e.1 = x :: l := by
    cases hh : e.1 with
    | nil => rw [hh] at h1; cases h1
    | cons x l => exact ⟨x, l, rfl⟩
  rw [hx] at h2
  have h3 := (h2 0 (by simp) (by simp)).2.2.2.2
  have hk : x.1 < 3 := by simp at h3; omega
  have hc : cI x.1 3 = -1 := by unfold cI; rw [if_pos hk]
  have hv : cVal x (3, 1, ⟨#[]⟩) = -1 := by unfold cVal cV; simp only [hc]; rfl
  have hr : cR e.1 ((3, 1, ⟨#[]⟩) :: m) = -1 := by rw [hx]; unfold cR; rw [hv]; rfl
  have hn := cR_nil e.1
  unfold rgP
  rw [hr]; simp [hn]
theorem row_three (w : World) (x y z : Val) : RowIs (w.alloc (.cells #[.int .i64 x.1, .int .i64 x.2.1, .string x.2.2, .int .i64 y.1, .int .i64 y.2.1, .string y.2.2, .int .i64 z.1, .int .i64 z.2.1, .string z.2.2] 45)) (.slice (some ⟨w.heap.size, 0, none⟩) 3 3) [x, y, z] := by
  refine .inr ⟨w.heap.size, 0, 3, rfl, Nat.le_refl _, by unfold maxLen; omega, by simp, fun i hi => ?_⟩
  obtain rfl | rfl | rfl : i = 0 ∨ i = 1 ∨ i = 2 := by simp at hi; omega
  all_goals exact ⟨by rw [World.cell?_alloc_at _ _ _ _ rfl]; rfl, by rw [World.cell?_alloc_at _ _ _ _ rfl]; rfl, by rw [World.cell?_alloc_at _ _ _ _ rfl]; rfl⟩
/-- A set, and a row that the maker does not touch. -/
structure Pt (w : World) (S : Nat) (z : List Ent) (r : List Val) (vz vr : Value) (W : World) : Prop where
  b : Below w.heap.size w W
  n : EntsNew (S + 1) z vz W
  x : RowIs W vr r
  o : r = [] ∨ ∀ k, vr.ownBlock = some k → S + 1 ≤ k
theorem Pt.on {w : World} {S : Nat} {z : List Ent} {r : List Val} {vz vr : Value} {W W' : World} (h : Pt w S z r vz vr W) (hb : Below W.heap.size W W') : Pt w S z r vz vr W' :=
  ⟨h.b.trans (hb.mono h.b.size), h.n.on hb, h.x.on hb, h.o⟩
theorem Pt.but {w : World} {S : Nat} {z : List Ent} {r : List Val} {vz vr : Value} {W W' : World} (h : Pt w S z r vz vr W) (hb : But S W W') (hS : w.heap.size ≤ S) : Pt w S z r vz vr W' := by
  refine ⟨h.b.trans (hb.below hS h.b.size), h.n.but hb (by omega), ?_, h.o⟩
  rcases h.o with e | e
  · obtain ⟨a0, c0, ef⟩ := h.x.form
    rw [ef, e]; exact .inl ⟨a0, c0, rfl, rfl⟩
  · exact h.x.but hb (fun e' => by have := e S e'; omega)
/-- What stands while the parts are held against each other. -/
structure Pu (w : World) (z : List Ent) (r s : List Val) (vz vr vs vo vx : Value) (W : World) : Prop where
  b : Below w.heap.size w W
  e : EntsIs W vz z
  x : RowIs W vr r
  y : RowIs W vs s
  o : EntsIs W vo z
  g : EntsIs W vx (range r s z)
theorem Pu.on {w : World} {z : List Ent} {r s : List Val} {vz vr vs vo vx : Value} {W W' : World} (h : Pu w z r s vz vr vs vo vx W) (hb : Below W.heap.size W W') : Pu w z r s vz vr vs vo vx W' :=
  ⟨h.b.trans (hb.mono h.b.size), h.e.on hb, h.x.on hb, h.y.on hb, h.o.on hb, h.g.on hb⟩
theorem after_here (r : List Val) (z : List Ent) : after true r z (z.length : Int) = z.filter (afP true r) := by
  unfold after
  exact List.take_of_length_le (by have := List.length_filter_le (afP true r) z; omega)
/-- The row of an entry of a set that the maker does not touch. -/
theorem EntsNew.row {base : Nat} {z : List Ent} {a : Option Addr} {n cap : Nat} {W : World} (h : EntsNew base z (.slice a n cap) W) (i : Nat) (hi : i < z.length) :
    ∃ b o a' cap', a = some ⟨b, o, none⟩ ∧ W.cell? ⟨b, o + i * 2, none⟩ = some (.slice a' z[i].1.length cap') ∧ RowIs W (.slice a' z[i].1.length cap') z[i].1 ∧ (z[i].1 = [] ∨ ∀ k, (Value.slice a' z[i].1.length cap').ownBlock = some k → base ≤ k) := by
  obtain ⟨us, h1, h2, h3⟩ := h
  have hiu : i < us.length := by rw [h2.1]; exact hi
  obtain ⟨b, o, e, c0, _, _⟩ := (EntsAt.of_own h1).at i hiu
  obtain ⟨r1, _⟩ := h2.2 i hiu hi
  obtain ⟨a', cap', ef⟩ := r1.form
  have h4 := h3 i hiu hi
  rw [ef] at r1 c0 h4
  exact ⟨b, o, a', cap', e, c0, r1, h4⟩
/-- The list of both parts, of the call's own. -/
theorem both_new {S : Nat} {w4 w5 w6 : World} {us vs : List VEnt} {l m z : List Ent} {v : Value} (e : l ++ m = z) (hS : S < w4.heap.size) (hl : OwnRows w4.heap.size w5 us l) (hm : OwnRows w4.heap.size w5 vs m) (hb : Below w5.heap.size w5 w6) (ho : w6.ownsRow w4.heap.size 34 2 v (us.length + vs.length) (es us ++ es vs)) : EntsNew (S + 1) z v w6 := by
  subst e
  have e : es (us ++ vs) = es us ++ es vs := by simp [es]
  exact (EntsNew.of_own (us := us ++ vs) (by rw [e, List.length_append]; exact ho) ((hl.on hb).append (hm.on hb))).mono hS
set_option maxHeartbeats 16000000 in
theorem slparts_main (a : Option Addr) (len cap : Nat) (zs : List Int) (at_ to : Int) (h1 : (len : Int) ≤ 120) (w : World) (ha : IsRow .i64 w a len cap zs) :
    Calls Try.prog 5 #[.slice a len cap, .int .i64 at_, .int .i64 to] w fun e w' => e = .returned (.bool true) ∧ Below w.heap.size w w' := by
  have Ha : Hid (IsRow .i64 w a len cap zs) := ha
  have qf := lawFirst4 w
  clear ha
  go_enter Try.func5, Try.ntmps5
  go_wp2_with fail
  refine qf.mono ?_
  rintro e w1 ⟨rfl, hb⟩
  have B1 : Hid (Below w.heap.size w w1) := hb
  have sw1 := hb.size
  clear hb qf
  go_wp2_with fail
  have M := seqCols (Ha.out.below B1.out) [1, 3] 26 3
  refine (makeSet w1.heap.size a len cap zs 0 (w1.heap.size + 1) 2 2 [1, 3] 14 _ M.1 (by decide) (by decide) M.2 (by omega) (by decide) (by simp) (by intro i h; match i, h with | 0, _ => simp | 1, _ => simp)).mono ?_
  clear M
  rintro e w2 ⟨vz, z, rfl, ⟨p, i1, i2, i3, i4, i5, i6, i7⟩, _, i8⟩
  have B2 : Hid (Below w.heap.size w w2) := (B1.out.trans (below_two.mono B1.out.size)).trans (i7.below B1.out.size (by have := B1.out.size; simp; omega))
  have N2 : Hid (EntsNew (w1.heap.size + 1) z vz w2) := i4.mono (by simp)
  have S2 : Hid (SeqAt w1.heap.size a len cap zs p w2) := i6
  have HZ : Hid (IsZ z ∧ EOk z) := ⟨i1, i2⟩
  have HK : Hid (∀ m, range [] ((3, 1, ⟨#[]⟩) :: m) z = z) := fun m => range_all i8 m
  have hzl : z.length ≤ 14 := by omega
  have hp : p ≤ 1000 := by omega
  have s12 : w1.heap.size < w2.heap.size := i6.2.2.2.1
  obtain ⟨aZ, cZ, rfl⟩ := i4.ents.form
  clear i1 i2 i3 i4 i5 i6 i7 i8 Ha B1
  go_wp2_with fail
  refine (makeRow w1.heap.size a len cap zs p w2.heap.size 2 2 [1, 3] _ (S2.out.on one_box) (by omega) (cols_new w2 [1, 3] 3) (by omega) (by simp) (by intro i h; match i, h with | 0, _ => simp | 1, _ => simp)).mono ?_
  rintro e w3 ⟨vr, rfl, r, p3, k1, _, k3, k4, k5, k6, _⟩
  have S3 : Hid (SeqAt w1.heap.size a len cap zs p3 w3) := k5
  have N3 : Hid (EntsNew (w1.heap.size + 1) z (.slice aZ z.length cZ) w3) := (N2.out.on one_box).but k6 (by omega)
  have V3 : Hid (Below w.heap.size w w3) := (B2.out.trans (one_box.mono B2.out.size)).trans (k6.below (by omega) (by have := B2.out.size; simp; omega))
  have s23 : w2.heap.size < w3.heap.size := by have := k6.size; simp at this; omega
  have hp3 : p3 ≤ 2000 := by omega
  have O3 : Hid (w3.ownsRow (w1.heap.size + 1) 45 3 vr r.length (rc r)) := by rw [k1]; exact own_mono k3 (by simp; omega)
  clear k1 k3 k4 k5 k6 S2 N2 B2
  obtain ⟨aR, cR', rfl⟩ := own_form O3.out
  obtain ⟨tN, ht4, htN⟩ := mod_pos to 5 (by decide) (by decide)
  by_cases hz : 0 < z.length
  · have hz' : (0 : Int) < (z.length : Int) := by omega
    obtain ⟨J, hJ1, hJ⟩ := mod_pos at_ (z.length : Int) hz' (by omega)
    have hJl : J < z.length := by omega
    obtain ⟨bZ, oZ, aQ, cQ, rfl, y1, y3, y4⟩ := N3.out.row J hJl
    have T3 : Hid (Pt w w1.heap.size z z[J].1 (.slice (some ⟨bZ, oZ, none⟩) z.length cZ) (.slice aQ z[J].1.length cQ) w3) := ⟨V3.out, N3.out, y3, y4⟩
    generalize z[J].1 = rr at *
    clear y3 y4 N3 O3 V3
    have JJ : Hid ((wrap64 (at_.tmod (z.length : Int) + (z.length : Int))).tmod (z.length : Int) = (J : Int)) := hJ
    go_wp2_with fail
    refine (slUpto z rr (.slice (some ⟨bZ, oZ, none⟩) z.length cZ) (.slice aQ rr.length cQ) true w3 (by omega) HZ.out.1 HZ.out.2 T3.out.n.ents T3.out.x).mono ?_
    rintro e w4 ⟨va, rfl, ⟨ua, uo, ur⟩, u2⟩
    have T4 : Hid (Pt w w1.heap.size z rr (.slice (some ⟨bZ, oZ, none⟩) z.length cZ) (.slice aQ rr.length cQ) w4) := T3.out.on u2
    have S4 : Hid (SeqAt w1.heap.size a len cap zs p3 w4) := S3.out.on u2
    have UO4 : Hid (w4.ownsRow w3.heap.size 34 2 va ua.length (es ua)) := uo
    have UR4 : Hid (OwnRows w3.heap.size w4 ua (upto true rr z)) := ur
    have s34 := u2.size
    clear uo ur u2 T3 S3
    have q2 := slAfter z rr (.slice (some ⟨bZ, oZ, none⟩) z.length cZ) (.slice aQ rr.length cQ) true (z.length : Int) w4 (by omega) HZ.out.1 HZ.out.2 T4.out.n.ents T4.out.x
    rw [after_here] at q2
    go_wp2_with fail
    refine q2.mono ?_
    clear q2
    rintro e w5 ⟨vb, rfl, ⟨ub, uo, ur⟩, u2⟩
    have T5 : Hid (Pt w w1.heap.size z rr (.slice (some ⟨bZ, oZ, none⟩) z.length cZ) (.slice aQ rr.length cQ) w5) := T4.out.on u2
    have S5 : Hid (SeqAt w1.heap.size a len cap zs p3 w5) := S4.out.on u2
    have UO5 : Hid (w5.ownsRow w3.heap.size 34 2 va ua.length (es ua)) := own_on UO4.out u2
    have UR5 : Hid (OwnRows w3.heap.size w5 ua (upto true rr z)) := UR4.out.on u2
    have hvo := own_mono uo s34
    have VR5 : Hid (OwnRows w3.heap.size w5 ub (z.filter (afP true rr))) := ⟨ur.1, fun i x1 x2 => ⟨own_mono (ur.2 i x1 x2).1 s34, (ur.2 i x1 x2).2⟩⟩
    have s45 := u2.size
    have HUB0 : ub.length = (z.filter (afP true rr)).length := ur.1
    rw [HUB0] at hvo
    have hub' := List.length_filter_le (afP true rr) z
    have hua : ua.length ≤ z.length := by rw [UR5.out.1]; exact List.length_filter_le (upP true rr) z
    have EU : Hid (upto true rr z ++ z.filter (afP true rr) = z) := upto_after z rr HZ.out.1.1
    generalize hLB : (z.filter (afP true rr)).length = lb at *
    have VO5 : Hid (w5.ownsRow w3.heap.size 34 2 vb lb (es ub)) := hvo
    have HUB : Hid (ub.length = lb) := HUB0
    have HLB : Hid ((z.filter (afP true rr)).length = lb) := hLB
    clear uo ur u2 T4 S4 UO4 UR4 hvo HUB0 hLB
    have q3 := refEntries ua (upto true rr z) va w5 (by rw [← UR5.out.1]; omega) (EntsAt.of_own UO5.out) UR5.out.reads
    obtain ⟨aA, cA, rfl⟩ := own_form UO5.out
    obtain ⟨aB, cB, rfl⟩ := own_form VO5.out
    go_wp2_with fail
    refine q3.mono ?_
    clear q3
    rintro e w6 ⟨vc, rfl, c1, c2⟩
    rw [List.take_length] at c1
    have s56 := c2.size
    have O6 : Hid (w6.ownsRow w3.heap.size 34 2 vc ua.length (es ua)) := own_mono c1 (by omega)
    have C2 : Hid (Below w5.heap.size w5 w6) := c2
    have FB : Hid (∀ v7 w7, Below w5.heap.size w5 w7 → w7.ownsRow w3.heap.size 34 2 v7 (ua.length + ub.length) (es ua ++ es ub) → EntsNew (w1.heap.size + 1) z v7 w7) := fun v7 w7 b7 o7 => both_new EU.out (by omega) UR5.out VR5.out b7 o7
    have FO : Hid (Value.ownBlock vc = none ∨ ∃ k, Value.ownBlock vc = some k ∧ w5.heap.size ≤ k) := by
      cases hv : vc.ownBlock with
      | none => exact .inl rfl
      | some k => exact .inr ⟨k, rfl, (c1.lt k hv).1⟩
    have FG : Hid (∀ k, vc.ownBlock = some k → w5.heap.size ≤ k) := fun k hv => (c1.lt k hv).1
    clear c1 c2 FO
    have NB : Hid (∃ v7 w7, True) := ⟨vc, w6, trivial⟩
    clear NB
    by_cases hb0 : lb = 0
    · subst hb0
      obtain rfl : ub = [] := List.eq_nil_of_length_eq_zero HUB.out
      have N7 : Hid (EntsNew (w1.heap.size + 1) z vc w6) := FB.out vc w6 C2.out (by simpa [es] using O6.out)
      have T7 : Hid (Pt w w1.heap.size z rr (.slice (some ⟨bZ, oZ, none⟩) z.length cZ) (.slice aQ rr.length cQ) w6) := T5.out.on C2.out
      have S7 : Hid (SeqAt w1.heap.size a len cap zs p3 w6) := S5.out.on C2.out
      obtain ⟨i0, hi, hz0, hz1, hz2⟩ := info_parts info_entry
      clear FB FG T5 S5 UO5 UR5 VO5 VR5 C2 hz0 hz1 hz2
      go_wp2_with (first | (at_builtin; refine wpList_append_zero rfl _ _ 27 rfl w3.heap.size 34 i0 2 Try.underlying27 hi vc ua.length (es ua) rfl O6.out aB cB rfl ?_) | fail)
      have s37 : w3.heap.size ≤ w6.heap.size := by omega
      clear hi O6
      generalize hw7 : w6 = w7 at *
      generalize hv7 : vc = v7 at *
      clear hw7 hv7
      obtain ⟨aO, cO, rfl⟩ := N7.out.ents.form
      refine (makeRow w1.heap.size a len cap zs p3 w7.heap.size 2 2 [1, 3] _ (S7.out.on one_box) (by omega) (cols_new w7 [1, 3] 3) (by omega) (by simp) (by intro i h; match i, h with | 0, _ => simp | 1, _ => simp)).mono ?_
      rintro e w8 ⟨vs, rfl, s, p8, k1, _, k3, k4, k5, k6, _⟩
      have T8 : Hid (Pt w w1.heap.size z rr (.slice (some ⟨bZ, oZ, none⟩) z.length cZ) (.slice aQ rr.length cQ) w8) := (T7.out.on one_box).but k6 sw1
      have N8 : Hid (EntsNew (w1.heap.size + 1) z (.slice aO z.length cO) w8) := (N7.out.on one_box).but k6 (by omega)
      have R8 : Hid (RowIs w8 vs s) := RowIs.of_own (by rw [k1]; exact k3)
      obtain ⟨aS, cS, rfl⟩ := R8.out.form
      clear k1 k3 k4 k5 k6 T7 N7 S7
      go_wp2_with fail
      refine (slRange z rr s (.slice (some ⟨bZ, oZ, none⟩) z.length cZ) (.slice aQ rr.length cQ) _ w8 (by omega) HZ.out.1 HZ.out.2 T8.out.n.ents T8.out.x R8.out).mono ?_
      rintro e w9 ⟨vx, rfl, x1, x2⟩
      have T9 : Hid (Pu w z rr s (.slice (some ⟨bZ, oZ, none⟩) z.length cZ) (.slice aQ rr.length cQ) (.slice aS s.length cS) (.slice aO z.length cO) vx w9) := ⟨T8.out.b.trans (x2.mono T8.out.b.size), T8.out.n.ents.on x2, T8.out.x.on x2, R8.out.on x2, N8.out.ents.on x2, x1.ents⟩
      obtain ⟨aX, cX, rfl⟩ := T9.out.g.form
      have hrl : (range rr s z).length ≤ 14 := by have := List.length_filter_le (rgP rr s) z; unfold range; omega
      clear x1 x2 T8 N8 R8
      go_wp2_with fail
      go_loopw [16] (fun i wr => ∃ j : Nat, j ≤ (range rr s z).length ∧ i = .int .i64 j ∧ Hid (Pu w z rr s (.slice (some ⟨bZ, oZ, none⟩) z.length cZ) (.slice aQ rr.length cQ) (.slice aS s.length cS) (.slice aO z.length cO) (.slice aX (range rr s z).length cX) wr)) (fun i _ => (range rr s z).length - (intOf i).toNat)
      case atStart => exact ⟨0, by omega, rfl, T9.out⟩
      case round =>
        obtain ⟨j, hj, rfl, hP⟩ := hrel
        clear T9
        by_cases k1 : j < (range rr s z).length
        · have I1 : (j : Int) < ((range rr s z).length : Int) := by omega
          obtain ⟨b1, o1, a1, c1, rfl, y1, _, y3⟩ := hP.out.g.at j k1
          obtain ⟨g1, g2⟩ := range_mem (List.getElem_mem k1)
          have qa : Hid (Calls Try.prog 21 #[.slice a1 (range rr s z)[j].1.length c1, (.slice aQ rr.length cQ)] wr fun e w' => e = .returned (.int .i64 (cR (range rr s z)[j].1 rr)) ∧ Below wr.heap.size wr w') := refCompareRows _ _ _ _ wr y3 hP.out.x
          have qb : Hid (∀ W, Below wr.heap.size wr W → Calls Try.prog 21 #[.slice a1 (range rr s z)[j].1.length c1, .slice aS s.length cS] W fun e w' => e = .returned (.int .i64 (cR (range rr s z)[j].1 s)) ∧ Below W.heap.size W w') := fun W hW => refCompareRows _ _ _ _ W (y3.on hW) (hP.out.y.on hW)
          clear y3
          generalize cR (range rr s z)[j].1 rr = d1 at *
          generalize cR (range rr s z)[j].1 s = d2 at *
          generalize (range rr s z)[j].1.length = n1 at *
          go_wp2_with fail
          refine qa.out.mono ?_
          rintro e u1 ⟨rfl, hb1⟩
          have H1 : Hid (Below wr.heap.size wr u1) := hb1
          have z1 := cell_on y1 hb1
          clear hb1 qa
          go_wp2_with fail
          refine (qb.out _ H1.out).mono ?_
          rintro e u2 ⟨rfl, hb2⟩
          have P2 : Hid (Pu w z rr s (.slice (some ⟨bZ, oZ, none⟩) z.length cZ) (.slice aQ rr.length cQ) (.slice aS s.length cS) (.slice aO z.length cO) (.slice (some ⟨b1, o1, none⟩) (range rr s z).length cX) u2) := (hP.out.on H1.out).on hb2
          clear hb2 qb H1 y1 z1 hP
          go_wp2_with fail
          go_roundw
          case rel => exact ⟨j + 1, by omega, by go_num, P2.out⟩
          case measure => simp [intOf]; omega
        · have I1 : ¬ (j : Int) < ((range rr s z).length : Int) := by omega
          have q1 := same_ok hP.out.o hP.out.e
          go_wp2_with fail
          refine q1.mono ?_
          rintro e u1 ⟨rfl, hb1⟩
          have P1 : Hid (Pu w z rr s (.slice (some ⟨bZ, oZ, none⟩) z.length cZ) (.slice aQ rr.length cQ) (.slice aS s.length cS) (.slice aO z.length cO) (.slice aX (range rr s z).length cX) u1) := hP.out.on hb1
          have q2 := slCount z rr (.slice (some ⟨bZ, oZ, none⟩) z.length cZ) (.slice aQ rr.length cQ) true u1 (by omega) HZ.out.1 HZ.out.2 P1.out.e P1.out.x
          rw [HLB.out] at q2
          clear hb1 q1 hP
          go_wp2_with fail
          refine q2.mono ?_
          rintro e u2 ⟨rfl, hb2⟩
          have P2 : Hid (Pu w z rr s (.slice (some ⟨bZ, oZ, none⟩) z.length cZ) (.slice aQ rr.length cQ) (.slice aS s.length cS) (.slice aO z.length cO) (.slice aX (range rr s z).length cX) u2) := P1.out.on hb2
          have q3 : Hid (Calls Try.prog 12 #[(.slice (some ⟨bZ, oZ, none⟩) z.length cZ), .slice none 0 0, .bool false, .int .i64 (tN : Int)] u2 fun e w' => ∃ a' c', e = .returned (.slice a' (min tN z.length) c') ∧ Below u2.heap.size u2 w') := (slAfter z [] (.slice (some ⟨bZ, oZ, none⟩) z.length cZ) (.slice none 0 0) false (tN : Int) u2 (by omega) HZ.out.1 HZ.out.2 P2.out.e (.inl ⟨none, 0, rfl, rfl⟩)).mono fun e w' ⟨v, e1, e2, e3⟩ => by
            obtain ⟨a', c', rfl⟩ := e2.ents.form
            have := after_len_no [] z (tN : Int) (by omega)
            exact ⟨a', c', by rw [e1, show (after false [] z (tN : Int)).length = min tN z.length by omega], e3⟩
          clear hb2 q2 P1
          go_wp2_with fail
          refine q3.out.mono ?_
          rintro e u3 ⟨a3, c3, rfl, hb3⟩
          have P3 : Hid (Pu w z rr s (.slice (some ⟨bZ, oZ, none⟩) z.length cZ) (.slice aQ rr.length cQ) (.slice aS s.length cS) (.slice aO z.length cO) (.slice aX (range rr s z).length cX) u3) := P2.out.on hb3
          have q4 : Hid (Calls Try.prog 12 #[(.slice (some ⟨bZ, oZ, none⟩) z.length cZ), (.slice aQ rr.length cQ), .bool true, .int .i64 (-(tN : Int))] u3 fun e w' => ∃ a' c', e = .returned (.slice a' 0 c') ∧ Below u3.heap.size u3 w') := (slAfter z rr (.slice (some ⟨bZ, oZ, none⟩) z.length cZ) (.slice aQ rr.length cQ) true (-(tN : Int)) u3 (by omega) HZ.out.1 HZ.out.2 P3.out.e P3.out.x).mono fun e w' ⟨v, e1, e2, e3⟩ => by
            rw [after_neg true rr z (by omega)] at e2
            obtain ⟨a', c', rfl⟩ := e2.ents.form
            exact ⟨a', c', e1, e3⟩
          clear hb3 q3 P2
          go_wp2_with fail
          all_goals
            refine q4.out.mono ?_
            rintro e u4 ⟨a4, c4, rfl, hb4⟩
            have P4 : Hid (Pu w z rr s (.slice (some ⟨bZ, oZ, none⟩) z.length cZ) (.slice aQ rr.length cQ) (.slice aS s.length cS) (.slice aO z.length cO) (.slice aX (range rr s z).length cX) u4) := P3.out.on hb4
            have q5 : Hid (Calls Try.prog 16 #[(.slice (some ⟨bZ, oZ, none⟩) z.length cZ), (.slice aQ rr.length cQ), (.slice aQ rr.length cQ)] u4 fun e w' => ∃ a' c', e = .returned (.slice a' 0 c') ∧ Below u4.heap.size u4 w') := (slRange z rr rr (.slice (some ⟨bZ, oZ, none⟩) z.length cZ) (.slice aQ rr.length cQ) (.slice aQ rr.length cQ) u4 (by omega) HZ.out.1 HZ.out.2 P4.out.e P4.out.x P4.out.x).mono fun e w' ⟨v, e1, e2, e3⟩ => by
              rw [range_self] at e2
              obtain ⟨a', c', rfl⟩ := e2.ents.form
              exact ⟨a', c', e1, e3⟩
            clear hb4 q4 P3
            go_wp2_with fail
            refine q5.out.mono ?_
            rintro e u5 ⟨a5, c5, rfl, hb5⟩
            have P5 : Hid (Pu w z rr s (.slice (some ⟨bZ, oZ, none⟩) z.length cZ) (.slice aQ rr.length cQ) (.slice aS s.length cS) (.slice aO z.length cO) (.slice aX (range rr s z).length cX) u5) := P4.out.on hb5
            have q6 : Hid (Calls Try.prog 14 #[(.slice (some ⟨bZ, oZ, none⟩) z.length cZ), (.slice aQ rr.length cQ), .bool false] u5 fun e w' => ∃ a' c', e = .returned (.slice a' 0 c') ∧ Below u5.heap.size u5 w') := (slUpto z rr (.slice (some ⟨bZ, oZ, none⟩) z.length cZ) (.slice aQ rr.length cQ) false u5 (by omega) HZ.out.1 HZ.out.2 P5.out.e P5.out.x).mono fun e w' ⟨v, e1, e2, e3⟩ => by
              rw [upto_no] at e2
              obtain ⟨a', c', rfl⟩ := e2.ents.form
              exact ⟨a', c', e1, e3⟩
            clear hb5 q5 P4
            go_wp2_with fail
            refine q6.out.mono ?_
            rintro e u6 ⟨a6, c6, rfl, hb6⟩
            have P6 : Hid (Pu w z rr s (.slice (some ⟨bZ, oZ, none⟩) z.length cZ) (.slice aQ rr.length cQ) (.slice aS s.length cS) (.slice aO z.length cO) (.slice aX (range rr s z).length cX) u6) := P5.out.on hb6
            clear hb6 q6 P5
            have q7 : Hid (Calls Try.prog 16 #[(.slice (some ⟨bZ, oZ, none⟩) z.length cZ), .slice (some ⟨u6.heap.size, 0, none⟩) 0 0, .slice (some ⟨u6.heap.size + 1, 0, none⟩) 3 3] ((u6.alloc (.cells #[] 45)).alloc (.cells #[.int .i64 3, .int .i64 1, .string ⟨#[]⟩, .int .i64 0, .int .i64 0, .string ⟨#[]⟩, .int .i64 0, .int .i64 0, .string ⟨#[]⟩] 45)) fun e w' => ∃ a' c', e = .returned (.slice a' z.length c') ∧ Below w.heap.size w w') := (slRange z [] [(3, 1, ⟨#[]⟩), (0, 0, ⟨#[]⟩), (0, 0, ⟨#[]⟩)] (.slice (some ⟨bZ, oZ, none⟩) z.length cZ) _ _ _ (by omega) HZ.out.1 HZ.out.2 (P6.out.e.on below_two) (.inl ⟨_, _, rfl, rfl⟩) (by have := row_three (u6.alloc (.cells #[] 45)) (3, 1, ⟨#[]⟩) (0, 0, ⟨#[]⟩) (0, 0, ⟨#[]⟩); simpa using this)).mono fun e w' ⟨v, e1, e2, e3⟩ => by
              rw [HK.out] at e2
              obtain ⟨a', c', rfl⟩ := e2.ents.form
              exact ⟨a', c', e1, (P6.out.b.trans (below_two.mono P6.out.b.size)).trans (e3.mono (by have := P6.out.b.size; simp; omega))⟩
            go_wp2_with fail
            refine q7.out.mono ?_
            rintro e u7 ⟨a7, c7, rfl, hb7⟩
            have B7 : Hid (Below w.heap.size w u7) := hb7
            clear hb7 q7 P6
            go_wp2_with fail
            go_ret
            exact ⟨rfl, B7.out⟩
    · obtain ⟨g, hg⟩ : ∃ g, aB = some ⟨g, 0, none⟩ := by
        rcases VO5.out.2 with ⟨_, e⟩ | ⟨g, cap', cur, hv, q1, _⟩
        · omega
        · simp only [Value.slice.injEq] at hv; exact ⟨g, hv.1⟩
      subst hg
      have XC : Hid (∀ j u, (es ub)[j]? = some u → w6.cell? ((⟨g, 0, none⟩ : Addr).add j) = some u) := (EntsAt.of_own (by rw [HUB.out]; exact own_on VO5.out C2.out)).cells
      have X1 : Hid (∀ u ∈ es ub, u.oneCell' = true) := VR5.out.reads.one'
      have XN : Hid ((es ub).length = lb * 2) := by show _ = _; rw [es_len, HUB.out]
      have hul : ua.length + lb ≤ 100 := by omega
      have FA : Hid (∀ v7 w7, w7.ownsRow w3.heap.size 34 2 v7 (ua.length + lb) (es ua ++ es ub) → w6.grownBy w7 vc.ownBlock → Hid (EntsNew (w1.heap.size + 1) z v7 w7) ∧ Hid (Pt w w1.heap.size z rr (.slice (some ⟨bZ, oZ, none⟩) z.length cZ) (.slice aQ rr.length cQ) w7) ∧ Hid (SeqAt w1.heap.size a len cap zs p3 w7) ∧ w3.heap.size ≤ w7.heap.size) := by
        intro v7 w7 g1 g2
        have b7 : Below w5.heap.size w5 w7 := C2.out.grown g2 C2.out.size FG.out
        exact ⟨FB.out v7 w7 b7 (by rw [HUB.out]; exact g1), T5.out.on b7, S5.out.on b7, by have := b7.size; omega⟩
      obtain ⟨i0, hi, hz0, hz1, hz2⟩ := info_parts info_entry
      have s36 : w3.heap.size ≤ w6.heap.size := by omega
      clear FB FG T5 S5 UO5 UR5 VO5 VR5 C2
      go_wp2_with (first | (at_builtin; refine wpList_append_own _ rfl _ _ 27 rfl w3.heap.size 34 i0 (.agg #[.slice none 0 0, .int .i64 0]) 2 32 Try.underlying27 hi hz0 hz1 hz2 rfl (by decide) _ ua.length (es ua) rfl O6.out ⟨g, 0, none⟩ lb cB (es ub) rfl XN.out XC.out X1.out (by unfold maxLen; omega) (by omega) (by omega) ?_; intro v7 w7 hown7 hg7 _; have hs7 := FA.out _ _ hown7 hg7; clear hown7 hg7 FA) | fail)
      obtain ⟨N7, T7, S7, s37⟩ := hs7
      clear hi hz0 hz1 hz2 O6 XC X1 XN
      obtain ⟨aO, cO, rfl⟩ := N7.out.ents.form
      refine (makeRow w1.heap.size a len cap zs p3 w7.heap.size 2 2 [1, 3] _ (S7.out.on one_box) (by omega) (cols_new w7 [1, 3] 3) (by omega) (by simp) (by intro i h; match i, h with | 0, _ => simp | 1, _ => simp)).mono ?_
      rintro e w8 ⟨vs, rfl, s, p8, k1, _, k3, k4, k5, k6, _⟩
      have T8 : Hid (Pt w w1.heap.size z rr (.slice (some ⟨bZ, oZ, none⟩) z.length cZ) (.slice aQ rr.length cQ) w8) := (T7.out.on one_box).but k6 sw1
      have N8 : Hid (EntsNew (w1.heap.size + 1) z (.slice aO z.length cO) w8) := (N7.out.on one_box).but k6 (by omega)
      have R8 : Hid (RowIs w8 vs s) := RowIs.of_own (by rw [k1]; exact k3)
      obtain ⟨aS, cS, rfl⟩ := R8.out.form
      clear k1 k3 k4 k5 k6 T7 N7 S7
      go_wp2_with fail
      refine (slRange z rr s (.slice (some ⟨bZ, oZ, none⟩) z.length cZ) (.slice aQ rr.length cQ) _ w8 (by omega) HZ.out.1 HZ.out.2 T8.out.n.ents T8.out.x R8.out).mono ?_
      rintro e w9 ⟨vx, rfl, x1, x2⟩
      have T9 : Hid (Pu w z rr s (.slice (some ⟨bZ, oZ, none⟩) z.length cZ) (.slice aQ rr.length cQ) (.slice aS s.length cS) (.slice aO z.length cO) vx w9) := ⟨T8.out.b.trans (x2.mono T8.out.b.size), T8.out.n.ents.on x2, T8.out.x.on x2, R8.out.on x2, N8.out.ents.on x2, x1.ents⟩
      obtain ⟨aX, cX, rfl⟩ := T9.out.g.form
      have hrl : (range rr s z).length ≤ 14 := by have := List.length_filter_le (rgP rr s) z; unfold range; omega
      clear x1 x2 T8 N8 R8
      go_wp2_with fail
      go_loopw [16] (fun i wr => ∃ j : Nat, j ≤ (range rr s z).length ∧ i = .int .i64 j ∧ Hid (Pu w z rr s (.slice (some ⟨bZ, oZ, none⟩) z.length cZ) (.slice aQ rr.length cQ) (.slice aS s.length cS) (.slice aO z.length cO) (.slice aX (range rr s z).length cX) wr)) (fun i _ => (range rr s z).length - (intOf i).toNat)
      case atStart => exact ⟨0, by omega, rfl, T9.out⟩
      case round =>
        obtain ⟨j, hj, rfl, hP⟩ := hrel
        clear T9
        by_cases k1 : j < (range rr s z).length
        · have I1 : (j : Int) < ((range rr s z).length : Int) := by omega
          obtain ⟨b1, o1, a1, c1, rfl, y1, _, y3⟩ := hP.out.g.at j k1
          obtain ⟨g1, g2⟩ := range_mem (List.getElem_mem k1)
          have qa : Hid (Calls Try.prog 21 #[.slice a1 (range rr s z)[j].1.length c1, (.slice aQ rr.length cQ)] wr fun e w' => e = .returned (.int .i64 (cR (range rr s z)[j].1 rr)) ∧ Below wr.heap.size wr w') := refCompareRows _ _ _ _ wr y3 hP.out.x
          have qb : Hid (∀ W, Below wr.heap.size wr W → Calls Try.prog 21 #[.slice a1 (range rr s z)[j].1.length c1, .slice aS s.length cS] W fun e w' => e = .returned (.int .i64 (cR (range rr s z)[j].1 s)) ∧ Below W.heap.size W w') := fun W hW => refCompareRows _ _ _ _ W (y3.on hW) (hP.out.y.on hW)
          clear y3
          generalize cR (range rr s z)[j].1 rr = d1 at *
          generalize cR (range rr s z)[j].1 s = d2 at *
          generalize (range rr s z)[j].1.length = n1 at *
          go_wp2_with fail
          refine qa.out.mono ?_
          rintro e u1 ⟨rfl, hb1⟩
          have H1 : Hid (Below wr.heap.size wr u1) := hb1
          have z1 := cell_on y1 hb1
          clear hb1 qa
          go_wp2_with fail
          refine (qb.out _ H1.out).mono ?_
          rintro e u2 ⟨rfl, hb2⟩
          have P2 : Hid (Pu w z rr s (.slice (some ⟨bZ, oZ, none⟩) z.length cZ) (.slice aQ rr.length cQ) (.slice aS s.length cS) (.slice aO z.length cO) (.slice (some ⟨b1, o1, none⟩) (range rr s z).length cX) u2) := (hP.out.on H1.out).on hb2
          clear hb2 qb H1 y1 z1 hP
          go_wp2_with fail
          go_roundw
          case rel => exact ⟨j + 1, by omega, by go_num, P2.out⟩
          case measure => simp [intOf]; omega
        · have I1 : ¬ (j : Int) < ((range rr s z).length : Int) := by omega
          have q1 := same_ok hP.out.o hP.out.e
          go_wp2_with fail
          refine q1.mono ?_
          rintro e u1 ⟨rfl, hb1⟩
          have P1 : Hid (Pu w z rr s (.slice (some ⟨bZ, oZ, none⟩) z.length cZ) (.slice aQ rr.length cQ) (.slice aS s.length cS) (.slice aO z.length cO) (.slice aX (range rr s z).length cX) u1) := hP.out.on hb1
          have q2 := slCount z rr (.slice (some ⟨bZ, oZ, none⟩) z.length cZ) (.slice aQ rr.length cQ) true u1 (by omega) HZ.out.1 HZ.out.2 P1.out.e P1.out.x
          rw [HLB.out] at q2
          clear hb1 q1 hP
          go_wp2_with fail
          refine q2.mono ?_
          rintro e u2 ⟨rfl, hb2⟩
          have P2 : Hid (Pu w z rr s (.slice (some ⟨bZ, oZ, none⟩) z.length cZ) (.slice aQ rr.length cQ) (.slice aS s.length cS) (.slice aO z.length cO) (.slice aX (range rr s z).length cX) u2) := P1.out.on hb2
          have q3 : Hid (Calls Try.prog 12 #[(.slice (some ⟨bZ, oZ, none⟩) z.length cZ), .slice none 0 0, .bool false, .int .i64 (tN : Int)] u2 fun e w' => ∃ a' c', e = .returned (.slice a' (min tN z.length) c') ∧ Below u2.heap.size u2 w') := (slAfter z [] (.slice (some ⟨bZ, oZ, none⟩) z.length cZ) (.slice none 0 0) false (tN : Int) u2 (by omega) HZ.out.1 HZ.out.2 P2.out.e (.inl ⟨none, 0, rfl, rfl⟩)).mono fun e w' ⟨v, e1, e2, e3⟩ => by
            obtain ⟨a', c', rfl⟩ := e2.ents.form
            have := after_len_no [] z (tN : Int) (by omega)
            exact ⟨a', c', by rw [e1, show (after false [] z (tN : Int)).length = min tN z.length by omega], e3⟩
          clear hb2 q2 P1
          go_wp2_with fail
          refine q3.out.mono ?_
          rintro e u3 ⟨a3, c3, rfl, hb3⟩
          have P3 : Hid (Pu w z rr s (.slice (some ⟨bZ, oZ, none⟩) z.length cZ) (.slice aQ rr.length cQ) (.slice aS s.length cS) (.slice aO z.length cO) (.slice aX (range rr s z).length cX) u3) := P2.out.on hb3
          have q4 : Hid (Calls Try.prog 12 #[(.slice (some ⟨bZ, oZ, none⟩) z.length cZ), (.slice aQ rr.length cQ), .bool true, .int .i64 (-(tN : Int))] u3 fun e w' => ∃ a' c', e = .returned (.slice a' 0 c') ∧ Below u3.heap.size u3 w') := (slAfter z rr (.slice (some ⟨bZ, oZ, none⟩) z.length cZ) (.slice aQ rr.length cQ) true (-(tN : Int)) u3 (by omega) HZ.out.1 HZ.out.2 P3.out.e P3.out.x).mono fun e w' ⟨v, e1, e2, e3⟩ => by
            rw [after_neg true rr z (by omega)] at e2
            obtain ⟨a', c', rfl⟩ := e2.ents.form
            exact ⟨a', c', e1, e3⟩
          clear hb3 q3 P2
          go_wp2_with fail
          all_goals
            refine q4.out.mono ?_
            rintro e u4 ⟨a4, c4, rfl, hb4⟩
            have P4 : Hid (Pu w z rr s (.slice (some ⟨bZ, oZ, none⟩) z.length cZ) (.slice aQ rr.length cQ) (.slice aS s.length cS) (.slice aO z.length cO) (.slice aX (range rr s z).length cX) u4) := P3.out.on hb4
            have q5 : Hid (Calls Try.prog 16 #[(.slice (some ⟨bZ, oZ, none⟩) z.length cZ), (.slice aQ rr.length cQ), (.slice aQ rr.length cQ)] u4 fun e w' => ∃ a' c', e = .returned (.slice a' 0 c') ∧ Below u4.heap.size u4 w') := (slRange z rr rr (.slice (some ⟨bZ, oZ, none⟩) z.length cZ) (.slice aQ rr.length cQ) (.slice aQ rr.length cQ) u4 (by omega) HZ.out.1 HZ.out.2 P4.out.e P4.out.x P4.out.x).mono fun e w' ⟨v, e1, e2, e3⟩ => by
              rw [range_self] at e2
              obtain ⟨a', c', rfl⟩ := e2.ents.form
              exact ⟨a', c', e1, e3⟩
            clear hb4 q4 P3
            go_wp2_with fail
            refine q5.out.mono ?_
            rintro e u5 ⟨a5, c5, rfl, hb5⟩
            have P5 : Hid (Pu w z rr s (.slice (some ⟨bZ, oZ, none⟩) z.length cZ) (.slice aQ rr.length cQ) (.slice aS s.length cS) (.slice aO z.length cO) (.slice aX (range rr s z).length cX) u5) := P4.out.on hb5
            have q6 : Hid (Calls Try.prog 14 #[(.slice (some ⟨bZ, oZ, none⟩) z.length cZ), (.slice aQ rr.length cQ), .bool false] u5 fun e w' => ∃ a' c', e = .returned (.slice a' 0 c') ∧ Below u5.heap.size u5 w') := (slUpto z rr (.slice (some ⟨bZ, oZ, none⟩) z.length cZ) (.slice aQ rr.length cQ) false u5 (by omega) HZ.out.1 HZ.out.2 P5.out.e P5.out.x).mono fun e w' ⟨v, e1, e2, e3⟩ => by
              rw [upto_no] at e2
              obtain ⟨a', c', rfl⟩ := e2.ents.form
              exact ⟨a', c', e1, e3⟩
            clear hb5 q5 P4
            go_wp2_with fail
            refine q6.out.mono ?_
            rintro e u6 ⟨a6, c6, rfl, hb6⟩
            have P6 : Hid (Pu w z rr s (.slice (some ⟨bZ, oZ, none⟩) z.length cZ) (.slice aQ rr.length cQ) (.slice aS s.length cS) (.slice aO z.length cO) (.slice aX (range rr s z).length cX) u6) := P5.out.on hb6
            clear hb6 q6 P5
            have q7 : Hid (Calls Try.prog 16 #[(.slice (some ⟨bZ, oZ, none⟩) z.length cZ), .slice (some ⟨u6.heap.size, 0, none⟩) 0 0, .slice (some ⟨u6.heap.size + 1, 0, none⟩) 3 3] ((u6.alloc (.cells #[] 45)).alloc (.cells #[.int .i64 3, .int .i64 1, .string ⟨#[]⟩, .int .i64 0, .int .i64 0, .string ⟨#[]⟩, .int .i64 0, .int .i64 0, .string ⟨#[]⟩] 45)) fun e w' => ∃ a' c', e = .returned (.slice a' z.length c') ∧ Below w.heap.size w w') := (slRange z [] [(3, 1, ⟨#[]⟩), (0, 0, ⟨#[]⟩), (0, 0, ⟨#[]⟩)] (.slice (some ⟨bZ, oZ, none⟩) z.length cZ) _ _ _ (by omega) HZ.out.1 HZ.out.2 (P6.out.e.on below_two) (.inl ⟨_, _, rfl, rfl⟩) (by have := row_three (u6.alloc (.cells #[] 45)) (3, 1, ⟨#[]⟩) (0, 0, ⟨#[]⟩) (0, 0, ⟨#[]⟩); simpa using this)).mono fun e w' ⟨v, e1, e2, e3⟩ => by
              rw [HK.out] at e2
              obtain ⟨a', c', rfl⟩ := e2.ents.form
              exact ⟨a', c', e1, (P6.out.b.trans (below_two.mono P6.out.b.size)).trans (e3.mono (by have := P6.out.b.size; simp; omega))⟩
            go_wp2_with fail
            refine q7.out.mono ?_
            rintro e u7 ⟨a7, c7, rfl, hb7⟩
            have B7 : Hid (Below w.heap.size w u7) := hb7
            clear hb7 q7 P6
            go_wp2_with fail
            go_ret
            exact ⟨rfl, B7.out⟩
  · have hz0 : ¬ (0 : Int) < (z.length : Int) := by omega
    have T3 : Hid (Pt w w1.heap.size z r (.slice aZ z.length cZ) (.slice aR r.length cR') w3) := ⟨V3.out, N3.out, RowIs.of_own O3.out, .inr (fun k hk => (O3.out.lt k hk).1)⟩
    clear N3 O3 V3
    go_wp2_with fail
    refine (slUpto z r (.slice aZ z.length cZ) (.slice aR r.length cR') true w3 (by omega) HZ.out.1 HZ.out.2 T3.out.n.ents T3.out.x).mono ?_
    rintro e w4 ⟨va, rfl, ⟨ua, uo, ur⟩, u2⟩
    have T4 : Hid (Pt w w1.heap.size z r (.slice aZ z.length cZ) (.slice aR r.length cR') w4) := T3.out.on u2
    have S4 : Hid (SeqAt w1.heap.size a len cap zs p3 w4) := S3.out.on u2
    have UO4 : Hid (w4.ownsRow w3.heap.size 34 2 va ua.length (es ua)) := uo
    have UR4 : Hid (OwnRows w3.heap.size w4 ua (upto true r z)) := ur
    have s34 := u2.size
    clear uo ur u2 T3 S3
    have q2 := slAfter z r (.slice aZ z.length cZ) (.slice aR r.length cR') true (z.length : Int) w4 (by omega) HZ.out.1 HZ.out.2 T4.out.n.ents T4.out.x
    rw [after_here] at q2
    go_wp2_with fail
    refine q2.mono ?_
    clear q2
    rintro e w5 ⟨vb, rfl, ⟨ub, uo, ur⟩, u2⟩
    have T5 : Hid (Pt w w1.heap.size z r (.slice aZ z.length cZ) (.slice aR r.length cR') w5) := T4.out.on u2
    have S5 : Hid (SeqAt w1.heap.size a len cap zs p3 w5) := S4.out.on u2
    have UO5 : Hid (w5.ownsRow w3.heap.size 34 2 va ua.length (es ua)) := own_on UO4.out u2
    have UR5 : Hid (OwnRows w3.heap.size w5 ua (upto true r z)) := UR4.out.on u2
    have hvo := own_mono uo s34
    have VR5 : Hid (OwnRows w3.heap.size w5 ub (z.filter (afP true r))) := ⟨ur.1, fun i x1 x2 => ⟨own_mono (ur.2 i x1 x2).1 s34, (ur.2 i x1 x2).2⟩⟩
    have s45 := u2.size
    have HUB0 : ub.length = (z.filter (afP true r)).length := ur.1
    rw [HUB0] at hvo
    have hub' := List.length_filter_le (afP true r) z
    have hua : ua.length ≤ z.length := by rw [UR5.out.1]; exact List.length_filter_le (upP true r) z
    have EU : Hid (upto true r z ++ z.filter (afP true r) = z) := upto_after z r HZ.out.1.1
    generalize hLB : (z.filter (afP true r)).length = lb at *
    have VO5 : Hid (w5.ownsRow w3.heap.size 34 2 vb lb (es ub)) := hvo
    have HUB : Hid (ub.length = lb) := HUB0
    have HLB : Hid ((z.filter (afP true r)).length = lb) := hLB
    clear uo ur u2 T4 S4 UO4 UR4 hvo HUB0 hLB
    have q3 := refEntries ua (upto true r z) va w5 (by rw [← UR5.out.1]; omega) (EntsAt.of_own UO5.out) UR5.out.reads
    obtain ⟨aA, cA, rfl⟩ := own_form UO5.out
    obtain ⟨aB, cB, rfl⟩ := own_form VO5.out
    go_wp2_with fail
    refine q3.mono ?_
    clear q3
    rintro e w6 ⟨vc, rfl, c1, c2⟩
    rw [List.take_length] at c1
    have s56 := c2.size
    have O6 : Hid (w6.ownsRow w3.heap.size 34 2 vc ua.length (es ua)) := own_mono c1 (by omega)
    have C2 : Hid (Below w5.heap.size w5 w6) := c2
    have FB : Hid (∀ v7 w7, Below w5.heap.size w5 w7 → w7.ownsRow w3.heap.size 34 2 v7 (ua.length + ub.length) (es ua ++ es ub) → EntsNew (w1.heap.size + 1) z v7 w7) := fun v7 w7 b7 o7 => both_new EU.out (by omega) UR5.out VR5.out b7 o7
    have FO : Hid (Value.ownBlock vc = none ∨ ∃ k, Value.ownBlock vc = some k ∧ w5.heap.size ≤ k) := by
      cases hv : vc.ownBlock with
      | none => exact .inl rfl
      | some k => exact .inr ⟨k, rfl, (c1.lt k hv).1⟩
    have FG : Hid (∀ k, vc.ownBlock = some k → w5.heap.size ≤ k) := fun k hv => (c1.lt k hv).1
    clear c1 c2 FO
    have NB : Hid (∃ v7 w7, True) := ⟨vc, w6, trivial⟩
    clear NB
    by_cases hb0 : lb = 0
    · subst hb0
      obtain rfl : ub = [] := List.eq_nil_of_length_eq_zero HUB.out
      have N7 : Hid (EntsNew (w1.heap.size + 1) z vc w6) := FB.out vc w6 C2.out (by simpa [es] using O6.out)
      have T7 : Hid (Pt w w1.heap.size z r (.slice aZ z.length cZ) (.slice aR r.length cR') w6) := T5.out.on C2.out
      have S7 : Hid (SeqAt w1.heap.size a len cap zs p3 w6) := S5.out.on C2.out
      obtain ⟨i0, hi, hz0, hz1, hz2⟩ := info_parts info_entry
      clear FB FG T5 S5 UO5 UR5 VO5 VR5 C2 hz0 hz1 hz2
      go_wp2_with (first | (at_builtin; refine wpList_append_zero rfl _ _ 27 rfl w3.heap.size 34 i0 2 Try.underlying27 hi vc ua.length (es ua) rfl O6.out aB cB rfl ?_) | fail)
      have s37 : w3.heap.size ≤ w6.heap.size := by omega
      clear hi O6
      generalize hw7 : w6 = w7 at *
      generalize hv7 : vc = v7 at *
      clear hw7 hv7
      obtain ⟨aO, cO, rfl⟩ := N7.out.ents.form
      refine (makeRow w1.heap.size a len cap zs p3 w7.heap.size 2 2 [1, 3] _ (S7.out.on one_box) (by omega) (cols_new w7 [1, 3] 3) (by omega) (by simp) (by intro i h; match i, h with | 0, _ => simp | 1, _ => simp)).mono ?_
      rintro e w8 ⟨vs, rfl, s, p8, k1, _, k3, k4, k5, k6, _⟩
      have T8 : Hid (Pt w w1.heap.size z r (.slice aZ z.length cZ) (.slice aR r.length cR') w8) := (T7.out.on one_box).but k6 sw1
      have N8 : Hid (EntsNew (w1.heap.size + 1) z (.slice aO z.length cO) w8) := (N7.out.on one_box).but k6 (by omega)
      have R8 : Hid (RowIs w8 vs s) := RowIs.of_own (by rw [k1]; exact k3)
      obtain ⟨aS, cS, rfl⟩ := R8.out.form
      clear k1 k3 k4 k5 k6 T7 N7 S7
      go_wp2_with fail
      refine (slRange z r s (.slice aZ z.length cZ) (.slice aR r.length cR') _ w8 (by omega) HZ.out.1 HZ.out.2 T8.out.n.ents T8.out.x R8.out).mono ?_
      rintro e w9 ⟨vx, rfl, x1, x2⟩
      have T9 : Hid (Pu w z r s (.slice aZ z.length cZ) (.slice aR r.length cR') (.slice aS s.length cS) (.slice aO z.length cO) vx w9) := ⟨T8.out.b.trans (x2.mono T8.out.b.size), T8.out.n.ents.on x2, T8.out.x.on x2, R8.out.on x2, N8.out.ents.on x2, x1.ents⟩
      obtain ⟨aX, cX, rfl⟩ := T9.out.g.form
      have hrl : (range r s z).length ≤ 14 := by have := List.length_filter_le (rgP r s) z; unfold range; omega
      clear x1 x2 T8 N8 R8
      go_wp2_with fail
      go_loopw [16] (fun i wr => ∃ j : Nat, j ≤ (range r s z).length ∧ i = .int .i64 j ∧ Hid (Pu w z r s (.slice aZ z.length cZ) (.slice aR r.length cR') (.slice aS s.length cS) (.slice aO z.length cO) (.slice aX (range r s z).length cX) wr)) (fun i _ => (range r s z).length - (intOf i).toNat)
      case atStart => exact ⟨0, by omega, rfl, T9.out⟩
      case round =>
        obtain ⟨j, hj, rfl, hP⟩ := hrel
        clear T9
        by_cases k1 : j < (range r s z).length
        · have I1 : (j : Int) < ((range r s z).length : Int) := by omega
          obtain ⟨b1, o1, a1, c1, rfl, y1, _, y3⟩ := hP.out.g.at j k1
          obtain ⟨g1, g2⟩ := range_mem (List.getElem_mem k1)
          have qa : Hid (Calls Try.prog 21 #[.slice a1 (range r s z)[j].1.length c1, (.slice aR r.length cR')] wr fun e w' => e = .returned (.int .i64 (cR (range r s z)[j].1 r)) ∧ Below wr.heap.size wr w') := refCompareRows _ _ _ _ wr y3 hP.out.x
          have qb : Hid (∀ W, Below wr.heap.size wr W → Calls Try.prog 21 #[.slice a1 (range r s z)[j].1.length c1, .slice aS s.length cS] W fun e w' => e = .returned (.int .i64 (cR (range r s z)[j].1 s)) ∧ Below W.heap.size W w') := fun W hW => refCompareRows _ _ _ _ W (y3.on hW) (hP.out.y.on hW)
          clear y3
          generalize cR (range r s z)[j].1 r = d1 at *
          generalize cR (range r s z)[j].1 s = d2 at *
          generalize (range r s z)[j].1.length = n1 at *
          go_wp2_with fail
          refine qa.out.mono ?_
          rintro e u1 ⟨rfl, hb1⟩
          have H1 : Hid (Below wr.heap.size wr u1) := hb1
          have z1 := cell_on y1 hb1
          clear hb1 qa
          go_wp2_with fail
          refine (qb.out _ H1.out).mono ?_
          rintro e u2 ⟨rfl, hb2⟩
          have P2 : Hid (Pu w z r s (.slice aZ z.length cZ) (.slice aR r.length cR') (.slice aS s.length cS) (.slice aO z.length cO) (.slice (some ⟨b1, o1, none⟩) (range r s z).length cX) u2) := (hP.out.on H1.out).on hb2
          clear hb2 qb H1 y1 z1 hP
          go_wp2_with fail
          go_roundw
          case rel => exact ⟨j + 1, by omega, by go_num, P2.out⟩
          case measure => simp [intOf]; omega
        · have I1 : ¬ (j : Int) < ((range r s z).length : Int) := by omega
          have q1 := same_ok hP.out.o hP.out.e
          go_wp2_with fail
          refine q1.mono ?_
          rintro e u1 ⟨rfl, hb1⟩
          have P1 : Hid (Pu w z r s (.slice aZ z.length cZ) (.slice aR r.length cR') (.slice aS s.length cS) (.slice aO z.length cO) (.slice aX (range r s z).length cX) u1) := hP.out.on hb1
          have q2 := slCount z r (.slice aZ z.length cZ) (.slice aR r.length cR') true u1 (by omega) HZ.out.1 HZ.out.2 P1.out.e P1.out.x
          rw [HLB.out] at q2
          clear hb1 q1 hP
          go_wp2_with fail
          refine q2.mono ?_
          rintro e u2 ⟨rfl, hb2⟩
          have P2 : Hid (Pu w z r s (.slice aZ z.length cZ) (.slice aR r.length cR') (.slice aS s.length cS) (.slice aO z.length cO) (.slice aX (range r s z).length cX) u2) := P1.out.on hb2
          have q3 : Hid (Calls Try.prog 12 #[(.slice aZ z.length cZ), .slice none 0 0, .bool false, .int .i64 (tN : Int)] u2 fun e w' => ∃ a' c', e = .returned (.slice a' (min tN z.length) c') ∧ Below u2.heap.size u2 w') := (slAfter z [] (.slice aZ z.length cZ) (.slice none 0 0) false (tN : Int) u2 (by omega) HZ.out.1 HZ.out.2 P2.out.e (.inl ⟨none, 0, rfl, rfl⟩)).mono fun e w' ⟨v, e1, e2, e3⟩ => by
            obtain ⟨a', c', rfl⟩ := e2.ents.form
            have := after_len_no [] z (tN : Int) (by omega)
            exact ⟨a', c', by rw [e1, show (after false [] z (tN : Int)).length = min tN z.length by omega], e3⟩
          clear hb2 q2 P1
          go_wp2_with fail
          refine q3.out.mono ?_
          rintro e u3 ⟨a3, c3, rfl, hb3⟩
          have P3 : Hid (Pu w z r s (.slice aZ z.length cZ) (.slice aR r.length cR') (.slice aS s.length cS) (.slice aO z.length cO) (.slice aX (range r s z).length cX) u3) := P2.out.on hb3
          have q4 : Hid (Calls Try.prog 12 #[(.slice aZ z.length cZ), (.slice aR r.length cR'), .bool true, .int .i64 (-(tN : Int))] u3 fun e w' => ∃ a' c', e = .returned (.slice a' 0 c') ∧ Below u3.heap.size u3 w') := (slAfter z r (.slice aZ z.length cZ) (.slice aR r.length cR') true (-(tN : Int)) u3 (by omega) HZ.out.1 HZ.out.2 P3.out.e P3.out.x).mono fun e w' ⟨v, e1, e2, e3⟩ => by
            rw [after_neg true r z (by omega)] at e2
            obtain ⟨a', c', rfl⟩ := e2.ents.form
            exact ⟨a', c', e1, e3⟩
          clear hb3 q3 P2
          go_wp2_with fail
          all_goals
            refine q4.out.mono ?_
            rintro e u4 ⟨a4, c4, rfl, hb4⟩
            have P4 : Hid (Pu w z r s (.slice aZ z.length cZ) (.slice aR r.length cR') (.slice aS s.length cS) (.slice aO z.length cO) (.slice aX (range r s z).length cX) u4) := P3.out.on hb4
            have q5 : Hid (Calls Try.prog 16 #[(.slice aZ z.length cZ), (.slice aR r.length cR'), (.slice aR r.length cR')] u4 fun e w' => ∃ a' c', e = .returned (.slice a' 0 c') ∧ Below u4.heap.size u4 w') := (slRange z r r (.slice aZ z.length cZ) (.slice aR r.length cR') (.slice aR r.length cR') u4 (by omega) HZ.out.1 HZ.out.2 P4.out.e P4.out.x P4.out.x).mono fun e w' ⟨v, e1, e2, e3⟩ => by
              rw [range_self] at e2
              obtain ⟨a', c', rfl⟩ := e2.ents.form
              exact ⟨a', c', e1, e3⟩
            clear hb4 q4 P3
            go_wp2_with fail
            refine q5.out.mono ?_
            rintro e u5 ⟨a5, c5, rfl, hb5⟩
            have P5 : Hid (Pu w z r s (.slice aZ z.length cZ) (.slice aR r.length cR') (.slice aS s.length cS) (.slice aO z.length cO) (.slice aX (range r s z).length cX) u5) := P4.out.on hb5
            have q6 : Hid (Calls Try.prog 14 #[(.slice aZ z.length cZ), (.slice aR r.length cR'), .bool false] u5 fun e w' => ∃ a' c', e = .returned (.slice a' 0 c') ∧ Below u5.heap.size u5 w') := (slUpto z r (.slice aZ z.length cZ) (.slice aR r.length cR') false u5 (by omega) HZ.out.1 HZ.out.2 P5.out.e P5.out.x).mono fun e w' ⟨v, e1, e2, e3⟩ => by
              rw [upto_no] at e2
              obtain ⟨a', c', rfl⟩ := e2.ents.form
              exact ⟨a', c', e1, e3⟩
            clear hb5 q5 P4
            go_wp2_with fail
            refine q6.out.mono ?_
            rintro e u6 ⟨a6, c6, rfl, hb6⟩
            have P6 : Hid (Pu w z r s (.slice aZ z.length cZ) (.slice aR r.length cR') (.slice aS s.length cS) (.slice aO z.length cO) (.slice aX (range r s z).length cX) u6) := P5.out.on hb6
            clear hb6 q6 P5
            have q7 : Hid (Calls Try.prog 16 #[(.slice aZ z.length cZ), .slice (some ⟨u6.heap.size, 0, none⟩) 0 0, .slice (some ⟨u6.heap.size + 1, 0, none⟩) 3 3] ((u6.alloc (.cells #[] 45)).alloc (.cells #[.int .i64 3, .int .i64 1, .string ⟨#[]⟩, .int .i64 0, .int .i64 0, .string ⟨#[]⟩, .int .i64 0, .int .i64 0, .string ⟨#[]⟩] 45)) fun e w' => ∃ a' c', e = .returned (.slice a' z.length c') ∧ Below w.heap.size w w') := (slRange z [] [(3, 1, ⟨#[]⟩), (0, 0, ⟨#[]⟩), (0, 0, ⟨#[]⟩)] (.slice aZ z.length cZ) _ _ _ (by omega) HZ.out.1 HZ.out.2 (P6.out.e.on below_two) (.inl ⟨_, _, rfl, rfl⟩) (by have := row_three (u6.alloc (.cells #[] 45)) (3, 1, ⟨#[]⟩) (0, 0, ⟨#[]⟩) (0, 0, ⟨#[]⟩); simpa using this)).mono fun e w' ⟨v, e1, e2, e3⟩ => by
              rw [HK.out] at e2
              obtain ⟨a', c', rfl⟩ := e2.ents.form
              exact ⟨a', c', e1, (P6.out.b.trans (below_two.mono P6.out.b.size)).trans (e3.mono (by have := P6.out.b.size; simp; omega))⟩
            go_wp2_with fail
            refine q7.out.mono ?_
            rintro e u7 ⟨a7, c7, rfl, hb7⟩
            have B7 : Hid (Below w.heap.size w u7) := hb7
            clear hb7 q7 P6
            go_wp2_with fail
            go_ret
            exact ⟨rfl, B7.out⟩
    · exfalso; omega
set_option maxHeartbeats 1000000 in
theorem slparts_long (a : Option Addr) (len cap : Nat) (at_ to : Int) (w : World) (h : 120 < (len : Int)) :
    Calls Try.prog 5 #[.slice a len cap, .int .i64 at_, .int .i64 to] w fun e w' => e = .returned (.bool true) ∧ Below w.heap.size w w' := by
  go_enter Try.func5, Try.ntmps5
  go_wp2_with fail
  refine (lawFirst4 _).mono ?_
  rintro e w1 ⟨rfl, hb1⟩
  go_wp2_with fail
  go_ret
  exact ⟨rfl, hb1⟩
theorem sliceParts_walk (a : Option Addr) (len cap : Nat) (zs : List Int) (at_ : Int) (_ : (Lit.int .i64 at_).wf = true) (to : Int) (_ : (Lit.int .i64 to).wf = true) (w : World) (ha : IsRow .i64 w a len cap zs) :
    Calls Try.prog 5 #[.slice a len cap, .int .i64 at_, .int .i64 to] w fun e w' => e = .returned (.bool true) ∧ Below w.heap.size w w' := by
  by_cases h : (len : Int) ≤ 120
  · exact slparts_main a len cap zs at_ to h w ha
  · exact slparts_long a len cap at_ to w (by omega)
end Go.Proofs.Ytjpgnohhgkalbaa
