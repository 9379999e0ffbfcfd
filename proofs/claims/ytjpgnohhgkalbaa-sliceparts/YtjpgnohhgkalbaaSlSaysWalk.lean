/- The law SliceSays answers true at every argument. -/
import Derived.Test.YtjpgnohhgkalbaaSlFirst
namespace Go.Proofs.Ytjpgnohhgkalbaa
open Go.RowKit Go.Sort
set_option maxRecDepth 100000

/-- Two boxes over a world: the maker and its columns. -/
theorem seqCols {w : World} {a : Option Addr} {len cap : Nat} {zs : List Int} (h : IsRow .i64 w a len cap zs) (ks : List Int) (t t' : TypeId) :
    SeqAt w.heap.size a len cap zs 0 ((w.alloc (.cells #[.slice a len cap, .int .i64 0] t)).alloc (.cells (ks.map (Value.int .i64)).toArray t')) ∧ ColsAt (w.heap.size + 1) ks ((w.alloc (.cells #[.slice a len cap, .int .i64 0] t)).alloc (.cells (ks.map (Value.int .i64)).toArray t')) := by
  refine ⟨(SeqAt.make h t).on one_box, by simp, fun i hi => ?_⟩
  rw [World.cell?_alloc_at _ _ _ _ (by simp)]
  simp [hi]
theorem cols_new (w : World) (ks : List Int) (t : TypeId) : ColsAt w.heap.size ks (w.alloc (.cells (ks.map (Value.int .i64)).toArray t)) := by
  refine ⟨by simp, fun i hi => ?_⟩
  rw [World.cell?_alloc_at _ _ _ _ (by simp)]
  simp [hi]
/-- What stands while the parts are held against each other. -/
structure Parts (w : World) (z : List Ent) (r s : List Val) (vz vr vs : Value) (W : World) : Prop where
  b : Below w.heap.size w W
  e : EntsIs W vz z
  x : RowIs W vr r
  y : RowIs W vs s
theorem Parts.on {w : World} {z : List Ent} {r s : List Val} {vz vr vs : Value} {W W' : World} (h : Parts w z r s vz vr vs W) (hb : Below W.heap.size W W') : Parts w z r s vz vr vs W' :=
  ⟨h.b.trans (hb.mono h.b.size), h.e.on hb, h.x.on hb, h.y.on hb⟩
theorem same_ok {Z : List Ent} {vx vy : Value} {W : World} (hx : EntsIs W vx Z) (hy : EntsIs W vy Z) : Calls Try.prog 11 #[vx, vy] W fun e w' => e = .returned (.bool true) ∧ Below W.heap.size W w' := by
  have q := sameEntries Z Z vx vy W hx hy
  have e : sEs Z Z = true := by unfold sEs; simp
  rw [e] at q; exact q
/-- A part of the program's and the document's own: the same list. -/
def PartOk (f1 f2 : FuncId) (args : Array Value) (St : World → Prop) : Prop := ∃ Z : List Ent,
  (∀ W, St W → Calls Try.prog f1 args W fun e w' => ∃ v, e = .returned v ∧ EntsIs w' v Z ∧ Below W.heap.size W w') ∧
  (∀ W, St W → Calls Try.prog f2 args W fun e w' => ∃ v, e = .returned v ∧ EntsIs w' v Z ∧ Below W.heap.size W w')
section
variable {w : World} {z : List Ent} {r s : List Val} {vz vr vs : Value}
theorem part_after (hl : z.length ≤ 100) (hz : IsZ z) (ok : EOk z) (any : Bool) (n : Int) : PartOk 12 13 #[vz, vr, .bool any, .int .i64 n] (Parts w z r s vz vr vs) :=
  ⟨after any r z n, fun W h => (slAfter z r vz vr any n W (by omega) hz ok h.e h.x).mono fun _ _ ⟨v, a, b, c⟩ => ⟨v, a, b.ents, c⟩, fun W h => (refAfter z r vz vr any n W (by omega) h.e h.x).mono fun _ _ ⟨v, a, b⟩ => ⟨v, a, b.ents, b.2⟩⟩
theorem part_upto (hl : z.length ≤ 100) (hz : IsZ z) (ok : EOk z) (any : Bool) : PartOk 14 15 #[vz, vr, .bool any] (Parts w z r s vz vr vs) :=
  ⟨upto any r z, fun W h => (slUpto z r vz vr any W (by omega) hz ok h.e h.x).mono fun _ _ ⟨v, a, b, c⟩ => ⟨v, a, b.ents, c⟩, fun W h => (refUpto z r vz vr any W (by omega) h.e h.x).mono fun _ _ ⟨v, a, b⟩ => ⟨v, a, b.ents, b.2⟩⟩
theorem part_range (hl : z.length ≤ 100) (hz : IsZ z) (ok : EOk z) : PartOk 16 17 #[vz, vr, vs] (Parts w z r s vz vr vs) :=
  ⟨range r s z, fun W h => (slRange z r s vz vr vs W (by omega) hz ok h.e h.x h.y).mono fun _ _ ⟨v, a, b, c⟩ => ⟨v, a, b.ents, c⟩, fun W h => (refRange z r s vz vr vs W (by omega) h.e h.x h.y).mono fun _ _ ⟨v, a, b⟩ => ⟨v, a, b.ents, b.2⟩⟩
theorem part_count (hl : z.length ≤ 100) (hz : IsZ z) (ok : EOk z) (any : Bool) : ∃ c : Int, (∀ W, Parts w z r s vz vr vs W → Calls Try.prog 18 #[vz, vr, .bool any] W fun e w' => e = .returned (.int .i64 c) ∧ Below W.heap.size W w') ∧ (∀ W, Parts w z r s vz vr vs W → Calls Try.prog 19 #[vz, vr, .bool any] W fun e w' => e = .returned (.int .i64 c) ∧ Below W.heap.size W w') :=
  ⟨_, fun W h => slCount z r vz vr any W (by omega) hz ok h.e h.x, fun W h => refCount z r vz vr any W (by omega) h.e h.x⟩
end
set_option maxHeartbeats 16000000 in
theorem slsays_main (a : Option Addr) (len cap : Nat) (zs : List Int) (n : Int) (any : Bool) (h1 : (len : Int) ≤ 150) (w : World) (ha : IsRow .i64 w a len cap zs) :
    Calls Try.prog 3 #[.slice a len cap, .int .i64 n, .bool any] w fun e w' => e = .returned (.bool true) ∧ Below w.heap.size w w' := by
  have Ha : Hid (IsRow .i64 w a len cap zs) := ha
  have qf := lawFirst4 w
  clear ha
  go_enter Try.func3, Try.ntmps3
  go_wp2_with fail
  refine qf.mono ?_
  rintro e w1 ⟨rfl, hb⟩
  have B1 : Hid (Below w.heap.size w w1) := hb
  clear hb qf
  go_wp2_with fail
  have M := seqCols (Ha.out.below B1.out) [1, 2] 26 3
  refine (makeSet w1.heap.size a len cap zs 0 (w1.heap.size + 1) 2 2 [1, 2] 14 _ M.1 (by decide) (by decide) M.2 (by omega) (by decide) (by simp) (by intro i h; match i, h with | 0, _ => simp | 1, _ => simp)).mono ?_
  clear M
  rintro e w2 ⟨vz, z, rfl, ⟨p, i1, i2, i3, i4, i5, i6, i7⟩, _⟩
  have B2 : Hid (Below w.heap.size w w2) := (B1.out.trans (below_two.mono B1.out.size)).trans (i7.below B1.out.size (by have := B1.out.size; simp; omega))
  have N2 : Hid (EntsNew (w1.heap.size + 1) z vz w2) := i4.mono (by simp)
  have S2 : Hid (SeqAt w1.heap.size a len cap zs p w2) := i6
  have HZ : Hid (IsZ z ∧ EOk z ∧ z.length ≤ 100) := ⟨i1, i2, by omega⟩
  have hp : p ≤ 1000 := by omega
  have s12 : w1.heap.size < w2.heap.size := i6.2.2.2.1
  obtain ⟨aZ, cZ, rfl⟩ := i4.ents.form
  clear i1 i2 i3 i4 i5 i6 i7
  go_wp2_with fail
  refine (next w1.heap.size a len cap zs p 2 _ (S2.out.on one_box) (by omega) (by decide) (by decide)).mono ?_
  rintro e w3 ⟨rfl, H3, hb3⟩
  obtain ⟨nr1, ns1⟩ := nm_bd (sq zs len p) 2 (by decide)
  obtain ⟨K, hK⟩ : ∃ K : Nat, nm (sq zs len p) 2 = (K : Int) := ⟨(nm (sq zs len p) 2).toNat, by omega⟩
  rw [hK] at nr1 ns1 ⊢
  have hK1 : K ≤ 1 := by omega
  have S3 : Hid (SeqAt w1.heap.size a len cap zs (p + 1) w3) := H3
  have B3 : Hid (But w1.heap.size (w2.alloc (.cells #[.int .i64 1, .int .i64 2] 3)) w3) := hb3
  have C3 : Hid (ColsAt w2.heap.size [1, 2] w3) := (cols_new w2 [1, 2] 3).but hb3 (by omega)
  have N3 : Hid (EntsNew (w1.heap.size + 1) z (.slice aZ z.length cZ) w3) := (N2.out.on one_box).but hb3 (by omega)
  have V3 : Hid (Below w.heap.size w w3) := (B2.out.trans (one_box.mono B2.out.size)).trans (hb3.below (by have := B1.out.size; omega) (by have := B2.out.size; simp; omega))
  have s23 : w2.heap.size < w3.heap.size := by have := hb3.size; simp at this; omega
  clear H3 hb3 hK N2 S2
  go_wp2_with fail
  refine (makeRow w1.heap.size a len cap zs (p + 1) w2.heap.size (1 + K) 2 [1, 2] _ S3.out (by omega) C3.out (by omega) (by simp; omega) (by intro i h; match i, h with | 0, _ => simp | 1, _ => simp)).mono ?_
  rintro e w4 ⟨vr, rfl, r, p4, k1, _, k3, k4, k5, k6, _⟩
  have R4 : Hid (w4.ownsRow (w1.heap.size + 1) 45 3 vr r.length (rc r)) := by rw [k1]; exact own_mono k3 (by omega)
  have S4 : Hid (SeqAt w1.heap.size a len cap zs p4 w4) := k5
  have N4 : Hid (EntsNew (w1.heap.size + 1) z (.slice aZ z.length cZ) w4) := N3.out.but k6 (by omega)
  have V4 : Hid (Below w.heap.size w w4) := V3.out.trans (k6.below (by have := B1.out.size; omega) (by have := V3.out.size; omega))
  have s34 : w3.heap.size ≤ w4.heap.size := k6.size
  have hp4 : p4 ≤ 2000 := by omega
  obtain ⟨aR, cR', rfl⟩ := own_form R4.out
  clear k1 k3 k4 k5 k6 S3 N3 V3 C3 B3
  go_wp2_with fail
  refine (makeRow w1.heap.size a len cap zs p4 w4.heap.size 2 2 [1, 2] _ (S4.out.on one_box) (by omega) (cols_new w4 [1, 2] 3) (by omega) (by simp) (by intro i h; match i, h with | 0, _ => simp | 1, _ => simp)).mono ?_
  rintro e w5 ⟨vs, rfl, s, p5, k1, _, k3, k4, k5, k6, _⟩
  have R5 : Hid (w5.ownsRow (w1.heap.size + 1) 45 3 (.slice aR r.length cR') r.length (rc r)) := own_but (own_on R4.out one_box) k6 (by omega)
  have O5 : Hid (w5.ownsRow (w1.heap.size + 1) 45 3 vs s.length (rc s)) := by rw [k1]; exact own_mono k3 (by simp; omega)
  have S5 : Hid (SeqAt w1.heap.size a len cap zs p5 w5) := k5
  have N5 : Hid (EntsNew (w1.heap.size + 1) z (.slice aZ z.length cZ) w5) := (N4.out.on one_box).but k6 (by omega)
  have V5 : Hid (Below w.heap.size w w5) := (V4.out.trans (one_box.mono V4.out.size)).trans (k6.below (by have := B1.out.size; omega) (by have := V4.out.size; simp; omega))
  have s45 : w4.heap.size < w5.heap.size := by have := k6.size; simp at this; omega
  have hp5 : p5 ≤ 3000 := by omega
  obtain ⟨aS, cS, rfl⟩ := own_form O5.out
  clear k1 k3 k4 k5 k6 S4 N4 V4 R4
  go_wp2_with fail
  refine (next w1.heap.size a len cap zs p5 3 _ S5.out (by omega) (by decide) (by decide)).mono ?_
  rintro e w6 ⟨rfl, H6, hb6⟩
  obtain ⟨nr2, ns2⟩ := nm_bd (sq zs len p5) 3 (by decide)
  generalize nm (sq zs len p5) 3 = c at *
  have R6 : Hid (w6.ownsRow (w1.heap.size + 1) 45 3 (.slice aR r.length cR') r.length (rc r)) := own_but R5.out hb6 (by omega)
  have O6 : Hid (w6.ownsRow (w1.heap.size + 1) 45 3 (.slice aS s.length cS) s.length (rc s)) := own_but O5.out hb6 (by omega)
  have S6 : Hid (SeqAt w1.heap.size a len cap zs (p5 + 1) w6) := H6
  have N6 : Hid (EntsNew (w1.heap.size + 1) z (.slice aZ z.length cZ) w6) := N5.out.but hb6 (by omega)
  have V6 : Hid (Below w.heap.size w w6) := V5.out.trans (hb6.below (by have := B1.out.size; omega) (by have := V5.out.size; omega))
  clear H6 hb6 R5 O5 S5 N5 V5
  by_cases hc : 0 < c
  · by_cases hz : 0 < z.length
    · have hz' : (0 : Int) < (z.length : Int) := by omega
      have hzl : z.length ≤ 100 := HZ.out.2.2
      go_wp2_with fail
      refine (next w1.heap.size a len cap zs (p5 + 1) (z.length : Int) _ S6.out (by omega) hz' (by omega)).mono ?_
      rintro e w7 ⟨rfl, H7, hb7⟩
      obtain ⟨nr3, ns3⟩ := nm_bd (sq zs len (p5 + 1)) (z.length : Int) hz'
      obtain ⟨J, hJ⟩ : ∃ J : Nat, nm (sq zs len (p5 + 1)) (z.length : Int) = (J : Int) := ⟨(nm (sq zs len (p5 + 1)) (z.length : Int)).toNat, by omega⟩
      rw [hJ] at nr3 ns3 ⊢
      have hJ1 : J < z.length := by omega
      have N7 : Hid (EntsIs w7 (.slice aZ z.length cZ) z) := (N6.out.but hb7 (by omega)).ents
      have O7 : Hid (RowIs w7 (.slice aS s.length cS) s) := RowIs.of_own (own_but O6.out hb7 (by omega))
      have V7 : Hid (Below w.heap.size w w7) := V6.out.trans (hb7.below (by have := B1.out.size; omega) (by have := V6.out.size; omega))
      obtain ⟨bZ, oZ, aQ, cQ, rfl, y1, _, y3⟩ := N7.out.at J hJ1
      have T : Hid (Parts w z z[J].1 s (.slice (some ⟨bZ, oZ, none⟩) z.length cZ) (.slice aQ z[J].1.length cQ) (.slice aS s.length cS) w7) := ⟨V7.out, N7.out, y3, O7.out⟩
      generalize z[J].1 = rr at *
      clear H7 hb7 hJ N7 O7 V7 y3 R6 O6 S6 N6 V6
      by_cases hn : 20 < n
      · have PA := part_after (w := w) (z := z) (r := rr) (s := s) (vz := (.slice (some ⟨bZ, oZ, none⟩) z.length cZ)) (vr := (.slice aQ rr.length cQ)) (vs := (.slice aS s.length cS)) HZ.out.2.2 HZ.out.1 HZ.out.2.1 any (n % 20)
        have PB := part_upto (w := w) (z := z) (r := rr) (s := s) (vz := (.slice (some ⟨bZ, oZ, none⟩) z.length cZ)) (vr := (.slice aQ rr.length cQ)) (vs := (.slice aS s.length cS)) HZ.out.2.2 HZ.out.1 HZ.out.2.1 any
        have PC := part_range (w := w) (z := z) (r := rr) (s := s) (vz := (.slice (some ⟨bZ, oZ, none⟩) z.length cZ)) (vr := (.slice aQ rr.length cQ)) (vs := (.slice aS s.length cS)) HZ.out.2.2 HZ.out.1 HZ.out.2.1
        have PD := part_count (w := w) (z := z) (r := rr) (s := s) (vz := (.slice (some ⟨bZ, oZ, none⟩) z.length cZ)) (vr := (.slice aQ rr.length cQ)) (vs := (.slice aS s.length cS)) HZ.out.2.2 HZ.out.1 HZ.out.2.1 any
        obtain ⟨ZA, p1A, p2A⟩ := PA
        have Q1A : Hid (∀ W, Parts w z rr s (.slice (some ⟨bZ, oZ, none⟩) z.length cZ) (.slice aQ rr.length cQ) (.slice aS s.length cS) W → _) := p1A
        have Q2A : Hid (∀ W, Parts w z rr s (.slice (some ⟨bZ, oZ, none⟩) z.length cZ) (.slice aQ rr.length cQ) (.slice aS s.length cS) W → _) := p2A
        clear p1A p2A
        obtain ⟨ZB, p1B, p2B⟩ := PB
        have Q1B : Hid (∀ W, Parts w z rr s (.slice (some ⟨bZ, oZ, none⟩) z.length cZ) (.slice aQ rr.length cQ) (.slice aS s.length cS) W → _) := p1B
        have Q2B : Hid (∀ W, Parts w z rr s (.slice (some ⟨bZ, oZ, none⟩) z.length cZ) (.slice aQ rr.length cQ) (.slice aS s.length cS) W → _) := p2B
        clear p1B p2B
        obtain ⟨ZC, p1C, p2C⟩ := PC
        have Q1C : Hid (∀ W, Parts w z rr s (.slice (some ⟨bZ, oZ, none⟩) z.length cZ) (.slice aQ rr.length cQ) (.slice aS s.length cS) W → _) := p1C
        have Q2C : Hid (∀ W, Parts w z rr s (.slice (some ⟨bZ, oZ, none⟩) z.length cZ) (.slice aQ rr.length cQ) (.slice aS s.length cS) W → _) := p2C
        clear p1C p2C
        obtain ⟨cc, p1D, p2D⟩ := PD
        have Q1D : Hid (∀ W, Parts w z rr s (.slice (some ⟨bZ, oZ, none⟩) z.length cZ) (.slice aQ rr.length cQ) (.slice aS s.length cS) W → _) := p1D
        have Q2D : Hid (∀ W, Parts w z rr s (.slice (some ⟨bZ, oZ, none⟩) z.length cZ) (.slice aQ rr.length cQ) (.slice aS s.length cS) W → _) := p2D
        clear p1D p2D
        have qq := Q1A.out w7 T.out
        go_wp2_with fail
        refine qq.mono ?_
        rintro e v10 ⟨xA, rfl, ex, hb⟩
        have T10 : Hid (Parts w z rr s (.slice (some ⟨bZ, oZ, none⟩) z.length cZ) (.slice aQ rr.length cQ) (.slice aS s.length cS) v10) := T.out.on hb
        have XA : Hid (EntsIs v10 xA ZA) := ex
        clear qq ex hb Q1A
        have qq := Q2A.out v10 T10.out
        go_wp2_with fail
        refine qq.mono ?_
        rintro e v11 ⟨yA, rfl, ex, hb⟩
        have T11 : Hid (Parts w z rr s (.slice (some ⟨bZ, oZ, none⟩) z.length cZ) (.slice aQ rr.length cQ) (.slice aS s.length cS) v11) := T10.out.on hb
        have qs := same_ok (XA.out.on hb) ex
        clear qq ex hb Q2A XA T10
        go_wp2_with fail
        refine qs.mono ?_
        rintro e v12 ⟨rfl, hb⟩
        have T12 : Hid (Parts w z rr s (.slice (some ⟨bZ, oZ, none⟩) z.length cZ) (.slice aQ rr.length cQ) (.slice aS s.length cS) v12) := T11.out.on hb
        clear qs hb T11
        have qq := Q1B.out v12 T12.out
        go_wp2_with fail
        refine qq.mono ?_
        rintro e v13 ⟨xB, rfl, ex, hb⟩
        have T13 : Hid (Parts w z rr s (.slice (some ⟨bZ, oZ, none⟩) z.length cZ) (.slice aQ rr.length cQ) (.slice aS s.length cS) v13) := T12.out.on hb
        have XB : Hid (EntsIs v13 xB ZB) := ex
        clear qq ex hb Q1B
        have qq := Q2B.out v13 T13.out
        go_wp2_with fail
        refine qq.mono ?_
        rintro e v14 ⟨yB, rfl, ex, hb⟩
        have T14 : Hid (Parts w z rr s (.slice (some ⟨bZ, oZ, none⟩) z.length cZ) (.slice aQ rr.length cQ) (.slice aS s.length cS) v14) := T13.out.on hb
        have qs := same_ok (XB.out.on hb) ex
        clear qq ex hb Q2B XB T13
        go_wp2_with fail
        refine qs.mono ?_
        rintro e v15 ⟨rfl, hb⟩
        have T15 : Hid (Parts w z rr s (.slice (some ⟨bZ, oZ, none⟩) z.length cZ) (.slice aQ rr.length cQ) (.slice aS s.length cS) v15) := T14.out.on hb
        clear qs hb T14
        have qq := Q1C.out v15 T15.out
        go_wp2_with fail
        refine qq.mono ?_
        rintro e v16 ⟨xC, rfl, ex, hb⟩
        have T16 : Hid (Parts w z rr s (.slice (some ⟨bZ, oZ, none⟩) z.length cZ) (.slice aQ rr.length cQ) (.slice aS s.length cS) v16) := T15.out.on hb
        have XC : Hid (EntsIs v16 xC ZC) := ex
        clear qq ex hb Q1C
        have qq := Q2C.out v16 T16.out
        go_wp2_with fail
        refine qq.mono ?_
        rintro e v17 ⟨yC, rfl, ex, hb⟩
        have T17 : Hid (Parts w z rr s (.slice (some ⟨bZ, oZ, none⟩) z.length cZ) (.slice aQ rr.length cQ) (.slice aS s.length cS) v17) := T16.out.on hb
        have qs := same_ok (XC.out.on hb) ex
        clear qq ex hb Q2C XC T16
        go_wp2_with fail
        refine qs.mono ?_
        rintro e v18 ⟨rfl, hb⟩
        have T18 : Hid (Parts w z rr s (.slice (some ⟨bZ, oZ, none⟩) z.length cZ) (.slice aQ rr.length cQ) (.slice aS s.length cS) v18) := T17.out.on hb
        clear qs hb T17
        have qq := Q1D.out v18 T18.out
        go_wp2_with fail
        refine qq.mono ?_
        rintro e v19 ⟨rfl, hb⟩
        have T19 : Hid (Parts w z rr s (.slice (some ⟨bZ, oZ, none⟩) z.length cZ) (.slice aQ rr.length cQ) (.slice aS s.length cS) v19) := T18.out.on hb
        clear qq hb Q1D
        have qq := Q2D.out v19 T19.out
        go_wp2_with fail
        refine qq.mono ?_
        rintro e v20 ⟨rfl, hb⟩
        have T20 : Hid (Parts w z rr s (.slice (some ⟨bZ, oZ, none⟩) z.length cZ) (.slice aQ rr.length cQ) (.slice aS s.length cS) v20) := T19.out.on hb
        clear qq hb Q2D T19
        go_wp2_with fail
        go_ret
        exact ⟨rfl, T20.out.b⟩
      · have hn' : n ≤ 20 := by omega
        have PA := part_after (w := w) (z := z) (r := rr) (s := s) (vz := (.slice (some ⟨bZ, oZ, none⟩) z.length cZ)) (vr := (.slice aQ rr.length cQ)) (vs := (.slice aS s.length cS)) HZ.out.2.2 HZ.out.1 HZ.out.2.1 any n
        have PB := part_upto (w := w) (z := z) (r := rr) (s := s) (vz := (.slice (some ⟨bZ, oZ, none⟩) z.length cZ)) (vr := (.slice aQ rr.length cQ)) (vs := (.slice aS s.length cS)) HZ.out.2.2 HZ.out.1 HZ.out.2.1 any
        have PC := part_range (w := w) (z := z) (r := rr) (s := s) (vz := (.slice (some ⟨bZ, oZ, none⟩) z.length cZ)) (vr := (.slice aQ rr.length cQ)) (vs := (.slice aS s.length cS)) HZ.out.2.2 HZ.out.1 HZ.out.2.1
        have PD := part_count (w := w) (z := z) (r := rr) (s := s) (vz := (.slice (some ⟨bZ, oZ, none⟩) z.length cZ)) (vr := (.slice aQ rr.length cQ)) (vs := (.slice aS s.length cS)) HZ.out.2.2 HZ.out.1 HZ.out.2.1 any
        obtain ⟨ZA, p1A, p2A⟩ := PA
        have Q1A : Hid (∀ W, Parts w z rr s (.slice (some ⟨bZ, oZ, none⟩) z.length cZ) (.slice aQ rr.length cQ) (.slice aS s.length cS) W → _) := p1A
        have Q2A : Hid (∀ W, Parts w z rr s (.slice (some ⟨bZ, oZ, none⟩) z.length cZ) (.slice aQ rr.length cQ) (.slice aS s.length cS) W → _) := p2A
        clear p1A p2A
        obtain ⟨ZB, p1B, p2B⟩ := PB
        have Q1B : Hid (∀ W, Parts w z rr s (.slice (some ⟨bZ, oZ, none⟩) z.length cZ) (.slice aQ rr.length cQ) (.slice aS s.length cS) W → _) := p1B
        have Q2B : Hid (∀ W, Parts w z rr s (.slice (some ⟨bZ, oZ, none⟩) z.length cZ) (.slice aQ rr.length cQ) (.slice aS s.length cS) W → _) := p2B
        clear p1B p2B
        obtain ⟨ZC, p1C, p2C⟩ := PC
        have Q1C : Hid (∀ W, Parts w z rr s (.slice (some ⟨bZ, oZ, none⟩) z.length cZ) (.slice aQ rr.length cQ) (.slice aS s.length cS) W → _) := p1C
        have Q2C : Hid (∀ W, Parts w z rr s (.slice (some ⟨bZ, oZ, none⟩) z.length cZ) (.slice aQ rr.length cQ) (.slice aS s.length cS) W → _) := p2C
        clear p1C p2C
        obtain ⟨cc, p1D, p2D⟩ := PD
        have Q1D : Hid (∀ W, Parts w z rr s (.slice (some ⟨bZ, oZ, none⟩) z.length cZ) (.slice aQ rr.length cQ) (.slice aS s.length cS) W → _) := p1D
        have Q2D : Hid (∀ W, Parts w z rr s (.slice (some ⟨bZ, oZ, none⟩) z.length cZ) (.slice aQ rr.length cQ) (.slice aS s.length cS) W → _) := p2D
        clear p1D p2D
        have qq := Q1A.out w7 T.out
        go_wp2_with fail
        refine qq.mono ?_
        rintro e v10 ⟨xA, rfl, ex, hb⟩
        have T10 : Hid (Parts w z rr s (.slice (some ⟨bZ, oZ, none⟩) z.length cZ) (.slice aQ rr.length cQ) (.slice aS s.length cS) v10) := T.out.on hb
        have XA : Hid (EntsIs v10 xA ZA) := ex
        clear qq ex hb Q1A
        have qq := Q2A.out v10 T10.out
        go_wp2_with fail
        refine qq.mono ?_
        rintro e v11 ⟨yA, rfl, ex, hb⟩
        have T11 : Hid (Parts w z rr s (.slice (some ⟨bZ, oZ, none⟩) z.length cZ) (.slice aQ rr.length cQ) (.slice aS s.length cS) v11) := T10.out.on hb
        have qs := same_ok (XA.out.on hb) ex
        clear qq ex hb Q2A XA T10
        go_wp2_with fail
        refine qs.mono ?_
        rintro e v12 ⟨rfl, hb⟩
        have T12 : Hid (Parts w z rr s (.slice (some ⟨bZ, oZ, none⟩) z.length cZ) (.slice aQ rr.length cQ) (.slice aS s.length cS) v12) := T11.out.on hb
        clear qs hb T11
        have qq := Q1B.out v12 T12.out
        go_wp2_with fail
        refine qq.mono ?_
        rintro e v13 ⟨xB, rfl, ex, hb⟩
        have T13 : Hid (Parts w z rr s (.slice (some ⟨bZ, oZ, none⟩) z.length cZ) (.slice aQ rr.length cQ) (.slice aS s.length cS) v13) := T12.out.on hb
        have XB : Hid (EntsIs v13 xB ZB) := ex
        clear qq ex hb Q1B
        have qq := Q2B.out v13 T13.out
        go_wp2_with fail
        refine qq.mono ?_
        rintro e v14 ⟨yB, rfl, ex, hb⟩
        have T14 : Hid (Parts w z rr s (.slice (some ⟨bZ, oZ, none⟩) z.length cZ) (.slice aQ rr.length cQ) (.slice aS s.length cS) v14) := T13.out.on hb
        have qs := same_ok (XB.out.on hb) ex
        clear qq ex hb Q2B XB T13
        go_wp2_with fail
        refine qs.mono ?_
        rintro e v15 ⟨rfl, hb⟩
        have T15 : Hid (Parts w z rr s (.slice (some ⟨bZ, oZ, none⟩) z.length cZ) (.slice aQ rr.length cQ) (.slice aS s.length cS) v15) := T14.out.on hb
        clear qs hb T14
        have qq := Q1C.out v15 T15.out
        go_wp2_with fail
        refine qq.mono ?_
        rintro e v16 ⟨xC, rfl, ex, hb⟩
        have T16 : Hid (Parts w z rr s (.slice (some ⟨bZ, oZ, none⟩) z.length cZ) (.slice aQ rr.length cQ) (.slice aS s.length cS) v16) := T15.out.on hb
        have XC : Hid (EntsIs v16 xC ZC) := ex
        clear qq ex hb Q1C
        have qq := Q2C.out v16 T16.out
        go_wp2_with fail
        refine qq.mono ?_
        rintro e v17 ⟨yC, rfl, ex, hb⟩
        have T17 : Hid (Parts w z rr s (.slice (some ⟨bZ, oZ, none⟩) z.length cZ) (.slice aQ rr.length cQ) (.slice aS s.length cS) v17) := T16.out.on hb
        have qs := same_ok (XC.out.on hb) ex
        clear qq ex hb Q2C XC T16
        go_wp2_with fail
        refine qs.mono ?_
        rintro e v18 ⟨rfl, hb⟩
        have T18 : Hid (Parts w z rr s (.slice (some ⟨bZ, oZ, none⟩) z.length cZ) (.slice aQ rr.length cQ) (.slice aS s.length cS) v18) := T17.out.on hb
        clear qs hb T17
        have qq := Q1D.out v18 T18.out
        go_wp2_with fail
        refine qq.mono ?_
        rintro e v19 ⟨rfl, hb⟩
        have T19 : Hid (Parts w z rr s (.slice (some ⟨bZ, oZ, none⟩) z.length cZ) (.slice aQ rr.length cQ) (.slice aS s.length cS) v19) := T18.out.on hb
        clear qq hb Q1D
        have qq := Q2D.out v19 T19.out
        go_wp2_with fail
        refine qq.mono ?_
        rintro e v20 ⟨rfl, hb⟩
        have T20 : Hid (Parts w z rr s (.slice (some ⟨bZ, oZ, none⟩) z.length cZ) (.slice aQ rr.length cQ) (.slice aS s.length cS) v20) := T19.out.on hb
        clear qq hb Q2D T19
        go_wp2_with fail
        go_ret
        exact ⟨rfl, T20.out.b⟩
    · have hz0 : z = [] := List.eq_nil_of_length_eq_zero (by omega)
      subst hz0
      have T : Hid (Parts w [] r s (.slice aZ ([] : List Ent).length cZ) (.slice aR r.length cR') (.slice aS s.length cS) w6) := ⟨V6.out, N6.out.ents, RowIs.of_own R6.out, RowIs.of_own O6.out⟩
      obtain ⟨rr, hrr⟩ : ∃ rr, rr = r := ⟨r, rfl⟩
      rw [← hrr] at T ⊢
      clear hrr R6 O6 S6 N6 V6
      by_cases hn : 20 < n
      · have PA := part_after (w := w) (z := []) (r := rr) (s := s) (vz := (.slice aZ ([] : List Ent).length cZ)) (vr := (.slice aR rr.length cR')) (vs := (.slice aS s.length cS)) HZ.out.2.2 HZ.out.1 HZ.out.2.1 any (n % 20)
        have PB := part_upto (w := w) (z := []) (r := rr) (s := s) (vz := (.slice aZ ([] : List Ent).length cZ)) (vr := (.slice aR rr.length cR')) (vs := (.slice aS s.length cS)) HZ.out.2.2 HZ.out.1 HZ.out.2.1 any
        have PC := part_range (w := w) (z := []) (r := rr) (s := s) (vz := (.slice aZ ([] : List Ent).length cZ)) (vr := (.slice aR rr.length cR')) (vs := (.slice aS s.length cS)) HZ.out.2.2 HZ.out.1 HZ.out.2.1
        have PD := part_count (w := w) (z := []) (r := rr) (s := s) (vz := (.slice aZ ([] : List Ent).length cZ)) (vr := (.slice aR rr.length cR')) (vs := (.slice aS s.length cS)) HZ.out.2.2 HZ.out.1 HZ.out.2.1 any
        obtain ⟨ZA, p1A, p2A⟩ := PA
        have Q1A : Hid (∀ W, Parts w [] rr s (.slice aZ ([] : List Ent).length cZ) (.slice aR rr.length cR') (.slice aS s.length cS) W → _) := p1A
        have Q2A : Hid (∀ W, Parts w [] rr s (.slice aZ ([] : List Ent).length cZ) (.slice aR rr.length cR') (.slice aS s.length cS) W → _) := p2A
        clear p1A p2A
        obtain ⟨ZB, p1B, p2B⟩ := PB
        have Q1B : Hid (∀ W, Parts w [] rr s (.slice aZ ([] : List Ent).length cZ) (.slice aR rr.length cR') (.slice aS s.length cS) W → _) := p1B
        have Q2B : Hid (∀ W, Parts w [] rr s (.slice aZ ([] : List Ent).length cZ) (.slice aR rr.length cR') (.slice aS s.length cS) W → _) := p2B
        clear p1B p2B
        obtain ⟨ZC, p1C, p2C⟩ := PC
        have Q1C : Hid (∀ W, Parts w [] rr s (.slice aZ ([] : List Ent).length cZ) (.slice aR rr.length cR') (.slice aS s.length cS) W → _) := p1C
        have Q2C : Hid (∀ W, Parts w [] rr s (.slice aZ ([] : List Ent).length cZ) (.slice aR rr.length cR') (.slice aS s.length cS) W → _) := p2C
        clear p1C p2C
        obtain ⟨cc, p1D, p2D⟩ := PD
        have Q1D : Hid (∀ W, Parts w [] rr s (.slice aZ ([] : List Ent).length cZ) (.slice aR rr.length cR') (.slice aS s.length cS) W → _) := p1D
        have Q2D : Hid (∀ W, Parts w [] rr s (.slice aZ ([] : List Ent).length cZ) (.slice aR rr.length cR') (.slice aS s.length cS) W → _) := p2D
        clear p1D p2D
        have qq := Q1A.out w6 T.out
        go_wp2_with fail
        refine qq.mono ?_
        rintro e v10 ⟨xA, rfl, ex, hb⟩
        have T10 : Hid (Parts w [] rr s (.slice aZ ([] : List Ent).length cZ) (.slice aR rr.length cR') (.slice aS s.length cS) v10) := T.out.on hb
        have XA : Hid (EntsIs v10 xA ZA) := ex
        clear qq ex hb Q1A
        have qq := Q2A.out v10 T10.out
        go_wp2_with fail
        refine qq.mono ?_
        rintro e v11 ⟨yA, rfl, ex, hb⟩
        have T11 : Hid (Parts w [] rr s (.slice aZ ([] : List Ent).length cZ) (.slice aR rr.length cR') (.slice aS s.length cS) v11) := T10.out.on hb
        have qs := same_ok (XA.out.on hb) ex
        clear qq ex hb Q2A XA T10
        go_wp2_with fail
        refine qs.mono ?_
        rintro e v12 ⟨rfl, hb⟩
        have T12 : Hid (Parts w [] rr s (.slice aZ ([] : List Ent).length cZ) (.slice aR rr.length cR') (.slice aS s.length cS) v12) := T11.out.on hb
        clear qs hb T11
        have qq := Q1B.out v12 T12.out
        go_wp2_with fail
        refine qq.mono ?_
        rintro e v13 ⟨xB, rfl, ex, hb⟩
        have T13 : Hid (Parts w [] rr s (.slice aZ ([] : List Ent).length cZ) (.slice aR rr.length cR') (.slice aS s.length cS) v13) := T12.out.on hb
        have XB : Hid (EntsIs v13 xB ZB) := ex
        clear qq ex hb Q1B
        have qq := Q2B.out v13 T13.out
        go_wp2_with fail
        refine qq.mono ?_
        rintro e v14 ⟨yB, rfl, ex, hb⟩
        have T14 : Hid (Parts w [] rr s (.slice aZ ([] : List Ent).length cZ) (.slice aR rr.length cR') (.slice aS s.length cS) v14) := T13.out.on hb
        have qs := same_ok (XB.out.on hb) ex
        clear qq ex hb Q2B XB T13
        go_wp2_with fail
        refine qs.mono ?_
        rintro e v15 ⟨rfl, hb⟩
        have T15 : Hid (Parts w [] rr s (.slice aZ ([] : List Ent).length cZ) (.slice aR rr.length cR') (.slice aS s.length cS) v15) := T14.out.on hb
        clear qs hb T14
        have qq := Q1C.out v15 T15.out
        go_wp2_with fail
        refine qq.mono ?_
        rintro e v16 ⟨xC, rfl, ex, hb⟩
        have T16 : Hid (Parts w [] rr s (.slice aZ ([] : List Ent).length cZ) (.slice aR rr.length cR') (.slice aS s.length cS) v16) := T15.out.on hb
        have XC : Hid (EntsIs v16 xC ZC) := ex
        clear qq ex hb Q1C
        have qq := Q2C.out v16 T16.out
        go_wp2_with fail
        refine qq.mono ?_
        rintro e v17 ⟨yC, rfl, ex, hb⟩
        have T17 : Hid (Parts w [] rr s (.slice aZ ([] : List Ent).length cZ) (.slice aR rr.length cR') (.slice aS s.length cS) v17) := T16.out.on hb
        have qs := same_ok (XC.out.on hb) ex
        clear qq ex hb Q2C XC T16
        go_wp2_with fail
        refine qs.mono ?_
        rintro e v18 ⟨rfl, hb⟩
        have T18 : Hid (Parts w [] rr s (.slice aZ ([] : List Ent).length cZ) (.slice aR rr.length cR') (.slice aS s.length cS) v18) := T17.out.on hb
        clear qs hb T17
        have qq := Q1D.out v18 T18.out
        go_wp2_with fail
        refine qq.mono ?_
        rintro e v19 ⟨rfl, hb⟩
        have T19 : Hid (Parts w [] rr s (.slice aZ ([] : List Ent).length cZ) (.slice aR rr.length cR') (.slice aS s.length cS) v19) := T18.out.on hb
        clear qq hb Q1D
        have qq := Q2D.out v19 T19.out
        go_wp2_with fail
        refine qq.mono ?_
        rintro e v20 ⟨rfl, hb⟩
        have T20 : Hid (Parts w [] rr s (.slice aZ ([] : List Ent).length cZ) (.slice aR rr.length cR') (.slice aS s.length cS) v20) := T19.out.on hb
        clear qq hb Q2D T19
        go_wp2_with fail
        go_ret
        exact ⟨rfl, T20.out.b⟩
      · have hn' : n ≤ 20 := by omega
        have PA := part_after (w := w) (z := []) (r := rr) (s := s) (vz := (.slice aZ ([] : List Ent).length cZ)) (vr := (.slice aR rr.length cR')) (vs := (.slice aS s.length cS)) HZ.out.2.2 HZ.out.1 HZ.out.2.1 any n
        have PB := part_upto (w := w) (z := []) (r := rr) (s := s) (vz := (.slice aZ ([] : List Ent).length cZ)) (vr := (.slice aR rr.length cR')) (vs := (.slice aS s.length cS)) HZ.out.2.2 HZ.out.1 HZ.out.2.1 any
        have PC := part_range (w := w) (z := []) (r := rr) (s := s) (vz := (.slice aZ ([] : List Ent).length cZ)) (vr := (.slice aR rr.length cR')) (vs := (.slice aS s.length cS)) HZ.out.2.2 HZ.out.1 HZ.out.2.1
        have PD := part_count (w := w) (z := []) (r := rr) (s := s) (vz := (.slice aZ ([] : List Ent).length cZ)) (vr := (.slice aR rr.length cR')) (vs := (.slice aS s.length cS)) HZ.out.2.2 HZ.out.1 HZ.out.2.1 any
        obtain ⟨ZA, p1A, p2A⟩ := PA
        have Q1A : Hid (∀ W, Parts w [] rr s (.slice aZ ([] : List Ent).length cZ) (.slice aR rr.length cR') (.slice aS s.length cS) W → _) := p1A
        have Q2A : Hid (∀ W, Parts w [] rr s (.slice aZ ([] : List Ent).length cZ) (.slice aR rr.length cR') (.slice aS s.length cS) W → _) := p2A
        clear p1A p2A
        obtain ⟨ZB, p1B, p2B⟩ := PB
        have Q1B : Hid (∀ W, Parts w [] rr s (.slice aZ ([] : List Ent).length cZ) (.slice aR rr.length cR') (.slice aS s.length cS) W → _) := p1B
        have Q2B : Hid (∀ W, Parts w [] rr s (.slice aZ ([] : List Ent).length cZ) (.slice aR rr.length cR') (.slice aS s.length cS) W → _) := p2B
        clear p1B p2B
        obtain ⟨ZC, p1C, p2C⟩ := PC
        have Q1C : Hid (∀ W, Parts w [] rr s (.slice aZ ([] : List Ent).length cZ) (.slice aR rr.length cR') (.slice aS s.length cS) W → _) := p1C
        have Q2C : Hid (∀ W, Parts w [] rr s (.slice aZ ([] : List Ent).length cZ) (.slice aR rr.length cR') (.slice aS s.length cS) W → _) := p2C
        clear p1C p2C
        obtain ⟨cc, p1D, p2D⟩ := PD
        have Q1D : Hid (∀ W, Parts w [] rr s (.slice aZ ([] : List Ent).length cZ) (.slice aR rr.length cR') (.slice aS s.length cS) W → _) := p1D
        have Q2D : Hid (∀ W, Parts w [] rr s (.slice aZ ([] : List Ent).length cZ) (.slice aR rr.length cR') (.slice aS s.length cS) W → _) := p2D
        clear p1D p2D
        have qq := Q1A.out w6 T.out
        go_wp2_with fail
        refine qq.mono ?_
        rintro e v10 ⟨xA, rfl, ex, hb⟩
        have T10 : Hid (Parts w [] rr s (.slice aZ ([] : List Ent).length cZ) (.slice aR rr.length cR') (.slice aS s.length cS) v10) := T.out.on hb
        have XA : Hid (EntsIs v10 xA ZA) := ex
        clear qq ex hb Q1A
        have qq := Q2A.out v10 T10.out
        go_wp2_with fail
        refine qq.mono ?_
        rintro e v11 ⟨yA, rfl, ex, hb⟩
        have T11 : Hid (Parts w [] rr s (.slice aZ ([] : List Ent).length cZ) (.slice aR rr.length cR') (.slice aS s.length cS) v11) := T10.out.on hb
        have qs := same_ok (XA.out.on hb) ex
        clear qq ex hb Q2A XA T10
        go_wp2_with fail
        refine qs.mono ?_
        rintro e v12 ⟨rfl, hb⟩
        have T12 : Hid (Parts w [] rr s (.slice aZ ([] : List Ent).length cZ) (.slice aR rr.length cR') (.slice aS s.length cS) v12) := T11.out.on hb
        clear qs hb T11
        have qq := Q1B.out v12 T12.out
        go_wp2_with fail
        refine qq.mono ?_
        rintro e v13 ⟨xB, rfl, ex, hb⟩
        have T13 : Hid (Parts w [] rr s (.slice aZ ([] : List Ent).length cZ) (.slice aR rr.length cR') (.slice aS s.length cS) v13) := T12.out.on hb
        have XB : Hid (EntsIs v13 xB ZB) := ex
        clear qq ex hb Q1B
        have qq := Q2B.out v13 T13.out
        go_wp2_with fail
        refine qq.mono ?_
        rintro e v14 ⟨yB, rfl, ex, hb⟩
        have T14 : Hid (Parts w [] rr s (.slice aZ ([] : List Ent).length cZ) (.slice aR rr.length cR') (.slice aS s.length cS) v14) := T13.out.on hb
        have qs := same_ok (XB.out.on hb) ex
        clear qq ex hb Q2B XB T13
        go_wp2_with fail
        refine qs.mono ?_
        rintro e v15 ⟨rfl, hb⟩
        have T15 : Hid (Parts w [] rr s (.slice aZ ([] : List Ent).length cZ) (.slice aR rr.length cR') (.slice aS s.length cS) v15) := T14.out.on hb
        clear qs hb T14
        have qq := Q1C.out v15 T15.out
        go_wp2_with fail
        refine qq.mono ?_
        rintro e v16 ⟨xC, rfl, ex, hb⟩
        have T16 : Hid (Parts w [] rr s (.slice aZ ([] : List Ent).length cZ) (.slice aR rr.length cR') (.slice aS s.length cS) v16) := T15.out.on hb
        have XC : Hid (EntsIs v16 xC ZC) := ex
        clear qq ex hb Q1C
        have qq := Q2C.out v16 T16.out
        go_wp2_with fail
        refine qq.mono ?_
        rintro e v17 ⟨yC, rfl, ex, hb⟩
        have T17 : Hid (Parts w [] rr s (.slice aZ ([] : List Ent).length cZ) (.slice aR rr.length cR') (.slice aS s.length cS) v17) := T16.out.on hb
        have qs := same_ok (XC.out.on hb) ex
        clear qq ex hb Q2C XC T16
        go_wp2_with fail
        refine qs.mono ?_
        rintro e v18 ⟨rfl, hb⟩
        have T18 : Hid (Parts w [] rr s (.slice aZ ([] : List Ent).length cZ) (.slice aR rr.length cR') (.slice aS s.length cS) v18) := T17.out.on hb
        clear qs hb T17
        have qq := Q1D.out v18 T18.out
        go_wp2_with fail
        refine qq.mono ?_
        rintro e v19 ⟨rfl, hb⟩
        have T19 : Hid (Parts w [] rr s (.slice aZ ([] : List Ent).length cZ) (.slice aR rr.length cR') (.slice aS s.length cS) v19) := T18.out.on hb
        clear qq hb Q1D
        have qq := Q2D.out v19 T19.out
        go_wp2_with fail
        refine qq.mono ?_
        rintro e v20 ⟨rfl, hb⟩
        have T20 : Hid (Parts w [] rr s (.slice aZ ([] : List Ent).length cZ) (.slice aR rr.length cR') (.slice aS s.length cS) v20) := T19.out.on hb
        clear qq hb Q2D T19
        go_wp2_with fail
        go_ret
        exact ⟨rfl, T20.out.b⟩
  · have hc' : c ≤ 0 := by omega
    have T : Hid (Parts w z r s (.slice aZ z.length cZ) (.slice aR r.length cR') (.slice aS s.length cS) w6) := ⟨V6.out, N6.out.ents, RowIs.of_own R6.out, RowIs.of_own O6.out⟩
    obtain ⟨rr, hrr⟩ : ∃ rr, rr = r := ⟨r, rfl⟩
    rw [← hrr] at T ⊢
    clear hrr R6 O6 S6 N6 V6
    by_cases hn : 20 < n
    · have PA := part_after (w := w) (z := z) (r := rr) (s := s) (vz := (.slice aZ z.length cZ)) (vr := (.slice aR rr.length cR')) (vs := (.slice aS s.length cS)) HZ.out.2.2 HZ.out.1 HZ.out.2.1 any (n % 20)
      have PB := part_upto (w := w) (z := z) (r := rr) (s := s) (vz := (.slice aZ z.length cZ)) (vr := (.slice aR rr.length cR')) (vs := (.slice aS s.length cS)) HZ.out.2.2 HZ.out.1 HZ.out.2.1 any
      have PC := part_range (w := w) (z := z) (r := rr) (s := s) (vz := (.slice aZ z.length cZ)) (vr := (.slice aR rr.length cR')) (vs := (.slice aS s.length cS)) HZ.out.2.2 HZ.out.1 HZ.out.2.1
      have PD := part_count (w := w) (z := z) (r := rr) (s := s) (vz := (.slice aZ z.length cZ)) (vr := (.slice aR rr.length cR')) (vs := (.slice aS s.length cS)) HZ.out.2.2 HZ.out.1 HZ.out.2.1 any
      obtain ⟨ZA, p1A, p2A⟩ := PA
      have Q1A : Hid (∀ W, Parts w z rr s (.slice aZ z.length cZ) (.slice aR rr.length cR') (.slice aS s.length cS) W → _) := p1A
      have Q2A : Hid (∀ W, Parts w z rr s (.slice aZ z.length cZ) (.slice aR rr.length cR') (.slice aS s.length cS) W → _) := p2A
      clear p1A p2A
      obtain ⟨ZB, p1B, p2B⟩ := PB
      have Q1B : Hid (∀ W, Parts w z rr s (.slice aZ z.length cZ) (.slice aR rr.length cR') (.slice aS s.length cS) W → _) := p1B
      have Q2B : Hid (∀ W, Parts w z rr s (.slice aZ z.length cZ) (.slice aR rr.length cR') (.slice aS s.length cS) W → _) := p2B
      clear p1B p2B
      obtain ⟨ZC, p1C, p2C⟩ := PC
      have Q1C : Hid (∀ W, Parts w z rr s (.slice aZ z.length cZ) (.slice aR rr.length cR') (.slice aS s.length cS) W → _) := p1C
      have Q2C : Hid (∀ W, Parts w z rr s (.slice aZ z.length cZ) (.slice aR rr.length cR') (.slice aS s.length cS) W → _) := p2C
      clear p1C p2C
      obtain ⟨cc, p1D, p2D⟩ := PD
      have Q1D : Hid (∀ W, Parts w z rr s (.slice aZ z.length cZ) (.slice aR rr.length cR') (.slice aS s.length cS) W → _) := p1D
      have Q2D : Hid (∀ W, Parts w z rr s (.slice aZ z.length cZ) (.slice aR rr.length cR') (.slice aS s.length cS) W → _) := p2D
      clear p1D p2D
      have qq := Q1A.out w6 T.out
      go_wp2_with fail
      refine qq.mono ?_
      rintro e v10 ⟨xA, rfl, ex, hb⟩
      have T10 : Hid (Parts w z rr s (.slice aZ z.length cZ) (.slice aR rr.length cR') (.slice aS s.length cS) v10) := T.out.on hb
      have XA : Hid (EntsIs v10 xA ZA) := ex
      clear qq ex hb Q1A
      have qq := Q2A.out v10 T10.out
      go_wp2_with fail
      refine qq.mono ?_
      rintro e v11 ⟨yA, rfl, ex, hb⟩
      have T11 : Hid (Parts w z rr s (.slice aZ z.length cZ) (.slice aR rr.length cR') (.slice aS s.length cS) v11) := T10.out.on hb
      have qs := same_ok (XA.out.on hb) ex
      clear qq ex hb Q2A XA T10
      go_wp2_with fail
      refine qs.mono ?_
      rintro e v12 ⟨rfl, hb⟩
      have T12 : Hid (Parts w z rr s (.slice aZ z.length cZ) (.slice aR rr.length cR') (.slice aS s.length cS) v12) := T11.out.on hb
      clear qs hb T11
      have qq := Q1B.out v12 T12.out
      go_wp2_with fail
      refine qq.mono ?_
      rintro e v13 ⟨xB, rfl, ex, hb⟩
      have T13 : Hid (Parts w z rr s (.slice aZ z.length cZ) (.slice aR rr.length cR') (.slice aS s.length cS) v13) := T12.out.on hb
      have XB : Hid (EntsIs v13 xB ZB) := ex
      clear qq ex hb Q1B
      have qq := Q2B.out v13 T13.out
      go_wp2_with fail
      refine qq.mono ?_
      rintro e v14 ⟨yB, rfl, ex, hb⟩
      have T14 : Hid (Parts w z rr s (.slice aZ z.length cZ) (.slice aR rr.length cR') (.slice aS s.length cS) v14) := T13.out.on hb
      have qs := same_ok (XB.out.on hb) ex
      clear qq ex hb Q2B XB T13
      go_wp2_with fail
      refine qs.mono ?_
      rintro e v15 ⟨rfl, hb⟩
      have T15 : Hid (Parts w z rr s (.slice aZ z.length cZ) (.slice aR rr.length cR') (.slice aS s.length cS) v15) := T14.out.on hb
      clear qs hb T14
      have qq := Q1C.out v15 T15.out
      go_wp2_with fail
      refine qq.mono ?_
      rintro e v16 ⟨xC, rfl, ex, hb⟩
      have T16 : Hid (Parts w z rr s (.slice aZ z.length cZ) (.slice aR rr.length cR') (.slice aS s.length cS) v16) := T15.out.on hb
      have XC : Hid (EntsIs v16 xC ZC) := ex
      clear qq ex hb Q1C
      have qq := Q2C.out v16 T16.out
      go_wp2_with fail
      refine qq.mono ?_
      rintro e v17 ⟨yC, rfl, ex, hb⟩
      have T17 : Hid (Parts w z rr s (.slice aZ z.length cZ) (.slice aR rr.length cR') (.slice aS s.length cS) v17) := T16.out.on hb
      have qs := same_ok (XC.out.on hb) ex
      clear qq ex hb Q2C XC T16
      go_wp2_with fail
      refine qs.mono ?_
      rintro e v18 ⟨rfl, hb⟩
      have T18 : Hid (Parts w z rr s (.slice aZ z.length cZ) (.slice aR rr.length cR') (.slice aS s.length cS) v18) := T17.out.on hb
      clear qs hb T17
      have qq := Q1D.out v18 T18.out
      go_wp2_with fail
      refine qq.mono ?_
      rintro e v19 ⟨rfl, hb⟩
      have T19 : Hid (Parts w z rr s (.slice aZ z.length cZ) (.slice aR rr.length cR') (.slice aS s.length cS) v19) := T18.out.on hb
      clear qq hb Q1D
      have qq := Q2D.out v19 T19.out
      go_wp2_with fail
      refine qq.mono ?_
      rintro e v20 ⟨rfl, hb⟩
      have T20 : Hid (Parts w z rr s (.slice aZ z.length cZ) (.slice aR rr.length cR') (.slice aS s.length cS) v20) := T19.out.on hb
      clear qq hb Q2D T19
      go_wp2_with fail
      go_ret
      exact ⟨rfl, T20.out.b⟩
    · have hn' : n ≤ 20 := by omega
      have PA := part_after (w := w) (z := z) (r := rr) (s := s) (vz := (.slice aZ z.length cZ)) (vr := (.slice aR rr.length cR')) (vs := (.slice aS s.length cS)) HZ.out.2.2 HZ.out.1 HZ.out.2.1 any n
      have PB := part_upto (w := w) (z := z) (r := rr) (s := s) (vz := (.slice aZ z.length cZ)) (vr := (.slice aR rr.length cR')) (vs := (.slice aS s.length cS)) HZ.out.2.2 HZ.out.1 HZ.out.2.1 any
      have PC := part_range (w := w) (z := z) (r := rr) (s := s) (vz := (.slice aZ z.length cZ)) (vr := (.slice aR rr.length cR')) (vs := (.slice aS s.length cS)) HZ.out.2.2 HZ.out.1 HZ.out.2.1
      have PD := part_count (w := w) (z := z) (r := rr) (s := s) (vz := (.slice aZ z.length cZ)) (vr := (.slice aR rr.length cR')) (vs := (.slice aS s.length cS)) HZ.out.2.2 HZ.out.1 HZ.out.2.1 any
      obtain ⟨ZA, p1A, p2A⟩ := PA
      have Q1A : Hid (∀ W, Parts w z rr s (.slice aZ z.length cZ) (.slice aR rr.length cR') (.slice aS s.length cS) W → _) := p1A
      have Q2A : Hid (∀ W, Parts w z rr s (.slice aZ z.length cZ) (.slice aR rr.length cR') (.slice aS s.length cS) W → _) := p2A
      clear p1A p2A
      obtain ⟨ZB, p1B, p2B⟩ := PB
      have Q1B : Hid (∀ W, Parts w z rr s (.slice aZ z.length cZ) (.slice aR rr.length cR') (.slice aS s.length cS) W → _) := p1B
      have Q2B : Hid (∀ W, Parts w z rr s (.slice aZ z.length cZ) (.slice aR rr.length cR') (.slice aS s.length cS) W → _) := p2B
      clear p1B p2B
      obtain ⟨ZC, p1C, p2C⟩ := PC
      have Q1C : Hid (∀ W, Parts w z rr s (.slice aZ z.length cZ) (.slice aR rr.length cR') (.slice aS s.length cS) W → _) := p1C
      have Q2C : Hid (∀ W, Parts w z rr s (.slice aZ z.length cZ) (.slice aR rr.length cR') (.slice aS s.length cS) W → _) := p2C
      clear p1C p2C
      obtain ⟨cc, p1D, p2D⟩ := PD
      have Q1D : Hid (∀ W, Parts w z rr s (.slice aZ z.length cZ) (.slice aR rr.length cR') (.slice aS s.length cS) W → _) := p1D
      have Q2D : Hid (∀ W, Parts w z rr s (.slice aZ z.length cZ) (.slice aR rr.length cR') (.slice aS s.length cS) W → _) := p2D
      clear p1D p2D
      have qq := Q1A.out w6 T.out
      go_wp2_with fail
      refine qq.mono ?_
      rintro e v10 ⟨xA, rfl, ex, hb⟩
      have T10 : Hid (Parts w z rr s (.slice aZ z.length cZ) (.slice aR rr.length cR') (.slice aS s.length cS) v10) := T.out.on hb
      have XA : Hid (EntsIs v10 xA ZA) := ex
      clear qq ex hb Q1A
      have qq := Q2A.out v10 T10.out
      go_wp2_with fail
      refine qq.mono ?_
      rintro e v11 ⟨yA, rfl, ex, hb⟩
      have T11 : Hid (Parts w z rr s (.slice aZ z.length cZ) (.slice aR rr.length cR') (.slice aS s.length cS) v11) := T10.out.on hb
      have qs := same_ok (XA.out.on hb) ex
      clear qq ex hb Q2A XA T10
      go_wp2_with fail
      refine qs.mono ?_
      rintro e v12 ⟨rfl, hb⟩
      have T12 : Hid (Parts w z rr s (.slice aZ z.length cZ) (.slice aR rr.length cR') (.slice aS s.length cS) v12) := T11.out.on hb
      clear qs hb T11
      have qq := Q1B.out v12 T12.out
      go_wp2_with fail
      refine qq.mono ?_
      rintro e v13 ⟨xB, rfl, ex, hb⟩
      have T13 : Hid (Parts w z rr s (.slice aZ z.length cZ) (.slice aR rr.length cR') (.slice aS s.length cS) v13) := T12.out.on hb
      have XB : Hid (EntsIs v13 xB ZB) := ex
      clear qq ex hb Q1B
      have qq := Q2B.out v13 T13.out
      go_wp2_with fail
      refine qq.mono ?_
      rintro e v14 ⟨yB, rfl, ex, hb⟩
      have T14 : Hid (Parts w z rr s (.slice aZ z.length cZ) (.slice aR rr.length cR') (.slice aS s.length cS) v14) := T13.out.on hb
      have qs := same_ok (XB.out.on hb) ex
      clear qq ex hb Q2B XB T13
      go_wp2_with fail
      refine qs.mono ?_
      rintro e v15 ⟨rfl, hb⟩
      have T15 : Hid (Parts w z rr s (.slice aZ z.length cZ) (.slice aR rr.length cR') (.slice aS s.length cS) v15) := T14.out.on hb
      clear qs hb T14
      have qq := Q1C.out v15 T15.out
      go_wp2_with fail
      refine qq.mono ?_
      rintro e v16 ⟨xC, rfl, ex, hb⟩
      have T16 : Hid (Parts w z rr s (.slice aZ z.length cZ) (.slice aR rr.length cR') (.slice aS s.length cS) v16) := T15.out.on hb
      have XC : Hid (EntsIs v16 xC ZC) := ex
      clear qq ex hb Q1C
      have qq := Q2C.out v16 T16.out
      go_wp2_with fail
      refine qq.mono ?_
      rintro e v17 ⟨yC, rfl, ex, hb⟩
      have T17 : Hid (Parts w z rr s (.slice aZ z.length cZ) (.slice aR rr.length cR') (.slice aS s.length cS) v17) := T16.out.on hb
      have qs := same_ok (XC.out.on hb) ex
      clear qq ex hb Q2C XC T16
      go_wp2_with fail
      refine qs.mono ?_
      rintro e v18 ⟨rfl, hb⟩
      have T18 : Hid (Parts w z rr s (.slice aZ z.length cZ) (.slice aR rr.length cR') (.slice aS s.length cS) v18) := T17.out.on hb
      clear qs hb T17
      have qq := Q1D.out v18 T18.out
      go_wp2_with fail
      refine qq.mono ?_
      rintro e v19 ⟨rfl, hb⟩
      have T19 : Hid (Parts w z rr s (.slice aZ z.length cZ) (.slice aR rr.length cR') (.slice aS s.length cS) v19) := T18.out.on hb
      clear qq hb Q1D
      have qq := Q2D.out v19 T19.out
      go_wp2_with fail
      refine qq.mono ?_
      rintro e v20 ⟨rfl, hb⟩
      have T20 : Hid (Parts w z rr s (.slice aZ z.length cZ) (.slice aR rr.length cR') (.slice aS s.length cS) v20) := T19.out.on hb
      clear qq hb Q2D T19
      go_wp2_with fail
      go_ret
      exact ⟨rfl, T20.out.b⟩
set_option maxHeartbeats 1000000 in
theorem slsays_long (a : Option Addr) (len cap : Nat) (n : Int) (any : Bool) (w : World) (h : 150 < (len : Int)) :
    Calls Try.prog 3 #[.slice a len cap, .int .i64 n, .bool any] w fun e w' => e = .returned (.bool true) ∧ Below w.heap.size w w' := by
  have qf := lawFirst4 w
  go_enter Try.func3, Try.ntmps3
  go_wp2_with fail
  refine qf.mono ?_
  rintro e w1 ⟨rfl, hb1⟩
  go_wp2_with fail
  go_ret
  exact ⟨rfl, hb1⟩
/-- SliceSays. -/
theorem sliceSays_walk (a : Option Addr) (len cap : Nat) (zs : List Int) (n : Int) (_ : (Lit.int .i64 n).wf = true) (any : Bool) (w : World) (ha : IsRow .i64 w a len cap zs) :
    Calls Try.prog 3 #[.slice a len cap, .int .i64 n, .bool any] w fun e w' => e = .returned (.bool true) ∧ Below w.heap.size w w' := by
  by_cases h : (len : Int) ≤ 150
  · exact slsays_main a len cap zs n any h w ha
  · exact slsays_long a len cap n any w (by omega)
end Go.Proofs.Ytjpgnohhgkalbaa
