/- The walk of the law that an arrange is what the chapter says, whatever comes. (written by arplays_gen.py) -/
import Derived.Test.YtglbipnppldkmaaGreatDoorPackSameB
import Derived.Test.YtglbipnppldkmaaGreatDoorPackPutB
import Derived.Test.YtglbipnppldkmaaGreatDoorPackSetsB
import Derived.Test.YtglbipnppldkmaaGreatDoorRowModB
namespace Go.Proofs.YtglbipnppldkmaaGreatDoor
open Go.RowKit Go.Sort
set_option maxRecDepth 100000
theorem mod_up (t : Int) (n : Int) (hn : 0 < n) (hb : n ≤ 1000) : ∃ k : Nat, (k : Int) < n ∧ (wrap64 (t.tmod n + n)).tmod n = (k : Int) := by
  have h1 := Int.tmod_lt_of_pos t hn
  have h2 : -n < t.tmod n := Int.neg_lt_of_neg_lt (by have := Int.tmod_lt_of_pos (-t) hn; rw [Int.neg_tmod] at this; omega)
  have e : wrap64 (t.tmod n + n) = t.tmod n + n := by unfold wrap64; omega
  have h3 : 0 ≤ (t.tmod n + n).tmod n := Int.tmod_nonneg n (by omega)
  have h4 := Int.tmod_lt_of_pos (t.tmod n + n) hn
  exact ⟨((t.tmod n + n).tmod n).toNat, by omega, by rw [e]; omega⟩
theorem cols7_xyz (w : World) (x y z : Int) : ColsAt w.heap.size [x, y, z] (w.alloc (.cells #[.int .i64 x, .int .i64 y, .int .i64 z] 3)) := by
  refine ⟨by simp, fun i hi => ?_⟩
  obtain rfl | rfl | rfl : i = 0 ∨ i = 1 ∨ i = 2 := by simp at hi; omega
  · rw [World.cell?_alloc_at _ _ _ _ rfl]; rfl
  · rw [World.cell?_alloc_at _ _ _ _ rfl]; rfl
  · rw [World.cell?_alloc_at _ _ _ _ rfl]; rfl
theorem cols7_x (w : World) (x : Int) : ColsAt w.heap.size [x] (w.alloc (.cells #[.int .i64 x] 3)) := by
  refine ⟨by simp, fun i hi => ?_⟩
  obtain rfl : i = 0 := by simp at hi; exact hi
  rw [World.cell?_alloc_at _ _ _ _ rfl]; rfl
theorem ks132 : ∀ i (h : i < ([1, 3, 2] : List Int).length), ([1, 3, 2] : List Int)[i] = 0 ∨ ([1, 3, 2] : List Int)[i] = 1 ∨ ([1, 3, 2] : List Int)[i] = 2 ∨ ([1, 3, 2] : List Int)[i] = 3 := fun i h => by
  obtain rfl | rfl | rfl : i = 0 ∨ i = 1 ∨ i = 2 := by simp at h; omega
  · simp
  · simp
  · simp
theorem ks1 : ∀ i (h : i < ([1] : List Int).length), ([1] : List Int)[i] = 0 ∨ ([1] : List Int)[i] = 1 ∨ ([1] : List Int)[i] = 2 ∨ ([1] : List Int)[i] = 3 := fun i h => by
  obtain rfl : i = 0 := by simp at h; exact h
  simp
/-- The key's columns, as far as they are made. -/
def ByTo (w1 : World) (i : Nat) (v : Value) (wr : World) : Prop := ∃ ks : List Int, ks.length = i ∧ wr.ownsRow w1.heap.size 3 1 v i (ni ks) ∧ Below w1.heap.size w1 wr ∧ (i = 0 → v = .slice none 0 0)
theorem ByTo.ints {w1 : World} {i : Nat} {v : Value} {wr : World} (h : ByTo w1 i v wr) : ∃ ks : List Int, ks.length = i ∧ IntsIs wr v ks ∧ (ks ≠ [] ∨ v = .slice none 0 0) ∧ Below w1.heap.size w1 wr := by
  obtain ⟨ks, h1, h2, h3, h4⟩ := h
  have hlt := h2.lt
  refine ⟨ks, h1, ?_, ?_, h3⟩
  · obtain ⟨e1, e2 | ⟨g, cp, cur, rfl, hg, hh, hc, hm, hs, ht⟩⟩ := h2
    · have : ks = [] := List.eq_nil_of_length_eq_zero (by omega)
      subst this
      exact .inl ⟨none, 0, e2.1, rfl⟩
    · have own : wr.ownsRow w1.heap.size 3 1 (.slice (some ⟨g, 0, none⟩) i cp) i (ni ks) := ⟨e1, .inr ⟨g, cp, cur, rfl, hg, hh, hc, hm, hs, ht⟩⟩
      refine .inr ⟨g, 0, cp, by rw [h1], by omega, hm, (hlt g rfl).2, fun j hj => ?_⟩
      rw [Nat.zero_add, own.cellAt j (by omega)]; simp [ni, hj]
  · by_cases e : ks = []
    · exact .inr (h4 (by rw [← h1, e]; rfl))
    · exact .inl e
/-- How far the law has come. -/
def PlTo7 (ks : List Int) (S : Nat) (a : Option Addr) (len cap : Nat) (zs : List Int) (sb : Sb) (w0 : World) (i : Nat) (v : Value) (wr : World) : Prop := ∃ p A m, PA ks [(v, A)] S a len cap zs p sb A m w0 wr ∧ p ≤ 300 * i ∧ m ≤ 4 * i ∧ A.length ≤ 4 * i
def AftH (any : Bool) (r : List Val) (A : List Ent) (v : Value) (w : World) : Prop := EntsIs w v (after any r A 3)
set_option maxHeartbeats 20000000 in
theorem arrangePlays_walk (a : Option Addr) (len cap : Nat) (zs : List Int) (a2 : Option Addr) (len2 cap2 : Nat) (zs2 : List Int) (many : Int) (_ : (Lit.int .i64 many).wf = true) (wide : Bool) (w : World) (he : ∃ ad, ErrsAt ad w) (ha : IsRow .i64 w a len cap zs) (ha2 : IsRow .i64 w a2 len2 cap2 zs2) :
    Calls Tryz.prog 3 #[.slice a len cap, .slice a2 len2 cap2, .int .i64 many, .bool wide] w fun e w' => e = .returned (.bool true) ∧ Below w.heap.size w w' := by
  obtain ⟨ad, hE⟩ := he
  have q0 := lawFirst7 (ad 5) (ad 6) w hE.arity hE.over
  obtain ⟨i0, hi0, hz0, hz1, hz2⟩ := info_parts info_int
  have HE : Hid (ErrsAt ad w) := hE
  have HA : Hid (IsRow .i64 w a len cap zs) := ha
  have HA2 : Hid (IsRow .i64 w a2 len2 cap2 zs2) := ha2
  clear hE ha ha2
  go_enter Tryz.func3, Tryz.ntmps3
  go_wp2_with fail
  refine q0.mono ?_
  rintro e w1 ⟨rfl, hb1⟩
  have B1 : Hid (Below w.heap.size w w1) := hb1
  clear q0 hb1
  by_cases hl : 250 < len
  · have I1 : (250 : Int) < (len : Int) := by omega
    go_wp2_with fail
    go_ret
    exact ⟨rfl, B1.out⟩
  · have I1 : ¬ (250 : Int) < (len : Int) := by omega
    by_cases hl2 : 3 < len2
    · have I2 : (3 : Int) < (len2 : Int) := by omega
      go_wp2_with fail
      go_ret
      exact ⟨rfl, B1.out⟩
    · have I2 : ¬ (3 : Int) < (len2 : Int) := by omega
      have Y0 : Hid (ByTo w1 0 (.slice none 0 0) w1) := ⟨[], rfl, World.ownsRow_nil _ _ _ _, Below.refl _ _, fun _ => rfl⟩
      go_wp2_with fail
      go_loopw [10, 11] (fun s10 s11 wr => ∃ i : Nat, i ≤ len2 ∧ s11 = .int .i64 i ∧ Hid (ByTo w1 i s10 wr)) (fun _ s _ => len2 - (intOf s).toNat)
      case atStart => exact ⟨0, by omega, rfl, Y0⟩
      case round =>
        clear Y0
        obtain ⟨i, hi, rfl, hT⟩ := hrel
        by_cases k1 : i < len2
        · have J1 : (i : Int) < (len2 : Int) := by omega
          obtain ⟨ks, g1, g2, g3, g4⟩ := hT.out
          obtain ⟨ba, ob, ea2, x0⟩ : ∃ ba ob, a2 = some ⟨ba, ob, none⟩ ∧ ∀ w', Below w.heap.size w w' → w'.cell? ⟨ba, ob + i, none⟩ = some (.int .i64 (zs2.getD i 0)) := by
            rcases HA2.out with ⟨_, e, _⟩ | ⟨x, hx, d1, d2, d3, d4, d5⟩
            · omega
            · have hc := d4 i (by omega)
              have hc0 := d4 0 (by omega)
              obtain ⟨b, o, sp⟩ := x
              cases sp with
              | none => exact ⟨b, o, hx, fun w' hB => by rw [← add_plain]; exact cell_on hc hB⟩
              | some s =>
                exfalso
                have e : (⟨b, o, some s⟩ : Addr).add 0 = ⟨b, o, some s⟩ := rfl
                rw [e] at hc0
                unfold World.cell? at hc0
                split at hc0 <;> simp at hc0
          subst ea2
          have x1 := x0 wr (B1.out.trans (g3.mono B1.out.size))
          obtain ⟨k, hk3, hkm⟩ := mod_up (zs2.getD i 0) 3 (by decide) (by decide)
          obtain ⟨av, cv, ev⟩ := own_form g2
          subst ev
          have HKM : Hid ((wrap64 ((zs2.getD i 0).tmod 3 + 3)).tmod 3 = (k : Int)) := hkm
          have O1 : Hid (∀ o, (wr.alloc o).ownsRow w1.heap.size 3 1 (.slice av i cv) i (ni ks)) := fun o => own_on g2 one_box
          have HF : Hid (∀ v' w' o, w'.ownsRow w1.heap.size 3 1 v' (i + 1) (ni ks ++ [.int .i64 k]) → (wr.alloc o).grownBy w' (Value.ownBlock (.slice av i cv)) → ByTo w1 (i + 1) v' w') := fun v' w' o ho hg => by
            refine ⟨ks ++ [(k : Int)], by simp [g1], by simpa [ni] using ho, ?_, fun e => by omega⟩
            exact (g3.trans (one_box.mono g3.size)).grown hg (by have := g3.size; simp; omega) (fun k e => (g2.lt k e).1)
          have hs1 := g3.size
          clear g1 g2 g3 g4 x0 hT hk3 hkm
          generalize zs2.getD i 0 = zi at *
          go_wp2_with (first | (at_builtin; rw [HKM.out]; refine wpList_append_own _ rfl _ _ 22 rfl w1.heap.size 3 i0 (.int .i64 0) 1 8 Tryz.underlying22 hi0 hz0 hz1 hz2 rfl (by decide) _ i (ni ks) rfl (O1.out _) ⟨wr.heap.size, 0, none⟩ 1 1 [.int .i64 k] rfl rfl (cell_one_new _ _ _) (by intro u hu; rw [List.mem_singleton.1 hu]; rfl) (by unfold maxLen; omega) (by omega) (by simp; omega) ?_; intro v9 w9 hown9 hg9 _; have H9 : Hid (ByTo w1 (i + 1) v9 w9) := HF.out _ _ _ hown9 hg9; clear hown9 hg9) | fail)
          go_roundw
          case rel => exact ⟨i + 1, by omega, by go_num, H9⟩
          case measure => simp [intOf]; omega
        · have J1 : ¬ (i : Int) < (len2 : Int) := by omega
          obtain ⟨w2, rfl⟩ : ∃ w2, w2 = wr := ⟨_, rfl⟩
          obtain ⟨ks, g1, g2, g3, g4⟩ := hT.out.ints
          obtain ⟨av, cv, ev⟩ := g2.form
          subst ev
          have hks : ks.length ≤ 3 := by omega
          have q1 := arNew ks _ w2 (by omega) g2 g3
          have HBY : Hid (IntsIs w2 (.slice av ks.length cv) ks) := g2
          have B2 : Hid (Below w.heap.size w w2) := B1.out.trans (g4.mono B1.out.size)
          obtain ⟨mn, hmn, hmm⟩ := mod_up many 20 (by decide) (by decide)
          have HMM : Hid ((wrap64 (many.tmod 20 + 20)).tmod 20 = (mn : Int)) := hmm
          have hmn' : mn < 20 := by omega
          clear g1 g2 g3 g4 hT hmm hmn
          go_wp2_with fail
          refine q1.mono ?_
          rintro e w3 ⟨sb, G, rfl, hA, hG, hb, hB⟩
          have bw3 : Below w.heap.size w w3 := B2.out.trans (hB.mono B2.out.size)
          obtain ⟨V, hV⟩ : ∃ V, V = w3.alloc (.cells #[.slice a len cap, .int .i64 0] 28) := ⟨_, rfl⟩
          have bV : Below w3.heap.size w3 V := by rw [hV]; exact one_box
          have hS0 : SeqAt w3.heap.size a len cap zs 0 V := by rw [hV]; exact SeqAt.make (HA.out.below bw3) _
          have hP0 : PA ks [] w3.heap.size a len cap zs 0 sb [] 0 w2 V := PA.start hA hG hb hB bV hS0 (HA.out.below B2.out).lt
          have HV : Hid (w3.alloc (.cells #[.slice a len cap, .int .i64 0] 28) = V) := hV.symm
          have P0 : Hid (PlTo7 ks w3.heap.size a len cap zs sb w2 0 (.slice none 0 0) V) := by
            obtain ⟨⟨n0, F0, G0, Rl, h1, h2, h3, h4, h5, h6⟩, h7⟩ := hP0
            exact ⟨0, [], 0, ⟨⟨n0, F0, G0, Rl, h1, h2, h3, h4, fun x hx => by rw [List.mem_singleton.1 hx]; exact EntsIs.nil _ _ _, h6⟩, h7⟩, by omega, by omega, by simp⟩
          have HE2 : Hid (ErrsAt ad w2) := HE.out.on B2.out
          clear q1 hA hG hb hB bw3 hV bV hS0 hP0
          go_wp2_with fail
          rw [HMM.out, HV.out]
          go_loopw [14, 15] (fun s14 s15 wr => ∃ i : Nat, i ≤ mn ∧ s15 = .int .i64 i ∧ Hid (PlTo7 ks w3.heap.size a len cap zs sb w2 i s14 wr)) (fun _ s _ => mn - (intOf s).toNat)
          case atStart => exact ⟨0, by omega, rfl, P0⟩
          case round =>
            clear P0 HV
            obtain ⟨i, hi, rfl, hM⟩ := hrel
            by_cases k1 : i < mn
            · have J3 : (i : Int) < (mn : Int) := by omega
              obtain ⟨p, A, m, g1, g2, g3, g4⟩ := hM.out
              obtain ⟨va, cva, ev⟩ := (g1.ents (x := (u14, A)) (List.mem_singleton.2 rfl)).form
              simp only at ev
              subst ev
              obtain ⟨W, hW⟩ : ∃ W, W = wr.alloc (.cells #[.int .i64 1, .int .i64 3, .int .i64 2] 3) := ⟨_, rfl⟩
              have bW : Below wr.heap.size wr W := by rw [hW]; exact one_box
              have hC : ColsAt wr.heap.size [1, 3, 2] W := by rw [hW]; exact cols7_xyz wr 1 3 2
              have hSl := g1.seq.2.2.2.1
              have q2 := makeSet w3.heap.size a len cap zs p wr.heap.size 3 3 [1, 3, 2] 4 W (g1.seq.on bW) (by omega) (by omega) hC (by omega) (by omega) (by simp) ks132
              have HW : Hid (wr.alloc (.cells #[.int .i64 1, .int .i64 3, .int .i64 2] 3) = W) := hW.symm
              have G1 : Hid (PA ks [(.slice va A.length cva, A)] w3.heap.size a len cap zs p sb A m w2 wr) := g1
              have BW : Hid (Below wr.heap.size wr W) := bW
              have GA : Hid (∀ e ∈ A, inI e.2 = true) := fun e he => (g1.all.2.2 e he).1
              clear g1 hM hW bW hC
              go_wp2_with fail
              rw [HW.out]
              refine q2.mono ?_
              rintro e w4 ⟨vz, Z, rfl, ⟨p4, z1, z2, z3, z4, z5, z6, z7⟩, z8, z9⟩
              have H4 : Hid (PA ks [(vz, Z), (.slice va A.length cva, A)] w3.heap.size a len cap zs p4 sb A m w2 w4) := G1.out.made BW.out z7 z4 z6
              have HZ : Hid (IsZ Z ∧ EOk Z ∧ Z.length ≤ 4) := ⟨z1, z2, z3⟩
              have hp4 : p4 ≤ 300 * i + 57 := by omega
              obtain ⟨az, cz, ez⟩ := z4.ents.form
              subst ez
              clear q2 z1 z2 z3 z4 z5 z6 z7 z8 z9 G1 BW HW hSl
              cases wide
              · have q3 := next w3.heap.size a len cap zs p4 15 w4 H4.out.seq (by omega) (by decide) (by decide)
                have hnx := nm_bd (sq zs len p4) 15 (by decide)
                go_wp2_with fail
                refine q3.mono ?_
                rintro e w5 ⟨rfl, s5, t5⟩
                have H5 : Hid (PA ks [(.slice az Z.length cz, Z), (.slice va A.length cva, A)] w3.heap.size a len cap zs (p4 + 1) sb A m w2 w5) := H4.out.seqd (Below.refl _ _) t5 s5
                clear q3 s5 t5 H4
                generalize nm (sq zs len p4) 15 = nx at *
                by_cases hn0 : nx = 0
                · subst hn0
                  obtain ⟨U, hU⟩ : ∃ U, U = w5.alloc (.cells #[.int .i64 1] 3) := ⟨_, rfl⟩
                  have bU : Below w5.heap.size w5 U := by rw [hU]; exact one_box
                  have hC : ColsAt w5.heap.size [1] U := by rw [hU]; exact cols7_x w5 1
                  have hSl := H5.out.seq.2.2.2.1
                  have q4 := makeSet w3.heap.size a len cap zs (p4 + 1) w5.heap.size 1 1 [1] 3 U (H5.out.seq.on bU) (by omega) (by omega) hC (by omega) (by omega) (by simp) ks1
                  have HU : Hid (w5.alloc (.cells #[.int .i64 1] 3) = U) := hU.symm
                  have BU : Hid (Below w5.heap.size w5 U) := bU
                  clear hU bU hC
                  go_wp2_with fail
                  rw [HU.out]
                  refine q4.mono ?_
                  rintro e w6 ⟨vy, Y, rfl, ⟨p6, z1, z2, z3, z4, z5, z6, z7⟩, z8, z9⟩
                  have H6 : Hid (PA ks [(vy, Y), (.slice va A.length cva, A)] w3.heap.size a len cap zs p6 sb A m w2 w6) := (H5.out.made BU.out z7 z4 z6).sub (fun x hx => by simp at hx ⊢; rcases hx with h | h <;> simp [h])
                  have HY : Hid (IsZ Y ∧ EOk Y ∧ Y.length ≤ 4) := ⟨z1, z2, by omega⟩
                  have hp6 : p6 ≤ p4 + 20 := by omega
                  obtain ⟨ay, cy, ey⟩ := z4.ents.form
                  subst ey
                  clear q4 z1 z2 z3 z4 z5 z6 z7 z8 z9 H5 BU HU hSl HZ
                  have q5f : Hid (∀ (t : Nat) (ht : t < Y.length) W, Below w6.heap.size w6 W → (∃ b o a1 c1, ay = some ⟨b, o, none⟩ ∧ W.cell? ⟨b, o + t * 2, none⟩ = some (.slice a1 Y[t].1.length c1) ∧ Calls Tryz.prog 11 #[.slice a1 Y[t].1.length c1, .slice av ks.length cv] W fun e w' => ∃ a3 n3 c3, e = .returned (.tuple #[.slice a3 n3 c3, .bool (allIn Y[t].1 ks)]) ∧ Below w6.heap.size w6 w')) := fun t ht W hB => by
                    have h6 := H6.out.on hB
                    obtain ⟨b, o, a1, c1, e1, x1, x2, x3⟩ := (h6.ents (x := (.slice ay Y.length cy, Y)) (by simp)).at t ht
                    refine ⟨b, o, a1, c1, e1, x1, ?_⟩
                    refine (refPick Y[t].1 ks _ _ W (by omega) x3 (HBY.out.on h6.below)).mono ?_
                    rintro e w' ⟨v, rfl, k1, k2⟩
                    obtain ⟨a3, c3, rfl⟩ := k1.form
                    exact ⟨a3, _, c3, rfl, hB.trans (k2.mono hB.size)⟩
                  have hYl := HY.out.2.2
                  go_wp2_with fail
                  go_loopw [17, 18] (fun s17 s18 W => ∃ (t : Nat) (wv : Int), t ≤ Y.length ∧ s18 = .int .i64 t ∧ s17 = .int .i64 wv ∧ Hid (wv = (if hasK ks (Y.take t) then 0 else 106) ∧ Below w6.heap.size w6 W)) (fun _ s _ => Y.length - (intOf s).toNat)
                  case atStart => exact ⟨0, 0, by omega, rfl, rfl, rfl, Below.refl _ _⟩
                  case round =>
                    obtain ⟨t, wv, ht, rfl, rfl, hQ⟩ := hrel
                    by_cases k2 : t < Y.length
                    · have J4 : (t : Int) < (Y.length : Int) := by omega
                      obtain ⟨b, o, a1, c1, e1, x1, q6⟩ := q5f.out t k2 _ hQ.out.2
                      subst e1
                      have HT := hasK_take (ks := ks) k2
                      have HTT : Hid (hasK ks (Y.take (t + 1)) = (hasK ks (Y.take t) && allIn Y[t].1 ks)) := HT
                      clear HT
                      generalize Y[t].1.length = yl at *
                      generalize allIn Y[t].1 ks = c at *
                      go_wp2_with fail
                      refine q6.mono ?_
                      rintro e w7 ⟨a3, n3, c3, rfl, b7⟩
                      have B7 : Hid (Below w6.heap.size w6 w7) := b7
                      clear q6 b7 x1
                      cases c
                      · have R7 : Hid ((106 : Int) = (if hasK ks (Y.take (t + 1)) then 0 else 106) ∧ Below w6.heap.size w6 w7) := ⟨by rw [HTT.out, Bool.and_false]; rfl, B7.out⟩
                        go_wp2_with fail
                        go_roundw
                        case rel => exact ⟨t + 1, 106, by omega, by go_num, rfl, R7⟩
                        case measure => simp [intOf]; omega
                      · have R7 : Hid (wv = (if hasK ks (Y.take (t + 1)) then 0 else 106) ∧ Below w6.heap.size w6 w7) := ⟨by rw [HTT.out, Bool.and_true]; exact hQ.out.1, B7.out⟩
                        go_wp2_with fail
                        go_roundw
                        case rel => exact ⟨t + 1, wv, by omega, by go_num, rfl, R7⟩
                        case measure => simp [intOf]; omega
                    · have J4 : ¬ (t : Int) < (Y.length : Int) := by omega
                      have hwv : wv = (if hasK ks Y then 0 else 106) := by
                        have := hQ.out.1
                        rwa [List.take_of_length_le (by omega)] at this
                      obtain ⟨w7, rfl⟩ : ∃ w7, w7 = wr := ⟨_, rfl⟩
                      have H7 : Hid (PA ks [(.slice ay Y.length cy, Y), (.slice va A.length cva, A)] w3.heap.size a len cap zs p6 sb A m w2 w7) := H6.out.on hQ.out.2
                      have q6 := paAdd ks _ _ a len cap zs p6 sb A m w2 w7 H7.out (.slice va A.length cva) (.slice ay Y.length cy) A Y (by simp) (by simp) GA.out (fun e he => (HY.out.2.1 e he).1) (by omega) (if okZ (A ++ Y) then 0 else 107) rfl
                      have HLEN : Hid ((mkZ (A ++ Y)).length ≤ 4 * i + 4) := by
                        have := mkZ_len (A ++ Y)
                        rw [List.length_append] at this
                        show _ ≤ _; omega
                      have HAo : Hid (A.length ≤ 4 * i + 4) := by show _ ≤ _; omega
                      cases hk : hasK ks Y
                      · -- not all columns
                        have hw : wv = 106 := by rw [hwv, hk]; rfl
                        have HKF : Hid (hasK ks Y = false) := hk
                        clear hwv hk hQ q5f H6
                        subst hw
                        generalize hcv : (if okZ (A ++ Y) then (0 : Int) else 107) = cc at q6
                        clear hcv
                        go_wp2_with fail
                        refine q6.mono ?_
                        rintro e w8 ⟨v8, rfl, h8⟩
                        obtain ⟨a8, c8, f8⟩ := (h8.ents (x := (v8, mkZ (A ++ Y))) (by simp)).form
                        simp only at f8
                        have q7 := paInsert ks _ _ a len cap zs p6 sb A m w2 w8 (ad 5) (ad 6) h8 HE2.out.arity HE2.out.over (.slice ay Y.length cy) Y (fun h => by rw [HKF.out] at h; cases h) (h8.ents (x := (.slice ay Y.length cy, Y)) (by simp)) (by omega)
                        have ei : insE (ad 5) (ad 6) (hasK ks Y) (okZ (A ++ Y)) = errV (ad 5) := by rw [HKF.out]; rfl
                        have ez : insZ ks A Y = A := by unfold insZ; rw [HKF.out]; rfl
                        rw [ei, ez] at q7
                        clear q6 h8 ei ez H7
                        generalize (mkZ (A ++ Y)).length = l8 at *
                        subst f8
                        go_wp2_with fail
                        refine q7.mono ?_
                        rintro e w9' ⟨rfl, m8, hm8, h9⟩
                        have q8 : Hid (Calls Tryz.prog 13 #[.iface 202 (.pointer (some (ad 5))), .int .i64 106] w9' fun e w' => e = .returned (.bool true) ∧ Below w9'.heap.size w9' w') := seeIs ad (some 5) 106 w9' (HE2.out.on h9.below)
                        have H9' : Hid (PA ks [(.slice va A.length cva, A)] w3.heap.size a len cap zs p6 sb A m8 w2 w9') := h9.sub (fun x hx => by rw [List.mem_singleton.1 hx]; simp)
                        have hm8' : m8 ≤ 4 * i + 4 := by omega
                        clear q7 h9 hm8
                        rw [errV_ne]
                        go_wp2_with fail
                        refine q8.out.mono ?_
                        rintro e w8 ⟨rfl, b8⟩
                        have H8 : Hid (PA ks [(.slice va A.length cva, A)] w3.heap.size a len cap zs p6 sb A m8 w2 w8) := H9'.out.on b8
                        have HAL := HAo
                        clear q8 b8 H9'
                        have q9 : Hid (Calls Tryz.prog 15 #[.pointer (some ⟨sb.b, 0, none⟩), .slice va A.length cva, .slice av ks.length cv] w8 fun e w' => e = .returned (.bool true) ∧ Below w8.heap.size w8 w') := by
                          obtain ⟨F, G', n8, h8⟩ := H8.out.ar
                          exact lawSame7 F G' sb ks A n8 m8 (ad 6) w8 h8 (HE2.out.over.on H8.out.below) (by omega) _ _ (H8.out.ents (x := (.slice va A.length cva, A)) (List.mem_singleton.2 rfl)) (HBY.out.on H8.out.below) hks
                        go_wp2_with fail
                        refine q9.out.mono ?_
                        rintro e w9 ⟨rfl, b9⟩
                        have H9 : Hid (PA ks [(.slice va A.length cva, A)] w3.heap.size a len cap zs p6 sb A m8 w2 w9) := H8.out.on b9
                        have q10 := paAll ks _ _ a len cap zs p6 sb A m8 w2 w9 (ad 6) H9.out HE2.out.over (by omega)
                        clear q9 b9 H8
                        go_wp2_with fail
                        refine q10.mono ?_
                        rintro e w10 ⟨v10, rfl, e10, b10⟩
                        have H10 : Hid (PA ks [(.slice va A.length cva, A)] w3.heap.size a len cap zs p6 sb A m8 w2 w10) := H9.out.on b10
                        have q11 := sameEnts7 A v10 (.slice va A.length cva) w10 e10 (H10.out.ents (x := (.slice va A.length cva, A)) (List.mem_singleton.2 rfl))
                        obtain ⟨a10, c10, f10⟩ := e10.form
                        clear q10 e10 b10 H9
                        subst f10
                        go_wp2_with fail
                        refine q11.mono ?_
                        rintro e w11 ⟨rfl, b11⟩
                        have h11 := H10.out.on b11
                        obtain ⟨X, hX⟩ : ∃ X, X = w11.alloc (.cells #[.int .i64 1, .int .i64 3, .int .i64 2] 3) := ⟨_, rfl⟩
                        have bX : Below w11.heap.size w11 X := by rw [hX]; exact one_box
                        have hCX : ColsAt w11.heap.size [1, 3, 2] X := by rw [hX]; exact cols7_xyz w11 1 3 2
                        have hSl11 := h11.seq.2.2.2.1
                        have q12 := makeRow w3.heap.size a len cap zs p6 w11.heap.size 3 3 [1, 3, 2] X (h11.seq.on bX) (by omega) hCX (by omega) (by simp) ks132
                        have HX : Hid (w11.alloc (.cells #[.int .i64 1, .int .i64 3, .int .i64 2] 3) = X) := hX.symm
                        have BX : Hid (Below w11.heap.size w11 X) := bX
                        have H11 : Hid (PA ks [(.slice va A.length cva, A)] w3.heap.size a len cap zs p6 sb A m8 w2 w11) := h11
                        clear q11 b11 H10 h11 hX bX hCX
                        go_wp2_with fail
                        rw [HX.out]
                        refine q12.mono ?_
                        rintro e w12 ⟨v12, rfl, r12, p12, r1, r2, r3, r4, r5, r6, _⟩
                        have hR : RowIs w12 v12 r12 := RowIs.of_own (base := X.heap.size) (by rw [r1]; exact r3)
                        have H12 : Hid (PA ks [(.slice va A.length cva, A)] w3.heap.size a len cap zs p12 sb A m8 w2 w12) := H11.out.seqd BX.out r6 r5
                        obtain ⟨a12, c12, e12⟩ := hR.form
                        have hp12 : p12 ≤ 300 * (i + 1) := by omega
                        have HR : Hid (RowIs w12 v12 r12) := hR
                        have q13 : Hid (∀ any, Calls Tryz.prog 19 #[.pointer (some ⟨sb.b, 0, none⟩), v12, .bool any, .int .i64 3] w12 fun e w' => ∃ a' n' c', e = .returned (.slice a' n' c') ∧ AftH any r12 A (.slice a' n' c') w' ∧ Below w12.heap.size w12 w') := fun any => by
                          refine (paChunk ks _ _ a len cap zs p12 sb A m8 w2 w12 (ad 6) H12.out HE2.out.over (by omega) r12 v12 HR.out any 3).mono ?_
                          rintro e w' ⟨v, rfl, k1, k2⟩
                          obtain ⟨a', c', rfl⟩ := k1.form
                          exact ⟨a', _, c', rfl, k1, k2⟩
                        have q14 : Hid (∀ any W, Below w12.heap.size w12 W → Calls Tryz.prog 20 #[.slice va A.length cva, v12, .bool any, .int .i64 3] W fun e w' => ∃ a' n' c', e = .returned (.slice a' n' c') ∧ AftH any r12 A (.slice a' n' c') w' ∧ Below W.heap.size W w') := fun any W hB => by
                          refine (refAfter A r12 _ v12 any 3 W (by have := HAL.out; omega) ((H12.out.on hB).ents (x := (.slice va A.length cva, A)) (List.mem_singleton.2 rfl)) (HR.out.on hB)).mono ?_
                          rintro e w' ⟨v, rfl, k1⟩
                          obtain ⟨a', c', rfl⟩ := k1.form
                          exact ⟨a', _, c', rfl, k1.ents, k1.2⟩
                        clear q12 hR r1 r2 r3 r4 r5 r6 H11 BX HX hSl11 HR
                        generalize r12.length = rl at *
                        subst e12
                        go_wp2_with fail
                        refine (q13.out _).mono ?_
                        rintro e w13 ⟨a13, n13, c13, rfl, e13, b13⟩
                        have E13 : Hid (AftH _ r12 A (.slice a13 n13 c13) w13) := e13
                        have B13 : Hid (Below w12.heap.size w12 w13) := b13
                        clear q13 e13 b13
                        go_wp2_with fail
                        refine (q14.out _ w13 B13.out).mono ?_
                        rintro e w14 ⟨a14, n14, c14, rfl, e14, b14⟩
                        have q15 := sameEnts7 _ _ _ w14 (EntsIs.on E13.out b14) e14
                        have B14 : Hid (Below w12.heap.size w12 w14) := B13.out.trans (b14.mono B13.out.size)
                        clear q14 e14 b14 E13 B13
                        go_wp2_with fail
                        refine q15.mono ?_
                        rintro e w15 ⟨rfl, b15⟩
                        have H15 : Hid (PlTo7 ks w3.heap.size a len cap zs sb w2 (i + 1) (.slice va A.length cva) w15) := ⟨p12, A, m8, H12.out.on (B14.out.trans (b15.mono B14.out.size)), hp12, by omega, by have := HAL.out; omega⟩
                        clear q15 b15
                        go_wp2_with fail
                        go_roundw
                        case rel => exact ⟨i + 1, by omega, by go_num, H15⟩
                        case measure => simp [intOf]; omega
                      · have hw : wv = 0 := by rw [hwv, hk]; rfl
                        have HKT : Hid (hasK ks Y = true) := hk
                        clear hwv hk hQ q5f H6
                        subst hw
                        cases ho : okZ (A ++ Y)
                        · have HOF : Hid (okZ (A ++ Y) = false) := ho
                          rw [ho] at q6
                          have hcc : (if false = true then (0 : Int) else 107) = 107 := rfl
                          rw [hcc] at q6
                          clear ho hcc
                          go_wp2_with fail
                          refine q6.mono ?_
                          rintro e w8 ⟨v8, rfl, h8⟩
                          obtain ⟨a8, c8, f8⟩ := (h8.ents (x := (v8, mkZ (A ++ Y))) (by simp)).form
                          simp only at f8
                          have q7 := paInsert ks _ _ a len cap zs p6 sb A m w2 w8 (ad 5) (ad 6) h8 HE2.out.arity HE2.out.over (.slice ay Y.length cy) Y (fun _ => ⟨HY.out.1, HY.out.2.1⟩) (h8.ents (x := (.slice ay Y.length cy, Y)) (by simp)) (by omega)
                          have ei : insE (ad 5) (ad 6) (hasK ks Y) (okZ (A ++ Y)) = errV (ad 6) := by rw [HKT.out, HOF.out]; rfl
                          have ez : insZ ks A Y = A := by unfold insZ; rw [HKT.out, HOF.out]; rfl
                          rw [ei, ez] at q7
                          clear q6 h8 ei ez H7
                          generalize (mkZ (A ++ Y)).length = l8 at *
                          subst f8
                          go_wp2_with fail
                          refine q7.mono ?_
                          rintro e w9' ⟨rfl, m8, hm8, h9⟩
                          have q8 : Hid (Calls Tryz.prog 13 #[.iface 202 (.pointer (some (ad 6))), .int .i64 107] w9' fun e w' => e = .returned (.bool true) ∧ Below w9'.heap.size w9' w') := seeIs ad (some 6) 107 w9' (HE2.out.on h9.below)
                          have H9' : Hid (PA ks [(.slice va A.length cva, A)] w3.heap.size a len cap zs p6 sb A m8 w2 w9') := h9.sub (fun x hx => by rw [List.mem_singleton.1 hx]; simp)
                          have hm8' : m8 ≤ 4 * i + 4 := by omega
                          clear q7 h9 hm8
                          rw [errV_ne]
                          go_wp2_with fail
                          refine q8.out.mono ?_
                          rintro e w8 ⟨rfl, b8⟩
                          have H8 : Hid (PA ks [(.slice va A.length cva, A)] w3.heap.size a len cap zs p6 sb A m8 w2 w8) := H9'.out.on b8
                          have HAL := HAo
                          clear q8 b8 H9'
                          have q9 : Hid (Calls Tryz.prog 15 #[.pointer (some ⟨sb.b, 0, none⟩), .slice va A.length cva, .slice av ks.length cv] w8 fun e w' => e = .returned (.bool true) ∧ Below w8.heap.size w8 w') := by
                            obtain ⟨F, G', n8, h8⟩ := H8.out.ar
                            exact lawSame7 F G' sb ks A n8 m8 (ad 6) w8 h8 (HE2.out.over.on H8.out.below) (by omega) _ _ (H8.out.ents (x := (.slice va A.length cva, A)) (List.mem_singleton.2 rfl)) (HBY.out.on H8.out.below) hks
                          go_wp2_with fail
                          refine q9.out.mono ?_
                          rintro e w9 ⟨rfl, b9⟩
                          have H9 : Hid (PA ks [(.slice va A.length cva, A)] w3.heap.size a len cap zs p6 sb A m8 w2 w9) := H8.out.on b9
                          have q10 := paAll ks _ _ a len cap zs p6 sb A m8 w2 w9 (ad 6) H9.out HE2.out.over (by omega)
                          clear q9 b9 H8
                          go_wp2_with fail
                          refine q10.mono ?_
                          rintro e w10 ⟨v10, rfl, e10, b10⟩
                          have H10 : Hid (PA ks [(.slice va A.length cva, A)] w3.heap.size a len cap zs p6 sb A m8 w2 w10) := H9.out.on b10
                          have q11 := sameEnts7 A v10 (.slice va A.length cva) w10 e10 (H10.out.ents (x := (.slice va A.length cva, A)) (List.mem_singleton.2 rfl))
                          obtain ⟨a10, c10, f10⟩ := e10.form
                          clear q10 e10 b10 H9
                          subst f10
                          go_wp2_with fail
                          refine q11.mono ?_
                          rintro e w11 ⟨rfl, b11⟩
                          have h11 := H10.out.on b11
                          obtain ⟨X, hX⟩ : ∃ X, X = w11.alloc (.cells #[.int .i64 1, .int .i64 3, .int .i64 2] 3) := ⟨_, rfl⟩
                          have bX : Below w11.heap.size w11 X := by rw [hX]; exact one_box
                          have hCX : ColsAt w11.heap.size [1, 3, 2] X := by rw [hX]; exact cols7_xyz w11 1 3 2
                          have hSl11 := h11.seq.2.2.2.1
                          have q12 := makeRow w3.heap.size a len cap zs p6 w11.heap.size 3 3 [1, 3, 2] X (h11.seq.on bX) (by omega) hCX (by omega) (by simp) ks132
                          have HX : Hid (w11.alloc (.cells #[.int .i64 1, .int .i64 3, .int .i64 2] 3) = X) := hX.symm
                          have BX : Hid (Below w11.heap.size w11 X) := bX
                          have H11 : Hid (PA ks [(.slice va A.length cva, A)] w3.heap.size a len cap zs p6 sb A m8 w2 w11) := h11
                          clear q11 b11 H10 h11 hX bX hCX
                          go_wp2_with fail
                          rw [HX.out]
                          refine q12.mono ?_
                          rintro e w12 ⟨v12, rfl, r12, p12, r1, r2, r3, r4, r5, r6, _⟩
                          have hR : RowIs w12 v12 r12 := RowIs.of_own (base := X.heap.size) (by rw [r1]; exact r3)
                          have H12 : Hid (PA ks [(.slice va A.length cva, A)] w3.heap.size a len cap zs p12 sb A m8 w2 w12) := H11.out.seqd BX.out r6 r5
                          obtain ⟨a12, c12, e12⟩ := hR.form
                          have hp12 : p12 ≤ 300 * (i + 1) := by omega
                          have HR : Hid (RowIs w12 v12 r12) := hR
                          have q13 : Hid (∀ any, Calls Tryz.prog 19 #[.pointer (some ⟨sb.b, 0, none⟩), v12, .bool any, .int .i64 3] w12 fun e w' => ∃ a' n' c', e = .returned (.slice a' n' c') ∧ AftH any r12 A (.slice a' n' c') w' ∧ Below w12.heap.size w12 w') := fun any => by
                            refine (paChunk ks _ _ a len cap zs p12 sb A m8 w2 w12 (ad 6) H12.out HE2.out.over (by omega) r12 v12 HR.out any 3).mono ?_
                            rintro e w' ⟨v, rfl, k1, k2⟩
                            obtain ⟨a', c', rfl⟩ := k1.form
                            exact ⟨a', _, c', rfl, k1, k2⟩
                          have q14 : Hid (∀ any W, Below w12.heap.size w12 W → Calls Tryz.prog 20 #[.slice va A.length cva, v12, .bool any, .int .i64 3] W fun e w' => ∃ a' n' c', e = .returned (.slice a' n' c') ∧ AftH any r12 A (.slice a' n' c') w' ∧ Below W.heap.size W w') := fun any W hB => by
                            refine (refAfter A r12 _ v12 any 3 W (by have := HAL.out; omega) ((H12.out.on hB).ents (x := (.slice va A.length cva, A)) (List.mem_singleton.2 rfl)) (HR.out.on hB)).mono ?_
                            rintro e w' ⟨v, rfl, k1⟩
                            obtain ⟨a', c', rfl⟩ := k1.form
                            exact ⟨a', _, c', rfl, k1.ents, k1.2⟩
                          clear q12 hR r1 r2 r3 r4 r5 r6 H11 BX HX hSl11 HR
                          generalize r12.length = rl at *
                          subst e12
                          go_wp2_with fail
                          refine (q13.out _).mono ?_
                          rintro e w13 ⟨a13, n13, c13, rfl, e13, b13⟩
                          have E13 : Hid (AftH _ r12 A (.slice a13 n13 c13) w13) := e13
                          have B13 : Hid (Below w12.heap.size w12 w13) := b13
                          clear q13 e13 b13
                          go_wp2_with fail
                          refine (q14.out _ w13 B13.out).mono ?_
                          rintro e w14 ⟨a14, n14, c14, rfl, e14, b14⟩
                          have q15 := sameEnts7 _ _ _ w14 (EntsIs.on E13.out b14) e14
                          have B14 : Hid (Below w12.heap.size w12 w14) := B13.out.trans (b14.mono B13.out.size)
                          clear q14 e14 b14 E13 B13
                          go_wp2_with fail
                          refine q15.mono ?_
                          rintro e w15 ⟨rfl, b15⟩
                          have H15 : Hid (PlTo7 ks w3.heap.size a len cap zs sb w2 (i + 1) (.slice va A.length cva) w15) := ⟨p12, A, m8, H12.out.on (B14.out.trans (b15.mono B14.out.size)), hp12, by omega, by have := HAL.out; omega⟩
                          clear q15 b15
                          go_wp2_with fail
                          go_roundw
                          case rel => exact ⟨i + 1, by omega, by go_num, H15⟩
                          case measure => simp [intOf]; omega
                        · have HOT : Hid (okZ (A ++ Y) = true) := ho
                          rw [ho] at q6
                          have hcc : (if true = true then (0 : Int) else 107) = 0 := rfl
                          rw [hcc] at q6
                          clear ho hcc
                          go_wp2_with fail
                          refine q6.mono ?_
                          rintro e w8 ⟨v8, rfl, h8⟩
                          obtain ⟨a4, c4, f8⟩ := (h8.ents (x := (v8, mkZ (A ++ Y))) (by simp)).form
                          simp only at f8
                          subst f8
                          have q7 := paInsert ks _ _ a len cap zs p6 sb A m w2 w8 (ad 5) (ad 6) h8 HE2.out.arity HE2.out.over (.slice ay Y.length cy) Y (fun _ => ⟨HY.out.1, HY.out.2.1⟩) (h8.ents (x := (.slice ay Y.length cy, Y)) (by simp)) (by omega)
                          have ei : insE (ad 5) (ad 6) (hasK ks Y) (okZ (A ++ Y)) = .nilIface := by rw [HKT.out, HOT.out]; rfl
                          have ez : insZ ks A Y = mkZ (A ++ Y) := by unfold insZ; rw [HKT.out, HOT.out]; rfl
                          rw [ei, ez] at q7
                          clear q6 h8 ei ez H7
                          have HAL := HLEN
                          clear HLEN HAo HKT HOT
                          generalize mkZ (A ++ Y) = A4 at *
                          go_wp2_with fail
                          refine q7.mono ?_
                          rintro e w9' ⟨rfl, m8, hm8, h9⟩
                          have q8 : Hid (Calls Tryz.prog 13 #[.nilIface, .int .i64 0] w9' fun e w' => e = .returned (.bool true) ∧ Below w9'.heap.size w9' w') := seeIs ad none 0 w9' (HE2.out.on h9.below)
                          have H9' : Hid (PA ks [(.slice a4 A4.length c4, A4)] w3.heap.size a len cap zs p6 sb A4 m8 w2 w9') := h9.sub (fun x hx => by rw [List.mem_singleton.1 hx]; simp)
                          have hm8' : m8 ≤ 4 * i + 4 := by omega
                          clear q7 h9 hm8
                          go_wp2_with fail
                          refine q8.out.mono ?_
                          rintro e w8' ⟨rfl, b8⟩
                          have H8 : Hid (PA ks [(.slice a4 A4.length c4, A4)] w3.heap.size a len cap zs p6 sb A4 m8 w2 w8') := H9'.out.on b8
                          clear q8 b8 H9'
                          have q9 : Hid (Calls Tryz.prog 15 #[.pointer (some ⟨sb.b, 0, none⟩), .slice a4 A4.length c4, .slice av ks.length cv] w8' fun e w' => e = .returned (.bool true) ∧ Below w8'.heap.size w8' w') := by
                            obtain ⟨F, G', n8, h8⟩ := H8.out.ar
                            exact lawSame7 F G' sb ks A4 n8 m8 (ad 6) w8' h8 (HE2.out.over.on H8.out.below) (by omega) _ _ (H8.out.ents (x := (.slice a4 A4.length c4, A4)) (List.mem_singleton.2 rfl)) (HBY.out.on H8.out.below) hks
                          go_wp2_with fail
                          refine q9.out.mono ?_
                          rintro e w9 ⟨rfl, b9⟩
                          have H9 : Hid (PA ks [(.slice a4 A4.length c4, A4)] w3.heap.size a len cap zs p6 sb A4 m8 w2 w9) := H8.out.on b9
                          have q10 := paAll ks _ _ a len cap zs p6 sb A4 m8 w2 w9 (ad 6) H9.out HE2.out.over (by omega)
                          clear q9 b9 H8
                          go_wp2_with fail
                          refine q10.mono ?_
                          rintro e w10 ⟨v10, rfl, e10, b10⟩
                          have H10 : Hid (PA ks [(.slice a4 A4.length c4, A4)] w3.heap.size a len cap zs p6 sb A4 m8 w2 w10) := H9.out.on b10
                          have q11 := sameEnts7 A4 v10 (.slice a4 A4.length c4) w10 e10 (H10.out.ents (x := (.slice a4 A4.length c4, A4)) (List.mem_singleton.2 rfl))
                          obtain ⟨a10, c10, f10⟩ := e10.form
                          clear q10 e10 b10 H9
                          subst f10
                          go_wp2_with fail
                          refine q11.mono ?_
                          rintro e w11 ⟨rfl, b11⟩
                          have h11 := H10.out.on b11
                          obtain ⟨X, hX⟩ : ∃ X, X = w11.alloc (.cells #[.int .i64 1, .int .i64 3, .int .i64 2] 3) := ⟨_, rfl⟩
                          have bX : Below w11.heap.size w11 X := by rw [hX]; exact one_box
                          have hCX : ColsAt w11.heap.size [1, 3, 2] X := by rw [hX]; exact cols7_xyz w11 1 3 2
                          have hSl11 := h11.seq.2.2.2.1
                          have q12 := makeRow w3.heap.size a len cap zs p6 w11.heap.size 3 3 [1, 3, 2] X (h11.seq.on bX) (by omega) hCX (by omega) (by simp) ks132
                          have HX : Hid (w11.alloc (.cells #[.int .i64 1, .int .i64 3, .int .i64 2] 3) = X) := hX.symm
                          have BX : Hid (Below w11.heap.size w11 X) := bX
                          have H11 : Hid (PA ks [(.slice a4 A4.length c4, A4)] w3.heap.size a len cap zs p6 sb A4 m8 w2 w11) := h11
                          clear q11 b11 H10 h11 hX bX hCX
                          go_wp2_with fail
                          rw [HX.out]
                          refine q12.mono ?_
                          rintro e w12 ⟨v12, rfl, r12, p12, r1, r2, r3, r4, r5, r6, _⟩
                          have hR : RowIs w12 v12 r12 := RowIs.of_own (base := X.heap.size) (by rw [r1]; exact r3)
                          have H12 : Hid (PA ks [(.slice a4 A4.length c4, A4)] w3.heap.size a len cap zs p12 sb A4 m8 w2 w12) := H11.out.seqd BX.out r6 r5
                          obtain ⟨a12, c12, e12⟩ := hR.form
                          have hp12 : p12 ≤ 300 * (i + 1) := by omega
                          have HR : Hid (RowIs w12 v12 r12) := hR
                          have q13 : Hid (∀ any, Calls Tryz.prog 19 #[.pointer (some ⟨sb.b, 0, none⟩), v12, .bool any, .int .i64 3] w12 fun e w' => ∃ a' n' c', e = .returned (.slice a' n' c') ∧ AftH any r12 A4 (.slice a' n' c') w' ∧ Below w12.heap.size w12 w') := fun any => by
                            refine (paChunk ks _ _ a len cap zs p12 sb A4 m8 w2 w12 (ad 6) H12.out HE2.out.over (by omega) r12 v12 HR.out any 3).mono ?_
                            rintro e w' ⟨v, rfl, k1, k2⟩
                            obtain ⟨a', c', rfl⟩ := k1.form
                            exact ⟨a', _, c', rfl, k1, k2⟩
                          have q14 : Hid (∀ any W, Below w12.heap.size w12 W → Calls Tryz.prog 20 #[.slice a4 A4.length c4, v12, .bool any, .int .i64 3] W fun e w' => ∃ a' n' c', e = .returned (.slice a' n' c') ∧ AftH any r12 A4 (.slice a' n' c') w' ∧ Below W.heap.size W w') := fun any W hB => by
                            refine (refAfter A4 r12 _ v12 any 3 W (by have := HAL.out; omega) ((H12.out.on hB).ents (x := (.slice a4 A4.length c4, A4)) (List.mem_singleton.2 rfl)) (HR.out.on hB)).mono ?_
                            rintro e w' ⟨v, rfl, k1⟩
                            obtain ⟨a', c', rfl⟩ := k1.form
                            exact ⟨a', _, c', rfl, k1.ents, k1.2⟩
                          clear q12 hR r1 r2 r3 r4 r5 r6 H11 BX HX hSl11 HR
                          generalize r12.length = rl at *
                          subst e12
                          go_wp2_with fail
                          refine (q13.out _).mono ?_
                          rintro e w13 ⟨a13, n13, c13, rfl, e13, b13⟩
                          have E13 : Hid (AftH _ r12 A4 (.slice a13 n13 c13) w13) := e13
                          have B13 : Hid (Below w12.heap.size w12 w13) := b13
                          clear q13 e13 b13
                          go_wp2_with fail
                          refine (q14.out _ w13 B13.out).mono ?_
                          rintro e w14 ⟨a14, n14, c14, rfl, e14, b14⟩
                          have q15 := sameEnts7 _ _ _ w14 (EntsIs.on E13.out b14) e14
                          have B14 : Hid (Below w12.heap.size w12 w14) := B13.out.trans (b14.mono B13.out.size)
                          clear q14 e14 b14 E13 B13
                          go_wp2_with fail
                          refine q15.mono ?_
                          rintro e w15 ⟨rfl, b15⟩
                          have H15 : Hid (PlTo7 ks w3.heap.size a len cap zs sb w2 (i + 1) (.slice a4 A4.length c4) w15) := ⟨p12, A4, m8, H12.out.on (B14.out.trans (b15.mono B14.out.size)), hp12, by omega, by have := HAL.out; omega⟩
                          clear q15 b15
                          go_wp2_with fail
                          go_roundw
                          case rel => exact ⟨i + 1, by omega, by go_num, H15⟩
                          case measure => simp [intOf]; omega
                · have hn1 : (nx == 0) = false := by simp [hn0]
                  obtain ⟨Y, hY⟩ : ∃ Y, Y = Z := ⟨_, rfl⟩
                  obtain ⟨p6, hp6e⟩ : ∃ p6, p6 = p4 + 1 := ⟨_, rfl⟩
                  obtain ⟨w6, hw6⟩ : ∃ w6, w6 = w5 := ⟨_, rfl⟩
                  obtain ⟨ay, hay⟩ : ∃ ay, ay = az := ⟨_, rfl⟩
                  obtain ⟨cy, hcy⟩ : ∃ cy, cy = cz := ⟨_, rfl⟩
                  have H6 : Hid (PA ks [(.slice ay Y.length cy, Y), (.slice va A.length cva, A)] w3.heap.size a len cap zs p6 sb A m w2 w6) := by rw [hY, hp6e, hw6, hay, hcy]; exact H5.out
                  have HY : Hid (IsZ Y ∧ EOk Y ∧ Y.length ≤ 4) := by rw [hY]; exact HZ.out
                  have hp6 : p6 ≤ p4 + 20 := by omega
                  rw [← hw6, ← hay, ← hcy, ← hY]
                  clear H5 HZ hp6e hw6 hay hcy hY
                  have q5f : Hid (∀ (t : Nat) (ht : t < Y.length) W, Below w6.heap.size w6 W → (∃ b o a1 c1, ay = some ⟨b, o, none⟩ ∧ W.cell? ⟨b, o + t * 2, none⟩ = some (.slice a1 Y[t].1.length c1) ∧ Calls Tryz.prog 11 #[.slice a1 Y[t].1.length c1, .slice av ks.length cv] W fun e w' => ∃ a3 n3 c3, e = .returned (.tuple #[.slice a3 n3 c3, .bool (allIn Y[t].1 ks)]) ∧ Below w6.heap.size w6 w')) := fun t ht W hB => by
                    have h6 := H6.out.on hB
                    obtain ⟨b, o, a1, c1, e1, x1, x2, x3⟩ := (h6.ents (x := (.slice ay Y.length cy, Y)) (by simp)).at t ht
                    refine ⟨b, o, a1, c1, e1, x1, ?_⟩
                    refine (refPick Y[t].1 ks _ _ W (by omega) x3 (HBY.out.on h6.below)).mono ?_
                    rintro e w' ⟨v, rfl, k1, k2⟩
                    obtain ⟨a3, c3, rfl⟩ := k1.form
                    exact ⟨a3, _, c3, rfl, hB.trans (k2.mono hB.size)⟩
                  have hYl := HY.out.2.2
                  go_wp2_with fail
                  go_loopw [17, 18] (fun s17 s18 W => ∃ (t : Nat) (wv : Int), t ≤ Y.length ∧ s18 = .int .i64 t ∧ s17 = .int .i64 wv ∧ Hid (wv = (if hasK ks (Y.take t) then 0 else 106) ∧ Below w6.heap.size w6 W)) (fun _ s _ => Y.length - (intOf s).toNat)
                  case atStart => exact ⟨0, 0, by omega, rfl, rfl, rfl, Below.refl _ _⟩
                  case round =>
                    obtain ⟨t, wv, ht, rfl, rfl, hQ⟩ := hrel
                    by_cases k2 : t < Y.length
                    · have J4 : (t : Int) < (Y.length : Int) := by omega
                      obtain ⟨b, o, a1, c1, e1, x1, q6⟩ := q5f.out t k2 _ hQ.out.2
                      subst e1
                      have HT := hasK_take (ks := ks) k2
                      have HTT : Hid (hasK ks (Y.take (t + 1)) = (hasK ks (Y.take t) && allIn Y[t].1 ks)) := HT
                      clear HT
                      generalize Y[t].1.length = yl at *
                      generalize allIn Y[t].1 ks = c at *
                      go_wp2_with fail
                      refine q6.mono ?_
                      rintro e w7 ⟨a3, n3, c3, rfl, b7⟩
                      have B7 : Hid (Below w6.heap.size w6 w7) := b7
                      clear q6 b7 x1
                      cases c
                      · have R7 : Hid ((106 : Int) = (if hasK ks (Y.take (t + 1)) then 0 else 106) ∧ Below w6.heap.size w6 w7) := ⟨by rw [HTT.out, Bool.and_false]; rfl, B7.out⟩
                        go_wp2_with fail
                        go_roundw
                        case rel => exact ⟨t + 1, 106, by omega, by go_num, rfl, R7⟩
                        case measure => simp [intOf]; omega
                      · have R7 : Hid (wv = (if hasK ks (Y.take (t + 1)) then 0 else 106) ∧ Below w6.heap.size w6 w7) := ⟨by rw [HTT.out, Bool.and_true]; exact hQ.out.1, B7.out⟩
                        go_wp2_with fail
                        go_roundw
                        case rel => exact ⟨t + 1, wv, by omega, by go_num, rfl, R7⟩
                        case measure => simp [intOf]; omega
                    · have J4 : ¬ (t : Int) < (Y.length : Int) := by omega
                      have hwv : wv = (if hasK ks Y then 0 else 106) := by
                        have := hQ.out.1
                        rwa [List.take_of_length_le (by omega)] at this
                      obtain ⟨w7, rfl⟩ : ∃ w7, w7 = wr := ⟨_, rfl⟩
                      have H7 : Hid (PA ks [(.slice ay Y.length cy, Y), (.slice va A.length cva, A)] w3.heap.size a len cap zs p6 sb A m w2 w7) := H6.out.on hQ.out.2
                      have q6 := paAdd ks _ _ a len cap zs p6 sb A m w2 w7 H7.out (.slice va A.length cva) (.slice ay Y.length cy) A Y (by simp) (by simp) GA.out (fun e he => (HY.out.2.1 e he).1) (by omega) (if okZ (A ++ Y) then 0 else 107) rfl
                      have HLEN : Hid ((mkZ (A ++ Y)).length ≤ 4 * i + 4) := by
                        have := mkZ_len (A ++ Y)
                        rw [List.length_append] at this
                        show _ ≤ _; omega
                      have HAo : Hid (A.length ≤ 4 * i + 4) := by show _ ≤ _; omega
                      cases hk : hasK ks Y
                      · -- not all columns
                        have hw : wv = 106 := by rw [hwv, hk]; rfl
                        have HKF : Hid (hasK ks Y = false) := hk
                        clear hwv hk hQ q5f H6
                        subst hw
                        generalize hcv : (if okZ (A ++ Y) then (0 : Int) else 107) = cc at q6
                        clear hcv
                        go_wp2_with fail
                        refine q6.mono ?_
                        rintro e w8 ⟨v8, rfl, h8⟩
                        obtain ⟨a8, c8, f8⟩ := (h8.ents (x := (v8, mkZ (A ++ Y))) (by simp)).form
                        simp only at f8
                        have q7 := paInsert ks _ _ a len cap zs p6 sb A m w2 w8 (ad 5) (ad 6) h8 HE2.out.arity HE2.out.over (.slice ay Y.length cy) Y (fun h => by rw [HKF.out] at h; cases h) (h8.ents (x := (.slice ay Y.length cy, Y)) (by simp)) (by omega)
                        have ei : insE (ad 5) (ad 6) (hasK ks Y) (okZ (A ++ Y)) = errV (ad 5) := by rw [HKF.out]; rfl
                        have ez : insZ ks A Y = A := by unfold insZ; rw [HKF.out]; rfl
                        rw [ei, ez] at q7
                        clear q6 h8 ei ez H7
                        generalize (mkZ (A ++ Y)).length = l8 at *
                        subst f8
                        go_wp2_with fail
                        refine q7.mono ?_
                        rintro e w9' ⟨rfl, m8, hm8, h9⟩
                        have q8 : Hid (Calls Tryz.prog 13 #[.iface 202 (.pointer (some (ad 5))), .int .i64 106] w9' fun e w' => e = .returned (.bool true) ∧ Below w9'.heap.size w9' w') := seeIs ad (some 5) 106 w9' (HE2.out.on h9.below)
                        have H9' : Hid (PA ks [(.slice va A.length cva, A)] w3.heap.size a len cap zs p6 sb A m8 w2 w9') := h9.sub (fun x hx => by rw [List.mem_singleton.1 hx]; simp)
                        have hm8' : m8 ≤ 4 * i + 4 := by omega
                        clear q7 h9 hm8
                        rw [errV_ne]
                        go_wp2_with fail
                        refine q8.out.mono ?_
                        rintro e w8 ⟨rfl, b8⟩
                        have H8 : Hid (PA ks [(.slice va A.length cva, A)] w3.heap.size a len cap zs p6 sb A m8 w2 w8) := H9'.out.on b8
                        have HAL := HAo
                        clear q8 b8 H9'
                        have q9 : Hid (Calls Tryz.prog 15 #[.pointer (some ⟨sb.b, 0, none⟩), .slice va A.length cva, .slice av ks.length cv] w8 fun e w' => e = .returned (.bool true) ∧ Below w8.heap.size w8 w') := by
                          obtain ⟨F, G', n8, h8⟩ := H8.out.ar
                          exact lawSame7 F G' sb ks A n8 m8 (ad 6) w8 h8 (HE2.out.over.on H8.out.below) (by omega) _ _ (H8.out.ents (x := (.slice va A.length cva, A)) (List.mem_singleton.2 rfl)) (HBY.out.on H8.out.below) hks
                        go_wp2_with fail
                        refine q9.out.mono ?_
                        rintro e w9 ⟨rfl, b9⟩
                        have H9 : Hid (PA ks [(.slice va A.length cva, A)] w3.heap.size a len cap zs p6 sb A m8 w2 w9) := H8.out.on b9
                        have q10 := paAll ks _ _ a len cap zs p6 sb A m8 w2 w9 (ad 6) H9.out HE2.out.over (by omega)
                        clear q9 b9 H8
                        go_wp2_with fail
                        refine q10.mono ?_
                        rintro e w10 ⟨v10, rfl, e10, b10⟩
                        have H10 : Hid (PA ks [(.slice va A.length cva, A)] w3.heap.size a len cap zs p6 sb A m8 w2 w10) := H9.out.on b10
                        have q11 := sameEnts7 A v10 (.slice va A.length cva) w10 e10 (H10.out.ents (x := (.slice va A.length cva, A)) (List.mem_singleton.2 rfl))
                        obtain ⟨a10, c10, f10⟩ := e10.form
                        clear q10 e10 b10 H9
                        subst f10
                        go_wp2_with fail
                        refine q11.mono ?_
                        rintro e w11 ⟨rfl, b11⟩
                        have h11 := H10.out.on b11
                        obtain ⟨X, hX⟩ : ∃ X, X = w11.alloc (.cells #[.int .i64 1, .int .i64 3, .int .i64 2] 3) := ⟨_, rfl⟩
                        have bX : Below w11.heap.size w11 X := by rw [hX]; exact one_box
                        have hCX : ColsAt w11.heap.size [1, 3, 2] X := by rw [hX]; exact cols7_xyz w11 1 3 2
                        have hSl11 := h11.seq.2.2.2.1
                        have q12 := makeRow w3.heap.size a len cap zs p6 w11.heap.size 3 3 [1, 3, 2] X (h11.seq.on bX) (by omega) hCX (by omega) (by simp) ks132
                        have HX : Hid (w11.alloc (.cells #[.int .i64 1, .int .i64 3, .int .i64 2] 3) = X) := hX.symm
                        have BX : Hid (Below w11.heap.size w11 X) := bX
                        have H11 : Hid (PA ks [(.slice va A.length cva, A)] w3.heap.size a len cap zs p6 sb A m8 w2 w11) := h11
                        clear q11 b11 H10 h11 hX bX hCX
                        go_wp2_with fail
                        rw [HX.out]
                        refine q12.mono ?_
                        rintro e w12 ⟨v12, rfl, r12, p12, r1, r2, r3, r4, r5, r6, _⟩
                        have hR : RowIs w12 v12 r12 := RowIs.of_own (base := X.heap.size) (by rw [r1]; exact r3)
                        have H12 : Hid (PA ks [(.slice va A.length cva, A)] w3.heap.size a len cap zs p12 sb A m8 w2 w12) := H11.out.seqd BX.out r6 r5
                        obtain ⟨a12, c12, e12⟩ := hR.form
                        have hp12 : p12 ≤ 300 * (i + 1) := by omega
                        have HR : Hid (RowIs w12 v12 r12) := hR
                        have q13 : Hid (∀ any, Calls Tryz.prog 19 #[.pointer (some ⟨sb.b, 0, none⟩), v12, .bool any, .int .i64 3] w12 fun e w' => ∃ a' n' c', e = .returned (.slice a' n' c') ∧ AftH any r12 A (.slice a' n' c') w' ∧ Below w12.heap.size w12 w') := fun any => by
                          refine (paChunk ks _ _ a len cap zs p12 sb A m8 w2 w12 (ad 6) H12.out HE2.out.over (by omega) r12 v12 HR.out any 3).mono ?_
                          rintro e w' ⟨v, rfl, k1, k2⟩
                          obtain ⟨a', c', rfl⟩ := k1.form
                          exact ⟨a', _, c', rfl, k1, k2⟩
                        have q14 : Hid (∀ any W, Below w12.heap.size w12 W → Calls Tryz.prog 20 #[.slice va A.length cva, v12, .bool any, .int .i64 3] W fun e w' => ∃ a' n' c', e = .returned (.slice a' n' c') ∧ AftH any r12 A (.slice a' n' c') w' ∧ Below W.heap.size W w') := fun any W hB => by
                          refine (refAfter A r12 _ v12 any 3 W (by have := HAL.out; omega) ((H12.out.on hB).ents (x := (.slice va A.length cva, A)) (List.mem_singleton.2 rfl)) (HR.out.on hB)).mono ?_
                          rintro e w' ⟨v, rfl, k1⟩
                          obtain ⟨a', c', rfl⟩ := k1.form
                          exact ⟨a', _, c', rfl, k1.ents, k1.2⟩
                        clear q12 hR r1 r2 r3 r4 r5 r6 H11 BX HX hSl11 HR
                        generalize r12.length = rl at *
                        subst e12
                        go_wp2_with fail
                        refine (q13.out _).mono ?_
                        rintro e w13 ⟨a13, n13, c13, rfl, e13, b13⟩
                        have E13 : Hid (AftH _ r12 A (.slice a13 n13 c13) w13) := e13
                        have B13 : Hid (Below w12.heap.size w12 w13) := b13
                        clear q13 e13 b13
                        go_wp2_with fail
                        refine (q14.out _ w13 B13.out).mono ?_
                        rintro e w14 ⟨a14, n14, c14, rfl, e14, b14⟩
                        have q15 := sameEnts7 _ _ _ w14 (EntsIs.on E13.out b14) e14
                        have B14 : Hid (Below w12.heap.size w12 w14) := B13.out.trans (b14.mono B13.out.size)
                        clear q14 e14 b14 E13 B13
                        go_wp2_with fail
                        refine q15.mono ?_
                        rintro e w15 ⟨rfl, b15⟩
                        have H15 : Hid (PlTo7 ks w3.heap.size a len cap zs sb w2 (i + 1) (.slice va A.length cva) w15) := ⟨p12, A, m8, H12.out.on (B14.out.trans (b15.mono B14.out.size)), hp12, by omega, by have := HAL.out; omega⟩
                        clear q15 b15
                        go_wp2_with fail
                        go_roundw
                        case rel => exact ⟨i + 1, by omega, by go_num, H15⟩
                        case measure => simp [intOf]; omega
                      · have hw : wv = 0 := by rw [hwv, hk]; rfl
                        have HKT : Hid (hasK ks Y = true) := hk
                        clear hwv hk hQ q5f H6
                        subst hw
                        cases ho : okZ (A ++ Y)
                        · have HOF : Hid (okZ (A ++ Y) = false) := ho
                          rw [ho] at q6
                          have hcc : (if false = true then (0 : Int) else 107) = 107 := rfl
                          rw [hcc] at q6
                          clear ho hcc
                          go_wp2_with fail
                          refine q6.mono ?_
                          rintro e w8 ⟨v8, rfl, h8⟩
                          obtain ⟨a8, c8, f8⟩ := (h8.ents (x := (v8, mkZ (A ++ Y))) (by simp)).form
                          simp only at f8
                          have q7 := paInsert ks _ _ a len cap zs p6 sb A m w2 w8 (ad 5) (ad 6) h8 HE2.out.arity HE2.out.over (.slice ay Y.length cy) Y (fun _ => ⟨HY.out.1, HY.out.2.1⟩) (h8.ents (x := (.slice ay Y.length cy, Y)) (by simp)) (by omega)
                          have ei : insE (ad 5) (ad 6) (hasK ks Y) (okZ (A ++ Y)) = errV (ad 6) := by rw [HKT.out, HOF.out]; rfl
                          have ez : insZ ks A Y = A := by unfold insZ; rw [HKT.out, HOF.out]; rfl
                          rw [ei, ez] at q7
                          clear q6 h8 ei ez H7
                          generalize (mkZ (A ++ Y)).length = l8 at *
                          subst f8
                          go_wp2_with fail
                          refine q7.mono ?_
                          rintro e w9' ⟨rfl, m8, hm8, h9⟩
                          have q8 : Hid (Calls Tryz.prog 13 #[.iface 202 (.pointer (some (ad 6))), .int .i64 107] w9' fun e w' => e = .returned (.bool true) ∧ Below w9'.heap.size w9' w') := seeIs ad (some 6) 107 w9' (HE2.out.on h9.below)
                          have H9' : Hid (PA ks [(.slice va A.length cva, A)] w3.heap.size a len cap zs p6 sb A m8 w2 w9') := h9.sub (fun x hx => by rw [List.mem_singleton.1 hx]; simp)
                          have hm8' : m8 ≤ 4 * i + 4 := by omega
                          clear q7 h9 hm8
                          rw [errV_ne]
                          go_wp2_with fail
                          refine q8.out.mono ?_
                          rintro e w8 ⟨rfl, b8⟩
                          have H8 : Hid (PA ks [(.slice va A.length cva, A)] w3.heap.size a len cap zs p6 sb A m8 w2 w8) := H9'.out.on b8
                          have HAL := HAo
                          clear q8 b8 H9'
                          have q9 : Hid (Calls Tryz.prog 15 #[.pointer (some ⟨sb.b, 0, none⟩), .slice va A.length cva, .slice av ks.length cv] w8 fun e w' => e = .returned (.bool true) ∧ Below w8.heap.size w8 w') := by
                            obtain ⟨F, G', n8, h8⟩ := H8.out.ar
                            exact lawSame7 F G' sb ks A n8 m8 (ad 6) w8 h8 (HE2.out.over.on H8.out.below) (by omega) _ _ (H8.out.ents (x := (.slice va A.length cva, A)) (List.mem_singleton.2 rfl)) (HBY.out.on H8.out.below) hks
                          go_wp2_with fail
                          refine q9.out.mono ?_
                          rintro e w9 ⟨rfl, b9⟩
                          have H9 : Hid (PA ks [(.slice va A.length cva, A)] w3.heap.size a len cap zs p6 sb A m8 w2 w9) := H8.out.on b9
                          have q10 := paAll ks _ _ a len cap zs p6 sb A m8 w2 w9 (ad 6) H9.out HE2.out.over (by omega)
                          clear q9 b9 H8
                          go_wp2_with fail
                          refine q10.mono ?_
                          rintro e w10 ⟨v10, rfl, e10, b10⟩
                          have H10 : Hid (PA ks [(.slice va A.length cva, A)] w3.heap.size a len cap zs p6 sb A m8 w2 w10) := H9.out.on b10
                          have q11 := sameEnts7 A v10 (.slice va A.length cva) w10 e10 (H10.out.ents (x := (.slice va A.length cva, A)) (List.mem_singleton.2 rfl))
                          obtain ⟨a10, c10, f10⟩ := e10.form
                          clear q10 e10 b10 H9
                          subst f10
                          go_wp2_with fail
                          refine q11.mono ?_
                          rintro e w11 ⟨rfl, b11⟩
                          have h11 := H10.out.on b11
                          obtain ⟨X, hX⟩ : ∃ X, X = w11.alloc (.cells #[.int .i64 1, .int .i64 3, .int .i64 2] 3) := ⟨_, rfl⟩
                          have bX : Below w11.heap.size w11 X := by rw [hX]; exact one_box
                          have hCX : ColsAt w11.heap.size [1, 3, 2] X := by rw [hX]; exact cols7_xyz w11 1 3 2
                          have hSl11 := h11.seq.2.2.2.1
                          have q12 := makeRow w3.heap.size a len cap zs p6 w11.heap.size 3 3 [1, 3, 2] X (h11.seq.on bX) (by omega) hCX (by omega) (by simp) ks132
                          have HX : Hid (w11.alloc (.cells #[.int .i64 1, .int .i64 3, .int .i64 2] 3) = X) := hX.symm
                          have BX : Hid (Below w11.heap.size w11 X) := bX
                          have H11 : Hid (PA ks [(.slice va A.length cva, A)] w3.heap.size a len cap zs p6 sb A m8 w2 w11) := h11
                          clear q11 b11 H10 h11 hX bX hCX
                          go_wp2_with fail
                          rw [HX.out]
                          refine q12.mono ?_
                          rintro e w12 ⟨v12, rfl, r12, p12, r1, r2, r3, r4, r5, r6, _⟩
                          have hR : RowIs w12 v12 r12 := RowIs.of_own (base := X.heap.size) (by rw [r1]; exact r3)
                          have H12 : Hid (PA ks [(.slice va A.length cva, A)] w3.heap.size a len cap zs p12 sb A m8 w2 w12) := H11.out.seqd BX.out r6 r5
                          obtain ⟨a12, c12, e12⟩ := hR.form
                          have hp12 : p12 ≤ 300 * (i + 1) := by omega
                          have HR : Hid (RowIs w12 v12 r12) := hR
                          have q13 : Hid (∀ any, Calls Tryz.prog 19 #[.pointer (some ⟨sb.b, 0, none⟩), v12, .bool any, .int .i64 3] w12 fun e w' => ∃ a' n' c', e = .returned (.slice a' n' c') ∧ AftH any r12 A (.slice a' n' c') w' ∧ Below w12.heap.size w12 w') := fun any => by
                            refine (paChunk ks _ _ a len cap zs p12 sb A m8 w2 w12 (ad 6) H12.out HE2.out.over (by omega) r12 v12 HR.out any 3).mono ?_
                            rintro e w' ⟨v, rfl, k1, k2⟩
                            obtain ⟨a', c', rfl⟩ := k1.form
                            exact ⟨a', _, c', rfl, k1, k2⟩
                          have q14 : Hid (∀ any W, Below w12.heap.size w12 W → Calls Tryz.prog 20 #[.slice va A.length cva, v12, .bool any, .int .i64 3] W fun e w' => ∃ a' n' c', e = .returned (.slice a' n' c') ∧ AftH any r12 A (.slice a' n' c') w' ∧ Below W.heap.size W w') := fun any W hB => by
                            refine (refAfter A r12 _ v12 any 3 W (by have := HAL.out; omega) ((H12.out.on hB).ents (x := (.slice va A.length cva, A)) (List.mem_singleton.2 rfl)) (HR.out.on hB)).mono ?_
                            rintro e w' ⟨v, rfl, k1⟩
                            obtain ⟨a', c', rfl⟩ := k1.form
                            exact ⟨a', _, c', rfl, k1.ents, k1.2⟩
                          clear q12 hR r1 r2 r3 r4 r5 r6 H11 BX HX hSl11 HR
                          generalize r12.length = rl at *
                          subst e12
                          go_wp2_with fail
                          refine (q13.out _).mono ?_
                          rintro e w13 ⟨a13, n13, c13, rfl, e13, b13⟩
                          have E13 : Hid (AftH _ r12 A (.slice a13 n13 c13) w13) := e13
                          have B13 : Hid (Below w12.heap.size w12 w13) := b13
                          clear q13 e13 b13
                          go_wp2_with fail
                          refine (q14.out _ w13 B13.out).mono ?_
                          rintro e w14 ⟨a14, n14, c14, rfl, e14, b14⟩
                          have q15 := sameEnts7 _ _ _ w14 (EntsIs.on E13.out b14) e14
                          have B14 : Hid (Below w12.heap.size w12 w14) := B13.out.trans (b14.mono B13.out.size)
                          clear q14 e14 b14 E13 B13
                          go_wp2_with fail
                          refine q15.mono ?_
                          rintro e w15 ⟨rfl, b15⟩
                          have H15 : Hid (PlTo7 ks w3.heap.size a len cap zs sb w2 (i + 1) (.slice va A.length cva) w15) := ⟨p12, A, m8, H12.out.on (B14.out.trans (b15.mono B14.out.size)), hp12, by omega, by have := HAL.out; omega⟩
                          clear q15 b15
                          go_wp2_with fail
                          go_roundw
                          case rel => exact ⟨i + 1, by omega, by go_num, H15⟩
                          case measure => simp [intOf]; omega
                        · have HOT : Hid (okZ (A ++ Y) = true) := ho
                          rw [ho] at q6
                          have hcc : (if true = true then (0 : Int) else 107) = 0 := rfl
                          rw [hcc] at q6
                          clear ho hcc
                          go_wp2_with fail
                          refine q6.mono ?_
                          rintro e w8 ⟨v8, rfl, h8⟩
                          obtain ⟨a4, c4, f8⟩ := (h8.ents (x := (v8, mkZ (A ++ Y))) (by simp)).form
                          simp only at f8
                          subst f8
                          have q7 := paInsert ks _ _ a len cap zs p6 sb A m w2 w8 (ad 5) (ad 6) h8 HE2.out.arity HE2.out.over (.slice ay Y.length cy) Y (fun _ => ⟨HY.out.1, HY.out.2.1⟩) (h8.ents (x := (.slice ay Y.length cy, Y)) (by simp)) (by omega)
                          have ei : insE (ad 5) (ad 6) (hasK ks Y) (okZ (A ++ Y)) = .nilIface := by rw [HKT.out, HOT.out]; rfl
                          have ez : insZ ks A Y = mkZ (A ++ Y) := by unfold insZ; rw [HKT.out, HOT.out]; rfl
                          rw [ei, ez] at q7
                          clear q6 h8 ei ez H7
                          have HAL := HLEN
                          clear HLEN HAo HKT HOT
                          generalize mkZ (A ++ Y) = A4 at *
                          go_wp2_with fail
                          refine q7.mono ?_
                          rintro e w9' ⟨rfl, m8, hm8, h9⟩
                          have q8 : Hid (Calls Tryz.prog 13 #[.nilIface, .int .i64 0] w9' fun e w' => e = .returned (.bool true) ∧ Below w9'.heap.size w9' w') := seeIs ad none 0 w9' (HE2.out.on h9.below)
                          have H9' : Hid (PA ks [(.slice a4 A4.length c4, A4)] w3.heap.size a len cap zs p6 sb A4 m8 w2 w9') := h9.sub (fun x hx => by rw [List.mem_singleton.1 hx]; simp)
                          have hm8' : m8 ≤ 4 * i + 4 := by omega
                          clear q7 h9 hm8
                          go_wp2_with fail
                          refine q8.out.mono ?_
                          rintro e w8' ⟨rfl, b8⟩
                          have H8 : Hid (PA ks [(.slice a4 A4.length c4, A4)] w3.heap.size a len cap zs p6 sb A4 m8 w2 w8') := H9'.out.on b8
                          clear q8 b8 H9'
                          have q9 : Hid (Calls Tryz.prog 15 #[.pointer (some ⟨sb.b, 0, none⟩), .slice a4 A4.length c4, .slice av ks.length cv] w8' fun e w' => e = .returned (.bool true) ∧ Below w8'.heap.size w8' w') := by
                            obtain ⟨F, G', n8, h8⟩ := H8.out.ar
                            exact lawSame7 F G' sb ks A4 n8 m8 (ad 6) w8' h8 (HE2.out.over.on H8.out.below) (by omega) _ _ (H8.out.ents (x := (.slice a4 A4.length c4, A4)) (List.mem_singleton.2 rfl)) (HBY.out.on H8.out.below) hks
                          go_wp2_with fail
                          refine q9.out.mono ?_
                          rintro e w9 ⟨rfl, b9⟩
                          have H9 : Hid (PA ks [(.slice a4 A4.length c4, A4)] w3.heap.size a len cap zs p6 sb A4 m8 w2 w9) := H8.out.on b9
                          have q10 := paAll ks _ _ a len cap zs p6 sb A4 m8 w2 w9 (ad 6) H9.out HE2.out.over (by omega)
                          clear q9 b9 H8
                          go_wp2_with fail
                          refine q10.mono ?_
                          rintro e w10 ⟨v10, rfl, e10, b10⟩
                          have H10 : Hid (PA ks [(.slice a4 A4.length c4, A4)] w3.heap.size a len cap zs p6 sb A4 m8 w2 w10) := H9.out.on b10
                          have q11 := sameEnts7 A4 v10 (.slice a4 A4.length c4) w10 e10 (H10.out.ents (x := (.slice a4 A4.length c4, A4)) (List.mem_singleton.2 rfl))
                          obtain ⟨a10, c10, f10⟩ := e10.form
                          clear q10 e10 b10 H9
                          subst f10
                          go_wp2_with fail
                          refine q11.mono ?_
                          rintro e w11 ⟨rfl, b11⟩
                          have h11 := H10.out.on b11
                          obtain ⟨X, hX⟩ : ∃ X, X = w11.alloc (.cells #[.int .i64 1, .int .i64 3, .int .i64 2] 3) := ⟨_, rfl⟩
                          have bX : Below w11.heap.size w11 X := by rw [hX]; exact one_box
                          have hCX : ColsAt w11.heap.size [1, 3, 2] X := by rw [hX]; exact cols7_xyz w11 1 3 2
                          have hSl11 := h11.seq.2.2.2.1
                          have q12 := makeRow w3.heap.size a len cap zs p6 w11.heap.size 3 3 [1, 3, 2] X (h11.seq.on bX) (by omega) hCX (by omega) (by simp) ks132
                          have HX : Hid (w11.alloc (.cells #[.int .i64 1, .int .i64 3, .int .i64 2] 3) = X) := hX.symm
                          have BX : Hid (Below w11.heap.size w11 X) := bX
                          have H11 : Hid (PA ks [(.slice a4 A4.length c4, A4)] w3.heap.size a len cap zs p6 sb A4 m8 w2 w11) := h11
                          clear q11 b11 H10 h11 hX bX hCX
                          go_wp2_with fail
                          rw [HX.out]
                          refine q12.mono ?_
                          rintro e w12 ⟨v12, rfl, r12, p12, r1, r2, r3, r4, r5, r6, _⟩
                          have hR : RowIs w12 v12 r12 := RowIs.of_own (base := X.heap.size) (by rw [r1]; exact r3)
                          have H12 : Hid (PA ks [(.slice a4 A4.length c4, A4)] w3.heap.size a len cap zs p12 sb A4 m8 w2 w12) := H11.out.seqd BX.out r6 r5
                          obtain ⟨a12, c12, e12⟩ := hR.form
                          have hp12 : p12 ≤ 300 * (i + 1) := by omega
                          have HR : Hid (RowIs w12 v12 r12) := hR
                          have q13 : Hid (∀ any, Calls Tryz.prog 19 #[.pointer (some ⟨sb.b, 0, none⟩), v12, .bool any, .int .i64 3] w12 fun e w' => ∃ a' n' c', e = .returned (.slice a' n' c') ∧ AftH any r12 A4 (.slice a' n' c') w' ∧ Below w12.heap.size w12 w') := fun any => by
                            refine (paChunk ks _ _ a len cap zs p12 sb A4 m8 w2 w12 (ad 6) H12.out HE2.out.over (by omega) r12 v12 HR.out any 3).mono ?_
                            rintro e w' ⟨v, rfl, k1, k2⟩
                            obtain ⟨a', c', rfl⟩ := k1.form
                            exact ⟨a', _, c', rfl, k1, k2⟩
                          have q14 : Hid (∀ any W, Below w12.heap.size w12 W → Calls Tryz.prog 20 #[.slice a4 A4.length c4, v12, .bool any, .int .i64 3] W fun e w' => ∃ a' n' c', e = .returned (.slice a' n' c') ∧ AftH any r12 A4 (.slice a' n' c') w' ∧ Below W.heap.size W w') := fun any W hB => by
                            refine (refAfter A4 r12 _ v12 any 3 W (by have := HAL.out; omega) ((H12.out.on hB).ents (x := (.slice a4 A4.length c4, A4)) (List.mem_singleton.2 rfl)) (HR.out.on hB)).mono ?_
                            rintro e w' ⟨v, rfl, k1⟩
                            obtain ⟨a', c', rfl⟩ := k1.form
                            exact ⟨a', _, c', rfl, k1.ents, k1.2⟩
                          clear q12 hR r1 r2 r3 r4 r5 r6 H11 BX HX hSl11 HR
                          generalize r12.length = rl at *
                          subst e12
                          go_wp2_with fail
                          refine (q13.out _).mono ?_
                          rintro e w13 ⟨a13, n13, c13, rfl, e13, b13⟩
                          have E13 : Hid (AftH _ r12 A4 (.slice a13 n13 c13) w13) := e13
                          have B13 : Hid (Below w12.heap.size w12 w13) := b13
                          clear q13 e13 b13
                          go_wp2_with fail
                          refine (q14.out _ w13 B13.out).mono ?_
                          rintro e w14 ⟨a14, n14, c14, rfl, e14, b14⟩
                          have q15 := sameEnts7 _ _ _ w14 (EntsIs.on E13.out b14) e14
                          have B14 : Hid (Below w12.heap.size w12 w14) := B13.out.trans (b14.mono B13.out.size)
                          clear q14 e14 b14 E13 B13
                          go_wp2_with fail
                          refine q15.mono ?_
                          rintro e w15 ⟨rfl, b15⟩
                          have H15 : Hid (PlTo7 ks w3.heap.size a len cap zs sb w2 (i + 1) (.slice a4 A4.length c4) w15) := ⟨p12, A4, m8, H12.out.on (B14.out.trans (b15.mono B14.out.size)), hp12, by omega, by have := HAL.out; omega⟩
                          clear q15 b15
                          go_wp2_with fail
                          go_roundw
                          case rel => exact ⟨i + 1, by omega, by go_num, H15⟩
                          case measure => simp [intOf]; omega
              · obtain ⟨U, hU⟩ : ∃ U, U = w4.alloc (.cells #[.int .i64 1, .int .i64 3, .int .i64 2] 3) := ⟨_, rfl⟩
                have bU : Below w4.heap.size w4 U := by rw [hU]; exact one_box
                have hC : ColsAt w4.heap.size [1, 3, 2] U := by rw [hU]; exact cols7_xyz w4 1 3 2
                have hSl := H4.out.seq.2.2.2.1
                have q3 := makeWide w3.heap.size a len cap zs p4 w4.heap.size 3 3 [1, 3, 2] 4 U (H4.out.seq.on bU) (by omega) (by omega) hC (by omega) (by omega) (by simp) ks132
                have HU : Hid (w4.alloc (.cells #[.int .i64 1, .int .i64 3, .int .i64 2] 3) = U) := hU.symm
                have BU : Hid (Below w4.heap.size w4 U) := bU
                have H40 := H4
                clear hU bU hC HZ H4
                go_wp2_with fail
                rw [HU.out]
                refine q3.mono ?_
                rintro e wq ⟨vq, Zq, rfl, ⟨pq, z1, z2, z3, z4, z5, z6, z7⟩, z9⟩
                have H4 : Hid (PA ks [(vq, Zq), (.slice va A.length cva, A)] w3.heap.size a len cap zs pq sb A m w2 wq) := (H40.out.made BU.out z7 z4 z6).sub (fun x hx => by simp at hx ⊢; rcases hx with h | h <;> simp [h])
                have HZq : Hid (IsZ Zq ∧ EOk Zq ∧ Zq.length ≤ 4) := ⟨z1, z2, z3⟩
                have hpq : pq ≤ 300 * i + 114 := by omega
                obtain ⟨aq, cq, eq⟩ := z4.ents.form
                subst eq
                clear q3 z1 z2 z3 z4 z5 z6 z7 z9 H40 BU HU hSl
                have q3 := next w3.heap.size a len cap zs pq 15 wq H4.out.seq (by omega) (by decide) (by decide)
                have hnx := nm_bd (sq zs len pq) 15 (by decide)
                go_wp2_with fail
                refine q3.mono ?_
                rintro e w5 ⟨rfl, s5, t5⟩
                have H5 : Hid (PA ks [(.slice aq Zq.length cq, Zq), (.slice va A.length cva, A)] w3.heap.size a len cap zs (pq + 1) sb A m w2 w5) := H4.out.seqd (Below.refl _ _) t5 s5
                clear q3 s5 t5 H4
                generalize nm (sq zs len pq) 15 = nx at *
                by_cases hn0 : nx = 0
                · subst hn0
                  obtain ⟨U, hU⟩ : ∃ U, U = w5.alloc (.cells #[.int .i64 1] 3) := ⟨_, rfl⟩
                  have bU : Below w5.heap.size w5 U := by rw [hU]; exact one_box
                  have hC : ColsAt w5.heap.size [1] U := by rw [hU]; exact cols7_x w5 1
                  have hSl := H5.out.seq.2.2.2.1
                  have q4 := makeSet w3.heap.size a len cap zs (pq + 1) w5.heap.size 1 1 [1] 3 U (H5.out.seq.on bU) (by omega) (by omega) hC (by omega) (by omega) (by simp) ks1
                  have HU : Hid (w5.alloc (.cells #[.int .i64 1] 3) = U) := hU.symm
                  have BU : Hid (Below w5.heap.size w5 U) := bU
                  clear hU bU hC
                  go_wp2_with fail
                  rw [HU.out]
                  refine q4.mono ?_
                  rintro e w6 ⟨vy, Y, rfl, ⟨p6, z1, z2, z3, z4, z5, z6, z7⟩, z8, z9⟩
                  have H6 : Hid (PA ks [(vy, Y), (.slice va A.length cva, A)] w3.heap.size a len cap zs p6 sb A m w2 w6) := (H5.out.made BU.out z7 z4 z6).sub (fun x hx => by simp at hx ⊢; rcases hx with h | h <;> simp [h])
                  have HY : Hid (IsZ Y ∧ EOk Y ∧ Y.length ≤ 4) := ⟨z1, z2, by omega⟩
                  have hp6 : p6 ≤ pq + 20 := by omega
                  obtain ⟨ay, cy, ey⟩ := z4.ents.form
                  subst ey
                  clear q4 z1 z2 z3 z4 z5 z6 z7 z8 z9 H5 BU HU hSl HZq
                  have q5f : Hid (∀ (t : Nat) (ht : t < Y.length) W, Below w6.heap.size w6 W → (∃ b o a1 c1, ay = some ⟨b, o, none⟩ ∧ W.cell? ⟨b, o + t * 2, none⟩ = some (.slice a1 Y[t].1.length c1) ∧ Calls Tryz.prog 11 #[.slice a1 Y[t].1.length c1, .slice av ks.length cv] W fun e w' => ∃ a3 n3 c3, e = .returned (.tuple #[.slice a3 n3 c3, .bool (allIn Y[t].1 ks)]) ∧ Below w6.heap.size w6 w')) := fun t ht W hB => by
                    have h6 := H6.out.on hB
                    obtain ⟨b, o, a1, c1, e1, x1, x2, x3⟩ := (h6.ents (x := (.slice ay Y.length cy, Y)) (by simp)).at t ht
                    refine ⟨b, o, a1, c1, e1, x1, ?_⟩
                    refine (refPick Y[t].1 ks _ _ W (by omega) x3 (HBY.out.on h6.below)).mono ?_
                    rintro e w' ⟨v, rfl, k1, k2⟩
                    obtain ⟨a3, c3, rfl⟩ := k1.form
                    exact ⟨a3, _, c3, rfl, hB.trans (k2.mono hB.size)⟩
                  have hYl := HY.out.2.2
                  go_wp2_with fail
                  go_loopw [17, 18] (fun s17 s18 W => ∃ (t : Nat) (wv : Int), t ≤ Y.length ∧ s18 = .int .i64 t ∧ s17 = .int .i64 wv ∧ Hid (wv = (if hasK ks (Y.take t) then 0 else 106) ∧ Below w6.heap.size w6 W)) (fun _ s _ => Y.length - (intOf s).toNat)
                  case atStart => exact ⟨0, 0, by omega, rfl, rfl, rfl, Below.refl _ _⟩
                  case round =>
                    obtain ⟨t, wv, ht, rfl, rfl, hQ⟩ := hrel
                    by_cases k2 : t < Y.length
                    · have J4 : (t : Int) < (Y.length : Int) := by omega
                      obtain ⟨b, o, a1, c1, e1, x1, q6⟩ := q5f.out t k2 _ hQ.out.2
                      subst e1
                      have HT := hasK_take (ks := ks) k2
                      have HTT : Hid (hasK ks (Y.take (t + 1)) = (hasK ks (Y.take t) && allIn Y[t].1 ks)) := HT
                      clear HT
                      generalize Y[t].1.length = yl at *
                      generalize allIn Y[t].1 ks = c at *
                      go_wp2_with fail
                      refine q6.mono ?_
                      rintro e w7 ⟨a3, n3, c3, rfl, b7⟩
                      have B7 : Hid (Below w6.heap.size w6 w7) := b7
                      clear q6 b7 x1
                      cases c
                      · have R7 : Hid ((106 : Int) = (if hasK ks (Y.take (t + 1)) then 0 else 106) ∧ Below w6.heap.size w6 w7) := ⟨by rw [HTT.out, Bool.and_false]; rfl, B7.out⟩
                        go_wp2_with fail
                        go_roundw
                        case rel => exact ⟨t + 1, 106, by omega, by go_num, rfl, R7⟩
                        case measure => simp [intOf]; omega
                      · have R7 : Hid (wv = (if hasK ks (Y.take (t + 1)) then 0 else 106) ∧ Below w6.heap.size w6 w7) := ⟨by rw [HTT.out, Bool.and_true]; exact hQ.out.1, B7.out⟩
                        go_wp2_with fail
                        go_roundw
                        case rel => exact ⟨t + 1, wv, by omega, by go_num, rfl, R7⟩
                        case measure => simp [intOf]; omega
                    · have J4 : ¬ (t : Int) < (Y.length : Int) := by omega
                      have hwv : wv = (if hasK ks Y then 0 else 106) := by
                        have := hQ.out.1
                        rwa [List.take_of_length_le (by omega)] at this
                      obtain ⟨w7, rfl⟩ : ∃ w7, w7 = wr := ⟨_, rfl⟩
                      have H7 : Hid (PA ks [(.slice ay Y.length cy, Y), (.slice va A.length cva, A)] w3.heap.size a len cap zs p6 sb A m w2 w7) := H6.out.on hQ.out.2
                      have q6 := paAdd ks _ _ a len cap zs p6 sb A m w2 w7 H7.out (.slice va A.length cva) (.slice ay Y.length cy) A Y (by simp) (by simp) GA.out (fun e he => (HY.out.2.1 e he).1) (by omega) (if okZ (A ++ Y) then 0 else 107) rfl
                      have HLEN : Hid ((mkZ (A ++ Y)).length ≤ 4 * i + 4) := by
                        have := mkZ_len (A ++ Y)
                        rw [List.length_append] at this
                        show _ ≤ _; omega
                      have HAo : Hid (A.length ≤ 4 * i + 4) := by show _ ≤ _; omega
                      cases hk : hasK ks Y
                      · -- not all columns
                        have hw : wv = 106 := by rw [hwv, hk]; rfl
                        have HKF : Hid (hasK ks Y = false) := hk
                        clear hwv hk hQ q5f H6
                        subst hw
                        generalize hcv : (if okZ (A ++ Y) then (0 : Int) else 107) = cc at q6
                        clear hcv
                        go_wp2_with fail
                        refine q6.mono ?_
                        rintro e w8 ⟨v8, rfl, h8⟩
                        obtain ⟨a8, c8, f8⟩ := (h8.ents (x := (v8, mkZ (A ++ Y))) (by simp)).form
                        simp only at f8
                        have q7 := paInsert ks _ _ a len cap zs p6 sb A m w2 w8 (ad 5) (ad 6) h8 HE2.out.arity HE2.out.over (.slice ay Y.length cy) Y (fun h => by rw [HKF.out] at h; cases h) (h8.ents (x := (.slice ay Y.length cy, Y)) (by simp)) (by omega)
                        have ei : insE (ad 5) (ad 6) (hasK ks Y) (okZ (A ++ Y)) = errV (ad 5) := by rw [HKF.out]; rfl
                        have ez : insZ ks A Y = A := by unfold insZ; rw [HKF.out]; rfl
                        rw [ei, ez] at q7
                        clear q6 h8 ei ez H7
                        generalize (mkZ (A ++ Y)).length = l8 at *
                        subst f8
                        go_wp2_with fail
                        refine q7.mono ?_
                        rintro e w9' ⟨rfl, m8, hm8, h9⟩
                        have q8 : Hid (Calls Tryz.prog 13 #[.iface 202 (.pointer (some (ad 5))), .int .i64 106] w9' fun e w' => e = .returned (.bool true) ∧ Below w9'.heap.size w9' w') := seeIs ad (some 5) 106 w9' (HE2.out.on h9.below)
                        have H9' : Hid (PA ks [(.slice va A.length cva, A)] w3.heap.size a len cap zs p6 sb A m8 w2 w9') := h9.sub (fun x hx => by rw [List.mem_singleton.1 hx]; simp)
                        have hm8' : m8 ≤ 4 * i + 4 := by omega
                        clear q7 h9 hm8
                        rw [errV_ne]
                        go_wp2_with fail
                        refine q8.out.mono ?_
                        rintro e w8 ⟨rfl, b8⟩
                        have H8 : Hid (PA ks [(.slice va A.length cva, A)] w3.heap.size a len cap zs p6 sb A m8 w2 w8) := H9'.out.on b8
                        have HAL := HAo
                        clear q8 b8 H9'
                        have q9 : Hid (Calls Tryz.prog 15 #[.pointer (some ⟨sb.b, 0, none⟩), .slice va A.length cva, .slice av ks.length cv] w8 fun e w' => e = .returned (.bool true) ∧ Below w8.heap.size w8 w') := by
                          obtain ⟨F, G', n8, h8⟩ := H8.out.ar
                          exact lawSame7 F G' sb ks A n8 m8 (ad 6) w8 h8 (HE2.out.over.on H8.out.below) (by omega) _ _ (H8.out.ents (x := (.slice va A.length cva, A)) (List.mem_singleton.2 rfl)) (HBY.out.on H8.out.below) hks
                        go_wp2_with fail
                        refine q9.out.mono ?_
                        rintro e w9 ⟨rfl, b9⟩
                        have H9 : Hid (PA ks [(.slice va A.length cva, A)] w3.heap.size a len cap zs p6 sb A m8 w2 w9) := H8.out.on b9
                        have q10 := paAll ks _ _ a len cap zs p6 sb A m8 w2 w9 (ad 6) H9.out HE2.out.over (by omega)
                        clear q9 b9 H8
                        go_wp2_with fail
                        refine q10.mono ?_
                        rintro e w10 ⟨v10, rfl, e10, b10⟩
                        have H10 : Hid (PA ks [(.slice va A.length cva, A)] w3.heap.size a len cap zs p6 sb A m8 w2 w10) := H9.out.on b10
                        have q11 := sameEnts7 A v10 (.slice va A.length cva) w10 e10 (H10.out.ents (x := (.slice va A.length cva, A)) (List.mem_singleton.2 rfl))
                        obtain ⟨a10, c10, f10⟩ := e10.form
                        clear q10 e10 b10 H9
                        subst f10
                        go_wp2_with fail
                        refine q11.mono ?_
                        rintro e w11 ⟨rfl, b11⟩
                        have h11 := H10.out.on b11
                        obtain ⟨X, hX⟩ : ∃ X, X = w11.alloc (.cells #[.int .i64 1, .int .i64 3, .int .i64 2] 3) := ⟨_, rfl⟩
                        have bX : Below w11.heap.size w11 X := by rw [hX]; exact one_box
                        have hCX : ColsAt w11.heap.size [1, 3, 2] X := by rw [hX]; exact cols7_xyz w11 1 3 2
                        have hSl11 := h11.seq.2.2.2.1
                        have q12 := makeRow w3.heap.size a len cap zs p6 w11.heap.size 3 3 [1, 3, 2] X (h11.seq.on bX) (by omega) hCX (by omega) (by simp) ks132
                        have HX : Hid (w11.alloc (.cells #[.int .i64 1, .int .i64 3, .int .i64 2] 3) = X) := hX.symm
                        have BX : Hid (Below w11.heap.size w11 X) := bX
                        have H11 : Hid (PA ks [(.slice va A.length cva, A)] w3.heap.size a len cap zs p6 sb A m8 w2 w11) := h11
                        clear q11 b11 H10 h11 hX bX hCX
                        go_wp2_with fail
                        rw [HX.out]
                        refine q12.mono ?_
                        rintro e w12 ⟨v12, rfl, r12, p12, r1, r2, r3, r4, r5, r6, _⟩
                        have hR : RowIs w12 v12 r12 := RowIs.of_own (base := X.heap.size) (by rw [r1]; exact r3)
                        have H12 : Hid (PA ks [(.slice va A.length cva, A)] w3.heap.size a len cap zs p12 sb A m8 w2 w12) := H11.out.seqd BX.out r6 r5
                        obtain ⟨a12, c12, e12⟩ := hR.form
                        have hp12 : p12 ≤ 300 * (i + 1) := by omega
                        have HR : Hid (RowIs w12 v12 r12) := hR
                        have q13 : Hid (∀ any, Calls Tryz.prog 19 #[.pointer (some ⟨sb.b, 0, none⟩), v12, .bool any, .int .i64 3] w12 fun e w' => ∃ a' n' c', e = .returned (.slice a' n' c') ∧ AftH any r12 A (.slice a' n' c') w' ∧ Below w12.heap.size w12 w') := fun any => by
                          refine (paChunk ks _ _ a len cap zs p12 sb A m8 w2 w12 (ad 6) H12.out HE2.out.over (by omega) r12 v12 HR.out any 3).mono ?_
                          rintro e w' ⟨v, rfl, k1, k2⟩
                          obtain ⟨a', c', rfl⟩ := k1.form
                          exact ⟨a', _, c', rfl, k1, k2⟩
                        have q14 : Hid (∀ any W, Below w12.heap.size w12 W → Calls Tryz.prog 20 #[.slice va A.length cva, v12, .bool any, .int .i64 3] W fun e w' => ∃ a' n' c', e = .returned (.slice a' n' c') ∧ AftH any r12 A (.slice a' n' c') w' ∧ Below W.heap.size W w') := fun any W hB => by
                          refine (refAfter A r12 _ v12 any 3 W (by have := HAL.out; omega) ((H12.out.on hB).ents (x := (.slice va A.length cva, A)) (List.mem_singleton.2 rfl)) (HR.out.on hB)).mono ?_
                          rintro e w' ⟨v, rfl, k1⟩
                          obtain ⟨a', c', rfl⟩ := k1.form
                          exact ⟨a', _, c', rfl, k1.ents, k1.2⟩
                        clear q12 hR r1 r2 r3 r4 r5 r6 H11 BX HX hSl11 HR
                        generalize r12.length = rl at *
                        subst e12
                        go_wp2_with fail
                        refine (q13.out _).mono ?_
                        rintro e w13 ⟨a13, n13, c13, rfl, e13, b13⟩
                        have E13 : Hid (AftH _ r12 A (.slice a13 n13 c13) w13) := e13
                        have B13 : Hid (Below w12.heap.size w12 w13) := b13
                        clear q13 e13 b13
                        go_wp2_with fail
                        refine (q14.out _ w13 B13.out).mono ?_
                        rintro e w14 ⟨a14, n14, c14, rfl, e14, b14⟩
                        have q15 := sameEnts7 _ _ _ w14 (EntsIs.on E13.out b14) e14
                        have B14 : Hid (Below w12.heap.size w12 w14) := B13.out.trans (b14.mono B13.out.size)
                        clear q14 e14 b14 E13 B13
                        go_wp2_with fail
                        refine q15.mono ?_
                        rintro e w15 ⟨rfl, b15⟩
                        have H15 : Hid (PlTo7 ks w3.heap.size a len cap zs sb w2 (i + 1) (.slice va A.length cva) w15) := ⟨p12, A, m8, H12.out.on (B14.out.trans (b15.mono B14.out.size)), hp12, by omega, by have := HAL.out; omega⟩
                        clear q15 b15
                        go_wp2_with fail
                        go_roundw
                        case rel => exact ⟨i + 1, by omega, by go_num, H15⟩
                        case measure => simp [intOf]; omega
                      · have hw : wv = 0 := by rw [hwv, hk]; rfl
                        have HKT : Hid (hasK ks Y = true) := hk
                        clear hwv hk hQ q5f H6
                        subst hw
                        cases ho : okZ (A ++ Y)
                        · have HOF : Hid (okZ (A ++ Y) = false) := ho
                          rw [ho] at q6
                          have hcc : (if false = true then (0 : Int) else 107) = 107 := rfl
                          rw [hcc] at q6
                          clear ho hcc
                          go_wp2_with fail
                          refine q6.mono ?_
                          rintro e w8 ⟨v8, rfl, h8⟩
                          obtain ⟨a8, c8, f8⟩ := (h8.ents (x := (v8, mkZ (A ++ Y))) (by simp)).form
                          simp only at f8
                          have q7 := paInsert ks _ _ a len cap zs p6 sb A m w2 w8 (ad 5) (ad 6) h8 HE2.out.arity HE2.out.over (.slice ay Y.length cy) Y (fun _ => ⟨HY.out.1, HY.out.2.1⟩) (h8.ents (x := (.slice ay Y.length cy, Y)) (by simp)) (by omega)
                          have ei : insE (ad 5) (ad 6) (hasK ks Y) (okZ (A ++ Y)) = errV (ad 6) := by rw [HKT.out, HOF.out]; rfl
                          have ez : insZ ks A Y = A := by unfold insZ; rw [HKT.out, HOF.out]; rfl
                          rw [ei, ez] at q7
                          clear q6 h8 ei ez H7
                          generalize (mkZ (A ++ Y)).length = l8 at *
                          subst f8
                          go_wp2_with fail
                          refine q7.mono ?_
                          rintro e w9' ⟨rfl, m8, hm8, h9⟩
                          have q8 : Hid (Calls Tryz.prog 13 #[.iface 202 (.pointer (some (ad 6))), .int .i64 107] w9' fun e w' => e = .returned (.bool true) ∧ Below w9'.heap.size w9' w') := seeIs ad (some 6) 107 w9' (HE2.out.on h9.below)
                          have H9' : Hid (PA ks [(.slice va A.length cva, A)] w3.heap.size a len cap zs p6 sb A m8 w2 w9') := h9.sub (fun x hx => by rw [List.mem_singleton.1 hx]; simp)
                          have hm8' : m8 ≤ 4 * i + 4 := by omega
                          clear q7 h9 hm8
                          rw [errV_ne]
                          go_wp2_with fail
                          refine q8.out.mono ?_
                          rintro e w8 ⟨rfl, b8⟩
                          have H8 : Hid (PA ks [(.slice va A.length cva, A)] w3.heap.size a len cap zs p6 sb A m8 w2 w8) := H9'.out.on b8
                          have HAL := HAo
                          clear q8 b8 H9'
                          have q9 : Hid (Calls Tryz.prog 15 #[.pointer (some ⟨sb.b, 0, none⟩), .slice va A.length cva, .slice av ks.length cv] w8 fun e w' => e = .returned (.bool true) ∧ Below w8.heap.size w8 w') := by
                            obtain ⟨F, G', n8, h8⟩ := H8.out.ar
                            exact lawSame7 F G' sb ks A n8 m8 (ad 6) w8 h8 (HE2.out.over.on H8.out.below) (by omega) _ _ (H8.out.ents (x := (.slice va A.length cva, A)) (List.mem_singleton.2 rfl)) (HBY.out.on H8.out.below) hks
                          go_wp2_with fail
                          refine q9.out.mono ?_
                          rintro e w9 ⟨rfl, b9⟩
                          have H9 : Hid (PA ks [(.slice va A.length cva, A)] w3.heap.size a len cap zs p6 sb A m8 w2 w9) := H8.out.on b9
                          have q10 := paAll ks _ _ a len cap zs p6 sb A m8 w2 w9 (ad 6) H9.out HE2.out.over (by omega)
                          clear q9 b9 H8
                          go_wp2_with fail
                          refine q10.mono ?_
                          rintro e w10 ⟨v10, rfl, e10, b10⟩
                          have H10 : Hid (PA ks [(.slice va A.length cva, A)] w3.heap.size a len cap zs p6 sb A m8 w2 w10) := H9.out.on b10
                          have q11 := sameEnts7 A v10 (.slice va A.length cva) w10 e10 (H10.out.ents (x := (.slice va A.length cva, A)) (List.mem_singleton.2 rfl))
                          obtain ⟨a10, c10, f10⟩ := e10.form
                          clear q10 e10 b10 H9
                          subst f10
                          go_wp2_with fail
                          refine q11.mono ?_
                          rintro e w11 ⟨rfl, b11⟩
                          have h11 := H10.out.on b11
                          obtain ⟨X, hX⟩ : ∃ X, X = w11.alloc (.cells #[.int .i64 1, .int .i64 3, .int .i64 2] 3) := ⟨_, rfl⟩
                          have bX : Below w11.heap.size w11 X := by rw [hX]; exact one_box
                          have hCX : ColsAt w11.heap.size [1, 3, 2] X := by rw [hX]; exact cols7_xyz w11 1 3 2
                          have hSl11 := h11.seq.2.2.2.1
                          have q12 := makeRow w3.heap.size a len cap zs p6 w11.heap.size 3 3 [1, 3, 2] X (h11.seq.on bX) (by omega) hCX (by omega) (by simp) ks132
                          have HX : Hid (w11.alloc (.cells #[.int .i64 1, .int .i64 3, .int .i64 2] 3) = X) := hX.symm
                          have BX : Hid (Below w11.heap.size w11 X) := bX
                          have H11 : Hid (PA ks [(.slice va A.length cva, A)] w3.heap.size a len cap zs p6 sb A m8 w2 w11) := h11
                          clear q11 b11 H10 h11 hX bX hCX
                          go_wp2_with fail
                          rw [HX.out]
                          refine q12.mono ?_
                          rintro e w12 ⟨v12, rfl, r12, p12, r1, r2, r3, r4, r5, r6, _⟩
                          have hR : RowIs w12 v12 r12 := RowIs.of_own (base := X.heap.size) (by rw [r1]; exact r3)
                          have H12 : Hid (PA ks [(.slice va A.length cva, A)] w3.heap.size a len cap zs p12 sb A m8 w2 w12) := H11.out.seqd BX.out r6 r5
                          obtain ⟨a12, c12, e12⟩ := hR.form
                          have hp12 : p12 ≤ 300 * (i + 1) := by omega
                          have HR : Hid (RowIs w12 v12 r12) := hR
                          have q13 : Hid (∀ any, Calls Tryz.prog 19 #[.pointer (some ⟨sb.b, 0, none⟩), v12, .bool any, .int .i64 3] w12 fun e w' => ∃ a' n' c', e = .returned (.slice a' n' c') ∧ AftH any r12 A (.slice a' n' c') w' ∧ Below w12.heap.size w12 w') := fun any => by
                            refine (paChunk ks _ _ a len cap zs p12 sb A m8 w2 w12 (ad 6) H12.out HE2.out.over (by omega) r12 v12 HR.out any 3).mono ?_
                            rintro e w' ⟨v, rfl, k1, k2⟩
                            obtain ⟨a', c', rfl⟩ := k1.form
                            exact ⟨a', _, c', rfl, k1, k2⟩
                          have q14 : Hid (∀ any W, Below w12.heap.size w12 W → Calls Tryz.prog 20 #[.slice va A.length cva, v12, .bool any, .int .i64 3] W fun e w' => ∃ a' n' c', e = .returned (.slice a' n' c') ∧ AftH any r12 A (.slice a' n' c') w' ∧ Below W.heap.size W w') := fun any W hB => by
                            refine (refAfter A r12 _ v12 any 3 W (by have := HAL.out; omega) ((H12.out.on hB).ents (x := (.slice va A.length cva, A)) (List.mem_singleton.2 rfl)) (HR.out.on hB)).mono ?_
                            rintro e w' ⟨v, rfl, k1⟩
                            obtain ⟨a', c', rfl⟩ := k1.form
                            exact ⟨a', _, c', rfl, k1.ents, k1.2⟩
                          clear q12 hR r1 r2 r3 r4 r5 r6 H11 BX HX hSl11 HR
                          generalize r12.length = rl at *
                          subst e12
                          go_wp2_with fail
                          refine (q13.out _).mono ?_
                          rintro e w13 ⟨a13, n13, c13, rfl, e13, b13⟩
                          have E13 : Hid (AftH _ r12 A (.slice a13 n13 c13) w13) := e13
                          have B13 : Hid (Below w12.heap.size w12 w13) := b13
                          clear q13 e13 b13
                          go_wp2_with fail
                          refine (q14.out _ w13 B13.out).mono ?_
                          rintro e w14 ⟨a14, n14, c14, rfl, e14, b14⟩
                          have q15 := sameEnts7 _ _ _ w14 (EntsIs.on E13.out b14) e14
                          have B14 : Hid (Below w12.heap.size w12 w14) := B13.out.trans (b14.mono B13.out.size)
                          clear q14 e14 b14 E13 B13
                          go_wp2_with fail
                          refine q15.mono ?_
                          rintro e w15 ⟨rfl, b15⟩
                          have H15 : Hid (PlTo7 ks w3.heap.size a len cap zs sb w2 (i + 1) (.slice va A.length cva) w15) := ⟨p12, A, m8, H12.out.on (B14.out.trans (b15.mono B14.out.size)), hp12, by omega, by have := HAL.out; omega⟩
                          clear q15 b15
                          go_wp2_with fail
                          go_roundw
                          case rel => exact ⟨i + 1, by omega, by go_num, H15⟩
                          case measure => simp [intOf]; omega
                        · have HOT : Hid (okZ (A ++ Y) = true) := ho
                          rw [ho] at q6
                          have hcc : (if true = true then (0 : Int) else 107) = 0 := rfl
                          rw [hcc] at q6
                          clear ho hcc
                          go_wp2_with fail
                          refine q6.mono ?_
                          rintro e w8 ⟨v8, rfl, h8⟩
                          obtain ⟨a4, c4, f8⟩ := (h8.ents (x := (v8, mkZ (A ++ Y))) (by simp)).form
                          simp only at f8
                          subst f8
                          have q7 := paInsert ks _ _ a len cap zs p6 sb A m w2 w8 (ad 5) (ad 6) h8 HE2.out.arity HE2.out.over (.slice ay Y.length cy) Y (fun _ => ⟨HY.out.1, HY.out.2.1⟩) (h8.ents (x := (.slice ay Y.length cy, Y)) (by simp)) (by omega)
                          have ei : insE (ad 5) (ad 6) (hasK ks Y) (okZ (A ++ Y)) = .nilIface := by rw [HKT.out, HOT.out]; rfl
                          have ez : insZ ks A Y = mkZ (A ++ Y) := by unfold insZ; rw [HKT.out, HOT.out]; rfl
                          rw [ei, ez] at q7
                          clear q6 h8 ei ez H7
                          have HAL := HLEN
                          clear HLEN HAo HKT HOT
                          generalize mkZ (A ++ Y) = A4 at *
                          go_wp2_with fail
                          refine q7.mono ?_
                          rintro e w9' ⟨rfl, m8, hm8, h9⟩
                          have q8 : Hid (Calls Tryz.prog 13 #[.nilIface, .int .i64 0] w9' fun e w' => e = .returned (.bool true) ∧ Below w9'.heap.size w9' w') := seeIs ad none 0 w9' (HE2.out.on h9.below)
                          have H9' : Hid (PA ks [(.slice a4 A4.length c4, A4)] w3.heap.size a len cap zs p6 sb A4 m8 w2 w9') := h9.sub (fun x hx => by rw [List.mem_singleton.1 hx]; simp)
                          have hm8' : m8 ≤ 4 * i + 4 := by omega
                          clear q7 h9 hm8
                          go_wp2_with fail
                          refine q8.out.mono ?_
                          rintro e w8' ⟨rfl, b8⟩
                          have H8 : Hid (PA ks [(.slice a4 A4.length c4, A4)] w3.heap.size a len cap zs p6 sb A4 m8 w2 w8') := H9'.out.on b8
                          clear q8 b8 H9'
                          have q9 : Hid (Calls Tryz.prog 15 #[.pointer (some ⟨sb.b, 0, none⟩), .slice a4 A4.length c4, .slice av ks.length cv] w8' fun e w' => e = .returned (.bool true) ∧ Below w8'.heap.size w8' w') := by
                            obtain ⟨F, G', n8, h8⟩ := H8.out.ar
                            exact lawSame7 F G' sb ks A4 n8 m8 (ad 6) w8' h8 (HE2.out.over.on H8.out.below) (by omega) _ _ (H8.out.ents (x := (.slice a4 A4.length c4, A4)) (List.mem_singleton.2 rfl)) (HBY.out.on H8.out.below) hks
                          go_wp2_with fail
                          refine q9.out.mono ?_
                          rintro e w9 ⟨rfl, b9⟩
                          have H9 : Hid (PA ks [(.slice a4 A4.length c4, A4)] w3.heap.size a len cap zs p6 sb A4 m8 w2 w9) := H8.out.on b9
                          have q10 := paAll ks _ _ a len cap zs p6 sb A4 m8 w2 w9 (ad 6) H9.out HE2.out.over (by omega)
                          clear q9 b9 H8
                          go_wp2_with fail
                          refine q10.mono ?_
                          rintro e w10 ⟨v10, rfl, e10, b10⟩
                          have H10 : Hid (PA ks [(.slice a4 A4.length c4, A4)] w3.heap.size a len cap zs p6 sb A4 m8 w2 w10) := H9.out.on b10
                          have q11 := sameEnts7 A4 v10 (.slice a4 A4.length c4) w10 e10 (H10.out.ents (x := (.slice a4 A4.length c4, A4)) (List.mem_singleton.2 rfl))
                          obtain ⟨a10, c10, f10⟩ := e10.form
                          clear q10 e10 b10 H9
                          subst f10
                          go_wp2_with fail
                          refine q11.mono ?_
                          rintro e w11 ⟨rfl, b11⟩
                          have h11 := H10.out.on b11
                          obtain ⟨X, hX⟩ : ∃ X, X = w11.alloc (.cells #[.int .i64 1, .int .i64 3, .int .i64 2] 3) := ⟨_, rfl⟩
                          have bX : Below w11.heap.size w11 X := by rw [hX]; exact one_box
                          have hCX : ColsAt w11.heap.size [1, 3, 2] X := by rw [hX]; exact cols7_xyz w11 1 3 2
                          have hSl11 := h11.seq.2.2.2.1
                          have q12 := makeRow w3.heap.size a len cap zs p6 w11.heap.size 3 3 [1, 3, 2] X (h11.seq.on bX) (by omega) hCX (by omega) (by simp) ks132
                          have HX : Hid (w11.alloc (.cells #[.int .i64 1, .int .i64 3, .int .i64 2] 3) = X) := hX.symm
                          have BX : Hid (Below w11.heap.size w11 X) := bX
                          have H11 : Hid (PA ks [(.slice a4 A4.length c4, A4)] w3.heap.size a len cap zs p6 sb A4 m8 w2 w11) := h11
                          clear q11 b11 H10 h11 hX bX hCX
                          go_wp2_with fail
                          rw [HX.out]
                          refine q12.mono ?_
                          rintro e w12 ⟨v12, rfl, r12, p12, r1, r2, r3, r4, r5, r6, _⟩
                          have hR : RowIs w12 v12 r12 := RowIs.of_own (base := X.heap.size) (by rw [r1]; exact r3)
                          have H12 : Hid (PA ks [(.slice a4 A4.length c4, A4)] w3.heap.size a len cap zs p12 sb A4 m8 w2 w12) := H11.out.seqd BX.out r6 r5
                          obtain ⟨a12, c12, e12⟩ := hR.form
                          have hp12 : p12 ≤ 300 * (i + 1) := by omega
                          have HR : Hid (RowIs w12 v12 r12) := hR
                          have q13 : Hid (∀ any, Calls Tryz.prog 19 #[.pointer (some ⟨sb.b, 0, none⟩), v12, .bool any, .int .i64 3] w12 fun e w' => ∃ a' n' c', e = .returned (.slice a' n' c') ∧ AftH any r12 A4 (.slice a' n' c') w' ∧ Below w12.heap.size w12 w') := fun any => by
                            refine (paChunk ks _ _ a len cap zs p12 sb A4 m8 w2 w12 (ad 6) H12.out HE2.out.over (by omega) r12 v12 HR.out any 3).mono ?_
                            rintro e w' ⟨v, rfl, k1, k2⟩
                            obtain ⟨a', c', rfl⟩ := k1.form
                            exact ⟨a', _, c', rfl, k1, k2⟩
                          have q14 : Hid (∀ any W, Below w12.heap.size w12 W → Calls Tryz.prog 20 #[.slice a4 A4.length c4, v12, .bool any, .int .i64 3] W fun e w' => ∃ a' n' c', e = .returned (.slice a' n' c') ∧ AftH any r12 A4 (.slice a' n' c') w' ∧ Below W.heap.size W w') := fun any W hB => by
                            refine (refAfter A4 r12 _ v12 any 3 W (by have := HAL.out; omega) ((H12.out.on hB).ents (x := (.slice a4 A4.length c4, A4)) (List.mem_singleton.2 rfl)) (HR.out.on hB)).mono ?_
                            rintro e w' ⟨v, rfl, k1⟩
                            obtain ⟨a', c', rfl⟩ := k1.form
                            exact ⟨a', _, c', rfl, k1.ents, k1.2⟩
                          clear q12 hR r1 r2 r3 r4 r5 r6 H11 BX HX hSl11 HR
                          generalize r12.length = rl at *
                          subst e12
                          go_wp2_with fail
                          refine (q13.out _).mono ?_
                          rintro e w13 ⟨a13, n13, c13, rfl, e13, b13⟩
                          have E13 : Hid (AftH _ r12 A4 (.slice a13 n13 c13) w13) := e13
                          have B13 : Hid (Below w12.heap.size w12 w13) := b13
                          clear q13 e13 b13
                          go_wp2_with fail
                          refine (q14.out _ w13 B13.out).mono ?_
                          rintro e w14 ⟨a14, n14, c14, rfl, e14, b14⟩
                          have q15 := sameEnts7 _ _ _ w14 (EntsIs.on E13.out b14) e14
                          have B14 : Hid (Below w12.heap.size w12 w14) := B13.out.trans (b14.mono B13.out.size)
                          clear q14 e14 b14 E13 B13
                          go_wp2_with fail
                          refine q15.mono ?_
                          rintro e w15 ⟨rfl, b15⟩
                          have H15 : Hid (PlTo7 ks w3.heap.size a len cap zs sb w2 (i + 1) (.slice a4 A4.length c4) w15) := ⟨p12, A4, m8, H12.out.on (B14.out.trans (b15.mono B14.out.size)), hp12, by omega, by have := HAL.out; omega⟩
                          clear q15 b15
                          go_wp2_with fail
                          go_roundw
                          case rel => exact ⟨i + 1, by omega, by go_num, H15⟩
                          case measure => simp [intOf]; omega
                · have hn1 : (nx == 0) = false := by simp [hn0]
                  obtain ⟨Y, hY⟩ : ∃ Y, Y = Zq := ⟨_, rfl⟩
                  obtain ⟨p6, hp6e⟩ : ∃ p6, p6 = pq + 1 := ⟨_, rfl⟩
                  obtain ⟨w6, hw6⟩ : ∃ w6, w6 = w5 := ⟨_, rfl⟩
                  obtain ⟨ay, hay⟩ : ∃ ay, ay = aq := ⟨_, rfl⟩
                  obtain ⟨cy, hcy⟩ : ∃ cy, cy = cq := ⟨_, rfl⟩
                  have H6 : Hid (PA ks [(.slice ay Y.length cy, Y), (.slice va A.length cva, A)] w3.heap.size a len cap zs p6 sb A m w2 w6) := by rw [hY, hp6e, hw6, hay, hcy]; exact H5.out
                  have HY : Hid (IsZ Y ∧ EOk Y ∧ Y.length ≤ 4) := by rw [hY]; exact HZq.out
                  have hp6 : p6 ≤ pq + 20 := by omega
                  rw [← hw6, ← hay, ← hcy, ← hY]
                  clear H5 HZq hp6e hw6 hay hcy hY
                  have q5f : Hid (∀ (t : Nat) (ht : t < Y.length) W, Below w6.heap.size w6 W → (∃ b o a1 c1, ay = some ⟨b, o, none⟩ ∧ W.cell? ⟨b, o + t * 2, none⟩ = some (.slice a1 Y[t].1.length c1) ∧ Calls Tryz.prog 11 #[.slice a1 Y[t].1.length c1, .slice av ks.length cv] W fun e w' => ∃ a3 n3 c3, e = .returned (.tuple #[.slice a3 n3 c3, .bool (allIn Y[t].1 ks)]) ∧ Below w6.heap.size w6 w')) := fun t ht W hB => by
                    have h6 := H6.out.on hB
                    obtain ⟨b, o, a1, c1, e1, x1, x2, x3⟩ := (h6.ents (x := (.slice ay Y.length cy, Y)) (by simp)).at t ht
                    refine ⟨b, o, a1, c1, e1, x1, ?_⟩
                    refine (refPick Y[t].1 ks _ _ W (by omega) x3 (HBY.out.on h6.below)).mono ?_
                    rintro e w' ⟨v, rfl, k1, k2⟩
                    obtain ⟨a3, c3, rfl⟩ := k1.form
                    exact ⟨a3, _, c3, rfl, hB.trans (k2.mono hB.size)⟩
                  have hYl := HY.out.2.2
                  go_wp2_with fail
                  go_loopw [17, 18] (fun s17 s18 W => ∃ (t : Nat) (wv : Int), t ≤ Y.length ∧ s18 = .int .i64 t ∧ s17 = .int .i64 wv ∧ Hid (wv = (if hasK ks (Y.take t) then 0 else 106) ∧ Below w6.heap.size w6 W)) (fun _ s _ => Y.length - (intOf s).toNat)
                  case atStart => exact ⟨0, 0, by omega, rfl, rfl, rfl, Below.refl _ _⟩
                  case round =>
                    obtain ⟨t, wv, ht, rfl, rfl, hQ⟩ := hrel
                    by_cases k2 : t < Y.length
                    · have J4 : (t : Int) < (Y.length : Int) := by omega
                      obtain ⟨b, o, a1, c1, e1, x1, q6⟩ := q5f.out t k2 _ hQ.out.2
                      subst e1
                      have HT := hasK_take (ks := ks) k2
                      have HTT : Hid (hasK ks (Y.take (t + 1)) = (hasK ks (Y.take t) && allIn Y[t].1 ks)) := HT
                      clear HT
                      generalize Y[t].1.length = yl at *
                      generalize allIn Y[t].1 ks = c at *
                      go_wp2_with fail
                      refine q6.mono ?_
                      rintro e w7 ⟨a3, n3, c3, rfl, b7⟩
                      have B7 : Hid (Below w6.heap.size w6 w7) := b7
                      clear q6 b7 x1
                      cases c
                      · have R7 : Hid ((106 : Int) = (if hasK ks (Y.take (t + 1)) then 0 else 106) ∧ Below w6.heap.size w6 w7) := ⟨by rw [HTT.out, Bool.and_false]; rfl, B7.out⟩
                        go_wp2_with fail
                        go_roundw
                        case rel => exact ⟨t + 1, 106, by omega, by go_num, rfl, R7⟩
                        case measure => simp [intOf]; omega
                      · have R7 : Hid (wv = (if hasK ks (Y.take (t + 1)) then 0 else 106) ∧ Below w6.heap.size w6 w7) := ⟨by rw [HTT.out, Bool.and_true]; exact hQ.out.1, B7.out⟩
                        go_wp2_with fail
                        go_roundw
                        case rel => exact ⟨t + 1, wv, by omega, by go_num, rfl, R7⟩
                        case measure => simp [intOf]; omega
                    · have J4 : ¬ (t : Int) < (Y.length : Int) := by omega
                      have hwv : wv = (if hasK ks Y then 0 else 106) := by
                        have := hQ.out.1
                        rwa [List.take_of_length_le (by omega)] at this
                      obtain ⟨w7, rfl⟩ : ∃ w7, w7 = wr := ⟨_, rfl⟩
                      have H7 : Hid (PA ks [(.slice ay Y.length cy, Y), (.slice va A.length cva, A)] w3.heap.size a len cap zs p6 sb A m w2 w7) := H6.out.on hQ.out.2
                      have q6 := paAdd ks _ _ a len cap zs p6 sb A m w2 w7 H7.out (.slice va A.length cva) (.slice ay Y.length cy) A Y (by simp) (by simp) GA.out (fun e he => (HY.out.2.1 e he).1) (by omega) (if okZ (A ++ Y) then 0 else 107) rfl
                      have HLEN : Hid ((mkZ (A ++ Y)).length ≤ 4 * i + 4) := by
                        have := mkZ_len (A ++ Y)
                        rw [List.length_append] at this
                        show _ ≤ _; omega
                      have HAo : Hid (A.length ≤ 4 * i + 4) := by show _ ≤ _; omega
                      cases hk : hasK ks Y
                      · -- not all columns
                        have hw : wv = 106 := by rw [hwv, hk]; rfl
                        have HKF : Hid (hasK ks Y = false) := hk
                        clear hwv hk hQ q5f H6
                        subst hw
                        generalize hcv : (if okZ (A ++ Y) then (0 : Int) else 107) = cc at q6
                        clear hcv
                        go_wp2_with fail
                        refine q6.mono ?_
                        rintro e w8 ⟨v8, rfl, h8⟩
                        obtain ⟨a8, c8, f8⟩ := (h8.ents (x := (v8, mkZ (A ++ Y))) (by simp)).form
                        simp only at f8
                        have q7 := paInsert ks _ _ a len cap zs p6 sb A m w2 w8 (ad 5) (ad 6) h8 HE2.out.arity HE2.out.over (.slice ay Y.length cy) Y (fun h => by rw [HKF.out] at h; cases h) (h8.ents (x := (.slice ay Y.length cy, Y)) (by simp)) (by omega)
                        have ei : insE (ad 5) (ad 6) (hasK ks Y) (okZ (A ++ Y)) = errV (ad 5) := by rw [HKF.out]; rfl
                        have ez : insZ ks A Y = A := by unfold insZ; rw [HKF.out]; rfl
                        rw [ei, ez] at q7
                        clear q6 h8 ei ez H7
                        generalize (mkZ (A ++ Y)).length = l8 at *
                        subst f8
                        go_wp2_with fail
                        refine q7.mono ?_
                        rintro e w9' ⟨rfl, m8, hm8, h9⟩
                        have q8 : Hid (Calls Tryz.prog 13 #[.iface 202 (.pointer (some (ad 5))), .int .i64 106] w9' fun e w' => e = .returned (.bool true) ∧ Below w9'.heap.size w9' w') := seeIs ad (some 5) 106 w9' (HE2.out.on h9.below)
                        have H9' : Hid (PA ks [(.slice va A.length cva, A)] w3.heap.size a len cap zs p6 sb A m8 w2 w9') := h9.sub (fun x hx => by rw [List.mem_singleton.1 hx]; simp)
                        have hm8' : m8 ≤ 4 * i + 4 := by omega
                        clear q7 h9 hm8
                        rw [errV_ne]
                        go_wp2_with fail
                        refine q8.out.mono ?_
                        rintro e w8 ⟨rfl, b8⟩
                        have H8 : Hid (PA ks [(.slice va A.length cva, A)] w3.heap.size a len cap zs p6 sb A m8 w2 w8) := H9'.out.on b8
                        have HAL := HAo
                        clear q8 b8 H9'
                        have q9 : Hid (Calls Tryz.prog 15 #[.pointer (some ⟨sb.b, 0, none⟩), .slice va A.length cva, .slice av ks.length cv] w8 fun e w' => e = .returned (.bool true) ∧ Below w8.heap.size w8 w') := by
                          obtain ⟨F, G', n8, h8⟩ := H8.out.ar
                          exact lawSame7 F G' sb ks A n8 m8 (ad 6) w8 h8 (HE2.out.over.on H8.out.below) (by omega) _ _ (H8.out.ents (x := (.slice va A.length cva, A)) (List.mem_singleton.2 rfl)) (HBY.out.on H8.out.below) hks
                        go_wp2_with fail
                        refine q9.out.mono ?_
                        rintro e w9 ⟨rfl, b9⟩
                        have H9 : Hid (PA ks [(.slice va A.length cva, A)] w3.heap.size a len cap zs p6 sb A m8 w2 w9) := H8.out.on b9
                        have q10 := paAll ks _ _ a len cap zs p6 sb A m8 w2 w9 (ad 6) H9.out HE2.out.over (by omega)
                        clear q9 b9 H8
                        go_wp2_with fail
                        refine q10.mono ?_
                        rintro e w10 ⟨v10, rfl, e10, b10⟩
                        have H10 : Hid (PA ks [(.slice va A.length cva, A)] w3.heap.size a len cap zs p6 sb A m8 w2 w10) := H9.out.on b10
                        have q11 := sameEnts7 A v10 (.slice va A.length cva) w10 e10 (H10.out.ents (x := (.slice va A.length cva, A)) (List.mem_singleton.2 rfl))
                        obtain ⟨a10, c10, f10⟩ := e10.form
                        clear q10 e10 b10 H9
                        subst f10
                        go_wp2_with fail
                        refine q11.mono ?_
                        rintro e w11 ⟨rfl, b11⟩
                        have h11 := H10.out.on b11
                        obtain ⟨X, hX⟩ : ∃ X, X = w11.alloc (.cells #[.int .i64 1, .int .i64 3, .int .i64 2] 3) := ⟨_, rfl⟩
                        have bX : Below w11.heap.size w11 X := by rw [hX]; exact one_box
                        have hCX : ColsAt w11.heap.size [1, 3, 2] X := by rw [hX]; exact cols7_xyz w11 1 3 2
                        have hSl11 := h11.seq.2.2.2.1
                        have q12 := makeRow w3.heap.size a len cap zs p6 w11.heap.size 3 3 [1, 3, 2] X (h11.seq.on bX) (by omega) hCX (by omega) (by simp) ks132
                        have HX : Hid (w11.alloc (.cells #[.int .i64 1, .int .i64 3, .int .i64 2] 3) = X) := hX.symm
                        have BX : Hid (Below w11.heap.size w11 X) := bX
                        have H11 : Hid (PA ks [(.slice va A.length cva, A)] w3.heap.size a len cap zs p6 sb A m8 w2 w11) := h11
                        clear q11 b11 H10 h11 hX bX hCX
                        go_wp2_with fail
                        rw [HX.out]
                        refine q12.mono ?_
                        rintro e w12 ⟨v12, rfl, r12, p12, r1, r2, r3, r4, r5, r6, _⟩
                        have hR : RowIs w12 v12 r12 := RowIs.of_own (base := X.heap.size) (by rw [r1]; exact r3)
                        have H12 : Hid (PA ks [(.slice va A.length cva, A)] w3.heap.size a len cap zs p12 sb A m8 w2 w12) := H11.out.seqd BX.out r6 r5
                        obtain ⟨a12, c12, e12⟩ := hR.form
                        have hp12 : p12 ≤ 300 * (i + 1) := by omega
                        have HR : Hid (RowIs w12 v12 r12) := hR
                        have q13 : Hid (∀ any, Calls Tryz.prog 19 #[.pointer (some ⟨sb.b, 0, none⟩), v12, .bool any, .int .i64 3] w12 fun e w' => ∃ a' n' c', e = .returned (.slice a' n' c') ∧ AftH any r12 A (.slice a' n' c') w' ∧ Below w12.heap.size w12 w') := fun any => by
                          refine (paChunk ks _ _ a len cap zs p12 sb A m8 w2 w12 (ad 6) H12.out HE2.out.over (by omega) r12 v12 HR.out any 3).mono ?_
                          rintro e w' ⟨v, rfl, k1, k2⟩
                          obtain ⟨a', c', rfl⟩ := k1.form
                          exact ⟨a', _, c', rfl, k1, k2⟩
                        have q14 : Hid (∀ any W, Below w12.heap.size w12 W → Calls Tryz.prog 20 #[.slice va A.length cva, v12, .bool any, .int .i64 3] W fun e w' => ∃ a' n' c', e = .returned (.slice a' n' c') ∧ AftH any r12 A (.slice a' n' c') w' ∧ Below W.heap.size W w') := fun any W hB => by
                          refine (refAfter A r12 _ v12 any 3 W (by have := HAL.out; omega) ((H12.out.on hB).ents (x := (.slice va A.length cva, A)) (List.mem_singleton.2 rfl)) (HR.out.on hB)).mono ?_
                          rintro e w' ⟨v, rfl, k1⟩
                          obtain ⟨a', c', rfl⟩ := k1.form
                          exact ⟨a', _, c', rfl, k1.ents, k1.2⟩
                        clear q12 hR r1 r2 r3 r4 r5 r6 H11 BX HX hSl11 HR
                        generalize r12.length = rl at *
                        subst e12
                        go_wp2_with fail
                        refine (q13.out _).mono ?_
                        rintro e w13 ⟨a13, n13, c13, rfl, e13, b13⟩
                        have E13 : Hid (AftH _ r12 A (.slice a13 n13 c13) w13) := e13
                        have B13 : Hid (Below w12.heap.size w12 w13) := b13
                        clear q13 e13 b13
                        go_wp2_with fail
                        refine (q14.out _ w13 B13.out).mono ?_
                        rintro e w14 ⟨a14, n14, c14, rfl, e14, b14⟩
                        have q15 := sameEnts7 _ _ _ w14 (EntsIs.on E13.out b14) e14
                        have B14 : Hid (Below w12.heap.size w12 w14) := B13.out.trans (b14.mono B13.out.size)
                        clear q14 e14 b14 E13 B13
                        go_wp2_with fail
                        refine q15.mono ?_
                        rintro e w15 ⟨rfl, b15⟩
                        have H15 : Hid (PlTo7 ks w3.heap.size a len cap zs sb w2 (i + 1) (.slice va A.length cva) w15) := ⟨p12, A, m8, H12.out.on (B14.out.trans (b15.mono B14.out.size)), hp12, by omega, by have := HAL.out; omega⟩
                        clear q15 b15
                        go_wp2_with fail
                        go_roundw
                        case rel => exact ⟨i + 1, by omega, by go_num, H15⟩
                        case measure => simp [intOf]; omega
                      · have hw : wv = 0 := by rw [hwv, hk]; rfl
                        have HKT : Hid (hasK ks Y = true) := hk
                        clear hwv hk hQ q5f H6
                        subst hw
                        cases ho : okZ (A ++ Y)
                        · have HOF : Hid (okZ (A ++ Y) = false) := ho
                          rw [ho] at q6
                          have hcc : (if false = true then (0 : Int) else 107) = 107 := rfl
                          rw [hcc] at q6
                          clear ho hcc
                          go_wp2_with fail
                          refine q6.mono ?_
                          rintro e w8 ⟨v8, rfl, h8⟩
                          obtain ⟨a8, c8, f8⟩ := (h8.ents (x := (v8, mkZ (A ++ Y))) (by simp)).form
                          simp only at f8
                          have q7 := paInsert ks _ _ a len cap zs p6 sb A m w2 w8 (ad 5) (ad 6) h8 HE2.out.arity HE2.out.over (.slice ay Y.length cy) Y (fun _ => ⟨HY.out.1, HY.out.2.1⟩) (h8.ents (x := (.slice ay Y.length cy, Y)) (by simp)) (by omega)
                          have ei : insE (ad 5) (ad 6) (hasK ks Y) (okZ (A ++ Y)) = errV (ad 6) := by rw [HKT.out, HOF.out]; rfl
                          have ez : insZ ks A Y = A := by unfold insZ; rw [HKT.out, HOF.out]; rfl
                          rw [ei, ez] at q7
                          clear q6 h8 ei ez H7
                          generalize (mkZ (A ++ Y)).length = l8 at *
                          subst f8
                          go_wp2_with fail
                          refine q7.mono ?_
                          rintro e w9' ⟨rfl, m8, hm8, h9⟩
                          have q8 : Hid (Calls Tryz.prog 13 #[.iface 202 (.pointer (some (ad 6))), .int .i64 107] w9' fun e w' => e = .returned (.bool true) ∧ Below w9'.heap.size w9' w') := seeIs ad (some 6) 107 w9' (HE2.out.on h9.below)
                          have H9' : Hid (PA ks [(.slice va A.length cva, A)] w3.heap.size a len cap zs p6 sb A m8 w2 w9') := h9.sub (fun x hx => by rw [List.mem_singleton.1 hx]; simp)
                          have hm8' : m8 ≤ 4 * i + 4 := by omega
                          clear q7 h9 hm8
                          rw [errV_ne]
                          go_wp2_with fail
                          refine q8.out.mono ?_
                          rintro e w8 ⟨rfl, b8⟩
                          have H8 : Hid (PA ks [(.slice va A.length cva, A)] w3.heap.size a len cap zs p6 sb A m8 w2 w8) := H9'.out.on b8
                          have HAL := HAo
                          clear q8 b8 H9'
                          have q9 : Hid (Calls Tryz.prog 15 #[.pointer (some ⟨sb.b, 0, none⟩), .slice va A.length cva, .slice av ks.length cv] w8 fun e w' => e = .returned (.bool true) ∧ Below w8.heap.size w8 w') := by
                            obtain ⟨F, G', n8, h8⟩ := H8.out.ar
                            exact lawSame7 F G' sb ks A n8 m8 (ad 6) w8 h8 (HE2.out.over.on H8.out.below) (by omega) _ _ (H8.out.ents (x := (.slice va A.length cva, A)) (List.mem_singleton.2 rfl)) (HBY.out.on H8.out.below) hks
                          go_wp2_with fail
                          refine q9.out.mono ?_
                          rintro e w9 ⟨rfl, b9⟩
                          have H9 : Hid (PA ks [(.slice va A.length cva, A)] w3.heap.size a len cap zs p6 sb A m8 w2 w9) := H8.out.on b9
                          have q10 := paAll ks _ _ a len cap zs p6 sb A m8 w2 w9 (ad 6) H9.out HE2.out.over (by omega)
                          clear q9 b9 H8
                          go_wp2_with fail
                          refine q10.mono ?_
                          rintro e w10 ⟨v10, rfl, e10, b10⟩
                          have H10 : Hid (PA ks [(.slice va A.length cva, A)] w3.heap.size a len cap zs p6 sb A m8 w2 w10) := H9.out.on b10
                          have q11 := sameEnts7 A v10 (.slice va A.length cva) w10 e10 (H10.out.ents (x := (.slice va A.length cva, A)) (List.mem_singleton.2 rfl))
                          obtain ⟨a10, c10, f10⟩ := e10.form
                          clear q10 e10 b10 H9
                          subst f10
                          go_wp2_with fail
                          refine q11.mono ?_
                          rintro e w11 ⟨rfl, b11⟩
                          have h11 := H10.out.on b11
                          obtain ⟨X, hX⟩ : ∃ X, X = w11.alloc (.cells #[.int .i64 1, .int .i64 3, .int .i64 2] 3) := ⟨_, rfl⟩
                          have bX : Below w11.heap.size w11 X := by rw [hX]; exact one_box
                          have hCX : ColsAt w11.heap.size [1, 3, 2] X := by rw [hX]; exact cols7_xyz w11 1 3 2
                          have hSl11 := h11.seq.2.2.2.1
                          have q12 := makeRow w3.heap.size a len cap zs p6 w11.heap.size 3 3 [1, 3, 2] X (h11.seq.on bX) (by omega) hCX (by omega) (by simp) ks132
                          have HX : Hid (w11.alloc (.cells #[.int .i64 1, .int .i64 3, .int .i64 2] 3) = X) := hX.symm
                          have BX : Hid (Below w11.heap.size w11 X) := bX
                          have H11 : Hid (PA ks [(.slice va A.length cva, A)] w3.heap.size a len cap zs p6 sb A m8 w2 w11) := h11
                          clear q11 b11 H10 h11 hX bX hCX
                          go_wp2_with fail
                          rw [HX.out]
                          refine q12.mono ?_
                          rintro e w12 ⟨v12, rfl, r12, p12, r1, r2, r3, r4, r5, r6, _⟩
                          have hR : RowIs w12 v12 r12 := RowIs.of_own (base := X.heap.size) (by rw [r1]; exact r3)
                          have H12 : Hid (PA ks [(.slice va A.length cva, A)] w3.heap.size a len cap zs p12 sb A m8 w2 w12) := H11.out.seqd BX.out r6 r5
                          obtain ⟨a12, c12, e12⟩ := hR.form
                          have hp12 : p12 ≤ 300 * (i + 1) := by omega
                          have HR : Hid (RowIs w12 v12 r12) := hR
                          have q13 : Hid (∀ any, Calls Tryz.prog 19 #[.pointer (some ⟨sb.b, 0, none⟩), v12, .bool any, .int .i64 3] w12 fun e w' => ∃ a' n' c', e = .returned (.slice a' n' c') ∧ AftH any r12 A (.slice a' n' c') w' ∧ Below w12.heap.size w12 w') := fun any => by
                            refine (paChunk ks _ _ a len cap zs p12 sb A m8 w2 w12 (ad 6) H12.out HE2.out.over (by omega) r12 v12 HR.out any 3).mono ?_
                            rintro e w' ⟨v, rfl, k1, k2⟩
                            obtain ⟨a', c', rfl⟩ := k1.form
                            exact ⟨a', _, c', rfl, k1, k2⟩
                          have q14 : Hid (∀ any W, Below w12.heap.size w12 W → Calls Tryz.prog 20 #[.slice va A.length cva, v12, .bool any, .int .i64 3] W fun e w' => ∃ a' n' c', e = .returned (.slice a' n' c') ∧ AftH any r12 A (.slice a' n' c') w' ∧ Below W.heap.size W w') := fun any W hB => by
                            refine (refAfter A r12 _ v12 any 3 W (by have := HAL.out; omega) ((H12.out.on hB).ents (x := (.slice va A.length cva, A)) (List.mem_singleton.2 rfl)) (HR.out.on hB)).mono ?_
                            rintro e w' ⟨v, rfl, k1⟩
                            obtain ⟨a', c', rfl⟩ := k1.form
                            exact ⟨a', _, c', rfl, k1.ents, k1.2⟩
                          clear q12 hR r1 r2 r3 r4 r5 r6 H11 BX HX hSl11 HR
                          generalize r12.length = rl at *
                          subst e12
                          go_wp2_with fail
                          refine (q13.out _).mono ?_
                          rintro e w13 ⟨a13, n13, c13, rfl, e13, b13⟩
                          have E13 : Hid (AftH _ r12 A (.slice a13 n13 c13) w13) := e13
                          have B13 : Hid (Below w12.heap.size w12 w13) := b13
                          clear q13 e13 b13
                          go_wp2_with fail
                          refine (q14.out _ w13 B13.out).mono ?_
                          rintro e w14 ⟨a14, n14, c14, rfl, e14, b14⟩
                          have q15 := sameEnts7 _ _ _ w14 (EntsIs.on E13.out b14) e14
                          have B14 : Hid (Below w12.heap.size w12 w14) := B13.out.trans (b14.mono B13.out.size)
                          clear q14 e14 b14 E13 B13
                          go_wp2_with fail
                          refine q15.mono ?_
                          rintro e w15 ⟨rfl, b15⟩
                          have H15 : Hid (PlTo7 ks w3.heap.size a len cap zs sb w2 (i + 1) (.slice va A.length cva) w15) := ⟨p12, A, m8, H12.out.on (B14.out.trans (b15.mono B14.out.size)), hp12, by omega, by have := HAL.out; omega⟩
                          clear q15 b15
                          go_wp2_with fail
                          go_roundw
                          case rel => exact ⟨i + 1, by omega, by go_num, H15⟩
                          case measure => simp [intOf]; omega
                        · have HOT : Hid (okZ (A ++ Y) = true) := ho
                          rw [ho] at q6
                          have hcc : (if true = true then (0 : Int) else 107) = 0 := rfl
                          rw [hcc] at q6
                          clear ho hcc
                          go_wp2_with fail
                          refine q6.mono ?_
                          rintro e w8 ⟨v8, rfl, h8⟩
                          obtain ⟨a4, c4, f8⟩ := (h8.ents (x := (v8, mkZ (A ++ Y))) (by simp)).form
                          simp only at f8
                          subst f8
                          have q7 := paInsert ks _ _ a len cap zs p6 sb A m w2 w8 (ad 5) (ad 6) h8 HE2.out.arity HE2.out.over (.slice ay Y.length cy) Y (fun _ => ⟨HY.out.1, HY.out.2.1⟩) (h8.ents (x := (.slice ay Y.length cy, Y)) (by simp)) (by omega)
                          have ei : insE (ad 5) (ad 6) (hasK ks Y) (okZ (A ++ Y)) = .nilIface := by rw [HKT.out, HOT.out]; rfl
                          have ez : insZ ks A Y = mkZ (A ++ Y) := by unfold insZ; rw [HKT.out, HOT.out]; rfl
                          rw [ei, ez] at q7
                          clear q6 h8 ei ez H7
                          have HAL := HLEN
                          clear HLEN HAo HKT HOT
                          generalize mkZ (A ++ Y) = A4 at *
                          go_wp2_with fail
                          refine q7.mono ?_
                          rintro e w9' ⟨rfl, m8, hm8, h9⟩
                          have q8 : Hid (Calls Tryz.prog 13 #[.nilIface, .int .i64 0] w9' fun e w' => e = .returned (.bool true) ∧ Below w9'.heap.size w9' w') := seeIs ad none 0 w9' (HE2.out.on h9.below)
                          have H9' : Hid (PA ks [(.slice a4 A4.length c4, A4)] w3.heap.size a len cap zs p6 sb A4 m8 w2 w9') := h9.sub (fun x hx => by rw [List.mem_singleton.1 hx]; simp)
                          have hm8' : m8 ≤ 4 * i + 4 := by omega
                          clear q7 h9 hm8
                          go_wp2_with fail
                          refine q8.out.mono ?_
                          rintro e w8' ⟨rfl, b8⟩
                          have H8 : Hid (PA ks [(.slice a4 A4.length c4, A4)] w3.heap.size a len cap zs p6 sb A4 m8 w2 w8') := H9'.out.on b8
                          clear q8 b8 H9'
                          have q9 : Hid (Calls Tryz.prog 15 #[.pointer (some ⟨sb.b, 0, none⟩), .slice a4 A4.length c4, .slice av ks.length cv] w8' fun e w' => e = .returned (.bool true) ∧ Below w8'.heap.size w8' w') := by
                            obtain ⟨F, G', n8, h8⟩ := H8.out.ar
                            exact lawSame7 F G' sb ks A4 n8 m8 (ad 6) w8' h8 (HE2.out.over.on H8.out.below) (by omega) _ _ (H8.out.ents (x := (.slice a4 A4.length c4, A4)) (List.mem_singleton.2 rfl)) (HBY.out.on H8.out.below) hks
                          go_wp2_with fail
                          refine q9.out.mono ?_
                          rintro e w9 ⟨rfl, b9⟩
                          have H9 : Hid (PA ks [(.slice a4 A4.length c4, A4)] w3.heap.size a len cap zs p6 sb A4 m8 w2 w9) := H8.out.on b9
                          have q10 := paAll ks _ _ a len cap zs p6 sb A4 m8 w2 w9 (ad 6) H9.out HE2.out.over (by omega)
                          clear q9 b9 H8
                          go_wp2_with fail
                          refine q10.mono ?_
                          rintro e w10 ⟨v10, rfl, e10, b10⟩
                          have H10 : Hid (PA ks [(.slice a4 A4.length c4, A4)] w3.heap.size a len cap zs p6 sb A4 m8 w2 w10) := H9.out.on b10
                          have q11 := sameEnts7 A4 v10 (.slice a4 A4.length c4) w10 e10 (H10.out.ents (x := (.slice a4 A4.length c4, A4)) (List.mem_singleton.2 rfl))
                          obtain ⟨a10, c10, f10⟩ := e10.form
                          clear q10 e10 b10 H9
                          subst f10
                          go_wp2_with fail
                          refine q11.mono ?_
                          rintro e w11 ⟨rfl, b11⟩
                          have h11 := H10.out.on b11
                          obtain ⟨X, hX⟩ : ∃ X, X = w11.alloc (.cells #[.int .i64 1, .int .i64 3, .int .i64 2] 3) := ⟨_, rfl⟩
                          have bX : Below w11.heap.size w11 X := by rw [hX]; exact one_box
                          have hCX : ColsAt w11.heap.size [1, 3, 2] X := by rw [hX]; exact cols7_xyz w11 1 3 2
                          have hSl11 := h11.seq.2.2.2.1
                          have q12 := makeRow w3.heap.size a len cap zs p6 w11.heap.size 3 3 [1, 3, 2] X (h11.seq.on bX) (by omega) hCX (by omega) (by simp) ks132
                          have HX : Hid (w11.alloc (.cells #[.int .i64 1, .int .i64 3, .int .i64 2] 3) = X) := hX.symm
                          have BX : Hid (Below w11.heap.size w11 X) := bX
                          have H11 : Hid (PA ks [(.slice a4 A4.length c4, A4)] w3.heap.size a len cap zs p6 sb A4 m8 w2 w11) := h11
                          clear q11 b11 H10 h11 hX bX hCX
                          go_wp2_with fail
                          rw [HX.out]
                          refine q12.mono ?_
                          rintro e w12 ⟨v12, rfl, r12, p12, r1, r2, r3, r4, r5, r6, _⟩
                          have hR : RowIs w12 v12 r12 := RowIs.of_own (base := X.heap.size) (by rw [r1]; exact r3)
                          have H12 : Hid (PA ks [(.slice a4 A4.length c4, A4)] w3.heap.size a len cap zs p12 sb A4 m8 w2 w12) := H11.out.seqd BX.out r6 r5
                          obtain ⟨a12, c12, e12⟩ := hR.form
                          have hp12 : p12 ≤ 300 * (i + 1) := by omega
                          have HR : Hid (RowIs w12 v12 r12) := hR
                          have q13 : Hid (∀ any, Calls Tryz.prog 19 #[.pointer (some ⟨sb.b, 0, none⟩), v12, .bool any, .int .i64 3] w12 fun e w' => ∃ a' n' c', e = .returned (.slice a' n' c') ∧ AftH any r12 A4 (.slice a' n' c') w' ∧ Below w12.heap.size w12 w') := fun any => by
                            refine (paChunk ks _ _ a len cap zs p12 sb A4 m8 w2 w12 (ad 6) H12.out HE2.out.over (by omega) r12 v12 HR.out any 3).mono ?_
                            rintro e w' ⟨v, rfl, k1, k2⟩
                            obtain ⟨a', c', rfl⟩ := k1.form
                            exact ⟨a', _, c', rfl, k1, k2⟩
                          have q14 : Hid (∀ any W, Below w12.heap.size w12 W → Calls Tryz.prog 20 #[.slice a4 A4.length c4, v12, .bool any, .int .i64 3] W fun e w' => ∃ a' n' c', e = .returned (.slice a' n' c') ∧ AftH any r12 A4 (.slice a' n' c') w' ∧ Below W.heap.size W w') := fun any W hB => by
                            refine (refAfter A4 r12 _ v12 any 3 W (by have := HAL.out; omega) ((H12.out.on hB).ents (x := (.slice a4 A4.length c4, A4)) (List.mem_singleton.2 rfl)) (HR.out.on hB)).mono ?_
                            rintro e w' ⟨v, rfl, k1⟩
                            obtain ⟨a', c', rfl⟩ := k1.form
                            exact ⟨a', _, c', rfl, k1.ents, k1.2⟩
                          clear q12 hR r1 r2 r3 r4 r5 r6 H11 BX HX hSl11 HR
                          generalize r12.length = rl at *
                          subst e12
                          go_wp2_with fail
                          refine (q13.out _).mono ?_
                          rintro e w13 ⟨a13, n13, c13, rfl, e13, b13⟩
                          have E13 : Hid (AftH _ r12 A4 (.slice a13 n13 c13) w13) := e13
                          have B13 : Hid (Below w12.heap.size w12 w13) := b13
                          clear q13 e13 b13
                          go_wp2_with fail
                          refine (q14.out _ w13 B13.out).mono ?_
                          rintro e w14 ⟨a14, n14, c14, rfl, e14, b14⟩
                          have q15 := sameEnts7 _ _ _ w14 (EntsIs.on E13.out b14) e14
                          have B14 : Hid (Below w12.heap.size w12 w14) := B13.out.trans (b14.mono B13.out.size)
                          clear q14 e14 b14 E13 B13
                          go_wp2_with fail
                          refine q15.mono ?_
                          rintro e w15 ⟨rfl, b15⟩
                          have H15 : Hid (PlTo7 ks w3.heap.size a len cap zs sb w2 (i + 1) (.slice a4 A4.length c4) w15) := ⟨p12, A4, m8, H12.out.on (B14.out.trans (b15.mono B14.out.size)), hp12, by omega, by have := HAL.out; omega⟩
                          clear q15 b15
                          go_wp2_with fail
                          go_roundw
                          case rel => exact ⟨i + 1, by omega, by go_num, H15⟩
                          case measure => simp [intOf]; omega
            · have J3 : ¬ (i : Int) < (mn : Int) := by omega
              obtain ⟨p, A, m, g1, g2, g3, g4⟩ := hM.out
              have B9 : Hid (Below w.heap.size w wr) := B2.out.trans (g1.below.mono B2.out.size)
              obtain ⟨va, cva, ev⟩ := (g1.ents (x := (u14, A)) (List.mem_singleton.2 rfl)).form
              simp only at ev
              subst ev
              clear g1 hM
              go_wp2_with fail
              go_ret
              exact ⟨rfl, B9.out⟩
end Go.Proofs.YtglbipnppldkmaaGreatDoor
