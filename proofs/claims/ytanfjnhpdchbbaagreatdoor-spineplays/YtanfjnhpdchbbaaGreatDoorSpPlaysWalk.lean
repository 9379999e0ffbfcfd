/- The walk of the law that a spine is what the chapter says, whatever comes. (written by spplays_gen.py) -/
import Derived.Test.YtanfjnhpdchbbaaGreatDoorPackFirst
import Derived.Test.YtanfjnhpdchbbaaGreatDoorPackPut
import Derived.Test.YtanfjnhpdchbbaaGreatDoorPackSets
namespace Go.Proofs.YtanfjnhpdchbbaaGreatDoor
open Go.RowKit Go.Sort
set_option maxRecDepth 100000
/-- The code of an answer. -/
def ovC6 (ok : Bool) : Int := if ok then 0 else 107
theorem isOver6 (ad : Fin 11 → Addr) (b : Bool) (W : World) (h : ErrsAt ad W) :
    Calls Tryz.prog 9 #[ovE (ad 6) b, .int .i64 (ovC6 b)] W fun e w' => e = .returned (.bool true) ∧ Below W.heap.size W w' := by
  cases b
  · exact seeIs ad (some 6) 107 W h
  · exact seeIs ad none 0 W h
theorem PS.seqd {P : (Nat → Prop) → World → Prop} {L : List QEnt} {S : Nat} {a : Option Addr} {len cap : Nat} {zs : List Int} {p sb : Nat} {A : List Ent} {n m : Nat} {w0 w : World} (hP : Fr P) (h : PS P L S a len cap zs p sb A n m w0 w) {W w' : World} {p' : Nat} (hB : Below w.heap.size w W) (hb : But S W w') (hq : SeqAt S a len cap zs p' w') : PS P L S a len cap zs p' sb A n m w0 w' :=
  (h.made hP hB hb (v := .slice none 0 0) (Z := []) ⟨[], World.ownsRow_nil _ _ _ _, Reads.nil _, fun i h => (by simp at h)⟩ hq).sub (fun x hx => List.mem_cons_of_mem _ hx)
/-- How far the law has come. -/
def PlTo (S : Nat) (a : Option Addr) (len cap : Nat) (zs : List Int) (sb : Nat) (w : World) (i : Nat) (v : Value) (wr : World) : Prop := ∃ p A n m, PS NoP [(v, A)] S a len cap zs p sb A n m w wr ∧ p ≤ 200 * i ∧ m ≤ 5 * i ∧ A.length ≤ 5 * i
/-- Behind an Insert. -/
def PlIns (S : Nat) (a : Option Addr) (len cap : Nat) (zs : List Int) (sb : Nat) (w : World) (p i : Nat) (v vz : Value) (A Z A4 : List Ent) (w4 : World) : Prop := ∃ n m, PS NoP [(vz, Z), (v, A)] S a len cap zs p sb A4 n m w w4 ∧ m ≤ 5 * i + 5
theorem inA {P : (Nat → Prop) → World → Prop} {L : List QEnt} {S : Nat} {a : Option Addr} {len cap : Nat} {zs : List Int} {p sb : Nat} {A : List Ent} {n m : Nat} {w0 w : World} (h : PS P L S a len cap zs p sb A n m w0 w) : ∀ e ∈ A, inI e.2 = true := fun e he => by
  have := h.inAll e.1
  rwa [wt_mem h.le.2.2.2.1 he] at this
set_option maxHeartbeats 8000000 in
theorem spinePlays_walk (a : Option Addr) (len cap : Nat) (zs : List Int) (a2 : Option Addr) (len2 cap2 : Nat) (zs2 : List Int) (wide : Bool) (w : World) (he : ∃ ad, ErrsAt ad w) (ha : IsRow .i64 w a len cap zs) (ha2 : IsRow .i64 w a2 len2 cap2 zs2) :
    Calls Tryz.prog 3 #[.slice a len cap, .slice a2 len2 cap2, .bool wide] w fun e w' => e = .returned (.bool true) ∧ Below w.heap.size w w' := by
  obtain ⟨ad, hE⟩ := he
  have q0 := lawFirst6 (ad 6) w hE.over
  have HE : Hid (ErrsAt ad w) := hE
  have HO : Hid (OverAt (ad 6) w) := hE.over
  have HA : Hid (IsRow .i64 w a len cap zs) := ha
  have HA2 : Hid (IsRow .i64 w a2 len2 cap2 zs2) := ha2
  clear hE ha ha2
  go_enter Tryz.func3, Tryz.ntmps3
  go_wp2_with fail
  refine q0.mono ?_
  rintro e w1 ⟨rfl, hb1⟩
  have B1 : Hid (Below w.heap.size w w1) := hb1
  clear q0 hb1
  by_cases hl : 250 < len
  · have I1 : (250 : Int) < (len : Int) := by omega
    go_wp2_with fail
    go_ret
    exact ⟨rfl, B1.out⟩
  · have I1 : ¬ (250 : Int) < (len : Int) := by omega
    by_cases hl2 : 30 < len2
    · have I2 : (30 : Int) < (len2 : Int) := by omega
      go_wp2_with fail
      go_ret
      exact ⟨rfl, B1.out⟩
    · have I2 : ¬ (30 : Int) < (len2 : Int) := by omega
      have hS0 := SeqAt.make (HA.out.below B1.out) 26
      have hP0 : PS NoP [] w1.heap.size a len cap zs 0 (w1.heap.size + 1) [] 0 0 w ((w1.alloc (.cells #[.slice a len cap, .int .i64 0] 26)).alloc (.cells #[.slice none 0 0, .pointer none] 30)) := by
        have := PS.start B1.out one_box hS0
        simpa using this
      have P0 : Hid (PlTo w1.heap.size a len cap zs (w1.heap.size + 1) w 0 (.slice none 0 0) ((w1.alloc (.cells #[.slice a len cap, .int .i64 0] 26)).alloc (.cells #[.slice none 0 0, .pointer none] 30))) := by
        obtain ⟨F, G, Rl, h1, h2, h3, h4, h5, h6⟩ := hP0
        exact ⟨0, [], 0, 0, ⟨F, G, Rl, h1, h2, h3, h4, fun x hx => by rw [List.mem_singleton.1 hx]; exact EntsIs.nil _ _ _, h6⟩, by omega, by omega, by simp⟩
      have hw1 := B1.out.size
      clear hS0 hP0
      go_wp2_with fail
      go_loopw [10, 11] (fun s10 s11 wr => ∃ (i : Nat), s11 = .int .i64 i ∧ i ≤ len2 ∧ Hid (PlTo w1.heap.size a len cap zs (w1.heap.size + 1) w i s10 wr)) (fun _ s _ => len2 - (intOf s).toNat)
      case atStart => exact ⟨0, rfl, by omega, P0⟩
      case round =>
        clear P0
        obtain ⟨i, rfl, hi, hM⟩ := hrel
        by_cases k1 : i < len2
        · have J1 : (i : Int) < (len2 : Int) := by omega
          obtain ⟨p, A, n, m, g1, g2, g3, g4⟩ := hM.out
          obtain ⟨av, cv, ev⟩ := (g1.ents (x := (u10, A)) (List.mem_singleton.2 rfl)).form
          simp only at ev
          subst ev
          obtain ⟨W, hW⟩ : ∃ W, W = wr.alloc (.cells #[.int .i64 1, .int .i64 3] 3) := ⟨_, rfl⟩
          have bW : Below wr.heap.size wr W := by rw [hW]; exact one_box
          have hC : ColsAt wr.heap.size [1, 3] W := by rw [hW]; exact cols_xy wr 1 3
          have hSl := g1.seq.2.2.2.1
          have hks : ∀ i (h : i < ([1, 3] : List Int).length), ([1, 3] : List Int)[i] = 0 ∨ ([1, 3] : List Int)[i] = 1 ∨ ([1, 3] : List Int)[i] = 2 ∨ ([1, 3] : List Int)[i] = 3 := fun i h => by
            obtain rfl | rfl : i = 0 ∨ i = 1 := by simp at h; omega
            · simp
            · simp
          have q2 := makeSet w1.heap.size a len cap zs p wr.heap.size 2 2 [1, 3] 5 W (g1.seq.on bW) (by omega) (by omega) hC (by omega) (by omega) (by simp) hks
          have HKS : Hid (∀ i (h : i < ([1, 3] : List Int).length), ([1, 3] : List Int)[i] = 0 ∨ ([1, 3] : List Int)[i] = 1 ∨ ([1, 3] : List Int)[i] = 2 ∨ ([1, 3] : List Int)[i] = 3) := hks
          have HW : Hid (wr.alloc (.cells #[.int .i64 1, .int .i64 3] 3) = W) := hW.symm
          have G1 : Hid (PS NoP [(.slice av A.length cv, A)] w1.heap.size a len cap zs p (w1.heap.size + 1) A n m w wr) := g1
          have BW : Hid (Below wr.heap.size wr W) := bW
          have GA : Hid (∀ e ∈ A, inI e.2 = true) := inA g1
          -- the work's number
          obtain ⟨ba, ob, ea2, x0⟩ : ∃ ba ob, a2 = some ⟨ba, ob, none⟩ ∧ ∀ w', Below w.heap.size w w' → w'.cell? ⟨ba, ob + i, none⟩ = some (.int .i64 (zs2.getD i 0)) := by
            rcases HA2.out with ⟨_, e, _⟩ | ⟨x, hx, d1, d2, d3, d4, d5⟩
            · omega
            · have hc := d4 i (by omega)
              have hc0 := d4 0 (by omega)
              obtain ⟨b, o, sp⟩ := x
              cases sp with
              | none =>
                refine ⟨b, o, hx, fun w' hB => ?_⟩
                have e : (⟨b, o, none⟩ : Addr).add i = ⟨b, o + i, none⟩ := by
                  unfold Addr.add; split
                  · rename_i h0; rw [h0]; rfl
                  · rfl
                rw [← e]; exact cell_on hc hB
              | some s =>
                exfalso
                have e : (⟨b, o, some s⟩ : Addr).add 0 = ⟨b, o, some s⟩ := rfl
                rw [e] at hc0
                unfold World.cell? at hc0
                split at hc0 <;> simp at hc0
          have X0 : Hid (∀ w', Below w.heap.size w w' → w'.cell? ⟨ba, ob + i, none⟩ = some (.int .i64 (zs2.getD i 0))) := x0
          subst ea2
          clear g1 hM hW bW hC hks x0
          cases wide
          · go_wp2_with fail
            rw [HW.out]
            refine q2.mono ?_
            rintro e w3 ⟨vz, Z, rfl, ⟨p', z1, z2, z3, z4, z5, z6, z7⟩, z8, z9⟩
            have hP3 := G1.out.made fr_no BW.out z7 z4 z6
            have hp' : p' ≤ 200 * i + 51 := by omega
            clear q2 z6 z7 z8 z9 G1
            obtain ⟨az, cz, ez⟩ := z4.ents.form
            subst ez
            have hzl : Z.length ≤ 5 := z3
            obtain ⟨ok, hok⟩ : ∃ ok, ok = okZ (A ++ Z) := ⟨_, rfl⟩
            have q3 := psInsert fr_no _ _ a len cap zs p' _ A n m w w3 (ad 6) hP3 HO.out _ Z z1 z2 z4.ents (by omega)
            rw [← hok] at q3
            have HI : Hid (∀ w4, PsIns NoP [(.slice az Z.length cz, Z), (.slice av A.length cv, A)] w1.heap.size a len cap zs p' (w1.heap.size + 1) A n m w Z w4 → (ok = true → PlIns w1.heap.size a len cap zs (w1.heap.size + 1) w p' i (.slice av A.length cv) (.slice az Z.length cz) A Z (mkZ (A ++ Z)) w4) ∧ (ok = false → PlIns w1.heap.size a len cap zs (w1.heap.size + 1) w p' i (.slice av A.length cv) (.slice az Z.length cz) A Z A w4)) := fun w4 h4 =>
              ⟨fun e => ⟨_, _, h4.1 (by rw [← hok]; exact e), by omega⟩, fun e => ⟨_, _, h4.2 (by rw [← hok]; exact e), by omega⟩⟩
            have HK : Hid (ok = okZ (A ++ Z)) := hok
            have HZ : Hid (∀ e ∈ Z, inI e.2 = true) := fun e he => (z2 e he).1
            clear z1 z2 z3 z4 z5 hP3 hok
            go_wp2_with fail
            refine q3.mono ?_
            rintro e w4 ⟨rfl, h4⟩
            have hI := HI.out w4 h4
            clear q3 HI h4
            cases ok
            · obtain ⟨n4, m4, h4, h4m⟩ := hI.2 rfl
              have hc : (107 : Int) = if okZ (A ++ Z) then 0 else 107 := by rw [← HK.out]; rfl
              have q4 := psAdd fr_no _ _ a len cap zs p' _ _ n4 m4 w w4 h4 (.slice av A.length cv) (.slice az Z.length cz) A Z (by simp) (by simp) GA.out HZ.out (by omega) 107 hc
              clear hI hc h4
              rw [ovE_f, errV_ne]
              go_wp2_with fail
              refine q4.mono ?_
              rintro e w5 ⟨v5, rfl, h5⟩
              obtain ⟨a5, c5, e5⟩ := (h5.ents (x := (v5, mkZ (A ++ Z))) (by simp)).form
              simp only at e5
              have q5 : Hid (Calls Tryz.prog 9 #[.iface 172 (.pointer (some (ad 6))), .int .i64 107] w5 fun e w' => e = .returned (.bool true) ∧ Below w5.heap.size w5 w') := isOver6 ad false w5 (HE.out.on h5.below)
              have H5 : Hid (PS NoP [(.slice av A.length cv, A)] w1.heap.size a len cap zs p' (w1.heap.size + 1) A n4 m4 w w5) := h5.sub (fun x hx => by simp at hx ⊢; simp [hx])
              have HAL : Hid (A.length ≤ 5 * i + 5) := by show _ ≤ _; omega
              clear q4 h5
              generalize (mkZ (A ++ Z)).length = l5 at *
              subst e5
              go_wp2_with fail
              refine q5.out.mono ?_
              rintro e w6 ⟨rfl, hb6⟩
              have H6 : Hid (PS NoP [(.slice av A.length cv, A)] w1.heap.size a len cap zs p' (w1.heap.size + 1) A n4 m4 w w6) := H5.out.on fr_no hb6
              clear q5 H5 hb6
              have x1 := X0.out w6 H6.out.below
              generalize zs2.getD i 0 = zi at *
              obtain ⟨tt, htt⟩ : ∃ tt, zi.tmod 30 = tt := ⟨_, rfl⟩
              have t1 : -29 ≤ tt := by have := Int.tmod_lt_of_pos (-zi) (show (0 : Int) < 30 by omega); rw [Int.neg_tmod] at this; omega
              have t2 : tt ≤ 29 := by have := Int.tmod_lt_of_pos zi (show (0 : Int) < 30 by omega); omega
              have q7 := psWork fr_no _ _ a len cap zs p' _ A n4 m4 w w6 H6.out (tt - 3) (by omega) (by omega)
              clear H6 X0
              go_wp2_with fail
              refine q7.mono ?_
              rintro e w7 ⟨kk, n7, m7, rfl, h7, k0, k2, k3, k4, _, _⟩
              have j1 : ¬ kk < 0 := by omega
              have H7 : Hid (PS NoP [((.slice av A.length cv), A)] w1.heap.size a len cap zs p' (w1.heap.size + 1) A n7 m7 w w7) := h7
              obtain ⟨U, hU⟩ : ∃ U, U = w7.alloc (.cells #[.int .i64 1, .int .i64 3] 3) := ⟨_, rfl⟩
              have bU : Below w7.heap.size w7 U := by rw [hU]; exact one_box
              have hCU : ColsAt w7.heap.size [1, 3] U := by rw [hU]; exact cols_xy w7 1 3
              have hSl7 := h7.seq.2.2.2.1
              have q8 := makeRow w1.heap.size a len cap zs p' w7.heap.size 2 2 [1, 3] U (h7.seq.on bU) (by omega) hCU (by omega) (by simp) HKS.out
              have HU : Hid (w7.alloc (.cells #[.int .i64 1, .int .i64 3] 3) = U) := hU.symm
              have BU : Hid (Below w7.heap.size w7 U) := bU
              have j2 : ¬ max (tt - 3) 0 < kk := by omega
              clear q7 h7 hU bU hCU x1
              go_wp2_with fail
              rw [HU.out]
              refine q8.mono ?_
              rintro e w8 ⟨v8, rfl, r8, p8, r1, r2, r3, r4, r5, r6, _⟩
              have hR : RowIs w8 v8 r8 := RowIs.of_own (base := U.heap.size) (by rw [r1]; exact r3)
              have h8 : PS NoP [((.slice av A.length cv), A)] w1.heap.size a len cap zs p8 (w1.heap.size + 1) A n7 m7 w w8 := H7.out.seqd fr_no BU.out r6 r5
              obtain ⟨a8, c8, e8⟩ := hR.form
              have q9 := psAll _ _ a len cap zs p8 _ A n7 m7 w w8 (ad 6) h8 HO.out (by omega)
              have H8 : Hid (PS NoP [((.slice av A.length cv), A)] w1.heap.size a len cap zs p8 (w1.heap.size + 1) A n7 m7 w w8) := h8
              have HR : Hid (RowIs w8 v8 r8) := hR
              have hp8 : p8 ≤ 200 * (i + 1) := by omega
              clear q8 h8 hR r1 r2 r3 r4 r5 r6 H7
              rw [e8] at HR
              generalize r8.length = rl at *
              subst e8
              go_wp2_with fail
              refine q9.mono ?_
              rintro e w9 ⟨v9, rfl, h9, hb9⟩
              obtain ⟨a9, c9, e9⟩ := h9.ents.form
              have qa := sameEnts6 A v9 (.slice av A.length cv) w9 h9.ents ((H8.out.on fr_no hb9).ents (x := ((.slice av A.length cv), A)) (List.mem_singleton.2 rfl))
              have B9 : Hid (Below w8.heap.size w8 w9) := hb9
              clear q9 h9 hb9
              subst e9
              go_wp2_with fail
              refine qa.mono ?_
              rintro e wa ⟨rfl, hba⟩
              have Ba : Hid (Below w8.heap.size w8 wa) := B9.out.trans (hba.mono B9.out.size)
              have qb := psGet _ _ a len cap zs p8 _ A n7 m7 w wa (H8.out.on fr_no Ba.out) r8 _ (HR.out.on Ba.out)
              clear qa hba B9
              go_wp2_with fail
              refine qb.mono ?_
              rintro e wb ⟨rfl, hbb⟩
              have Bb : Hid (Below w8.heap.size w8 wb) := Ba.out.trans (hbb.mono Ba.out.size)
              have qc := refGet A r8 (.slice av A.length cv) _ wb ((H8.out.on fr_no Bb.out).ents (x := ((.slice av A.length cv), A)) (List.mem_singleton.2 rfl)) (HR.out.on Bb.out)
              rw [gt_wt H8.out.le.2.2.2.1] at qc
              clear qb hbb Ba
              generalize wt r8 A = wg at *
              go_wp2_with fail
              refine qc.mono ?_
              rintro e wc ⟨rfl, hbc⟩
              have Bc : Hid (Below w8.heap.size w8 wc) := Bb.out.trans (hbc.mono Bb.out.size)
              have qd := psRows _ _ a len cap zs p8 _ A n7 m7 w wc (ad 6) (H8.out.on fr_no Bc.out) HO.out (by omega)
              clear qc hbc Bb
              go_wp2_with fail
              refine qd.mono ?_
              rintro e wd ⟨rfl, hbd⟩
              have Bd : Hid (Below w8.heap.size w8 wd) := Bc.out.trans (hbd.mono Bc.out.size)
              have h10 := H8.out.on fr_no Bd.out
              have qe := psBatches _ _ a len cap zs p8 _ A n7 m7 w wd h10
              have HF : Hid (PlTo w1.heap.size a len cap zs (w1.heap.size + 1) w (i + 1) (.slice av A.length cv) wd) := ⟨p8, A, n7, m7, h10, hp8, by omega, by have := HAL.out; omega⟩
              have hpos : 0 < A.length → 1 ≤ n7 := fun h => h10.le.2.1 (fun e => by rw [e] at h; simp at h)
              have qe' : Hid (Calls Tryz.prog 17 #[.pointer (some ⟨w1.heap.size + 1, 0, none⟩)] wd fun e w' => e = .returned (.int .i64 n7) ∧ w' = wd) := qe
              clear qd hbd Bc h10
              by_cases hA0 : 0 < A.length
              · have n1 := hpos hA0
                have K1 : (0 : Int) < (A.length : Int) := by omega
                have K2 : ¬ (n7 : Int) < 1 := by omega
                clear hpos
                go_wp2_with fail
                refine qe.mono ?_
                rintro e we ⟨rfl, rfl⟩
                clear qe
                go_wp2_with fail
                refine qe'.out.mono ?_
                rintro e wf ⟨rfl, rfl⟩
                clear qe'
                go_wp2_with fail
                go_roundw
                case rel => exact ⟨i + 1, by go_num, by omega, HF⟩
                case measure => simp [intOf]; omega
              · have K1 : ¬ (0 : Int) < (A.length : Int) := by omega
                clear hpos
                go_wp2_with fail
                refine qe.mono ?_
                rintro e we ⟨rfl, rfl⟩
                clear qe qe'
                go_wp2_with fail
                go_roundw
                case rel => exact ⟨i + 1, by go_num, by omega, HF⟩
                case measure => simp [intOf]; omega
            · obtain ⟨n4, m4, h4, h4m⟩ := hI.1 rfl
              have hc : (0 : Int) = if okZ (A ++ Z) then 0 else 107 := by rw [← HK.out]; rfl
              have q4 := psAdd fr_no _ _ a len cap zs p' _ _ n4 m4 w w4 h4 (.slice av A.length cv) (.slice az Z.length cz) A Z (by simp) (by simp) GA.out HZ.out (by omega) 0 hc
              have hlen := mkZ_len (A ++ Z)
              rw [List.length_append] at hlen
              clear hI hc h4
              rw [ovE_t]
              go_wp2_with fail
              refine q4.mono ?_
              rintro e w5 ⟨v5, rfl, h5⟩
              obtain ⟨a5, c5, e5⟩ := (h5.ents (x := (v5, mkZ (A ++ Z))) (by simp)).form
              simp only at e5
              subst e5
              have q5 : Hid (Calls Tryz.prog 9 #[.nilIface, .int .i64 0] w5 fun e w' => e = .returned (.bool true) ∧ Below w5.heap.size w5 w') := isOver6 ad true w5 (HE.out.on h5.below)
              have H5 : Hid (PS NoP [(.slice a5 (mkZ (A ++ Z)).length c5, mkZ (A ++ Z))] w1.heap.size a len cap zs p' (w1.heap.size + 1) (mkZ (A ++ Z)) n4 m4 w w5) := h5.sub (fun x hx => by rw [List.mem_singleton.1 hx]; simp)
              have HAL : Hid ((mkZ (A ++ Z)).length ≤ 5 * i + 5) := by show _ ≤ _; omega
              clear q4 h5 hlen
              generalize mkZ (A ++ Z) = A4 at *
              go_wp2_with fail
              refine q5.out.mono ?_
              rintro e w6 ⟨rfl, hb6⟩
              have H6 : Hid (PS NoP [(.slice a5 A4.length c5, A4)] w1.heap.size a len cap zs p' (w1.heap.size + 1) A4 n4 m4 w w6) := H5.out.on fr_no hb6
              clear q5 H5 hb6
              have x1 := X0.out w6 H6.out.below
              generalize zs2.getD i 0 = zi at *
              obtain ⟨tt, htt⟩ : ∃ tt, zi.tmod 30 = tt := ⟨_, rfl⟩
              have t1 : -29 ≤ tt := by have := Int.tmod_lt_of_pos (-zi) (show (0 : Int) < 30 by omega); rw [Int.neg_tmod] at this; omega
              have t2 : tt ≤ 29 := by have := Int.tmod_lt_of_pos zi (show (0 : Int) < 30 by omega); omega
              have q7 := psWork fr_no _ _ a len cap zs p' _ A4 n4 m4 w w6 H6.out (tt - 3) (by omega) (by omega)
              clear H6 X0
              go_wp2_with fail
              refine q7.mono ?_
              rintro e w7 ⟨kk, n7, m7, rfl, h7, k0, k2, k3, k4, _, _⟩
              have j1 : ¬ kk < 0 := by omega
              have H7 : Hid (PS NoP [((.slice a5 A4.length c5), A4)] w1.heap.size a len cap zs p' (w1.heap.size + 1) A4 n7 m7 w w7) := h7
              obtain ⟨U, hU⟩ : ∃ U, U = w7.alloc (.cells #[.int .i64 1, .int .i64 3] 3) := ⟨_, rfl⟩
              have bU : Below w7.heap.size w7 U := by rw [hU]; exact one_box
              have hCU : ColsAt w7.heap.size [1, 3] U := by rw [hU]; exact cols_xy w7 1 3
              have hSl7 := h7.seq.2.2.2.1
              have q8 := makeRow w1.heap.size a len cap zs p' w7.heap.size 2 2 [1, 3] U (h7.seq.on bU) (by omega) hCU (by omega) (by simp) HKS.out
              have HU : Hid (w7.alloc (.cells #[.int .i64 1, .int .i64 3] 3) = U) := hU.symm
              have BU : Hid (Below w7.heap.size w7 U) := bU
              have j2 : ¬ max (tt - 3) 0 < kk := by omega
              clear q7 h7 hU bU hCU x1
              go_wp2_with fail
              rw [HU.out]
              refine q8.mono ?_
              rintro e w8 ⟨v8, rfl, r8, p8, r1, r2, r3, r4, r5, r6, _⟩
              have hR : RowIs w8 v8 r8 := RowIs.of_own (base := U.heap.size) (by rw [r1]; exact r3)
              have h8 : PS NoP [((.slice a5 A4.length c5), A4)] w1.heap.size a len cap zs p8 (w1.heap.size + 1) A4 n7 m7 w w8 := H7.out.seqd fr_no BU.out r6 r5
              obtain ⟨a8, c8, e8⟩ := hR.form
              have q9 := psAll _ _ a len cap zs p8 _ A4 n7 m7 w w8 (ad 6) h8 HO.out (by omega)
              have H8 : Hid (PS NoP [((.slice a5 A4.length c5), A4)] w1.heap.size a len cap zs p8 (w1.heap.size + 1) A4 n7 m7 w w8) := h8
              have HR : Hid (RowIs w8 v8 r8) := hR
              have hp8 : p8 ≤ 200 * (i + 1) := by omega
              clear q8 h8 hR r1 r2 r3 r4 r5 r6 H7
              rw [e8] at HR
              generalize r8.length = rl at *
              subst e8
              go_wp2_with fail
              refine q9.mono ?_
              rintro e w9 ⟨v9, rfl, h9, hb9⟩
              obtain ⟨a9, c9, e9⟩ := h9.ents.form
              have qa := sameEnts6 A4 v9 (.slice a5 A4.length c5) w9 h9.ents ((H8.out.on fr_no hb9).ents (x := ((.slice a5 A4.length c5), A4)) (List.mem_singleton.2 rfl))
              have B9 : Hid (Below w8.heap.size w8 w9) := hb9
              clear q9 h9 hb9
              subst e9
              go_wp2_with fail
              refine qa.mono ?_
              rintro e wa ⟨rfl, hba⟩
              have Ba : Hid (Below w8.heap.size w8 wa) := B9.out.trans (hba.mono B9.out.size)
              have qb := psGet _ _ a len cap zs p8 _ A4 n7 m7 w wa (H8.out.on fr_no Ba.out) r8 _ (HR.out.on Ba.out)
              clear qa hba B9
              go_wp2_with fail
              refine qb.mono ?_
              rintro e wb ⟨rfl, hbb⟩
              have Bb : Hid (Below w8.heap.size w8 wb) := Ba.out.trans (hbb.mono Ba.out.size)
              have qc := refGet A4 r8 (.slice a5 A4.length c5) _ wb ((H8.out.on fr_no Bb.out).ents (x := ((.slice a5 A4.length c5), A4)) (List.mem_singleton.2 rfl)) (HR.out.on Bb.out)
              rw [gt_wt H8.out.le.2.2.2.1] at qc
              clear qb hbb Ba
              generalize wt r8 A4 = wg at *
              go_wp2_with fail
              refine qc.mono ?_
              rintro e wc ⟨rfl, hbc⟩
              have Bc : Hid (Below w8.heap.size w8 wc) := Bb.out.trans (hbc.mono Bb.out.size)
              have qd := psRows _ _ a len cap zs p8 _ A4 n7 m7 w wc (ad 6) (H8.out.on fr_no Bc.out) HO.out (by omega)
              clear qc hbc Bb
              go_wp2_with fail
              refine qd.mono ?_
              rintro e wd ⟨rfl, hbd⟩
              have Bd : Hid (Below w8.heap.size w8 wd) := Bc.out.trans (hbd.mono Bc.out.size)
              have h10 := H8.out.on fr_no Bd.out
              have qe := psBatches _ _ a len cap zs p8 _ A4 n7 m7 w wd h10
              have HF : Hid (PlTo w1.heap.size a len cap zs (w1.heap.size + 1) w (i + 1) (.slice a5 A4.length c5) wd) := ⟨p8, A4, n7, m7, h10, hp8, by omega, by have := HAL.out; omega⟩
              have hpos : 0 < A4.length → 1 ≤ n7 := fun h => h10.le.2.1 (fun e => by rw [e] at h; simp at h)
              have qe' : Hid (Calls Tryz.prog 17 #[.pointer (some ⟨w1.heap.size + 1, 0, none⟩)] wd fun e w' => e = .returned (.int .i64 n7) ∧ w' = wd) := qe
              clear qd hbd Bc h10
              by_cases hA0 : 0 < A4.length
              · have n1 := hpos hA0
                have K1 : (0 : Int) < (A4.length : Int) := by omega
                have K2 : ¬ (n7 : Int) < 1 := by omega
                clear hpos
                go_wp2_with fail
                refine qe.mono ?_
                rintro e we ⟨rfl, rfl⟩
                clear qe
                go_wp2_with fail
                refine qe'.out.mono ?_
                rintro e wf ⟨rfl, rfl⟩
                clear qe'
                go_wp2_with fail
                go_roundw
                case rel => exact ⟨i + 1, by go_num, by omega, HF⟩
                case measure => simp [intOf]; omega
              · have K1 : ¬ (0 : Int) < (A4.length : Int) := by omega
                clear hpos
                go_wp2_with fail
                refine qe.mono ?_
                rintro e we ⟨rfl, rfl⟩
                clear qe qe'
                go_wp2_with fail
                go_roundw
                case rel => exact ⟨i + 1, by go_num, by omega, HF⟩
                case measure => simp [intOf]; omega
          · go_wp2_with fail
            rw [HW.out]
            refine q2.mono ?_
            rintro e w2 ⟨vy, Zy, rfl, ⟨py, y1, y2, y3, y4, y5, y6, y7⟩, y8, y9⟩
            have hP2 := (G1.out.made fr_no BW.out y7 y4 y6).sub (L' := [(.slice av A.length cv, A)]) (fun x hx => List.mem_cons_of_mem _ hx)
            obtain ⟨V, hV⟩ : ∃ V, V = w2.alloc (.cells #[.int .i64 1, .int .i64 3] 3) := ⟨_, rfl⟩
            have bV : Below w2.heap.size w2 V := by rw [hV]; exact one_box
            have hC : ColsAt w2.heap.size [1, 3] V := by rw [hV]; exact cols_xy w2 1 3
            have hSl2 := hP2.seq.2.2.2.1
            have q2' := makeWide w1.heap.size a len cap zs py w2.heap.size 2 2 [1, 3] 5 V (hP2.seq.on bV) (by omega) (by omega) hC (by omega) (by omega) (by simp) HKS.out
            have HV : Hid (w2.alloc (.cells #[.int .i64 1, .int .i64 3] 3) = V) := hV.symm
            have G2 : Hid (PS NoP [(.slice av A.length cv, A)] w1.heap.size a len cap zs py (w1.heap.size + 1) A n m w w2) := hP2
            have BV : Hid (Below w2.heap.size w2 V) := bV
            obtain ⟨ay, cy, ey⟩ := y4.ents.form
            clear q2 y1 y2 y3 y4 y6 y7 y8 y9 G1 hV bV hC hP2
            generalize Zy.length = zyl at *
            subst ey
            go_wp2_with fail
            rw [HV.out]
            refine q2'.mono ?_
            rintro e w3 ⟨vz, Z, rfl, ⟨p', z1, z2, z3, z4, z5, z6, z7⟩, z9⟩
            have hP3 := G2.out.made fr_no BV.out z7 z4 z6
            have hp' : p' ≤ 200 * i + 102 := by omega
            clear q2' z6 z7 z9 G2
            obtain ⟨az, cz, ez⟩ := z4.ents.form
            subst ez
            have hzl : Z.length ≤ 5 := z3
            obtain ⟨ok, hok⟩ : ∃ ok, ok = okZ (A ++ Z) := ⟨_, rfl⟩
            have q3 := psInsert fr_no _ _ a len cap zs p' _ A n m w w3 (ad 6) hP3 HO.out _ Z z1 z2 z4.ents (by omega)
            rw [← hok] at q3
            have HI : Hid (∀ w4, PsIns NoP [(.slice az Z.length cz, Z), (.slice av A.length cv, A)] w1.heap.size a len cap zs p' (w1.heap.size + 1) A n m w Z w4 → (ok = true → PlIns w1.heap.size a len cap zs (w1.heap.size + 1) w p' i (.slice av A.length cv) (.slice az Z.length cz) A Z (mkZ (A ++ Z)) w4) ∧ (ok = false → PlIns w1.heap.size a len cap zs (w1.heap.size + 1) w p' i (.slice av A.length cv) (.slice az Z.length cz) A Z A w4)) := fun w4 h4 =>
              ⟨fun e => ⟨_, _, h4.1 (by rw [← hok]; exact e), by omega⟩, fun e => ⟨_, _, h4.2 (by rw [← hok]; exact e), by omega⟩⟩
            have HK : Hid (ok = okZ (A ++ Z)) := hok
            have HZ : Hid (∀ e ∈ Z, inI e.2 = true) := fun e he => (z2 e he).1
            clear z1 z2 z3 z4 z5 hP3 hok
            go_wp2_with fail
            refine q3.mono ?_
            rintro e w4 ⟨rfl, h4⟩
            have hI := HI.out w4 h4
            clear q3 HI h4
            cases ok
            · obtain ⟨n4, m4, h4, h4m⟩ := hI.2 rfl
              have hc : (107 : Int) = if okZ (A ++ Z) then 0 else 107 := by rw [← HK.out]; rfl
              have q4 := psAdd fr_no _ _ a len cap zs p' _ _ n4 m4 w w4 h4 (.slice av A.length cv) (.slice az Z.length cz) A Z (by simp) (by simp) GA.out HZ.out (by omega) 107 hc
              clear hI hc h4
              rw [ovE_f, errV_ne]
              go_wp2_with fail
              refine q4.mono ?_
              rintro e w5 ⟨v5, rfl, h5⟩
              obtain ⟨a5, c5, e5⟩ := (h5.ents (x := (v5, mkZ (A ++ Z))) (by simp)).form
              simp only at e5
              have q5 : Hid (Calls Tryz.prog 9 #[.iface 172 (.pointer (some (ad 6))), .int .i64 107] w5 fun e w' => e = .returned (.bool true) ∧ Below w5.heap.size w5 w') := isOver6 ad false w5 (HE.out.on h5.below)
              have H5 : Hid (PS NoP [(.slice av A.length cv, A)] w1.heap.size a len cap zs p' (w1.heap.size + 1) A n4 m4 w w5) := h5.sub (fun x hx => by simp at hx ⊢; simp [hx])
              have HAL : Hid (A.length ≤ 5 * i + 5) := by show _ ≤ _; omega
              clear q4 h5
              generalize (mkZ (A ++ Z)).length = l5 at *
              subst e5
              go_wp2_with fail
              refine q5.out.mono ?_
              rintro e w6 ⟨rfl, hb6⟩
              have H6 : Hid (PS NoP [(.slice av A.length cv, A)] w1.heap.size a len cap zs p' (w1.heap.size + 1) A n4 m4 w w6) := H5.out.on fr_no hb6
              clear q5 H5 hb6
              have x1 := X0.out w6 H6.out.below
              generalize zs2.getD i 0 = zi at *
              obtain ⟨tt, htt⟩ : ∃ tt, zi.tmod 30 = tt := ⟨_, rfl⟩
              have t1 : -29 ≤ tt := by have := Int.tmod_lt_of_pos (-zi) (show (0 : Int) < 30 by omega); rw [Int.neg_tmod] at this; omega
              have t2 : tt ≤ 29 := by have := Int.tmod_lt_of_pos zi (show (0 : Int) < 30 by omega); omega
              have q7 := psWork fr_no _ _ a len cap zs p' _ A n4 m4 w w6 H6.out (tt - 3) (by omega) (by omega)
              clear H6 X0
              go_wp2_with fail
              refine q7.mono ?_
              rintro e w7 ⟨kk, n7, m7, rfl, h7, k0, k2, k3, k4, _, _⟩
              have j1 : ¬ kk < 0 := by omega
              have H7 : Hid (PS NoP [((.slice av A.length cv), A)] w1.heap.size a len cap zs p' (w1.heap.size + 1) A n7 m7 w w7) := h7
              obtain ⟨U, hU⟩ : ∃ U, U = w7.alloc (.cells #[.int .i64 1, .int .i64 3] 3) := ⟨_, rfl⟩
              have bU : Below w7.heap.size w7 U := by rw [hU]; exact one_box
              have hCU : ColsAt w7.heap.size [1, 3] U := by rw [hU]; exact cols_xy w7 1 3
              have hSl7 := h7.seq.2.2.2.1
              have q8 := makeRow w1.heap.size a len cap zs p' w7.heap.size 2 2 [1, 3] U (h7.seq.on bU) (by omega) hCU (by omega) (by simp) HKS.out
              have HU : Hid (w7.alloc (.cells #[.int .i64 1, .int .i64 3] 3) = U) := hU.symm
              have BU : Hid (Below w7.heap.size w7 U) := bU
              have j2 : ¬ max (tt - 3) 0 < kk := by omega
              clear q7 h7 hU bU hCU x1
              go_wp2_with fail
              rw [HU.out]
              refine q8.mono ?_
              rintro e w8 ⟨v8, rfl, r8, p8, r1, r2, r3, r4, r5, r6, _⟩
              have hR : RowIs w8 v8 r8 := RowIs.of_own (base := U.heap.size) (by rw [r1]; exact r3)
              have h8 : PS NoP [((.slice av A.length cv), A)] w1.heap.size a len cap zs p8 (w1.heap.size + 1) A n7 m7 w w8 := H7.out.seqd fr_no BU.out r6 r5
              obtain ⟨a8, c8, e8⟩ := hR.form
              have q9 := psAll _ _ a len cap zs p8 _ A n7 m7 w w8 (ad 6) h8 HO.out (by omega)
              have H8 : Hid (PS NoP [((.slice av A.length cv), A)] w1.heap.size a len cap zs p8 (w1.heap.size + 1) A n7 m7 w w8) := h8
              have HR : Hid (RowIs w8 v8 r8) := hR
              have hp8 : p8 ≤ 200 * (i + 1) := by omega
              clear q8 h8 hR r1 r2 r3 r4 r5 r6 H7
              rw [e8] at HR
              generalize r8.length = rl at *
              subst e8
              go_wp2_with fail
              refine q9.mono ?_
              rintro e w9 ⟨v9, rfl, h9, hb9⟩
              obtain ⟨a9, c9, e9⟩ := h9.ents.form
              have qa := sameEnts6 A v9 (.slice av A.length cv) w9 h9.ents ((H8.out.on fr_no hb9).ents (x := ((.slice av A.length cv), A)) (List.mem_singleton.2 rfl))
              have B9 : Hid (Below w8.heap.size w8 w9) := hb9
              clear q9 h9 hb9
              subst e9
              go_wp2_with fail
              refine qa.mono ?_
              rintro e wa ⟨rfl, hba⟩
              have Ba : Hid (Below w8.heap.size w8 wa) := B9.out.trans (hba.mono B9.out.size)
              have qb := psGet _ _ a len cap zs p8 _ A n7 m7 w wa (H8.out.on fr_no Ba.out) r8 _ (HR.out.on Ba.out)
              clear qa hba B9
              go_wp2_with fail
              refine qb.mono ?_
              rintro e wb ⟨rfl, hbb⟩
              have Bb : Hid (Below w8.heap.size w8 wb) := Ba.out.trans (hbb.mono Ba.out.size)
              have qc := refGet A r8 (.slice av A.length cv) _ wb ((H8.out.on fr_no Bb.out).ents (x := ((.slice av A.length cv), A)) (List.mem_singleton.2 rfl)) (HR.out.on Bb.out)
              rw [gt_wt H8.out.le.2.2.2.1] at qc
              clear qb hbb Ba
              generalize wt r8 A = wg at *
              go_wp2_with fail
              refine qc.mono ?_
              rintro e wc ⟨rfl, hbc⟩
              have Bc : Hid (Below w8.heap.size w8 wc) := Bb.out.trans (hbc.mono Bb.out.size)
              have qd := psRows _ _ a len cap zs p8 _ A n7 m7 w wc (ad 6) (H8.out.on fr_no Bc.out) HO.out (by omega)
              clear qc hbc Bb
              go_wp2_with fail
              refine qd.mono ?_
              rintro e wd ⟨rfl, hbd⟩
              have Bd : Hid (Below w8.heap.size w8 wd) := Bc.out.trans (hbd.mono Bc.out.size)
              have h10 := H8.out.on fr_no Bd.out
              have qe := psBatches _ _ a len cap zs p8 _ A n7 m7 w wd h10
              have HF : Hid (PlTo w1.heap.size a len cap zs (w1.heap.size + 1) w (i + 1) (.slice av A.length cv) wd) := ⟨p8, A, n7, m7, h10, hp8, by omega, by have := HAL.out; omega⟩
              have hpos : 0 < A.length → 1 ≤ n7 := fun h => h10.le.2.1 (fun e => by rw [e] at h; simp at h)
              have qe' : Hid (Calls Tryz.prog 17 #[.pointer (some ⟨w1.heap.size + 1, 0, none⟩)] wd fun e w' => e = .returned (.int .i64 n7) ∧ w' = wd) := qe
              clear qd hbd Bc h10
              by_cases hA0 : 0 < A.length
              · have n1 := hpos hA0
                have K1 : (0 : Int) < (A.length : Int) := by omega
                have K2 : ¬ (n7 : Int) < 1 := by omega
                clear hpos
                go_wp2_with fail
                refine qe.mono ?_
                rintro e we ⟨rfl, rfl⟩
                clear qe
                go_wp2_with fail
                refine qe'.out.mono ?_
                rintro e wf ⟨rfl, rfl⟩
                clear qe'
                go_wp2_with fail
                go_roundw
                case rel => exact ⟨i + 1, by go_num, by omega, HF⟩
                case measure => simp [intOf]; omega
              · have K1 : ¬ (0 : Int) < (A.length : Int) := by omega
                clear hpos
                go_wp2_with fail
                refine qe.mono ?_
                rintro e we ⟨rfl, rfl⟩
                clear qe qe'
                go_wp2_with fail
                go_roundw
                case rel => exact ⟨i + 1, by go_num, by omega, HF⟩
                case measure => simp [intOf]; omega
            · obtain ⟨n4, m4, h4, h4m⟩ := hI.1 rfl
              have hc : (0 : Int) = if okZ (A ++ Z) then 0 else 107 := by rw [← HK.out]; rfl
              have q4 := psAdd fr_no _ _ a len cap zs p' _ _ n4 m4 w w4 h4 (.slice av A.length cv) (.slice az Z.length cz) A Z (by simp) (by simp) GA.out HZ.out (by omega) 0 hc
              have hlen := mkZ_len (A ++ Z)
              rw [List.length_append] at hlen
              clear hI hc h4
              rw [ovE_t]
              go_wp2_with fail
              refine q4.mono ?_
              rintro e w5 ⟨v5, rfl, h5⟩
              obtain ⟨a5, c5, e5⟩ := (h5.ents (x := (v5, mkZ (A ++ Z))) (by simp)).form
              simp only at e5
              subst e5
              have q5 : Hid (Calls Tryz.prog 9 #[.nilIface, .int .i64 0] w5 fun e w' => e = .returned (.bool true) ∧ Below w5.heap.size w5 w') := isOver6 ad true w5 (HE.out.on h5.below)
              have H5 : Hid (PS NoP [(.slice a5 (mkZ (A ++ Z)).length c5, mkZ (A ++ Z))] w1.heap.size a len cap zs p' (w1.heap.size + 1) (mkZ (A ++ Z)) n4 m4 w w5) := h5.sub (fun x hx => by rw [List.mem_singleton.1 hx]; simp)
              have HAL : Hid ((mkZ (A ++ Z)).length ≤ 5 * i + 5) := by show _ ≤ _; omega
              clear q4 h5 hlen
              generalize mkZ (A ++ Z) = A4 at *
              go_wp2_with fail
              refine q5.out.mono ?_
              rintro e w6 ⟨rfl, hb6⟩
              have H6 : Hid (PS NoP [(.slice a5 A4.length c5, A4)] w1.heap.size a len cap zs p' (w1.heap.size + 1) A4 n4 m4 w w6) := H5.out.on fr_no hb6
              clear q5 H5 hb6
              have x1 := X0.out w6 H6.out.below
              generalize zs2.getD i 0 = zi at *
              obtain ⟨tt, htt⟩ : ∃ tt, zi.tmod 30 = tt := ⟨_, rfl⟩
              have t1 : -29 ≤ tt := by have := Int.tmod_lt_of_pos (-zi) (show (0 : Int) < 30 by omega); rw [Int.neg_tmod] at this; omega
              have t2 : tt ≤ 29 := by have := Int.tmod_lt_of_pos zi (show (0 : Int) < 30 by omega); omega
              have q7 := psWork fr_no _ _ a len cap zs p' _ A4 n4 m4 w w6 H6.out (tt - 3) (by omega) (by omega)
              clear H6 X0
              go_wp2_with fail
              refine q7.mono ?_
              rintro e w7 ⟨kk, n7, m7, rfl, h7, k0, k2, k3, k4, _, _⟩
              have j1 : ¬ kk < 0 := by omega
              have H7 : Hid (PS NoP [((.slice a5 A4.length c5), A4)] w1.heap.size a len cap zs p' (w1.heap.size + 1) A4 n7 m7 w w7) := h7
              obtain ⟨U, hU⟩ : ∃ U, U = w7.alloc (.cells #[.int .i64 1, .int .i64 3] 3) := ⟨_, rfl⟩
              have bU : Below w7.heap.size w7 U := by rw [hU]; exact one_box
              have hCU : ColsAt w7.heap.size [1, 3] U := by rw [hU]; exact cols_xy w7 1 3
              have hSl7 := h7.seq.2.2.2.1
              have q8 := makeRow w1.heap.size a len cap zs p' w7.heap.size 2 2 [1, 3] U (h7.seq.on bU) (by omega) hCU (by omega) (by simp) HKS.out
              have HU : Hid (w7.alloc (.cells #[.int .i64 1, .int .i64 3] 3) = U) := hU.symm
              have BU : Hid (Below w7.heap.size w7 U) := bU
              have j2 : ¬ max (tt - 3) 0 < kk := by omega
              clear q7 h7 hU bU hCU x1
              go_wp2_with fail
              rw [HU.out]
              refine q8.mono ?_
              rintro e w8 ⟨v8, rfl, r8, p8, r1, r2, r3, r4, r5, r6, _⟩
              have hR : RowIs w8 v8 r8 := RowIs.of_own (base := U.heap.size) (by rw [r1]; exact r3)
              have h8 : PS NoP [((.slice a5 A4.length c5), A4)] w1.heap.size a len cap zs p8 (w1.heap.size + 1) A4 n7 m7 w w8 := H7.out.seqd fr_no BU.out r6 r5
              obtain ⟨a8, c8, e8⟩ := hR.form
              have q9 := psAll _ _ a len cap zs p8 _ A4 n7 m7 w w8 (ad 6) h8 HO.out (by omega)
              have H8 : Hid (PS NoP [((.slice a5 A4.length c5), A4)] w1.heap.size a len cap zs p8 (w1.heap.size + 1) A4 n7 m7 w w8) := h8
              have HR : Hid (RowIs w8 v8 r8) := hR
              have hp8 : p8 ≤ 200 * (i + 1) := by omega
              clear q8 h8 hR r1 r2 r3 r4 r5 r6 H7
              rw [e8] at HR
              generalize r8.length = rl at *
              subst e8
              go_wp2_with fail
              refine q9.mono ?_
              rintro e w9 ⟨v9, rfl, h9, hb9⟩
              obtain ⟨a9, c9, e9⟩ := h9.ents.form
              have qa := sameEnts6 A4 v9 (.slice a5 A4.length c5) w9 h9.ents ((H8.out.on fr_no hb9).ents (x := ((.slice a5 A4.length c5), A4)) (List.mem_singleton.2 rfl))
              have B9 : Hid (Below w8.heap.size w8 w9) := hb9
              clear q9 h9 hb9
              subst e9
              go_wp2_with fail
              refine qa.mono ?_
              rintro e wa ⟨rfl, hba⟩
              have Ba : Hid (Below w8.heap.size w8 wa) := B9.out.trans (hba.mono B9.out.size)
              have qb := psGet _ _ a len cap zs p8 _ A4 n7 m7 w wa (H8.out.on fr_no Ba.out) r8 _ (HR.out.on Ba.out)
              clear qa hba B9
              go_wp2_with fail
              refine qb.mono ?_
              rintro e wb ⟨rfl, hbb⟩
              have Bb : Hid (Below w8.heap.size w8 wb) := Ba.out.trans (hbb.mono Ba.out.size)
              have qc := refGet A4 r8 (.slice a5 A4.length c5) _ wb ((H8.out.on fr_no Bb.out).ents (x := ((.slice a5 A4.length c5), A4)) (List.mem_singleton.2 rfl)) (HR.out.on Bb.out)
              rw [gt_wt H8.out.le.2.2.2.1] at qc
              clear qb hbb Ba
              generalize wt r8 A4 = wg at *
              go_wp2_with fail
              refine qc.mono ?_
              rintro e wc ⟨rfl, hbc⟩
              have Bc : Hid (Below w8.heap.size w8 wc) := Bb.out.trans (hbc.mono Bb.out.size)
              have qd := psRows _ _ a len cap zs p8 _ A4 n7 m7 w wc (ad 6) (H8.out.on fr_no Bc.out) HO.out (by omega)
              clear qc hbc Bb
              go_wp2_with fail
              refine qd.mono ?_
              rintro e wd ⟨rfl, hbd⟩
              have Bd : Hid (Below w8.heap.size w8 wd) := Bc.out.trans (hbd.mono Bc.out.size)
              have h10 := H8.out.on fr_no Bd.out
              have qe := psBatches _ _ a len cap zs p8 _ A4 n7 m7 w wd h10
              have HF : Hid (PlTo w1.heap.size a len cap zs (w1.heap.size + 1) w (i + 1) (.slice a5 A4.length c5) wd) := ⟨p8, A4, n7, m7, h10, hp8, by omega, by have := HAL.out; omega⟩
              have hpos : 0 < A4.length → 1 ≤ n7 := fun h => h10.le.2.1 (fun e => by rw [e] at h; simp at h)
              have qe' : Hid (Calls Tryz.prog 17 #[.pointer (some ⟨w1.heap.size + 1, 0, none⟩)] wd fun e w' => e = .returned (.int .i64 n7) ∧ w' = wd) := qe
              clear qd hbd Bc h10
              by_cases hA0 : 0 < A4.length
              · have n1 := hpos hA0
                have K1 : (0 : Int) < (A4.length : Int) := by omega
                have K2 : ¬ (n7 : Int) < 1 := by omega
                clear hpos
                go_wp2_with fail
                refine qe.mono ?_
                rintro e we ⟨rfl, rfl⟩
                clear qe
                go_wp2_with fail
                refine qe'.out.mono ?_
                rintro e wf ⟨rfl, rfl⟩
                clear qe'
                go_wp2_with fail
                go_roundw
                case rel => exact ⟨i + 1, by go_num, by omega, HF⟩
                case measure => simp [intOf]; omega
              · have K1 : ¬ (0 : Int) < (A4.length : Int) := by omega
                clear hpos
                go_wp2_with fail
                refine qe.mono ?_
                rintro e we ⟨rfl, rfl⟩
                clear qe qe'
                go_wp2_with fail
                go_roundw
                case rel => exact ⟨i + 1, by go_num, by omega, HF⟩
                case measure => simp [intOf]; omega
        · have J1 : ¬ (i : Int) < (len2 : Int) := by omega
          obtain ⟨p, A, n, m, g1, g2, g3, g4⟩ := hM.out
          have BF : Hid (Below w.heap.size w wr) := g1.below
          clear g1 hM
          go_wp2_with fail
          go_ret
          exact ⟨rfl, BF.out⟩
end Go.Proofs.YtanfjnhpdchbbaaGreatDoor
