/- The walk of the law that linear's answers are the document's. -/
import Derived.Test.YtaccinophamgmaaDoorLyPlain
import Derived.Test.YtaccinophamgmaaDoorLpCalls
namespace Go.Proofs.YtaccinophamgmaaDoor
open Go.RowKit Go.Sort
set_option maxRecDepth 100000
set_option linter.unusedVariables false

theorem ly_ord : ordOk (regOf Tryd.f3.body 18) ((0, true) :: (1, true) :: (2, true) :: (3, true) :: (5, true) :: (6, true) :: (4, false) :: (7, false) :: (8, false) :: (9, true) :: (10, true) :: (11, true) :: (12, true) :: (13, false) :: (14, true) :: (15, true) :: (16, true) :: (17, true) :: (18, false) :: (19, true) :: (20, true) :: (21, true) :: (22, true) :: (23, false) :: (24, true) :: (25, true) :: (26, true) :: (27, true) :: (28, false) :: (29, true) :: (30, true) :: (31, true) :: (32, true) :: (33, false) :: (34, true) :: (35, true) :: (36, true) :: (37, true) :: (38, false) :: (39, true) :: (40, true) :: []) = true := by kernel_rfl
theorem kinP : ∀ k ∈ ([1, 2, 3] : List Int), k = 1 ∨ k = 2 ∨ k = 3 := by simp
set_option maxHeartbeats 1000000 in
theorem ly_long (a0 : Option Addr) (len0 cap0 : Nat) (a1 : Option Addr) (len1 cap1 : Nat) (ad : Fin 11 → Addr) (w : World) (he : ErrsAt ad w) (h : 200 < (len0 : Int)) :
    Calls Tryd.prog 3 #[.slice a0 len0 cap0, .slice a1 len1 cap1] w fun e w' => e = .returned (.bool true) ∧ Below w.heap.size w w' := by
  have q := lawFirst11 _ _ w he.arov.1 he.arov.2
  clear he
  go_enter Tryd.func3, Tryd.ntmps3
  go_wp2_with fail
  refine q.mono ?_
  rintro e w1 ⟨rfl, hb1⟩
  go_wp2_with fail
  go_ret
  exact ⟨rfl, hb1⟩
set_option maxHeartbeats 1000000 in
theorem ly_wide (a0 : Option Addr) (len0 cap0 : Nat) (a1 : Option Addr) (len1 cap1 : Nat) (ad : Fin 11 → Addr) (w : World) (he : ErrsAt ad w) (h : ¬ 200 < (len0 : Int)) (h1 : 8 < (len1 : Int)) :
    Calls Tryd.prog 3 #[.slice a0 len0 cap0, .slice a1 len1 cap1] w fun e w' => e = .returned (.bool true) ∧ Below w.heap.size w w' := by
  have q := lawFirst11 _ _ w he.arov.1 he.arov.2
  clear he
  go_enter Tryd.func3, Tryd.ntmps3
  go_wp2_with fail
  refine q.mono ?_
  rintro e w1 ⟨rfl, hb1⟩
  go_wp2_with fail
  go_ret
  exact ⟨rfl, hb1⟩
set_option maxHeartbeats 16000000 in
theorem ly_main (a0 : Option Addr) (len0 cap0 : Nat) (zs0 : List Int) (a1 : Option Addr) (len1 cap1 : Nat) (zs1 : List Int) (ad : Fin 11 → Addr) (h : ¬ 200 < (len0 : Int)) (h1 : ¬ 8 < (len1 : Int)) (w : World) (he : ErrsAt ad w) (ha : IsRow .i64 w a0 len0 cap0 zs0) (hc : IsRow .i64 w a1 len1 cap1 zs1) :
    Calls Tryd.prog 3 #[.slice a0 len0 cap0, .slice a1 len1 cap1] w fun e w' => e = .returned (.bool true) ∧ Below w.heap.size w w' := by
  have Ha : Hid (IsRow .i64 w a0 len0 cap0 zs0) := ha
  have Hc : Hid (IsRow .i64 w a1 len1 cap1 zs1) := hc
  have HE : Hid (ErrsAt ad w) := he
  have q := lawFirst11 _ _ w he.arov.1 he.arov.2
  clear ha he hc
  go_enter Tryd.func3, Tryd.ntmps3
  go_wp2_with fail
  refine q.mono ?_
  rintro e w1 ⟨rfl, hb1⟩
  have B1 : Hid (Below w.heap.size w w1) := hb1
  clear q
  have HS : Hid (SeqAt w1.heap.size a0 len0 cap0 zs0 0 (w1.alloc (.cells #[.slice a0 len0 cap0, .int .i64 0] 26))) := SeqAt.make (Ha.out.below hb1) _
  clear hb1
  go_wp2_with fail
  obtain ⟨W3, hW3⟩ : ∃ W3, W3 = (w1.alloc (.cells #[.slice a0 len0 cap0, .int .i64 0] 26)).alloc (.cells #[.int .i64 1, .int .i64 2, .int .i64 3] 3) := ⟨_, rfl⟩
  rw [← hW3]
  have F3 : Hid (SeqAt w1.heap.size a0 len0 cap0 zs0 0 W3 ∧ ColsAt (w1.heap.size + 1) [1, 2, 3] W3 ∧ Below w.heap.size w W3 ∧ w1.heap.size < W3.heap.size) := by
    have c1 := cols_newP (w1.alloc (.cells #[.slice a0 len0 cap0, .int .i64 0] 26)) [1, 2, 3] 3
    rw [World.size_alloc] at c1
    rw [hW3]
    exact ⟨HS.out.on one_box, c1, B1.out.trans ((one_box.trans (one_box.mono (by simp))).mono B1.out.size), by simp; omega⟩
  clear hW3 HS
  obtain ⟨S, hS⟩ : ∃ S, S = w1.heap.size := ⟨_, rfl⟩
  have HSW : Hid (w.heap.size ≤ S) := by show w.heap.size ≤ S; rw [hS]; exact B1.out.size
  rw [← hS] at F3
  rw [← hS]
  clear hS B1
  have HC3 : Hid (∀ V, But S W3 V → IntsIs V (.slice a1 len1 cap1) (zs1.take len1)) := fun V hV => IntsIs.of_row ((Hc.out.below F3.out.2.2.1).on (fun x hx hc => Nat.lt_of_lt_of_le (Hc.out.lt x hx hc) HSW.out) F3.out.2.2.2 hV)
  have HCI : Hid ((zs1.take len1).length ≤ 8 ∧ ∀ c ∈ zs1.take len1, inI c = true) := by
    refine ⟨by rw [List.length_take]; omega, fun c hc => ?_⟩
    rcases Hc.out with ⟨_, _, _, rfl⟩ | ⟨_, _, _, _, _, _, hz⟩
    · simp at hc
    · exact inI_wf (hz c (List.mem_of_mem_take hc))
  have q4 := makeWide S a0 len0 cap0 zs0 0 (S + 1) 3 3 [1, 2, 3] 12 W3 F3.out.1 (by decide) (by decide) F3.out.2.1 (by omega) (by decide) (by simp) kinds123P
  refine q4.mono ?_
  rintro e w4 ⟨vz, z, rfl, ⟨p4, iz, ez, lz, nz, hp4, seq4, but4⟩, _⟩
  have F4 : Hid ((IsZ z ∧ EOk z ∧ z.length ≤ 12) ∧ EntsNew W3.heap.size z vz w4 ∧ p4 ≤ 200 ∧ SeqAt S a0 len0 cap0 zs0 p4 w4 ∧ But S W3 w4) := ⟨⟨iz, ez, lz⟩, nz, by omega, seq4, but4⟩
  clear q4 iz ez lz nz hp4 seq4 but4
  have q5 := makeWide S a0 len0 cap0 zs0 p4 (S + 1) 3 3 [1, 2, 3] 8 w4 F4.out.2.2.2.1 (by have := F4.out.2.2.1; omega) (by decide) (F3.out.2.1.but F4.out.2.2.2.2 (by omega)) (by omega) (by decide) (by simp) kinds123P
  go_wp2_with fail
  refine q5.mono ?_
  rintro e w5 ⟨vy, y, rfl, ⟨p5, iy, ey, ly, ny, hp5, seq5, but5⟩, _⟩
  have F5 : Hid ((IsZ y ∧ EOk y ∧ y.length ≤ 8) ∧ EntsNew W3.heap.size z vz w5 ∧ EntsNew W3.heap.size y vy w5 ∧ p5 ≤ 400 ∧ SeqAt S a0 len0 cap0 zs0 p5 w5 ∧ But S W3 w5) := by
    have f := F4.out
    have f3 := F3.out
    have hz : W3.heap.size ≤ w4.heap.size := f.2.2.2.2.size
    exact ⟨⟨iy, ey, ly⟩, f.2.1.but but5 f3.2.2.2, ny.mono hz, by have := f.2.2.1; omega, seq5, f.2.2.2.2.trans but5⟩
  clear q5 iy ey ly ny hp5 seq5 but5
  have q6 : Calls Tryd.prog 9 #[.pointer (some ⟨S, 0, none⟩), .slice (some ⟨S + 1, 0, none⟩) 3 3, .int .i64 2] w5 (PdMade S a0 len0 cap0 zs0 [1, 2, 3] 2 p5 w5) :=
    makePred S a0 len0 cap0 zs0 p5 (S + 1) 0 3 [1, 2, 3] 2 (by omega) _ F5.out.2.2.2.2.1 (by have := F5.out.2.2.2.1; omega) ((F3.out.2.1.but F5.out.2.2.2.2.2 (by omega)).ints 3 rfl (by simp [maxLen])) (by omega) (by simp) (by simp) kinP
  go_wp2_with fail
  refine q6.mono ?_
  rintro e w6 ⟨P, s6, p6, rfl, mk6, pl6, hp6, seq6, but6⟩
  obtain ⟨as6, cs6, hs6⟩ := pl6.form
  subst hs6
  unfold pv
  have h160 : (10 : Nat) * 4 ^ 2 = 160 := by decide
  have hp600 : p6 ≤ 600 := by have := F5.out.2.2.2.1; omega
  obtain ⟨W6, hW6⟩ : ∃ W, W = w6.alloc (.cells #[.int .i64 P.k, .int .i64 P.c, .int .i64 P.o, .int .i64 P.d, .int .i64 P.v.1, .int .i64 P.v.2.1, .string P.v.2.2, .slice as6 P.l.length cs6] 33) := ⟨_, rfl⟩
  have F6 : Hid (LyAt W3.heap.size w6.heap.size w P (.slice as6 P.l.length cs6) S [(z, vz), (y, vy)] W6 ∧ SeqAt S a0 len0 cap0 zs0 p6 W6 ∧ IntsIs W6 (.slice a1 len1 cap1) (zs1.take len1)) := by
    have f := F5.out
    have f3 := F3.out
    have hz : S < w6.heap.size := by have := f.2.2.2.2.2.size; have := but6.size; omega
    have hb : But S W3 W6 := by rw [hW6]; exact (f.2.2.2.2.2.trans but6).trans (But.of_below one_box)
    have b6 : Below w6.heap.size w6 W6 := by rw [hW6]; exact one_box
    refine ⟨⟨fun x hx => ?_, ?_, ?_, f3.2.2.1.trans (hb.below HSW.out f3.2.2.1.size), hb.size⟩, seq6.on b6, HC3.out _ hb⟩
    · simp only [List.mem_cons, List.not_mem_nil, or_false] at hx
      rcases hx with rfl | rfl
      · exact (f.2.1.but but6 f3.2.2.2).on b6
      · exact (f.2.2.1.but but6 f3.2.2.2).on b6
    · exact (pl6.mono (fun k hk _ => by have := f.2.2.2.2.2.size; omega)).on b6
    · rw [hW6]; exact PdBox.new w6 P _
  have HX : Hid (S < W3.heap.size ∧ S < w6.heap.size ∧ p6 ≤ 600) := ⟨F3.out.2.2.2, by have := F5.out.2.2.2.2.2.size; have := but6.size; have := F3.out.2.2.2; omega, hp600⟩
  have HZ : Hid ((IsZ z ∧ EOk z ∧ z.length ≤ 12) ∧ (IsZ y ∧ EOk y ∧ y.length ≤ 8)) := ⟨F4.out.1, F5.out.1⟩
  generalize zs1.take len1 = cols at *
  have HE6 : Hid (∀ V, Below w.heap.size w V → ErrsAt ad V) := fun V hV => HE.out.on hV
  obtain ⟨E1, hE1⟩ : ∃ E, E = prjE (ad 5) (ad 6) cols z := ⟨_, rfl⟩
  obtain ⟨C1, hC1⟩ : ∃ C, C = prjC cols z := ⟨_, rfl⟩
  obtain ⟨E2, hE2⟩ : ∃ E, E = ovE (ad 6) (okZ (z ++ y)) := ⟨_, rfl⟩
  obtain ⟨C2, hC2⟩ : ∃ C : Int, C = if okZ (z ++ y) then 0 else 107 := ⟨_, rfl⟩
  have HS1 : Hid (∀ V, ErrsAt ad V → Calls Tryd.prog 18 #[E1, .int .i64 C1] V fun e w' => e = .returned (.bool true) ∧ Below V.heap.size V w') := fun V hV => by rw [hE1, hC1]; exact seePrj ad cols z V hV
  have HS2 : Hid (∀ V, ErrsAt ad V → Calls Tryd.prog 18 #[E2, .int .i64 C2] V fun e w' => e = .returned (.bool true) ∧ Below V.heap.size V w') := fun V hV => by rw [hE2, hC2]; exact seeOver ad (z ++ y) V hV
  have HE1 : Hid (E1 = prjE (ad 5) (ad 6) cols z) := hE1
  have HC1 : Hid (C1 = prjC cols z) := hC1
  have HE2 : Hid (E2 = ovE (ad 6) (okZ (z ++ y))) := hE2
  have HC2 : Hid (C2 = if okZ (z ++ y) then 0 else 107) := hC2
  clear hE1 hC1 hE2 hC2
  have q7 := lnProject cols (.slice a1 len1 cap1) vz z (ad 5) (ad 6) W6 (HE.out.on F6.out.1.2.2.2.1).arov.1 (HE.out.on F6.out.1.2.2.2.1).arov.2 (by have := HZ.out.1.2.2; omega) HZ.out.1.2.1 (by have := HCI.out.1; omega) HCI.out.2 F6.out.2.2 (F6.out.1.at 0 rfl).ents
  rw [hW6, ← HE1.out] at q7
  clear q6 mk6 pl6 hp6 seq6 but6 F5 F4 F3 h160 hp600 HC3 Hc Ha
  go_wp2_with fail
  refine q7.mono ?_
  rw [← hW6]
  clear hW6
  generalize W3.heap.size = B at *
  generalize w6.heap.size = X at *
  rintro e w7 ⟨va, rfl, e7, b7⟩
  have F7 : Hid (LyAt B X w P (.slice as6 P.l.length cs6) S [(prjZ cols z, va), (z, vz), (y, vy)] w7 ∧ SeqAt S a0 len0 cap0 zs0 p6 w7 ∧ IntsIs w7 (.slice a1 len1 cap1) cols) := ⟨(F6.out.1.on b7).add (e7.new.mono F6.out.1.2.2.2.2), F6.out.2.1.on b7, F6.out.2.2.on b7⟩
  clear q7 e7 b7 F6
  have q8 := refProjectN cols (.slice a1 len1 cap1) vz z w7 (by have := HZ.out.1.2.2; omega) (by have := HCI.out.1; omega) (fun e he => (HZ.out.1.2.1 e he).1) F7.out.2.2 (F7.out.1.at 1 rfl).ents
  rw [← HC1.out] at q8
  go_wp2_with fail
  refine q8.mono ?_
  rintro e w8 ⟨vb, rfl, e8, b8⟩
  have F8 : Hid (LyAt B X w P (.slice as6 P.l.length cs6) S [(prjZ cols z, vb), (prjZ cols z, va), (z, vz), (y, vy)] w8 ∧ SeqAt S a0 len0 cap0 zs0 p6 w8) := ⟨(F7.out.1.on b8).add (e8.mono F7.out.1.2.2.2.2), F7.out.2.1.on b8⟩
  clear q8 e8 b8 F7
  have q9 := lnUnion z y vz vy (ad 6) w8 (HE.out.on F8.out.1.2.2.2.1).arov.2 (by have := HZ.out.1.2.2; have := HZ.out.2.2.2; omega) HZ.out.1.2.1 HZ.out.2.2.1 HZ.out.1.1.1 HZ.out.2.1.1 (F8.out.1.at 2 rfl).ents (F8.out.1.at 3 rfl).ents
  rw [← HE2.out] at q9
  go_wp2_with fail
  refine q9.mono ?_
  rintro e w9 ⟨vc, rfl, e9, b9⟩
  have F9 : Hid (LyAt B X w P (.slice as6 P.l.length cs6) S [(mkZ (z ++ y), vc), (prjZ cols z, vb), (prjZ cols z, va), (z, vz), (y, vy)] w9 ∧ SeqAt S a0 len0 cap0 zs0 p6 w9) := ⟨(F8.out.1.on b9).add (e9.new.mono F8.out.1.2.2.2.2), F8.out.2.on b9⟩
  clear q9 e9 b9 F8
  have q10 := refAddR z y vz vy w9 (above B w9) (fun _ _ h => (row_above h).1) (by have := HZ.out.1.2.2; have := HZ.out.2.2.2; omega) (fun e he => (HZ.out.1.2.1 e he).1) (fun e he => (HZ.out.2.2.1 e he).1) (F9.out.1.at 3 rfl).up (F9.out.1.at 4 rfl).up C2 HC2.out
  go_wp2_with fail
  refine q10.mono ?_
  rintro e w10 ⟨vd, rfl, e10, b10⟩
  have F10 : Hid (LyAt B X w P (.slice as6 P.l.length cs6) S [(mkZ (z ++ y), vd), (mkZ (z ++ y), vc), (prjZ cols z, vb), (prjZ cols z, va), (z, vz), (y, vy)] w10 ∧ SeqAt S a0 len0 cap0 zs0 p6 w10) := ⟨(F9.out.1.on b10).add (e10.new b10 F9.out.1.2.2.2.2), F9.out.2.on b10⟩
  clear q10 e10 b10 F9
  have q11 := next S a0 len0 cap0 zs0 p6 3 w10 F10.out.2 (by have := HX.out.2.2; omega) (by decide) (by decide)
  have HNM : Hid (inI (nm (sq zs0 len0 p6) 3) = true) := inI_iff.2 (by have := nm_bd (sq zs0 len0 p6) 3 (by decide); omega)
  obtain ⟨n, hn⟩ : ∃ n, n = nm (sq zs0 len0 p6) 3 := ⟨_, rfl⟩
  rw [← hn] at q11 HNM
  have HN : Hid (n = nm (sq zs0 len0 p6) 3) := hn
  obtain ⟨E3, hE3⟩ : ∃ E, E = prjE (ad 5) (ad 6) [n] z := ⟨_, rfl⟩
  obtain ⟨C3, hC3⟩ : ∃ C, C = prjC [n] z := ⟨_, rfl⟩
  have HS3 : Hid (∀ V, ErrsAt ad V → Calls Tryd.prog 18 #[E3, .int .i64 C3] V fun e w' => e = .returned (.bool true) ∧ Below V.heap.size V w') := fun V hV => by rw [hE3, hC3]; exact seePrj ad [n] z V hV
  have HE3 : Hid (E3 = prjE (ad 5) (ad 6) [n] z) := hE3
  have HC3 : Hid (C3 = prjC [n] z) := hC3
  clear hn hE3 hC3 HE1 HC1 HE2 HC2
  go_wp2_with fail
  refine q11.mono ?_
  rintro e w11 ⟨rfl, s11, b11⟩
  have F11 : Hid (LyAt B X w P (.slice as6 P.l.length cs6) S [(mkZ (z ++ y), vd), (mkZ (z ++ y), vc), (prjZ cols z, vb), (prjZ cols z, va), (z, vz), (y, vy)] w11 ∧ SeqAt S a0 len0 cap0 zs0 (p6 + 1) w11) := ⟨F10.out.1.but b11 HX.out.1 HX.out.2.1 HSW.out, s11⟩
  clear q11 s11 b11 F10
  obtain ⟨W11, hW11⟩ : ∃ W, W = w11.alloc (.cells #[.int .i64 n] 3) := ⟨_, rfl⟩
  have b11 : Below w11.heap.size w11 W11 := by rw [hW11]; exact one_box
  have C11 : IntsIs W11 (.slice (some ⟨w11.heap.size, 0, none⟩) 1 1) [n] := by rw [hW11]; exact (cols_newP w11 [n] 3).ints 1 rfl (by simp [maxLen])
  have F12 : Hid (LyAt B X w P (.slice as6 P.l.length cs6) S [(mkZ (z ++ y), vd), (mkZ (z ++ y), vc), (prjZ cols z, vb), (prjZ cols z, va), (z, vz), (y, vy)] W11 ∧ SeqAt S a0 len0 cap0 zs0 (p6 + 1) W11) := ⟨F11.out.1.on b11, F11.out.2.on b11⟩
  have q12 := lnProject [n] (.slice (some ⟨w11.heap.size, 0, none⟩) 1 1) vz z (ad 5) (ad 6) W11 (HE.out.on F12.out.1.2.2.2.1).arov.1 (HE.out.on F12.out.1.2.2.2.1).arov.2 (by have := HZ.out.1.2.2; omega) HZ.out.1.2.1 (by simp) (fun c hc => by rw [List.mem_singleton.1 hc]; exact HNM.out) C11 (F12.out.1.at 4 rfl).ents
  rw [hW11, ← HE3.out] at q12
  clear b11 C11 F11
  go_wp2_with fail
  refine q12.mono ?_
  rw [← hW11]
  clear hW11
  rintro e w13 ⟨vg, rfl, e13, b13⟩
  have F13 : Hid (LyAt B X w P (.slice as6 P.l.length cs6) S [(prjZ [n] z, vg), (mkZ (z ++ y), vd), (mkZ (z ++ y), vc), (prjZ cols z, vb), (prjZ cols z, va), (z, vz), (y, vy)] w13 ∧ SeqAt S a0 len0 cap0 zs0 (p6 + 1) w13) := ⟨(F12.out.1.on b13).add (e13.new.mono F12.out.1.2.2.2.2), F12.out.2.on b13⟩
  clear q12 e13 b13 F12
  have s2 := F13.out.2.2.1
  have s3 := F13.out.2.2.2.1
  have hw : wrap64 (p6 : Int) = (p6 : Int) := by have := HX.out.2.2; unfold wrap64; omega
  go_wp2_with fail
  rw [hw]
  obtain ⟨W14, hW14⟩ : ∃ W, W = w13.setCell ⟨S, 1, none⟩ (.int .i64 (p6 : Int)) := ⟨_, rfl⟩
  rw [← hW14]
  have F14 : Hid (LyAt B X w P (.slice as6 P.l.length cs6) S [(prjZ [n] z, vg), (mkZ (z ++ y), vd), (mkZ (z ++ y), vc), (prjZ cols z, vb), (prjZ cols z, va), (z, vz), (y, vy)] W14 ∧ SeqAt S a0 len0 cap0 zs0 p6 W14) := by
    rw [hW14]
    exact ⟨F13.out.1.but (But.set 1 _) HX.out.1 HX.out.2.1 HSW.out, F13.out.2.back⟩
  clear hW14 F13 s2 s3 hw
  have q15 := next S a0 len0 cap0 zs0 p6 3 W14 F14.out.2 (by have := HX.out.2.2; omega) (by decide) (by decide)
  rw [← HN.out] at q15
  go_wp2_with fail
  refine q15.mono ?_
  rintro e w15 ⟨rfl, s15, b15⟩
  have H15 : Hid (LyAt B X w P (.slice as6 P.l.length cs6) S [(prjZ [n] z, vg), (mkZ (z ++ y), vd), (mkZ (z ++ y), vc), (prjZ cols z, vb), (prjZ cols z, va), (z, vz), (y, vy)] w15) := F14.out.1.but b15 HX.out.1 HX.out.2.1 HSW.out
  clear q15 s15 b15 F14
  obtain ⟨W15, hW15⟩ : ∃ W, W = w15.alloc (.cells #[.int .i64 n] 3) := ⟨_, rfl⟩
  have b15 : Below w15.heap.size w15 W15 := by rw [hW15]; exact one_box
  have C15 : IntsIs W15 (.slice (some ⟨w15.heap.size, 0, none⟩) 1 1) [n] := by rw [hW15]; exact (cols_newP w15 [n] 3).ints 1 rfl (by simp [maxLen])
  have H16 : Hid (LyAt B X w P (.slice as6 P.l.length cs6) S [(prjZ [n] z, vg), (mkZ (z ++ y), vd), (mkZ (z ++ y), vc), (prjZ cols z, vb), (prjZ cols z, va), (z, vz), (y, vy)] W15) := H15.out.on b15
  have q16 := refProjectN [n] (.slice (some ⟨w15.heap.size, 0, none⟩) 1 1) vz z W15 (by have := HZ.out.1.2.2; omega) (by simp) (fun e he => (HZ.out.1.2.1 e he).1) C15 (H16.out.at 5 rfl).ents
  rw [hW15, ← HC3.out] at q16
  clear b15 C15 H15
  go_wp2_with fail
  refine q16.mono ?_
  rw [← hW15]
  clear hW15
  rintro e W ⟨vi, rfl, e17, b17⟩
  have H17 : Hid (LyAt B X w P (.slice as6 P.l.length cs6) S [(prjZ [n] z, vi), (prjZ [n] z, vg), (mkZ (z ++ y), vd), (mkZ (z ++ y), vc), (prjZ cols z, vb), (prjZ cols z, va), (z, vz), (y, vy)] W) := (H16.out.on b17).add (e17.mono H16.out.2.2.2.2)
  clear q16 e17 b17 H16 HE3 HC3 HN HNM HCI
  have HF1 : Hid (∀ V, Below W.heap.size W V → Calls Tryd.prog 16 #[.agg #[.int .i64 P.k, .int .i64 P.c, .int .i64 P.o, .int .i64 P.d, .int .i64 P.v.1, .int .i64 P.v.2.1, .string P.v.2.2, .slice as6 P.l.length cs6], vz] V fun e w' => ∃ v, e = .returned v ∧ EntsIs w' v (fltP P z) ∧ Below V.heap.size V w') := fun V hV => (lnFilter 2 _ P (.slice as6 P.l.length cs6) vz z V (by have := HZ.out.1.2.2; omega) HZ.out.1.2.1 (H17.out.2.1.on hV) ((H17.out.at 6 rfl).ents.on hV)).mono fun _ _ ⟨v, h1, h2, h3⟩ => ⟨v, h1, h2.ents, h3⟩
  have HF2 : Hid (∀ V, Below W.heap.size W V → Calls Tryd.prog 17 #[.agg #[.int .i64 P.k, .int .i64 P.c, .int .i64 P.o, .int .i64 P.d, .int .i64 P.v.1, .int .i64 P.v.2.1, .string P.v.2.2, .slice as6 P.l.length cs6], vz] V fun e w' => ∃ v, e = .returned v ∧ EntsIs w' v (fltP P z) ∧ Below V.heap.size V w') := fun V hV => (refFilter 2 _ P (.slice as6 P.l.length cs6) vz z V (by have := HZ.out.1.2.2; omega) (H17.out.2.1.on hV) ((H17.out.at 6 rfl).ents.on hV)).mono fun _ _ ⟨v, h1, ⟨us, h2, h3⟩, h4⟩ => ⟨v, h1, ⟨us, EntsAt.of_own h2, h3.on h4⟩, h4⟩
  have HQ : Hid (∀ V u1 u2, EntsIs V u1 (fltP P z) → EntsIs V u2 (fltP P z) → Calls Tryd.prog 15 #[u1, u2] V fun e w' => e = .returned (.bool true) ∧ Below V.heap.size V w') := fun V u1 u2 h1 h2 => by
    have q := sameEntries _ _ u1 u2 V h1 h2
    have es : sEs (fltP P z) (fltP P z) = true := by unfold sEs; simp
    rw [es] at q
    exact q
  have HQ1 : Hid (∀ V, Below W.heap.size W V → Calls Tryd.prog 15 #[va, vb] V fun e w' => e = .returned (.bool true) ∧ Below V.heap.size V w') := fun V hV => sameNew ((H17.out.at 5 rfl).on hV) ((H17.out.at 4 rfl).on hV)
  have HQ2 : Hid (∀ V, Below W.heap.size W V → Calls Tryd.prog 15 #[vc, vd] V fun e w' => e = .returned (.bool true) ∧ Below V.heap.size V w') := fun V hV => sameNew ((H17.out.at 3 rfl).on hV) ((H17.out.at 2 rfl).on hV)
  have HQ3 : Hid (∀ V, Below W.heap.size W V → Calls Tryd.prog 15 #[vg, vi] V fun e w' => e = .returned (.bool true) ∧ Below V.heap.size V w') := fun V hV => sameNew ((H17.out.at 1 rfl).on hV) ((H17.out.at 0 rfl).on hV)
  have HB : Hid (Below w.heap.size w W) := H17.out.2.2.2.1
  have HI1 : Hid (∀ V, Below W.heap.size W V → Calls Tryd.prog 18 #[E1, .int .i64 C1] V fun e w' => e = .returned (.bool true) ∧ Below V.heap.size V w') := fun V hV => HS1.out V (HE6.out V (HB.out.trans (hV.mono HB.out.size)))
  have HI2 : Hid (∀ V, Below W.heap.size W V → Calls Tryd.prog 18 #[E2, .int .i64 C2] V fun e w' => e = .returned (.bool true) ∧ Below V.heap.size V w') := fun V hV => HS2.out V (HE6.out V (HB.out.trans (hV.mono HB.out.size)))
  have HI3 : Hid (∀ V, Below W.heap.size W V → Calls Tryd.prog 18 #[E3, .int .i64 C3] V fun e w' => e = .returned (.bool true) ∧ Below V.heap.size V w') := fun V hV => HS3.out V (HE6.out V (HB.out.trans (hV.mono HB.out.size)))
  obtain ⟨⟨x0, x1, x2, x3, x4, x5, x6, x7⟩, _, _⟩ := H17.out.2.2.1
  simp only [Nat.zero_add] at x1 x2 x3 x4 x5 x6 x7
  have g0 := Ex.cell x0
  have g1 := Ex.cell x1
  have g2 := Ex.cell x2
  have g3 := Ex.cell x3
  have g4 := Ex.cell x4
  have g5 := Ex.cell x5
  have g6 := Ex.cell x6
  have g7 := Ex.cell x7
  have ne := Ex.ne W
  have B0 : Hid (Below W.heap.size W W.drew) := (Below.refl _ _).drew
  clear x0 x1 x2 x3 x4 x5 x6 x7 H17 HS1 HS2 HS3 HE6 HZ HX HSW HE
  go_wp2_with fail
  refine wp_region_ord_at (Ex W) (regOf Tryd.f3.body 18) ((0, true) :: (1, true) :: (2, true) :: (3, true) :: (5, true) :: (6, true) :: (4, false) :: (7, false) :: (8, false) :: (9, true) :: (10, true) :: (11, true) :: (12, true) :: (13, false) :: (14, true) :: (15, true) :: (16, true) :: (17, true) :: (18, false) :: (19, true) :: (20, true) :: (21, true) :: (22, true) :: (23, false) :: (24, true) :: (25, true) :: (26, true) :: (27, true) :: (28, false) :: (29, true) :: (30, true) :: (31, true) :: (32, true) :: (33, false) :: (34, true) :: (35, true) :: (36, true) :: (37, true) :: (38, false) :: (39, true) :: (40, true) :: []) (by kernel_rfl) (by kernel_rfl) ly_ord B0.out ?_
  generalize W.drew = v0 at *
  repeat (refine ord_quiet rfl ?_; go_big_quiet_step (fail); refine wpQuiet_nil ?_)
  refine ord_call rfl (by rfl) 16 rfl (enters_of Tryd.func16 (by kernel_rfl) rfl) [.agg #[.int .i64 P.k, .int .i64 P.c, .int .i64 P.o, .int .i64 P.d, .int .i64 P.v.1, .int .i64 P.v.2.1, .string P.v.2.2, .slice as6 P.l.length cs6], vz] (by rfl) _ (HF1.out v0 B0.out) ?_
  rintro e v1 ⟨u1, rfl, hu1, hb0⟩
  have B1 : Hid (Below W.heap.size W v1) := B0.out.trans (hb0.mono B0.out.size)
  clear hb0
  refine ⟨_, rfl, Ex.of B1.out, ?_⟩
  simp only [Act.put, List.setIfInBounds_toArray, List.set_cons_zero, List.set_cons_succ]
  repeat (refine ord_quiet rfl ?_; go_big_quiet_step (fail); refine wpQuiet_nil ?_)
  refine ord_call rfl (by rfl) 17 rfl (enters_of Tryd.func17 (by kernel_rfl) rfl) [.agg #[.int .i64 P.k, .int .i64 P.c, .int .i64 P.o, .int .i64 P.d, .int .i64 P.v.1, .int .i64 P.v.2.1, .string P.v.2.2, .slice as6 P.l.length cs6], vz] (by rfl) _ (HF2.out v1 B1.out) ?_
  rintro e v2 ⟨u2, rfl, hu2, hb1⟩
  have B2 : Hid (Below W.heap.size W v2) := B1.out.trans (hb1.mono B1.out.size)
  
  refine ⟨_, rfl, Ex.of B2.out, ?_⟩
  simp only [Act.put, List.setIfInBounds_toArray, List.set_cons_zero, List.set_cons_succ]
  repeat (refine ord_quiet rfl ?_; go_big_quiet_step (fail); refine wpQuiet_nil ?_)
  refine ord_call rfl (by rfl) 15 rfl (enters_of Tryd.func15 (by kernel_rfl) rfl) [u1, u2] (by rfl) _ (HQ.out v2 u1 u2 (hu1.on hb1) hu2) ?_
  rintro e v3 ⟨rfl, hb2⟩
  have B3 : Hid (Below W.heap.size W v3) := B2.out.trans (hb2.mono B2.out.size)
  clear hu1 hu2 hb1 hb2
  refine ⟨_, rfl, Ex.of B3.out, ?_⟩
  simp only [Act.put, List.setIfInBounds_toArray, List.set_cons_zero, List.set_cons_succ]
  repeat (refine ord_quiet rfl ?_; go_big_quiet_step (fail); refine wpQuiet_nil ?_)
  refine ord_call rfl (by rfl) 15 rfl (enters_of Tryd.func15 (by kernel_rfl) rfl) [va, vb] (by rfl) _ (HQ1.out v3 B3.out) ?_
  rintro e v4 ⟨rfl, hb3⟩
  have B4 : Hid (Below W.heap.size W v4) := B3.out.trans (hb3.mono B3.out.size)
  clear hb3
  refine ⟨_, rfl, Ex.of B4.out, ?_⟩
  simp only [Act.put, List.setIfInBounds_toArray, List.set_cons_zero, List.set_cons_succ]
  repeat (refine ord_quiet rfl ?_; go_big_quiet_step (fail); refine wpQuiet_nil ?_)
  refine ord_call rfl (by rfl) 18 rfl (enters_of Tryd.func18 (by kernel_rfl) rfl) [E1, .int .i64 C1] (by rfl) _ (HI1.out v4 B4.out) ?_
  rintro e v5 ⟨rfl, hb4⟩
  have B5 : Hid (Below W.heap.size W v5) := B4.out.trans (hb4.mono B4.out.size)
  clear hb4
  refine ⟨_, rfl, Ex.of B5.out, ?_⟩
  simp only [Act.put, List.setIfInBounds_toArray, List.set_cons_zero, List.set_cons_succ]
  repeat (refine ord_quiet rfl ?_; go_big_quiet_step (fail); refine wpQuiet_nil ?_)
  refine ord_call rfl (by rfl) 15 rfl (enters_of Tryd.func15 (by kernel_rfl) rfl) [vc, vd] (by rfl) _ (HQ2.out v5 B5.out) ?_
  rintro e v6 ⟨rfl, hb5⟩
  have B6 : Hid (Below W.heap.size W v6) := B5.out.trans (hb5.mono B5.out.size)
  clear hb5
  refine ⟨_, rfl, Ex.of B6.out, ?_⟩
  simp only [Act.put, List.setIfInBounds_toArray, List.set_cons_zero, List.set_cons_succ]
  repeat (refine ord_quiet rfl ?_; go_big_quiet_step (fail); refine wpQuiet_nil ?_)
  refine ord_call rfl (by rfl) 18 rfl (enters_of Tryd.func18 (by kernel_rfl) rfl) [E2, .int .i64 C2] (by rfl) _ (HI2.out v6 B6.out) ?_
  rintro e v7 ⟨rfl, hb6⟩
  have B7 : Hid (Below W.heap.size W v7) := B6.out.trans (hb6.mono B6.out.size)
  clear hb6
  refine ⟨_, rfl, Ex.of B7.out, ?_⟩
  simp only [Act.put, List.setIfInBounds_toArray, List.set_cons_zero, List.set_cons_succ]
  repeat (refine ord_quiet rfl ?_; go_big_quiet_step (fail); refine wpQuiet_nil ?_)
  refine ord_call rfl (by rfl) 15 rfl (enters_of Tryd.func15 (by kernel_rfl) rfl) [vg, vi] (by rfl) _ (HQ3.out v7 B7.out) ?_
  rintro e v8 ⟨rfl, hb7⟩
  have B8 : Hid (Below W.heap.size W v8) := B7.out.trans (hb7.mono B7.out.size)
  clear hb7
  refine ⟨_, rfl, Ex.of B8.out, ?_⟩
  simp only [Act.put, List.setIfInBounds_toArray, List.set_cons_zero, List.set_cons_succ]
  repeat (refine ord_quiet rfl ?_; go_big_quiet_step (fail); refine wpQuiet_nil ?_)
  refine ord_call rfl (by rfl) 18 rfl (enters_of Tryd.func18 (by kernel_rfl) rfl) [E3, .int .i64 C3] (by rfl) _ (HI3.out v8 B8.out) ?_
  rintro e v9 ⟨rfl, hb8⟩
  have B9 : Hid (Below W.heap.size W v9) := B8.out.trans (hb8.mono B8.out.size)
  clear hb8
  refine ⟨_, rfl, Ex.of B9.out, ?_⟩
  simp only [Act.put, List.setIfInBounds_toArray, List.set_cons_zero, List.set_cons_succ]
  repeat (refine ord_quiet rfl ?_; go_big_quiet_step (fail); refine wpQuiet_nil ?_)
  refine ord_end ?_
  go_wp2_with fail
  go_ret
  exact ⟨rfl, HB.out.trans (B9.out.mono HB.out.size)⟩
theorem linearSays_walk (a0 : Option Addr) (len0 cap0 : Nat) (zs0 : List Int) (a1 : Option Addr) (len1 cap1 : Nat) (zs1 : List Int) (w : World) (he : ∃ ad, ErrsAt ad w) (ha : IsRow .i64 w a0 len0 cap0 zs0) (hc : IsRow .i64 w a1 len1 cap1 zs1) :
    Calls Tryd.prog 3 #[.slice a0 len0 cap0, .slice a1 len1 cap1] w fun e w' => e = .returned (.bool true) ∧ Below w.heap.size w w' := by
  obtain ⟨ad, he⟩ := he
  by_cases h : 200 < (len0 : Int)
  · exact ly_long a0 len0 cap0 a1 len1 cap1 ad w he h
  · by_cases h1 : 8 < (len1 : Int)
    · exact ly_wide a0 len0 cap0 a1 len1 cap1 ad w he h h1
    · exact ly_main a0 len0 cap0 zs0 a1 len1 cap1 zs1 ad h h1 w he ha hc
end Go.Proofs.YtaccinophamgmaaDoor
