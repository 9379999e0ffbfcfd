/- The walk of the law that two together have what either has. -/
import Derived.Test.YtmpochhcokmaiaaOsPlain
import Derived.Test.YtmpochhcokmaiaaOnceFirst
import Derived.Test.YtmpochhcokmaiaaSetAt
import Derived.Test.YtmpochhcokmaiaaOrd
namespace Go.Proofs.Ytmpochhcokmaiaa
open Go.RowKit Go.Sort
set_option maxRecDepth 100000
set_option linter.unusedVariables false

theorem os_ord : ordOk (regOf Try.f3.body 14) ((0, true) :: (1, true) :: (2, true) :: (3, true) :: (4, true) :: (5, true) :: (7, true) :: (8, true) :: (9, true) :: (10, true) :: (11, true) :: (12, true) :: (6, false) :: (13, false) :: (14, true) :: (15, true) :: (16, true) :: (17, true) :: (18, true) :: (19, true) :: (20, true) :: (21, true) :: (22, true) :: (23, true) :: []) = true := by kernel_rfl
set_option maxHeartbeats 1000000 in
theorem os_long (a : Option Addr) (len cap : Nat) (w : World) (h : 150 < (len : Int)) :
    Calls Try.prog 3 #[.slice a len cap] w fun e w' => e = .returned (.bool true) ∧ Below w.heap.size w w' := by
  have q := lawFirst13 w
  go_enter Try.func3, Try.ntmps3
  go_wp2_with fail
  refine q.mono ?_
  rintro e w1 ⟨rfl, hb1⟩
  go_wp2_with fail
  go_ret
  exact ⟨rfl, hb1⟩
set_option maxHeartbeats 16000000 in
theorem os_main (a : Option Addr) (len cap : Nat) (zs : List Int) (h : ¬ 150 < (len : Int)) (w : World) (ha : IsRow .i64 w a len cap zs) :
    Calls Try.prog 3 #[.slice a len cap] w fun e w' => e = .returned (.bool true) ∧ Below w.heap.size w w' := by
  have Ha : Hid (IsRow .i64 w a len cap zs) := ha
  have q := lawFirst13 w
  clear ha
  go_enter Try.func3, Try.ntmps3
  go_wp2_with fail
  refine q.mono ?_
  rintro e w1 ⟨rfl, hb1⟩
  have B1 : Hid (Below w.heap.size w w1) := hb1
  clear q
  have HS : Hid (SeqAt w1.heap.size a len cap zs 0 (w1.alloc (.cells #[.slice a len cap, .int .i64 0] 26))) := SeqAt.make (Ha.out.below hb1) _
  clear hb1 Ha
  obtain ⟨W2, hW2⟩ : ∃ W2, W2 = w1.alloc (.cells #[.slice a len cap, .int .i64 0] 26) := ⟨_, rfl⟩
  have F2 : Hid (SeqAt w1.heap.size a len cap zs 0 W2 ∧ Below w.heap.size w W2 ∧ w1.heap.size < W2.heap.size ∧ w.heap.size ≤ w1.heap.size) := by
    rw [hW2]
    exact ⟨HS.out, B1.out.trans (one_box.mono B1.out.size), by simp, B1.out.size⟩
  clear HS B1
  have q3 : Calls Try.prog 6 #[.pointer (some ⟨w1.heap.size, 0, none⟩), .slice (some ⟨W2.heap.size, 0, none⟩) 2 2, .int .i64 10] (W2.alloc (.cells #[.int .i64 1, .int .i64 3] 3)) _ := setAt w1.heap.size a len cap zs 0 [1, 3] 2 10 rfl (by simp) W2 F2.out.1 (by omega) (by decide) (by decide)
  rw [hW2, World.size_alloc] at q3
  go_wp2_with fail
  refine q3.mono ?_
  rw [← hW2]
  clear hW2
  obtain ⟨S, hS⟩ : ∃ S, S = w1.heap.size := ⟨_, rfl⟩
  rw [← hS] at F2 ⊢
  clear hS
  rintro e w3 ⟨vx, x, p3, rfl, Gx, e3, hp3, s3, b3⟩
  have Gx : Hid _ := Gx
  have F3 : Hid ((AllNew W2.heap.size [(x, vx)] w3 ∧ But S W2 w3) ∧ SeqAt S a len cap zs p3 w3 ∧ p3 ≤ 101) := ⟨⟨(AllNew.nil _ _).add e3, b3⟩, s3, by omega⟩
  clear q3 e3 hp3 s3 b3
  have q4 := onOnce x vx w3 (by have := Gx.out.1.2.2.1; omega) (Gx.out.1.ok (by decide) (by decide)) (F3.out.1.1.at 0 rfl).ents
  go_wp2_with fail
  refine q4.mono ?_
  rintro e w4 ⟨ox, rfl, e4, b4⟩
  have F4 : Hid ((AllNew W2.heap.size [(onZ x, ox), (x, vx)] w4 ∧ But S W2 w4) ∧ SeqAt S a len cap zs p3 w4 ∧ p3 ≤ 101) := ⟨⟨(F3.out.1.1.on b4).add (e4.new.mono F3.out.1.2.size), F3.out.1.2.trans (But.of_below b4)⟩, F3.out.2.1.on b4, F3.out.2.2⟩
  clear q4 e4 b4 F3
  have q5 : Calls Try.prog 6 #[.pointer (some ⟨S, 0, none⟩), .slice (some ⟨w4.heap.size, 0, none⟩) 2 2, .int .i64 10] (w4.alloc (.cells #[.int .i64 1, .int .i64 3] 3)) _ := setAt S a len cap zs p3 [1, 3] 2 10 rfl (by simp) w4 F4.out.2.1 (by have := F4.out.2.2; omega) (by decide) (by decide)
  go_wp2_with fail
  refine q5.mono ?_
  rintro e w5 ⟨vy, y, p5, rfl, Gy, e5, hp5, s5, b5⟩
  have Gy : Hid _ := Gy
  have F5 : Hid ((AllNew W2.heap.size [(y, vy), (onZ x, ox), (x, vx)] w5 ∧ But S W2 w5) ∧ SeqAt S a len cap zs p5 w5 ∧ p5 ≤ 202) := ⟨⟨(F4.out.1.1.but b5 F2.out.2.2.1).add (e5.mono F4.out.1.2.size), F4.out.1.2.trans b5⟩, s5, by have := F4.out.2.2; omega⟩
  clear q5 e5 hp5 s5 b5 F4
  have q6 := onOnce y vy w5 (by have := Gy.out.1.2.2.1; omega) (Gy.out.1.ok (by decide) (by decide)) (F5.out.1.1.at 0 rfl).ents
  go_wp2_with fail
  refine q6.mono ?_
  rintro e w6 ⟨oy, rfl, e6, b6⟩
  have F6 : Hid ((AllNew W2.heap.size [(onZ y, oy), (y, vy), (onZ x, ox), (x, vx)] w6 ∧ But S W2 w6) ∧ SeqAt S a len cap zs p5 w6 ∧ p5 ≤ 202) := ⟨⟨(F5.out.1.1.on b6).add (e6.new.mono F5.out.1.2.size), F5.out.1.2.trans (But.of_below b6)⟩, F5.out.2.1.on b6, F5.out.2.2⟩
  clear q6 e6 b6 F5
  have A6 : Hid (AllIs [(onZ y, oy), (y, vy), (onZ x, ox), (x, vx)] w6 ∧ Below w.heap.size w w6) := ⟨F6.out.1.1.is, F2.out.2.1.trans (F6.out.1.2.below F2.out.2.2.2 F2.out.2.1.size)⟩
  clear F6
  have HX : Hid (S3 1000 10 2 x ∧ S3 1000 10 2 y) := ⟨Gx.out.1, Gy.out.1⟩
  have HO : Hid (S3 1 10 2 (onZ x) ∧ S3 1 10 2 (onZ y)) := ⟨on_S3 Gx.out.1, on_S3 Gy.out.1⟩
  clear Gx Gy F2
  have HK : Hid (okZ (onZ x ++ onZ y) = true ∧ S3 2 20 2 (mkZ (onZ x ++ onZ y))) := ⟨(HO.out.1.add HO.out.2 (by decide)).1, (HO.out.1.add HO.out.2 (by decide)).2.1⟩
  have HLN := os_len HX.out.1.1.1 HX.out.2.1.1 HK.out.1
  have HON : Hid (∀ e ∈ onZ (mkZ (onZ x ++ onZ y)), e.2 = 1 ∧ ((gt e.1 (onZ x) = 1 ∧ gt e.1 (onZ y) = 0) ∨ (gt e.1 (onZ x) = 0 ∧ gt e.1 (onZ y) = 1) ∨ (gt e.1 (onZ x) = 1 ∧ gt e.1 (onZ y) = 1))) := fun e he => os_one HX.out.1.1.1 HX.out.2.1.1 HK.out.1 he
  have HSL : Hid ((mkZ (onZ x ++ onZ y)).length ≤ 20) := HK.out.2.2.2.1
  have HSO : Hid (EOk (mkZ (onZ x ++ onZ y))) := HK.out.2.ok (by decide) (by decide)
  have q7 := addSmall HO.out.1 HO.out.2 (by decide) (by decide) ox oy w6 (A6.out.1.at 2 rfl) (A6.out.1.at 0 rfl)
  go_wp2_with fail
  refine q7.mono ?_
  rintro e w7 ⟨vs, rfl, e7, b7⟩
  have A7 : Hid (AllIs [(mkZ (onZ x ++ onZ y), vs), (onZ y, oy), (y, vy), (onZ x, ox), (x, vx)] w7 ∧ Below w.heap.size w w7) := ⟨(A6.out.1.on b7).add e7, A6.out.2.trans (b7.mono A6.out.2.size)⟩
  clear q7 e7 b7 A6
  have q8 := onOnce _ vs w7 (by have := HSL.out; omega) HSO.out (A7.out.1.at 0 rfl)
  go_wp2_with fail
  refine q8.mono ?_
  rintro e w8 ⟨vo, rfl, e8, b8⟩
  have A8 : Hid (AllIs [(onZ (mkZ (onZ x ++ onZ y)), vo), (mkZ (onZ x ++ onZ y), vs), (onZ y, oy), (y, vy), (onZ x, ox), (x, vx)] w8 ∧ Below w.heap.size w w8) := ⟨(A7.out.1.on b8).add e8.ents, A7.out.2.trans (b8.mono A7.out.2.size)⟩
  clear q8 e8 b8 A7
  clear HX HO HK HSO
  obtain ⟨ax, cx, hvx⟩ := (A8.out.1.at 4 rfl).form
  obtain ⟨ay, cy, hvy⟩ := (A8.out.1.at 2 rfl).form
  obtain ⟨aS, cs, hvs⟩ := (A8.out.1.at 1 rfl).form
  obtain ⟨ao, co, hvo⟩ := (A8.out.1.at 0 rfl).form
  subst hvx hvy hvs hvo
  have hls := HSL.out
  generalize mkZ (onZ x ++ onZ y) = s at *
  obtain ⟨h1, h2, h3⟩ := HLN
  have I4 : ((onZ s).length : Int) = (s.length : Int) := by omega
  have I5 : ((onZ x).length : Int) ≤ ((onZ s).length : Int) := by omega
  have I6 : ((onZ y).length : Int) ≤ ((onZ s).length : Int) := by omega
  have hlo : (onZ s).length ≤ 20 := by omega
  clear HSL hls
  generalize onZ x = X at *
  generalize onZ y = Y at *
  generalize onZ s = O at *
  go_wp2_with fail
  go_loopw [10] (fun i wr => ∃ j : Nat, j ≤ O.length ∧ i = .int .i64 j ∧ Hid (Below w8.heap.size w8 wr)) (fun i _ => O.length - (intOf i).toNat)
  case atStart => exact ⟨0, by omega, rfl, Below.refl _ _⟩
  case round =>
    obtain ⟨j, hj, rfl, hT⟩ := hrel
    by_cases k1 : j < O.length
    · have I1 : (j : Int) < (O.length : Int) := by omega
      have I3 : (0 : Int) ≤ (j : Int) := by omega
      obtain ⟨bd, od, ar, cr, hbo, xa1, xa2, xa3⟩ := (A8.out.1.at 0 rfl).at j k1
      subst hbo
      obtain ⟨hw, hu⟩ := HON.out _ (List.getElem_mem k1)
      rw [hw] at xa2
      have HG1 : Hid (∀ V, Below w8.heap.size w8 V → Calls Try.prog 8 #[.slice ax X.length cx, .slice ar O[j].1.length cr] V fun e w' => e = .returned (.int .i64 (gt O[j].1 X)) ∧ Below V.heap.size V w') := fun V hV => refGet X _ _ _ V ((A8.out.1.at 4 rfl).on hV) (xa3.on hV)
      have HG2 : Hid (∀ V, Below w8.heap.size w8 V → Calls Try.prog 8 #[.slice ay Y.length cy, .slice ar O[j].1.length cr] V fun e w' => e = .returned (.int .i64 (gt O[j].1 Y)) ∧ Below V.heap.size V w') := fun V hV => refGet Y _ _ _ V ((A8.out.1.at 2 rfl).on hV) (xa3.on hV)
      have HT : Hid (Below w8.heap.size w8 wr) := hT.out
      clear hT hw xa3
      generalize gt O[j].1 X = u at *
      generalize gt O[j].1 Y = v at *
      generalize O[j].1.length = nr at *
      have g0 := Ex.cell xa1
      have g1 := Ex.cell xa2
      have ne := Ex.ne w8
      have B0 : Hid (Below w8.heap.size w8 wr.drew) := HT.out.drew
      clear xa1 xa2
      go_wp2_with fail
      rcases hu with ⟨rfl, rfl⟩ | ⟨rfl, rfl⟩ | ⟨rfl, rfl⟩
      · refine wp_region_ord_at (Ex w8) (regOf Try.f3.body 14) ((0, true) :: (1, true) :: (2, true) :: (3, true) :: (4, true) :: (5, true) :: (7, true) :: (8, true) :: (9, true) :: (10, true) :: (11, true) :: (12, true) :: (6, false) :: (13, false) :: (14, true) :: (15, true) :: (16, true) :: (17, true) :: (18, true) :: (19, true) :: (20, true) :: (21, true) :: (22, true) :: (23, true) :: []) (by kernel_rfl) (by kernel_rfl) os_ord B0.out ?_
        generalize wr.drew = v0 at *
        repeat (refine ord_quiet rfl ?_; go_big_quiet_step (fail); refine wpQuiet_nil ?_)
        refine ord_call rfl (by rfl) 8 rfl (enters_of Try.func8 (by kernel_rfl) rfl) [.slice ax X.length cx, .slice ar nr cr] (by rfl) _ (HG1.out v0 B0.out) ?_
        rintro e v1 ⟨rfl, hb0⟩
        have B1 : Hid (Below w8.heap.size w8 v1) := B0.out.trans (hb0.mono B0.out.size)
        clear hb0
        refine ⟨_, rfl, Ex.of B1.out, ?_⟩
        simp only [Act.put, List.setIfInBounds_toArray, List.set_cons_zero, List.set_cons_succ]
        repeat (refine ord_quiet rfl ?_; go_big_quiet_step (fail); refine wpQuiet_nil ?_)
        refine ord_call rfl (by rfl) 8 rfl (enters_of Try.func8 (by kernel_rfl) rfl) [.slice ay Y.length cy, .slice ar nr cr] (by rfl) _ (HG2.out v1 B1.out) ?_
        rintro e v2 ⟨rfl, hb1⟩
        have B2 : Hid (Below w8.heap.size w8 v2) := B1.out.trans (hb1.mono B1.out.size)
        clear hb1
        refine ⟨_, rfl, Ex.of B2.out, ?_⟩
        simp only [Act.put, List.setIfInBounds_toArray, List.set_cons_zero, List.set_cons_succ]
        repeat (refine ord_quiet rfl ?_; go_big_quiet_step (fail); refine wpQuiet_nil ?_)
        refine ord_end ?_
        clear HG1 HG2 g0 g1 ne B0 B1 HT
        go_wp2_with fail
        go_roundw
        case rel => exact ⟨j + 1, by omega, by go_num, B2.out⟩
        case measure => simp [intOf]; omega
      · refine wp_region_ord_at (Ex w8) (regOf Try.f3.body 14) ((0, true) :: (1, true) :: (2, true) :: (3, true) :: (4, true) :: (5, true) :: (7, true) :: (8, true) :: (9, true) :: (10, true) :: (11, true) :: (12, true) :: (6, false) :: (13, false) :: (14, true) :: (15, true) :: (16, true) :: (17, true) :: (18, true) :: (19, true) :: (20, true) :: (21, true) :: (22, true) :: (23, true) :: []) (by kernel_rfl) (by kernel_rfl) os_ord B0.out ?_
        generalize wr.drew = v0 at *
        repeat (refine ord_quiet rfl ?_; go_big_quiet_step (fail); refine wpQuiet_nil ?_)
        refine ord_call rfl (by rfl) 8 rfl (enters_of Try.func8 (by kernel_rfl) rfl) [.slice ax X.length cx, .slice ar nr cr] (by rfl) _ (HG1.out v0 B0.out) ?_
        rintro e v1 ⟨rfl, hb0⟩
        have B1 : Hid (Below w8.heap.size w8 v1) := B0.out.trans (hb0.mono B0.out.size)
        clear hb0
        refine ⟨_, rfl, Ex.of B1.out, ?_⟩
        simp only [Act.put, List.setIfInBounds_toArray, List.set_cons_zero, List.set_cons_succ]
        repeat (refine ord_quiet rfl ?_; go_big_quiet_step (fail); refine wpQuiet_nil ?_)
        refine ord_call rfl (by rfl) 8 rfl (enters_of Try.func8 (by kernel_rfl) rfl) [.slice ay Y.length cy, .slice ar nr cr] (by rfl) _ (HG2.out v1 B1.out) ?_
        rintro e v2 ⟨rfl, hb1⟩
        have B2 : Hid (Below w8.heap.size w8 v2) := B1.out.trans (hb1.mono B1.out.size)
        clear hb1
        refine ⟨_, rfl, Ex.of B2.out, ?_⟩
        simp only [Act.put, List.setIfInBounds_toArray, List.set_cons_zero, List.set_cons_succ]
        repeat (refine ord_quiet rfl ?_; go_big_quiet_step (fail); refine wpQuiet_nil ?_)
        refine ord_end ?_
        clear HG1 HG2 g0 g1 ne B0 B1 HT
        go_wp2_with fail
        go_roundw
        case rel => exact ⟨j + 1, by omega, by go_num, B2.out⟩
        case measure => simp [intOf]; omega
      · refine wp_region_ord_at (Ex w8) (regOf Try.f3.body 14) ((0, true) :: (1, true) :: (2, true) :: (3, true) :: (4, true) :: (5, true) :: (7, true) :: (8, true) :: (9, true) :: (10, true) :: (11, true) :: (12, true) :: (6, false) :: (13, false) :: (14, true) :: (15, true) :: (16, true) :: (17, true) :: (18, true) :: (19, true) :: (20, true) :: (21, true) :: (22, true) :: (23, true) :: []) (by kernel_rfl) (by kernel_rfl) os_ord B0.out ?_
        generalize wr.drew = v0 at *
        repeat (refine ord_quiet rfl ?_; go_big_quiet_step (fail); refine wpQuiet_nil ?_)
        refine ord_call rfl (by rfl) 8 rfl (enters_of Try.func8 (by kernel_rfl) rfl) [.slice ax X.length cx, .slice ar nr cr] (by rfl) _ (HG1.out v0 B0.out) ?_
        rintro e v1 ⟨rfl, hb0⟩
        have B1 : Hid (Below w8.heap.size w8 v1) := B0.out.trans (hb0.mono B0.out.size)
        clear hb0
        refine ⟨_, rfl, Ex.of B1.out, ?_⟩
        simp only [Act.put, List.setIfInBounds_toArray, List.set_cons_zero, List.set_cons_succ]
        repeat (refine ord_quiet rfl ?_; go_big_quiet_step (fail); refine wpQuiet_nil ?_)
        refine ord_call rfl (by rfl) 8 rfl (enters_of Try.func8 (by kernel_rfl) rfl) [.slice ay Y.length cy, .slice ar nr cr] (by rfl) _ (HG2.out v1 B1.out) ?_
        rintro e v2 ⟨rfl, hb1⟩
        have B2 : Hid (Below w8.heap.size w8 v2) := B1.out.trans (hb1.mono B1.out.size)
        clear hb1
        refine ⟨_, rfl, Ex.of B2.out, ?_⟩
        simp only [Act.put, List.setIfInBounds_toArray, List.set_cons_zero, List.set_cons_succ]
        repeat (refine ord_quiet rfl ?_; go_big_quiet_step (fail); refine wpQuiet_nil ?_)
        refine ord_end ?_
        clear HG1 HG2 g0 g1 ne B0 B1 HT
        go_wp2_with fail
        go_roundw
        case rel => exact ⟨j + 1, by omega, by go_num, B2.out⟩
        case measure => simp [intOf]; omega
    · have I1 : ¬ (j : Int) < (O.length : Int) := by omega
      have HB : Hid (Below w.heap.size w wr) := A8.out.2.trans (hT.out.mono A8.out.2.size)
      clear A8 hT HON
      go_wp2_with fail
      go_ret
      exact ⟨rfl, HB.out⟩
theorem onceSums_walk (a : Option Addr) (len cap : Nat) (zs : List Int) (w : World) (ha : IsRow .i64 w a len cap zs) :
    Calls Try.prog 3 #[.slice a len cap] w fun e w' => e = .returned (.bool true) ∧ Below w.heap.size w w' := by
  by_cases h : 150 < (len : Int)
  · exact os_long a len cap w h
  · exact os_main a len cap zs h w ha
end Go.Proofs.Ytmpochhcokmaiaa
