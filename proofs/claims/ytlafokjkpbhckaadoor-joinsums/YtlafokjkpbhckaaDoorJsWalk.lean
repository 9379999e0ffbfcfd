/- The walk of the law that of two together with a third it is both's. -/
import Derived.Test.YtlafokjkpbhckaaDoorPackJl
namespace Go.Proofs.YtlafokjkpbhckaaDoor
open Go.RowKit Go.Sort
set_option maxRecDepth 100000
set_option linter.unusedVariables false

set_option maxHeartbeats 1000000 in
theorem js_long (a : Option Addr) (len cap : Nat) (eO : Addr) (w : World) (he : OverAt eO w) (h : 150 < (len : Int)) :
    Calls Tryd.prog 4 #[.slice a len cap] w fun e w' => e = .returned (.bool true) ∧ Below w.heap.size w w' := by
  have q := lawFirst12 eO w he
  clear he
  go_enter Tryd.func4, Tryd.ntmps4
  go_wp2_with fail
  refine q.mono ?_
  rintro e w1 ⟨rfl, hb1⟩
  go_wp2_with fail
  go_ret
  exact ⟨rfl, hb1⟩
set_option maxHeartbeats 16000000 in
theorem js_main (a : Option Addr) (len cap : Nat) (zs : List Int) (eO : Addr) (h : ¬ 150 < (len : Int)) (w : World) (he : OverAt eO w) (ha : IsRow .i64 w a len cap zs) :
    Calls Tryd.prog 4 #[.slice a len cap] w fun e w' => e = .returned (.bool true) ∧ Below w.heap.size w w' := by
  have Ha : Hid (IsRow .i64 w a len cap zs) := ha
  have HE : Hid (OverAt eO w) := he
  have q := lawFirst12 _ w he
  clear ha he
  go_enter Tryd.func4, Tryd.ntmps4
  go_wp2_with fail
  refine q.mono ?_
  rintro e w1 ⟨rfl, hb1⟩
  have B1 : Hid (Below w.heap.size w w1) := hb1
  clear q
  have HS : Hid (SeqAt w1.heap.size a len cap zs 0 (w1.alloc (.cells #[.slice a len cap, .int .i64 0] 26))) := SeqAt.make (Ha.out.below hb1) _
  clear hb1 Ha
  obtain ⟨W2, hW2⟩ : ∃ W2, W2 = w1.alloc (.cells #[.slice a len cap, .int .i64 0] 26) := ⟨_, rfl⟩
  have F2 : Hid (SeqAt w1.heap.size a len cap zs 0 W2 ∧ Below w.heap.size w W2 ∧ w1.heap.size < W2.heap.size ∧ w.heap.size ≤ w1.heap.size) := by
    rw [hW2]
    exact ⟨HS.out, B1.out.trans (one_box.mono B1.out.size), by simp, B1.out.size⟩
  clear HS B1
  have q3 : Calls Tryd.prog 8 #[.pointer (some ⟨w1.heap.size, 0, none⟩), .slice (some ⟨W2.heap.size, 0, none⟩) 2 2, .int .i64 6] (W2.alloc (.cells #[.int .i64 1, .int .i64 2] 3)) _ := setAt w1.heap.size a len cap zs 0 [1, 2] 2 6 rfl (by simp) W2 F2.out.1 (by omega) (by decide) (by decide)
  rw [hW2, World.size_alloc] at q3
  go_wp2_with fail
  refine q3.mono ?_
  rw [← hW2]
  clear hW2
  obtain ⟨S, hS⟩ : ∃ S, S = w1.heap.size := ⟨_, rfl⟩
  rw [← hS] at F2 ⊢
  clear hS
  rintro e w3 ⟨vx, x, p3, rfl, Gx, e3, hp3, s3, b3⟩
  have Gx : Hid _ := Gx
  have F3 : Hid ((AllNew W2.heap.size [(x, vx)] w3 ∧ But S W2 w3) ∧ SeqAt S a len cap zs p3 w3 ∧ p3 ≤ 61) := ⟨⟨(AllNew.nil _ _).add e3, b3⟩, s3, by omega⟩
  clear q3 e3 hp3 s3 b3
  have q4 : Calls Tryd.prog 8 #[.pointer (some ⟨S, 0, none⟩), .slice (some ⟨w3.heap.size, 0, none⟩) 2 2, .int .i64 6] (w3.alloc (.cells #[.int .i64 1, .int .i64 2] 3)) _ := setAt S a len cap zs p3 [1, 2] 2 6 rfl (by simp) w3 F3.out.2.1 (by have := F3.out.2.2; omega) (by decide) (by decide)
  go_wp2_with fail
  refine q4.mono ?_
  rintro e w4 ⟨vy, y, p4, rfl, Gy, e4, hp4, s4, b4⟩
  have Gy : Hid _ := Gy
  have F4 : Hid ((AllNew W2.heap.size [(y, vy), (x, vx)] w4 ∧ But S W2 w4) ∧ SeqAt S a len cap zs p4 w4 ∧ p4 ≤ 122) := ⟨⟨(F3.out.1.1.but b4 F2.out.2.2.1).add (e4.mono F3.out.1.2.size), F3.out.1.2.trans b4⟩, s4, by have := F3.out.2.2; omega⟩
  clear q4 e4 hp4 s4 b4 F3
  have q5 : Calls Tryd.prog 8 #[.pointer (some ⟨S, 0, none⟩), .slice (some ⟨w4.heap.size, 0, none⟩) 2 2, .int .i64 6] (w4.alloc (.cells #[.int .i64 1, .int .i64 1] 3)) _ := setAt S a len cap zs p4 [1, 1] 2 6 rfl (by simp) w4 F4.out.2.1 (by have := F4.out.2.2; omega) (by decide) (by decide)
  go_wp2_with fail
  refine q5.mono ?_
  rintro e w5 ⟨vc, c, p5, rfl, Gc, e5, hp5, s5, b5⟩
  have Gc : Hid _ := Gc
  have F5 : Hid ((AllNew W2.heap.size [(c, vc), (y, vy), (x, vx)] w5 ∧ But S W2 w5) ∧ SeqAt S a len cap zs p5 w5 ∧ p5 ≤ 183) := ⟨⟨(F4.out.1.1.but b5 F2.out.2.2.1).add (e5.mono F4.out.1.2.size), F4.out.1.2.trans b5⟩, s5, by have := F4.out.2.2; omega⟩
  clear q5 e5 hp5 s5 b5 F4
  have q6 := next S a len cap zs p5 2 w5 F5.out.2.1 (by have := F5.out.2.2; omega) (by decide) (by decide)
  have hb := nm_bd (sq zs len p5) 2 (by decide)
  generalize nm (sq zs len p5) 2 = n at *
  have HNI : Hid (inI n = true) := inI_iff.2 (by omega)
  clear hb
  go_wp2_with fail
  refine q6.mono ?_
  rintro e w6 ⟨rfl, _, b6⟩
  obtain ⟨W6, hW6⟩ : ∃ W, W = (w6.alloc (.cells #[.int .i64 0, .int .i64 n] 33)).alloc (.cells #[.int .i64 n, .int .i64 0] 33) := ⟨_, rfl⟩
  have F6 : Hid (AllIs [(c, vc), (y, vy), (x, vx)] W6 ∧ PairsIs W6 (.slice (some ⟨w6.heap.size, 0, none⟩) 1 1) [(0, n)] ∧ PairsIs W6 (.slice (some ⟨w6.heap.size + 1, 0, none⟩) 1 1) [(n, 0)] ∧ Below w.heap.size w W6) := by
    have bb := F2.out.2.1.trans ((F5.out.1.2.trans b6).below F2.out.2.2.2 F2.out.2.1.size)
    have b7 : Below w6.heap.size w6 W6 := by rw [hW6]; exact one_box.trans (one_box.mono (by simp))
    refine ⟨((F5.out.1.1.but b6 F2.out.2.2.1).is).on b7, ?_, ?_, bb.trans (b7.mono bb.size)⟩
    · rw [hW6]; exact (PairsIs.one w6 0 n 33).on one_box
    · have c1 := PairsIs.one (w6.alloc (.cells #[.int .i64 0, .int .i64 n] 33)) n 0 33
      rw [World.size_alloc] at c1
      rw [hW6]; exact c1
  have HX : Hid (S3 600 6 2 x ∧ S3 600 6 2 y ∧ S3 600 6 2 c) := ⟨Gx.out.1, Gy.out.1, Gc.out.1⟩
  have hz1 : (w6.alloc (.cells #[.int .i64 0, .int .i64 n] 33)).cell? ⟨w6.heap.size, 0 + 1, none⟩ = some (.int .i64 n) := by rw [World.cell?_alloc_at _ _ _ _ rfl]; rfl
  simp only [Nat.zero_add] at hz1
  have q7 := addSmall HX.out.1 HX.out.2.1 (by decide) (by decide) vx vy W6 (F6.out.1.at 2 rfl) (F6.out.1.at 1 rfl)
  rw [hW6] at q7
  clear q6 b6 F5 F2 Gx Gy Gc
  go_wp2_with fail
  refine q7.mono ?_
  rw [← hW6]
  clear hW6 hz1
  generalize w6.heap.size = bp at *
  rintro e w7 ⟨vab, rfl, e7, b7⟩
  have F7 : Hid (AllIs [(mkZ (x ++ y), vab), (c, vc), (y, vy), (x, vx)] w7 ∧ PairsIs w7 (.slice (some ⟨bp, 0, none⟩) 1 1) [(0, n)] ∧ PairsIs w7 (.slice (some ⟨bp + 1, 0, none⟩) 1 1) [(n, 0)] ∧ Below w.heap.size w w7) := ⟨(F6.out.1.on b7).add e7, F6.out.2.1.on b7, F6.out.2.2.1.on b7, F6.out.2.2.2.trans (b7.mono F6.out.2.2.2.size)⟩
  clear q7 e7 b7 F6
  have HA : Hid (S3 1200 12 2 (mkZ (x ++ y))) := (HX.out.1.add HX.out.2.1 (by decide)).2.1
  have HON : Hid (OnOk [(0, n)]) := on_one rfl HNI.out
  have HOT : Hid (OnOk [(n, 0)]) := on_one HNI.out rfl
  have q8 := jnSmall HA.out HX.out.2.2 (by decide) (by decide) (by decide) (by decide) (by decide) (by decide) [(0, n)] HON.out (.slice (some ⟨bp, 0, none⟩) 1 1) vab vc eO w7 (HE.out.on F7.out.2.2.2) F7.out.2.1 (F7.out.1.at 0 rfl) (F7.out.1.at 1 rfl)
  go_wp2_with fail
  refine q8.mono ?_
  rintro e w8 ⟨v8, rfl, e8, b8⟩
  have F8 : Hid (AllIs [(mkZ (jnP [(0, n)] (mkZ (x ++ y)) c), v8), (mkZ (x ++ y), vab), (c, vc), (y, vy), (x, vx)] w8 ∧ PairsIs w8 (.slice (some ⟨bp, 0, none⟩) 1 1) [(0, n)] ∧ PairsIs w8 (.slice (some ⟨bp + 1, 0, none⟩) 1 1) [(n, 0)] ∧ Below w.heap.size w w8) := ⟨(F7.out.1.on b8).add e8, F7.out.2.1.on b8, F7.out.2.2.1.on b8, F7.out.2.2.2.trans (b8.mono F7.out.2.2.2.size)⟩
  clear q8 e8 b8 F7
  have q9 := jnSmall HX.out.1 HX.out.2.2 (by decide) (by decide) (by decide) (by decide) (by decide) (by decide) [(0, n)] HON.out (.slice (some ⟨bp, 0, none⟩) 1 1) vx vc eO w8 (HE.out.on F8.out.2.2.2) F8.out.2.1 (F8.out.1.at 4 rfl) (F8.out.1.at 2 rfl)
  go_wp2_with fail
  refine q9.mono ?_
  rintro e w9 ⟨v9, rfl, e9, b9⟩
  have F9 : Hid (AllIs [(mkZ (jnP [(0, n)] x c), v9), (mkZ (jnP [(0, n)] (mkZ (x ++ y)) c), v8), (mkZ (x ++ y), vab), (c, vc), (y, vy), (x, vx)] w9 ∧ PairsIs w9 (.slice (some ⟨bp, 0, none⟩) 1 1) [(0, n)] ∧ PairsIs w9 (.slice (some ⟨bp + 1, 0, none⟩) 1 1) [(n, 0)] ∧ Below w.heap.size w w9) := ⟨(F8.out.1.on b9).add e9, F8.out.2.1.on b9, F8.out.2.2.1.on b9, F8.out.2.2.2.trans (b9.mono F8.out.2.2.2.size)⟩
  clear q9 e9 b9 F8
  have q10 := jnSmall HX.out.2.1 HX.out.2.2 (by decide) (by decide) (by decide) (by decide) (by decide) (by decide) [(0, n)] HON.out (.slice (some ⟨bp, 0, none⟩) 1 1) vy vc eO w9 (HE.out.on F9.out.2.2.2) F9.out.2.1 (F9.out.1.at 4 rfl) (F9.out.1.at 3 rfl)
  go_wp2_with fail
  refine q10.mono ?_
  rintro e w10 ⟨v10, rfl, e10, b10⟩
  have F10 : Hid (AllIs [(mkZ (jnP [(0, n)] y c), v10), (mkZ (jnP [(0, n)] x c), v9), (mkZ (jnP [(0, n)] (mkZ (x ++ y)) c), v8), (mkZ (x ++ y), vab), (c, vc), (y, vy), (x, vx)] w10 ∧ PairsIs w10 (.slice (some ⟨bp, 0, none⟩) 1 1) [(0, n)] ∧ PairsIs w10 (.slice (some ⟨bp + 1, 0, none⟩) 1 1) [(n, 0)] ∧ Below w.heap.size w w10) := ⟨(F9.out.1.on b10).add e10, F9.out.2.1.on b10, F9.out.2.2.1.on b10, F9.out.2.2.2.trans (b10.mono F9.out.2.2.2.size)⟩
  clear q10 e10 b10 F9
  have HJ : Hid (S3 360000 36 4 (mkZ (jnP [(0, n)] x c)) ∧ S3 360000 36 4 (mkZ (jnP [(0, n)] y c)) ∧ S3 360000 36 4 (mkZ (jnP [(n, 0)] c x)) ∧ S3 360000 36 4 (mkZ (jnP [(n, 0)] c y))) := ⟨(HX.out.1.jn HX.out.2.2 _ (by decide)).2.1, (HX.out.2.1.jn HX.out.2.2 _ (by decide)).2.1, (HX.out.2.2.jn HX.out.1 _ (by decide)).2.1, (HX.out.2.2.jn HX.out.2.1 _ (by decide)).2.1⟩
  have q11 := addSmall HJ.out.1 HJ.out.2.1 (by decide) (by decide) v9 v10 w10 (F10.out.1.at 1 rfl) (F10.out.1.at 0 rfl)
  go_wp2_with fail
  refine q11.mono ?_
  rintro e w11 ⟨v11, rfl, e11, b11⟩
  have F11 : Hid (AllIs [(mkZ (mkZ (jnP [(0, n)] x c) ++ mkZ (jnP [(0, n)] y c)), v11), (mkZ (jnP [(0, n)] y c), v10), (mkZ (jnP [(0, n)] x c), v9), (mkZ (jnP [(0, n)] (mkZ (x ++ y)) c), v8), (mkZ (x ++ y), vab), (c, vc), (y, vy), (x, vx)] w11 ∧ PairsIs w11 (.slice (some ⟨bp, 0, none⟩) 1 1) [(0, n)] ∧ PairsIs w11 (.slice (some ⟨bp + 1, 0, none⟩) 1 1) [(n, 0)] ∧ Below w.heap.size w w11) := ⟨(F10.out.1.on b11).add e11, F10.out.2.1.on b11, F10.out.2.2.1.on b11, F10.out.2.2.2.trans (b11.mono F10.out.2.2.2.size)⟩
  clear q11 e11 b11 F10
  have q12 := jnSmall HX.out.2.2 HA.out (by decide) (by decide) (by decide) (by decide) (by decide) (by decide) [(n, 0)] HOT.out (.slice (some ⟨bp + 1, 0, none⟩) 1 1) vc vab eO w11 (HE.out.on F11.out.2.2.2) F11.out.2.2.1 (F11.out.1.at 5 rfl) (F11.out.1.at 4 rfl)
  go_wp2_with fail
  refine q12.mono ?_
  rintro e w12 ⟨v12, rfl, e12, b12⟩
  have F12 : Hid (AllIs [(mkZ (jnP [(n, 0)] c (mkZ (x ++ y))), v12), (mkZ (mkZ (jnP [(0, n)] x c) ++ mkZ (jnP [(0, n)] y c)), v11), (mkZ (jnP [(0, n)] y c), v10), (mkZ (jnP [(0, n)] x c), v9), (mkZ (jnP [(0, n)] (mkZ (x ++ y)) c), v8), (mkZ (x ++ y), vab), (c, vc), (y, vy), (x, vx)] w12 ∧ PairsIs w12 (.slice (some ⟨bp, 0, none⟩) 1 1) [(0, n)] ∧ PairsIs w12 (.slice (some ⟨bp + 1, 0, none⟩) 1 1) [(n, 0)] ∧ Below w.heap.size w w12) := ⟨(F11.out.1.on b12).add e12, F11.out.2.1.on b12, F11.out.2.2.1.on b12, F11.out.2.2.2.trans (b12.mono F11.out.2.2.2.size)⟩
  clear q12 e12 b12 F11
  have q13 := jnSmall HX.out.2.2 HX.out.1 (by decide) (by decide) (by decide) (by decide) (by decide) (by decide) [(n, 0)] HOT.out (.slice (some ⟨bp + 1, 0, none⟩) 1 1) vc vx eO w12 (HE.out.on F12.out.2.2.2) F12.out.2.2.1 (F12.out.1.at 6 rfl) (F12.out.1.at 8 rfl)
  go_wp2_with fail
  refine q13.mono ?_
  rintro e w13 ⟨v13, rfl, e13, b13⟩
  have F13 : Hid (AllIs [(mkZ (jnP [(n, 0)] c x), v13), (mkZ (jnP [(n, 0)] c (mkZ (x ++ y))), v12), (mkZ (mkZ (jnP [(0, n)] x c) ++ mkZ (jnP [(0, n)] y c)), v11), (mkZ (jnP [(0, n)] y c), v10), (mkZ (jnP [(0, n)] x c), v9), (mkZ (jnP [(0, n)] (mkZ (x ++ y)) c), v8), (mkZ (x ++ y), vab), (c, vc), (y, vy), (x, vx)] w13 ∧ PairsIs w13 (.slice (some ⟨bp, 0, none⟩) 1 1) [(0, n)] ∧ PairsIs w13 (.slice (some ⟨bp + 1, 0, none⟩) 1 1) [(n, 0)] ∧ Below w.heap.size w w13) := ⟨(F12.out.1.on b13).add e13, F12.out.2.1.on b13, F12.out.2.2.1.on b13, F12.out.2.2.2.trans (b13.mono F12.out.2.2.2.size)⟩
  clear q13 e13 b13 F12
  have q14 := jnSmall HX.out.2.2 HX.out.2.1 (by decide) (by decide) (by decide) (by decide) (by decide) (by decide) [(n, 0)] HOT.out (.slice (some ⟨bp + 1, 0, none⟩) 1 1) vc vy eO w13 (HE.out.on F13.out.2.2.2) F13.out.2.2.1 (F13.out.1.at 7 rfl) (F13.out.1.at 8 rfl)
  go_wp2_with fail
  refine q14.mono ?_
  rintro e w14 ⟨v14, rfl, e14, b14⟩
  have F14 : Hid (AllIs [(mkZ (jnP [(n, 0)] c y), v14), (mkZ (jnP [(n, 0)] c x), v13), (mkZ (jnP [(n, 0)] c (mkZ (x ++ y))), v12), (mkZ (mkZ (jnP [(0, n)] x c) ++ mkZ (jnP [(0, n)] y c)), v11), (mkZ (jnP [(0, n)] y c), v10), (mkZ (jnP [(0, n)] x c), v9), (mkZ (jnP [(0, n)] (mkZ (x ++ y)) c), v8), (mkZ (x ++ y), vab), (c, vc), (y, vy), (x, vx)] w14 ∧ PairsIs w14 (.slice (some ⟨bp, 0, none⟩) 1 1) [(0, n)] ∧ PairsIs w14 (.slice (some ⟨bp + 1, 0, none⟩) 1 1) [(n, 0)] ∧ Below w.heap.size w w14) := ⟨(F13.out.1.on b14).add e14, F13.out.2.1.on b14, F13.out.2.2.1.on b14, F13.out.2.2.2.trans (b14.mono F13.out.2.2.2.size)⟩
  clear q14 e14 b14 F13
  have q15 := addSmall HJ.out.2.2.1 HJ.out.2.2.2 (by decide) (by decide) v13 v14 w14 (F14.out.1.at 1 rfl) (F14.out.1.at 0 rfl)
  go_wp2_with fail
  refine q15.mono ?_
  rintro e w15 ⟨v15, rfl, e15, b15⟩
  have F15 : Hid (AllIs [(mkZ (mkZ (jnP [(n, 0)] c x) ++ mkZ (jnP [(n, 0)] c y)), v15), (mkZ (jnP [(n, 0)] c y), v14), (mkZ (jnP [(n, 0)] c x), v13), (mkZ (jnP [(n, 0)] c (mkZ (x ++ y))), v12), (mkZ (mkZ (jnP [(0, n)] x c) ++ mkZ (jnP [(0, n)] y c)), v11), (mkZ (jnP [(0, n)] y c), v10), (mkZ (jnP [(0, n)] x c), v9), (mkZ (jnP [(0, n)] (mkZ (x ++ y)) c), v8), (mkZ (x ++ y), vab), (c, vc), (y, vy), (x, vx)] w15 ∧ PairsIs w15 (.slice (some ⟨bp, 0, none⟩) 1 1) [(0, n)] ∧ PairsIs w15 (.slice (some ⟨bp + 1, 0, none⟩) 1 1) [(n, 0)] ∧ Below w.heap.size w w15) := ⟨(F14.out.1.on b15).add e15, F14.out.2.1.on b15, F14.out.2.2.1.on b15, F14.out.2.2.2.trans (b15.mono F14.out.2.2.2.size)⟩
  clear q15 e15 b15 F14
  have HNL : Hid (S3 0 0 2 ([] : List Ent)) := ⟨⟨List.Pairwise.nil, by simp⟩, fun r => by simp [wt], by simp, by simp⟩
  have q16 := jnSmall HNL.out HX.out.2.2 (by decide) (by decide) (by decide) (by decide) (by decide) (by decide) [(0, n)] HON.out (.slice (some ⟨bp, 0, none⟩) 1 1) (.slice none 0 0) vc eO w15 (HE.out.on F15.out.2.2.2) F15.out.2.1 (EntsIs.nil _ _ _) (F15.out.1.at 9 rfl)
  go_wp2_with fail
  refine q16.mono ?_
  rintro e w16 ⟨v16, rfl, e16, b16⟩
  have F16 : Hid (AllIs [(mkZ (jnP [(0, n)] [] c), v16), (mkZ (mkZ (jnP [(n, 0)] c x) ++ mkZ (jnP [(n, 0)] c y)), v15), (mkZ (jnP [(n, 0)] c y), v14), (mkZ (jnP [(n, 0)] c x), v13), (mkZ (jnP [(n, 0)] c (mkZ (x ++ y))), v12), (mkZ (mkZ (jnP [(0, n)] x c) ++ mkZ (jnP [(0, n)] y c)), v11), (mkZ (jnP [(0, n)] y c), v10), (mkZ (jnP [(0, n)] x c), v9), (mkZ (jnP [(0, n)] (mkZ (x ++ y)) c), v8), (mkZ (x ++ y), vab), (c, vc), (y, vy), (x, vx)] w16 ∧ PairsIs w16 (.slice (some ⟨bp, 0, none⟩) 1 1) [(0, n)] ∧ PairsIs w16 (.slice (some ⟨bp + 1, 0, none⟩) 1 1) [(n, 0)] ∧ Below w.heap.size w w16) := ⟨(F15.out.1.on b16).add e16, F15.out.2.1.on b16, F15.out.2.2.1.on b16, F15.out.2.2.2.trans (b16.mono F15.out.2.2.2.size)⟩
  clear q16 e16 b16 F15
  have q17 := sameEntries _ _ v8 v11 w16 (F16.out.1.at 8 rfl) (F16.out.1.at 5 rfl)
  rw [jn_left HX.out.1 HX.out.2.1 HX.out.2.2 [(0, n)] (by decide) (by decide)] at q17
  have es : sEs (mkZ (mkZ (jnP [(0, n)] x c) ++ mkZ (jnP [(0, n)] y c))) (mkZ (mkZ (jnP [(0, n)] x c) ++ mkZ (jnP [(0, n)] y c))) = true := by unfold sEs; simp
  rw [es] at q17
  clear es
  have HQ : Hid (∀ V, Below w16.heap.size w16 V → Calls Tryd.prog 15 #[v12, v15] V fun e w' => e = .returned (.bool true) ∧ Below V.heap.size V w') := fun V hV => by
    have q := sameEntries _ _ v12 v15 V ((F16.out.1.at 4 rfl).on hV) ((F16.out.1.at 1 rfl).on hV)
    rw [jn_right HX.out.1 HX.out.2.1 HX.out.2.2 [(n, 0)] (by decide) (by decide)] at q
    have es : sEs (mkZ (mkZ (jnP [(n, 0)] c x) ++ mkZ (jnP [(n, 0)] c y))) (mkZ (mkZ (jnP [(n, 0)] c x) ++ mkZ (jnP [(n, 0)] c y))) = true := by unfold sEs; simp
    rw [es] at q
    exact q
  have hlen : (mkZ (jnP [(0, n)] (mkZ (x ++ y)) c)).length = (mkZ (jnP [(n, 0)] c (mkZ (x ++ y)))).length := by
    rw [HA.out.jn_len HX.out.2.2 _ (by decide), HX.out.2.2.jn_len HA.out _ (by decide)]
    exact jn_swap (fun s t => fit_turn 0 n s t) _ _
  obtain ⟨a8, c8, h8⟩ := (F16.out.1.at 8 rfl : EntsIs w16 v8 _).form
  obtain ⟨a12, c12, h12⟩ := (F16.out.1.at 4 rfl : EntsIs w16 v12 _).form
  obtain ⟨a16, c16, h16⟩ := (F16.out.1.at 0 rfl : EntsIs w16 v16 _).form
  have hn16 : (mkZ (jnP [(0, n)] [] c)).length = 0 := rfl
  rw [hn16] at h16
  rw [hlen] at h8
  have HB : Hid (Below w.heap.size w w16) := F16.out.2.2.2
  have hU : Hid (∀ b, ¬ (some undef = some (Value.bool b))) := fun b hb => by cases hb
  clear F16 HJ HNL HX HA HON HOT HNI hlen hn16 HE
  generalize (mkZ (jnP [(n, 0)] c (mkZ (x ++ y)))).length = NN at *
  subst h8 h12 h16
  go_wp2_with fail
  refine q17.mono ?_
  rintro e w17 ⟨rfl, b17⟩
  have q18 := HQ.out w17 b17
  have B17 : Hid (Below w16.heap.size w16 w17) := b17
  clear q17 b17 HQ
  go_wp2_with fail
  refine q18.mono ?_
  rintro e w18 ⟨rfl, b18⟩
  have B18 : Hid (Below w.heap.size w w18) := HB.out.trans ((B17.out.trans (b18.mono B17.out.size)).mono HB.out.size)
  clear q18 b18
  go_wp2_with fail
  all_goals try (exfalso; exact hU.out _ (by assumption))
  go_ret
  exact ⟨rfl, B18.out⟩
theorem joinSums_walk (a : Option Addr) (len cap : Nat) (zs : List Int) (w : World) (he : ∃ ad, OverAt ad w) (ha : IsRow .i64 w a len cap zs) :
    Calls Tryd.prog 4 #[.slice a len cap] w fun e w' => e = .returned (.bool true) ∧ Below w.heap.size w w' := by
  obtain ⟨eO, he⟩ := he
  by_cases h : 150 < (len : Int)
  · exact js_long a len cap eO w he h
  · exact js_main a len cap zs eO h w he ha
end Go.Proofs.YtlafokjkpbhckaaDoor
