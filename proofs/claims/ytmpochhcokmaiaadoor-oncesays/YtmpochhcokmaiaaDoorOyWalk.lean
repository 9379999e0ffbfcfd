/- The walk of the law that once's answers are the document's. -/
import Derived.Test.YtmpochhcokmaiaaDoorOnceRef
import Derived.Test.YtmpochhcokmaiaaDoorOnceChg
import Derived.Test.YtmpochhcokmaiaaDoorOnceFirst
import Derived.Test.YtmpochhcokmaiaaDoorSetAt
import Derived.Test.YtmpochhcokmaiaaDoorSeeOver
import Derived.Test.YtmpochhcokmaiaaDoorZSub
namespace Go.Proofs.YtmpochhcokmaiaaDoor
open Go.RowKit Go.Sort
set_option maxRecDepth 100000
set_option linter.unusedVariables false

theorem ErrsAt.overO {ad : Fin 11 → Addr} {w : World} (h : ErrsAt ad w) : OverAt (ad 6) w := h.2.2.2.2.2.2.2.2.1
set_option maxHeartbeats 1000000 in
theorem oy_long (a : Option Addr) (len cap : Nat) (ad : Fin 11 → Addr) (w : World) (he : ErrsAt ad w) (h : 150 < (len : Int)) :
    Calls Tryd.prog 3 #[.slice a len cap] w fun e w' => e = .returned (.bool true) ∧ Below w.heap.size w w' := by
  have q := lawFirst13 w
  clear he
  go_enter Tryd.func3, Tryd.ntmps3
  go_wp2_with fail
  refine q.mono ?_
  rintro e w1 ⟨rfl, hb1⟩
  go_wp2_with fail
  go_ret
  exact ⟨rfl, hb1⟩
set_option maxHeartbeats 16000000 in
theorem oy_main (a : Option Addr) (len cap : Nat) (zs : List Int) (ad : Fin 11 → Addr) (h : ¬ 150 < (len : Int)) (w : World) (he : ErrsAt ad w) (ha : IsRow .i64 w a len cap zs) :
    Calls Tryd.prog 3 #[.slice a len cap] w fun e w' => e = .returned (.bool true) ∧ Below w.heap.size w w' := by
  have Ha : Hid (IsRow .i64 w a len cap zs) := ha
  have HE : Hid (ErrsAt ad w) := he
  have q := lawFirst13 w
  clear ha he
  go_enter Tryd.func3, Tryd.ntmps3
  go_wp2_with fail
  refine q.mono ?_
  rintro e w1 ⟨rfl, hb1⟩
  have B1 : Hid (Below w.heap.size w w1) := hb1
  clear q
  have HS : Hid (SeqAt w1.heap.size a len cap zs 0 (w1.alloc (.cells #[.slice a len cap, .int .i64 0] 26))) := SeqAt.make (Ha.out.below hb1) _
  clear hb1 Ha
  obtain ⟨W2, hW2⟩ : ∃ W2, W2 = w1.alloc (.cells #[.slice a len cap, .int .i64 0] 26) := ⟨_, rfl⟩
  have F2 : Hid (SeqAt w1.heap.size a len cap zs 0 W2 ∧ Below w.heap.size w W2 ∧ w1.heap.size < W2.heap.size ∧ w.heap.size ≤ w1.heap.size) := by
    rw [hW2]
    exact ⟨HS.out, B1.out.trans (one_box.mono B1.out.size), by simp, B1.out.size⟩
  clear HS B1
  have q3 : Calls Tryd.prog 7 #[.pointer (some ⟨w1.heap.size, 0, none⟩), .slice (some ⟨W2.heap.size, 0, none⟩) 1 1, .int .i64 10] (W2.alloc (.cells #[.int .i64 1] 3)) _ := wideAt w1.heap.size a len cap zs 0 [1] 1 10 rfl (by simp) W2 F2.out.1 (by omega) (by decide) (by decide)
  rw [hW2, World.size_alloc] at q3
  go_wp2_with fail
  refine q3.mono ?_
  rw [← hW2]
  clear hW2
  obtain ⟨S, hS⟩ : ∃ S, S = w1.heap.size := ⟨_, rfl⟩
  rw [← hS] at F2 ⊢
  clear hS
  rintro e w3 ⟨vx, x, p3, rfl, Gx, e3, hp3, s3, b3⟩
  have Gx : Hid _ := Gx
  have F3 : Hid ((AllNew W2.heap.size [(x, vx)] w3 ∧ But S W2 w3) ∧ SeqAt S a len cap zs p3 w3 ∧ p3 ≤ 61) := ⟨⟨(AllNew.nil _ _).add e3, b3⟩, s3, by omega⟩
  clear q3 e3 hp3 s3 b3
  have q4 : Calls Tryd.prog 7 #[.pointer (some ⟨S, 0, none⟩), .slice (some ⟨w3.heap.size, 0, none⟩) 1 1, .int .i64 10] (w3.alloc (.cells #[.int .i64 1] 3)) _ := wideAt S a len cap zs p3 [1] 1 10 rfl (by simp) w3 F3.out.2.1 (by have := F3.out.2.2; omega) (by decide) (by decide)
  go_wp2_with fail
  refine q4.mono ?_
  rintro e w4 ⟨vy, y, p4, rfl, Gy, e4, hp4, s4, b4⟩
  have Gy : Hid _ := Gy
  have F4 : Hid ((AllNew W2.heap.size [(y, vy), (x, vx)] w4 ∧ But S W2 w4) ∧ SeqAt S a len cap zs p4 w4 ∧ p4 ≤ 122) := ⟨⟨(F3.out.1.1.but b4 F2.out.2.2.1).add (e4.mono F3.out.1.2.size), F3.out.1.2.trans b4⟩, s4, by have := F3.out.2.2; omega⟩
  clear q4 e4 hp4 s4 b4 F3
  have A4 : Hid (AllIs [(y, vy), (x, vx)] w4 ∧ Below w.heap.size w w4) := ⟨F4.out.1.1.is, F2.out.2.1.trans (F4.out.1.2.below F2.out.2.2.2 F2.out.2.1.size)⟩
  clear F4
  have HX : Hid (IsZ x ∧ EOk x ∧ x.length ≤ 10) := Gx.out
  have HY : Hid (IsZ y ∧ EOk y ∧ y.length ≤ 10) := Gy.out
  clear Gx Gy F2
  have HEV : Hid (∀ V, Below w.heap.size w V → ErrsAt ad V) := fun V h => HE.out.on h
  have HC := onChange x y vx vy (ad 6) w4 (HEV.out w4 A4.out.2).overO (by have := HX.out.2.2; have := HY.out.2.2; omega) HX.out.2.1 HY.out.2.1 HX.out.1 HY.out.1 (A4.out.1.at 1 rfl) (A4.out.1.at 0 rfl)
  have HL : Hid (x.length + y.length ≤ 20) := by have := HX.out.2.2; have := HY.out.2.2; show _ ≤ _; omega
  by_cases hok : okZ (x ++ y) = true
  · have HS : Hid (∀ V, ErrsAt ad V → Calls Tryd.prog 14 #[.nilIface, .int .i64 0] V fun e w' => e = .returned (.bool true) ∧ Below V.heap.size V w') := fun V hV => seeIs ad none 0 V hV
    rw [hok, show ovE (ad 6) true = .nilIface from rfl] at HC
    have HK : Hid (okZ (x ++ y) = true) := hok
    clear hok
    have q5 := HC
    go_wp2_with fail
    refine q5.mono ?_
    rintro e w5 ⟨v5, rfl, e5, b5⟩
    have A5 : Hid (AllIs [(chZ x y, v5), (y, vy), (x, vx)] w5 ∧ Below w.heap.size w w5) := ⟨(A4.out.1.on b5).add e5.ents, A4.out.2.trans (b5.mono A4.out.2.size)⟩
    clear q5 e5 b5 A4
    clear HC
    have q6 := refAdd x y vx vy w5 (by have := HL.out; omega) (fun e he => (HX.out.2.1 e he).1) (fun e he => (HY.out.2.1 e he).1) (A5.out.1.at 2 rfl) (A5.out.1.at 1 rfl) 0 (by rw [HK.out]; rfl)
    go_wp2_with fail
    refine q6.mono ?_
    rintro e w6 ⟨v6, rfl, e6, b6⟩
    have A6 : Hid (AllIs [(mkZ (x ++ y), v6), (chZ x y, v5), (y, vy), (x, vx)] w6 ∧ Below w.heap.size w w6) := ⟨(A5.out.1.on b6).add e6, A5.out.2.trans (b6.mono A5.out.2.size)⟩
    clear q6 e6 b6 A5
    have HM : Hid ((mkZ (x ++ y)).length ≤ 20) := Nat.le_trans (mkZ_len _) (by simpa using HL.out)
    have q7 := refOnceI _ v6 w6 (by have := HM.out; omega) (A6.out.1.at 0 rfl)
    go_wp2_with fail
    refine q7.mono ?_
    rintro e w7 ⟨v7, rfl, e7, b7⟩
    have A7 : Hid (AllIs [(onZ (mkZ (x ++ y)), v7), (mkZ (x ++ y), v6), (chZ x y, v5), (y, vy), (x, vx)] w7 ∧ Below w.heap.size w w7) := ⟨(A6.out.1.on b7).add e7, A6.out.2.trans (b7.mono A6.out.2.size)⟩
    clear q7 e7 b7 A6
    have q8 := refOnceI _ vx w7 (by have := HL.out; omega) (A7.out.1.at 4 rfl)
    go_wp2_with fail
    refine q8.mono ?_
    rintro e w8 ⟨v8, rfl, e8, b8⟩
    have A8 : Hid (AllIs [(onZ x, v8), (onZ (mkZ (x ++ y)), v7), (mkZ (x ++ y), v6), (chZ x y, v5), (y, vy), (x, vx)] w8 ∧ Below w.heap.size w w8) := ⟨(A7.out.1.on b8).add e8, A7.out.2.trans (b8.mono A7.out.2.size)⟩
    clear q8 e8 b8 A7
    have q9 := refSub _ _ v7 v8 w8 (by have h1 := onZ_len (mkZ (x ++ y)); have h2 := onZ_len x; have := HM.out; have := HL.out; omega) (fun e he => by rw [(onZ_mem he).1]; rfl) (fun e he => by rw [(onZ_mem he).1]; rfl) (A8.out.1.at 1 rfl) (A8.out.1.at 0 rfl) 0 (by rw [show okZ (onZ (mkZ (x ++ y)) ++ (onZ x).map ngE) = true from ch_ok x y HX.out.1.1]; rfl)
    rw [show mkZ (onZ (mkZ (x ++ y)) ++ (onZ x).map ngE) = chZ x y by unfold chZ chP; rw [if_pos HK.out]] at q9
    go_wp2_with fail
    refine q9.mono ?_
    rintro e w9 ⟨v9, rfl, e9, b9⟩
    have A9 : Hid (AllIs [(chZ x y, v9), (onZ x, v8), (onZ (mkZ (x ++ y)), v7), (mkZ (x ++ y), v6), (chZ x y, v5), (y, vy), (x, vx)] w9 ∧ Below w.heap.size w w9) := ⟨(A8.out.1.on b9).add e9, A8.out.2.trans (b9.mono A8.out.2.size)⟩
    clear q9 e9 b9 A8
    clear HM
    clear HK
    have q10 := onOnce x vx w9 (by have := HL.out; omega) HX.out.2.1 (A9.out.1.at 6 rfl)
    go_wp2_with fail
    refine q10.mono ?_
    rintro e w10 ⟨va, rfl, e10, b10⟩
    have A10 : Hid (AllIs [(onZ x, va), (chZ x y, v9), (onZ x, v8), (onZ (mkZ (x ++ y)), v7), (mkZ (x ++ y), v6), (chZ x y, v5), (y, vy), (x, vx)] w10 ∧ Below w.heap.size w w10) := ⟨(A9.out.1.on b10).add e10.ents, A9.out.2.trans (b10.mono A9.out.2.size)⟩
    clear q10 e10 b10 A9
    have q11 := refOnceI x vx w10 (by have := HL.out; omega) (A10.out.1.at 7 rfl)
    go_wp2_with fail
    refine q11.mono ?_
    rintro e w11 ⟨vb, rfl, e11, b11⟩
    have A11 : Hid (AllIs [(onZ x, vb), (onZ x, va), (chZ x y, v9), (onZ x, v8), (onZ (mkZ (x ++ y)), v7), (mkZ (x ++ y), v6), (chZ x y, v5), (y, vy), (x, vx)] w11 ∧ Below w.heap.size w w11) := ⟨(A10.out.1.on b11).add e11, A10.out.2.trans (b11.mono A10.out.2.size)⟩
    clear q11 e11 b11 A10
    have q12 := sameEntries _ _ _ _ w11 (A11.out.1.at 1 rfl) (A11.out.1.at 0 rfl)
    rw [show sEs (onZ x) (onZ x) = true by unfold sEs; simp] at q12
    go_wp2_with fail
    refine q12.mono ?_
    rintro e w12 ⟨rfl, b12⟩
    have A12 : Hid (AllIs [(onZ x, vb), (onZ x, va), (chZ x y, v9), (onZ x, v8), (onZ (mkZ (x ++ y)), v7), (mkZ (x ++ y), v6), (chZ x y, v5), (y, vy), (x, vx)] w12 ∧ Below w.heap.size w w12) := ⟨A11.out.1.on b12, A11.out.2.trans (b12.mono A11.out.2.size)⟩
    clear q12 b12 A11
    have q13 := sameEntries _ _ _ _ w12 (A12.out.1.at 6 rfl) (A12.out.1.at 2 rfl)
    rw [show sEs (chZ x y) (chZ x y) = true by unfold sEs; simp] at q13
    go_wp2_with fail
    refine q13.mono ?_
    rintro e w13 ⟨rfl, b13⟩
    have A13 : Hid (AllIs [(onZ x, vb), (onZ x, va), (chZ x y, v9), (onZ x, v8), (onZ (mkZ (x ++ y)), v7), (mkZ (x ++ y), v6), (chZ x y, v5), (y, vy), (x, vx)] w13 ∧ Below w.heap.size w w13) := ⟨A12.out.1.on b13, A12.out.2.trans (b13.mono A12.out.2.size)⟩
    clear q13 b13 A12
    have q14 := HS.out w13 (HEV.out w13 A13.out.2)
    clear HS HEV HX HY HL HE
    go_wp2_with fail
    refine q14.mono ?_
    rintro e w14 ⟨rfl, b14⟩
    have A14 : Hid (AllIs [(onZ x, vb), (onZ x, va), (chZ x y, v9), (onZ x, v8), (onZ (mkZ (x ++ y)), v7), (mkZ (x ++ y), v6), (chZ x y, v5), (y, vy), (x, vx)] w14 ∧ Below w.heap.size w w14) := ⟨A13.out.1.on b14, A13.out.2.trans (b14.mono A13.out.2.size)⟩
    clear q14 b14 A13
    go_wp2_with fail
    go_ret
    exact ⟨rfl, A14.out.2⟩
  · have HS : Hid (∀ V, ErrsAt ad V → Calls Tryd.prog 14 #[errV (ad 6), .int .i64 107] V fun e w' => e = .returned (.bool true) ∧ Below V.heap.size V w') := fun V hV => seeIs ad (some 6) 107 V hV
    have hok' : okZ (x ++ y) = false := by simpa using hok
    rw [hok', show ovE (ad 6) false = errV (ad 6) from rfl, show chZ x y = [] by unfold chZ; rw [if_neg hok]] at HC
    unfold errV at HC HS
    have HK : Hid (okZ (x ++ y) = false) := hok'
    clear hok hok'
    have q5 := HC
    go_wp2_with fail
    refine q5.mono ?_
    rintro e w5 ⟨v5, rfl, e5, b5⟩
    have A5 : Hid (AllIs [(([] : List Ent), v5), (y, vy), (x, vx)] w5 ∧ Below w.heap.size w w5) := ⟨(A4.out.1.on b5).add e5.ents, A4.out.2.trans (b5.mono A4.out.2.size)⟩
    clear q5 e5 b5 A4
    clear HC
    have q6 := refAdd x y vx vy w5 (by have := HL.out; omega) (fun e he => (HX.out.2.1 e he).1) (fun e he => (HY.out.2.1 e he).1) (A5.out.1.at 2 rfl) (A5.out.1.at 1 rfl) 107 (by rw [HK.out]; rfl)
    go_wp2_with fail
    refine q6.mono ?_
    rintro e w6 ⟨v6, rfl, e6, b6⟩
    have A6 : Hid (AllIs [(mkZ (x ++ y), v6), (([] : List Ent), v5), (y, vy), (x, vx)] w6 ∧ Below w.heap.size w w6) := ⟨(A5.out.1.on b6).add e6, A5.out.2.trans (b6.mono A5.out.2.size)⟩
    clear q6 e6 b6 A5
    clear HK
    have q7 := onOnce x vx w6 (by have := HL.out; omega) HX.out.2.1 (A6.out.1.at 3 rfl)
    go_wp2_with fail
    refine q7.mono ?_
    rintro e w7 ⟨va, rfl, e7, b7⟩
    have A7 : Hid (AllIs [(onZ x, va), (mkZ (x ++ y), v6), (([] : List Ent), v5), (y, vy), (x, vx)] w7 ∧ Below w.heap.size w w7) := ⟨(A6.out.1.on b7).add e7.ents, A6.out.2.trans (b7.mono A6.out.2.size)⟩
    clear q7 e7 b7 A6
    have q8 := refOnceI x vx w7 (by have := HL.out; omega) (A7.out.1.at 4 rfl)
    go_wp2_with fail
    refine q8.mono ?_
    rintro e w8 ⟨vb, rfl, e8, b8⟩
    have A8 : Hid (AllIs [(onZ x, vb), (onZ x, va), (mkZ (x ++ y), v6), (([] : List Ent), v5), (y, vy), (x, vx)] w8 ∧ Below w.heap.size w w8) := ⟨(A7.out.1.on b8).add e8, A7.out.2.trans (b8.mono A7.out.2.size)⟩
    clear q8 e8 b8 A7
    have q9 := sameEntries _ _ _ _ w8 (A8.out.1.at 1 rfl) (A8.out.1.at 0 rfl)
    rw [show sEs (onZ x) (onZ x) = true by unfold sEs; simp] at q9
    go_wp2_with fail
    refine q9.mono ?_
    rintro e w9 ⟨rfl, b9⟩
    have A9 : Hid (AllIs [(onZ x, vb), (onZ x, va), (mkZ (x ++ y), v6), (([] : List Ent), v5), (y, vy), (x, vx)] w9 ∧ Below w.heap.size w w9) := ⟨A8.out.1.on b9, A8.out.2.trans (b9.mono A8.out.2.size)⟩
    clear q9 b9 A8
    have q10 := sameEntries _ _ _ _ w9 (A9.out.1.at 3 rfl) (EntsIs.nil w9 none 0)
    rw [show sEs ([] : List Ent) [] = true from rfl] at q10
    go_wp2_with fail
    refine q10.mono ?_
    rintro e w10 ⟨rfl, b10⟩
    have A10 : Hid (AllIs [(onZ x, vb), (onZ x, va), (mkZ (x ++ y), v6), (([] : List Ent), v5), (y, vy), (x, vx)] w10 ∧ Below w.heap.size w w10) := ⟨A9.out.1.on b10, A9.out.2.trans (b10.mono A9.out.2.size)⟩
    clear q10 b10 A9
    have q11 := HS.out w10 (HEV.out w10 A10.out.2)
    clear HS HEV HX HY HL HE
    go_wp2_with fail
    refine q11.mono ?_
    rintro e w11 ⟨rfl, b11⟩
    have A11 : Hid (AllIs [(onZ x, vb), (onZ x, va), (mkZ (x ++ y), v6), (([] : List Ent), v5), (y, vy), (x, vx)] w11 ∧ Below w.heap.size w w11) := ⟨A10.out.1.on b11, A10.out.2.trans (b11.mono A10.out.2.size)⟩
    clear q11 b11 A10
    go_wp2_with fail
    go_ret
    exact ⟨rfl, A11.out.2⟩
theorem onceSays_walk (a : Option Addr) (len cap : Nat) (zs : List Int) (w : World) (he : ∃ ad, ErrsAt ad w) (ha : IsRow .i64 w a len cap zs) :
    Calls Tryd.prog 3 #[.slice a len cap] w fun e w' => e = .returned (.bool true) ∧ Below w.heap.size w w' := by
  obtain ⟨ad, he⟩ := he
  by_cases h : 150 < (len : Int)
  · exact oy_long a len cap ad w he h
  · exact oy_main a len cap zs ad h w he ha
end Go.Proofs.YtmpochhcokmaiaaDoor
