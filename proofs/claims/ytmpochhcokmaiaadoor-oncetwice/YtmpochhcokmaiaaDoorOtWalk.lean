/- The walk of the law that once more is the same, and that changes make it what it is then. -/
import Derived.Test.YtmpochhcokmaiaaDoorOnceChg
import Derived.Test.YtmpochhcokmaiaaDoorOnceFirst
import Derived.Test.YtmpochhcokmaiaaDoorSetAt
namespace Go.Proofs.YtmpochhcokmaiaaDoor
open Go.RowKit Go.Sort
set_option maxRecDepth 100000
set_option linter.unusedVariables false

set_option maxHeartbeats 1000000 in
theorem ot_long (a : Option Addr) (len cap : Nat) (eO : Addr) (w : World) (he : OverAt eO w) (h : 150 < (len : Int)) :
    Calls Tryd.prog 4 #[.slice a len cap] w fun e w' => e = .returned (.bool true) ∧ Below w.heap.size w w' := by
  have q := lawFirst13 w
  clear he
  go_enter Tryd.func4, Tryd.ntmps4
  go_wp2_with fail
  refine q.mono ?_
  rintro e w1 ⟨rfl, hb1⟩
  go_wp2_with fail
  go_ret
  exact ⟨rfl, hb1⟩
set_option maxHeartbeats 16000000 in
theorem ot_main (a : Option Addr) (len cap : Nat) (zs : List Int) (eO : Addr) (h : ¬ 150 < (len : Int)) (w : World) (he : OverAt eO w) (ha : IsRow .i64 w a len cap zs) :
    Calls Tryd.prog 4 #[.slice a len cap] w fun e w' => e = .returned (.bool true) ∧ Below w.heap.size w w' := by
  have Ha : Hid (IsRow .i64 w a len cap zs) := ha
  have HE : Hid (OverAt eO w) := he
  have q := lawFirst13 w
  clear ha he
  go_enter Tryd.func4, Tryd.ntmps4
  go_wp2_with fail
  refine q.mono ?_
  rintro e w1 ⟨rfl, hb1⟩
  have B1 : Hid (Below w.heap.size w w1) := hb1
  clear q
  have HS : Hid (SeqAt w1.heap.size a len cap zs 0 (w1.alloc (.cells #[.slice a len cap, .int .i64 0] 26))) := SeqAt.make (Ha.out.below hb1) _
  clear hb1 Ha
  obtain ⟨W2, hW2⟩ : ∃ W2, W2 = w1.alloc (.cells #[.slice a len cap, .int .i64 0] 26) := ⟨_, rfl⟩
  have F2 : Hid (SeqAt w1.heap.size a len cap zs 0 W2 ∧ Below w.heap.size w W2 ∧ w1.heap.size < W2.heap.size ∧ w.heap.size ≤ w1.heap.size) := by
    rw [hW2]
    exact ⟨HS.out, B1.out.trans (one_box.mono B1.out.size), by simp, B1.out.size⟩
  clear HS B1
  have q3 : Calls Tryd.prog 15 #[.pointer (some ⟨w1.heap.size, 0, none⟩), .slice (some ⟨W2.heap.size, 0, none⟩) 2 2, .int .i64 10] (W2.alloc (.cells #[.int .i64 1, .int .i64 3] 3)) _ := setAt w1.heap.size a len cap zs 0 [1, 3] 2 10 rfl (by simp) W2 F2.out.1 (by omega) (by decide) (by decide)
  rw [hW2, World.size_alloc] at q3
  go_wp2_with fail
  refine q3.mono ?_
  rw [← hW2]
  clear hW2
  obtain ⟨S, hS⟩ : ∃ S, S = w1.heap.size := ⟨_, rfl⟩
  rw [← hS] at F2 ⊢
  clear hS
  rintro e w3 ⟨vx, x, p3, rfl, Gx, e3, hp3, s3, b3⟩
  have Gx : Hid _ := Gx
  have F3 : Hid ((AllNew W2.heap.size [(x, vx)] w3 ∧ But S W2 w3) ∧ SeqAt S a len cap zs p3 w3 ∧ p3 ≤ 101) := ⟨⟨(AllNew.nil _ _).add e3, b3⟩, s3, by omega⟩
  clear q3 e3 hp3 s3 b3
  have q4 : Calls Tryd.prog 15 #[.pointer (some ⟨S, 0, none⟩), .slice (some ⟨w3.heap.size, 0, none⟩) 2 2, .int .i64 10] (w3.alloc (.cells #[.int .i64 1, .int .i64 3] 3)) _ := setAt S a len cap zs p3 [1, 3] 2 10 rfl (by simp) w3 F3.out.2.1 (by have := F3.out.2.2; omega) (by decide) (by decide)
  go_wp2_with fail
  refine q4.mono ?_
  rintro e w4 ⟨vy, y, p4, rfl, Gy, e4, hp4, s4, b4⟩
  have Gy : Hid _ := Gy
  have F4 : Hid ((AllNew W2.heap.size [(y, vy), (x, vx)] w4 ∧ But S W2 w4) ∧ SeqAt S a len cap zs p4 w4 ∧ p4 ≤ 202) := ⟨⟨(F3.out.1.1.but b4 F2.out.2.2.1).add (e4.mono F3.out.1.2.size), F3.out.1.2.trans b4⟩, s4, by have := F3.out.2.2; omega⟩
  clear q4 e4 hp4 s4 b4 F3
  have A4 : Hid (AllIs [(y, vy), (x, vx)] w4 ∧ Below w.heap.size w w4) := ⟨F4.out.1.1.is, F2.out.2.1.trans (F4.out.1.2.below F2.out.2.2.2 F2.out.2.1.size)⟩
  clear F4
  have HX : Hid (S3 1000 10 2 x ∧ S3 1000 10 2 y) := ⟨Gx.out.1, Gy.out.1⟩
  have HE2 : Hid (EOk x ∧ EOk y) := ⟨Gx.out.1.ok (by decide) (by decide), Gy.out.1.ok (by decide) (by decide)⟩
  clear Gx Gy F2
  have HOV : Hid (∀ V, Below w.heap.size w V → OverAt eO V) := fun V h => HE.out.on h
  have HK : Hid (okZ (x ++ y) = true) := (HX.out.1.add HX.out.2 (by decide)).1
  have HP : Hid (okZ (onZ x ++ chZ x y) = true ∧ mkZ (onZ x ++ chZ x y) = onZ (mkZ (x ++ y))) := ch_put HX.out.1.1.1 HK.out
  have HO1 : Hid (∀ e ∈ chZ x y, e.2 = 1 ∨ e.2 = -1) := ch_one HX.out.1.1.1
  have HLN : Hid ((chZ x y).length ≤ 40 ∧ (mkZ (x ++ y)).length ≤ 20 ∧ (onZ x).length ≤ 10) := by
    have h1 := HX.out.1.2.2.1
    have h2 := HX.out.2.2.2.1
    have h3 := mkZ_len (x ++ y)
    have h4 := onZ_len (mkZ (x ++ y))
    have h5 := onZ_len x
    have h6 := mkZ_len (chP x y)
    unfold chP at h6
    rw [List.length_append, List.length_map] at h6
    rw [List.length_append] at h3
    refine ⟨?_, by omega, by omega⟩
    unfold chZ
    split
    · unfold chP; omega
    · simp
  have q5 := onOnce x vx w4 (by have := HX.out.1.2.2.1; omega) HE2.out.1 (A4.out.1.at 1 rfl)
  go_wp2_with fail
  refine q5.mono ?_
  rintro e w5 ⟨vo, rfl, e5, b5⟩
  have A5 : Hid (AllIs [(onZ x, vo), (y, vy), (x, vx)] w5 ∧ Below w.heap.size w w5) := ⟨(A4.out.1.on b5).add e5.ents, A4.out.2.trans (b5.mono A4.out.2.size)⟩
  clear q5 e5 b5 A4
  have q6 := onChange x y vx vy eO w5 (HOV.out w5 A5.out.2) (by have := HX.out.1.2.2.1; have := HX.out.2.2.2.1; omega) HE2.out.1 HE2.out.2 HX.out.1.1 HX.out.2.1 (A5.out.1.at 2 rfl) (A5.out.1.at 1 rfl)
  rw [HK.out, show ovE eO true = .nilIface from rfl] at q6
  go_wp2_with fail
  refine q6.mono ?_
  rintro e w6 ⟨vd, rfl, e6, b6⟩
  have A6 : Hid (AllIs [(chZ x y, vd), (onZ x, vo), (y, vy), (x, vx)] w6 ∧ Below w.heap.size w w6) := ⟨(A5.out.1.on b6).add e6.ents, A5.out.2.trans (b6.mono A5.out.2.size)⟩
  clear q6 e6 b6 A5
  have q7 := addSmall HX.out.1 HX.out.2 (by decide) (by decide) vx vy w6 (A6.out.1.at 3 rfl) (A6.out.1.at 2 rfl)
  go_wp2_with fail
  refine q7.mono ?_
  rintro e w7 ⟨vs, rfl, e7, b7⟩
  have A7 : Hid (AllIs [(mkZ (x ++ y), vs), (chZ x y, vd), (onZ x, vo), (y, vy), (x, vx)] w7 ∧ Below w.heap.size w w7) := ⟨(A6.out.1.on b7).add e7, A6.out.2.trans (b7.mono A6.out.2.size)⟩
  clear q7 e7 b7 A6
  have q8 := refAdd _ _ vo vd w7 (by have := HLN.out; omega) (fun e he => by rw [(onZ_mem he).1]; rfl) (fun e he => by rcases HO1.out e he with h | h <;> rw [h] <;> rfl) (A7.out.1.at 2 rfl) (A7.out.1.at 1 rfl) 0 (by rw [HP.out.1]; rfl)
  rw [HP.out.2] at q8
  go_wp2_with fail
  refine q8.mono ?_
  rintro e w8 ⟨vt, rfl, e8, b8⟩
  have A8 : Hid (AllIs [(onZ (mkZ (x ++ y)), vt), (mkZ (x ++ y), vs), (chZ x y, vd), (onZ x, vo), (y, vy), (x, vx)] w8 ∧ Below w.heap.size w w8) := ⟨(A7.out.1.on b8).add e8, A7.out.2.trans (b8.mono A7.out.2.size)⟩
  clear q8 e8 b8 A7
  have HEO : Hid (EOk (onZ x) ∧ EOk (mkZ (x ++ y))) := ⟨on_eok HE2.out.1, ((HX.out.1.add HX.out.2 (by decide)).2.1).ok (by decide) (by decide)⟩
  have HOO : Hid (onZ (onZ x) = onZ x) := on_on HX.out.1.1.1
  obtain ⟨ad, cd, hvd⟩ := (A8.out.1.at 2 rfl).form
  subst hvd
  have ln : (chZ x y).length ≤ 40 := HLN.out.1
  clear HK HP HE2 HOV HX HE
  generalize chZ x y = d at *
  generalize mkZ (x ++ y) = s at *
  go_wp2_with fail
  go_loopw [14] (fun i wr => ∃ j : Nat, j ≤ d.length ∧ i = .int .i64 j ∧ Hid (Below w8.heap.size w8 wr)) (fun i _ => d.length - (intOf i).toNat)
  case atStart => exact ⟨0, by omega, rfl, Below.refl _ _⟩
  case round =>
    obtain ⟨j, hj, rfl, hT⟩ := hrel
    by_cases k1 : j < d.length
    · have I1 : (j : Int) < (d.length : Int) := by omega
      have I3 : (0 : Int) ≤ (j : Int) := by omega
      obtain ⟨bd, od, ar, cr, hbo, xa1, xa2, _⟩ := (A8.out.1.at 2 rfl).at j k1
      subst hbo
      have y2 := cell_on xa2 hT.out
      have hw := HO1.out _ (List.getElem_mem k1)
      clear xa1 xa2
      generalize d[j].2 = e2 at *
      rcases hw with rfl | rfl
      · go_wp2_with fail
        go_roundw
        case rel => exact ⟨j + 1, by omega, by go_num, hT.out⟩
        case measure => simp [intOf]; omega
      · go_wp2_with fail
        go_roundw
        case rel => exact ⟨j + 1, by omega, by go_num, hT.out⟩
        case measure => simp [intOf]; omega
    · have I1 : ¬ (j : Int) < (d.length : Int) := by omega
      have AA : Hid (AllIs [(onZ (s), vt), (s, vs), (d, .slice ad (d).length cd), (onZ x, vo), (y, vy), (x, vx)] wr ∧ Below w.heap.size w wr) := ⟨A8.out.1.on hT.out, A8.out.2.trans (hT.out.mono A8.out.2.size)⟩
      clear A8 hT HO1
      generalize wr = w8 at *
      have A8 := AA
      clear AA
      have q9 := onOnce _ vo w8 (by have := HLN.out; omega) HEO.out.1 (A8.out.1.at 3 rfl)
      rw [HOO.out] at q9
      go_wp2_with fail
      refine q9.mono ?_
      rintro e w9 ⟨v1, rfl, e9, b9⟩
      have A9 : Hid (AllIs [(onZ x, v1), (onZ (s), vt), (s, vs), (d, .slice ad (d).length cd), (onZ x, vo), (y, vy), (x, vx)] w9 ∧ Below w.heap.size w w9) := ⟨(A8.out.1.on b9).add e9.ents, A8.out.2.trans (b9.mono A8.out.2.size)⟩
      clear q9 e9 b9 A8
      have q10 := sameEntries _ _ _ _ w9 (A9.out.1.at 0 rfl) (A9.out.1.at 4 rfl)
      rw [show sEs (onZ x) (onZ x) = true by unfold sEs; simp] at q10
      go_wp2_with fail
      refine q10.mono ?_
      rintro e w10 ⟨rfl, b10⟩
      have A10 : Hid (AllIs [(onZ x, v1), (onZ (s), vt), (s, vs), (d, .slice ad (d).length cd), (onZ x, vo), (y, vy), (x, vx)] w10 ∧ Below w.heap.size w w10) := ⟨A9.out.1.on b10, A9.out.2.trans (b10.mono A9.out.2.size)⟩
      clear q10 b10 A9
      have q11 := onOnce _ vs w10 (by have := HLN.out; omega) HEO.out.2 (A10.out.1.at 2 rfl)
      go_wp2_with fail
      refine q11.mono ?_
      rintro e w11 ⟨v2, rfl, e11, b11⟩
      have A11 : Hid (AllIs [(onZ s, v2), (onZ x, v1), (onZ (s), vt), (s, vs), (d, .slice ad (d).length cd), (onZ x, vo), (y, vy), (x, vx)] w11 ∧ Below w.heap.size w w11) := ⟨(A10.out.1.on b11).add e11.ents, A10.out.2.trans (b11.mono A10.out.2.size)⟩
      clear q11 e11 b11 A10
      have q12 := sameEntries _ _ _ _ w11 (A11.out.1.at 2 rfl) (A11.out.1.at 0 rfl)
      rw [show sEs (onZ s) (onZ s) = true by unfold sEs; simp] at q12
      go_wp2_with fail
      refine q12.mono ?_
      rintro e w12 ⟨rfl, b12⟩
      have A12 : Hid (AllIs [(onZ s, v2), (onZ x, v1), (onZ (s), vt), (s, vs), (d, .slice ad (d).length cd), (onZ x, vo), (y, vy), (x, vx)] w12 ∧ Below w.heap.size w w12) := ⟨A11.out.1.on b12, A11.out.2.trans (b12.mono A11.out.2.size)⟩
      clear q12 b12 A11
      clear HLN HEO HOO
      go_wp2_with fail
      go_ret
      exact ⟨rfl, A12.out.2⟩
theorem onceTwice_walk (a : Option Addr) (len cap : Nat) (zs : List Int) (w : World) (he : ∃ ad, OverAt ad w) (ha : IsRow .i64 w a len cap zs) :
    Calls Tryd.prog 4 #[.slice a len cap] w fun e w' => e = .returned (.bool true) ∧ Below w.heap.size w w' := by
  obtain ⟨ad, he⟩ := he
  by_cases h : 150 < (len : Int)
  · exact ot_long a len cap ad w he h
  · exact ot_main a len cap zs ad h w he ha
end Go.Proofs.YtmpochhcokmaiaaDoor
