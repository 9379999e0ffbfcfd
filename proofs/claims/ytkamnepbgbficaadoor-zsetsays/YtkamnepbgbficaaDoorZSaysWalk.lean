/- The law ZsetSays answers true at every argument. -/
import Derived.Test.YtkamnepbgbficaaDoorZSub
namespace Go.Proofs.YtkamnepbgbficaaDoor
open Go.RowKit Go.Sort
set_option maxRecDepth 100000

/-- What stands while the calls are held against each other: the errors, the three lists, the maker. -/
structure Says (w : World) (ad : Fin 11 → Addr) (S : Nat) (a : Option Addr) (len cap : Nat) (zs : List Int) (p : Nat) (l za zb : List Ent) (ve va vb : Value) (W : World) : Prop where
  b : Below w.heap.size w W
  e : EntsNew (S + 1) l ve W
  x : EntsNew (S + 1) za va W
  y : EntsNew (S + 1) zb vb W
  s : SeqAt S a len cap zs p W
  r : ErrsAt ad W
theorem Says.on {w : World} {ad : Fin 11 → Addr} {S : Nat} {a : Option Addr} {len cap : Nat} {zs : List Int} {p : Nat} {l za zb : List Ent} {ve va vb : Value} {W W' : World} (h : Says w ad S a len cap zs p l za zb ve va vb W) (hb : Below W.heap.size W W') : Says w ad S a len cap zs p l za zb ve va vb W' :=
  ⟨h.b.trans (hb.mono h.b.size), h.e.on hb, h.x.on hb, h.y.on hb, h.s.on hb, h.r.on hb⟩
/-- A call of the program's and the document's own: the same list, the same error. -/
def PairOk (f1 f2 : FuncId) (args : Array Value) (St : World → Prop) : Prop := ∃ (fv : Value) (c : Int) (Z : List Ent),
  (∀ W, St W → Calls Tryd.prog f1 args W fun e w' => ∃ v, e = .returned (.tuple #[v, fv]) ∧ EntsIs w' v Z ∧ Below W.heap.size W w') ∧
  (∀ W, St W → Calls Tryd.prog f2 args W fun e w' => ∃ v, e = .returned (.tuple #[v, .int .i64 c]) ∧ EntsIs w' v Z ∧ Below W.heap.size W w') ∧
  (∀ W, St W → Calls Tryd.prog 14 #[fv, .int .i64 c] W fun e w' => e = .returned (.bool true) ∧ Below W.heap.size W w')
theorem is_ok (ad : Fin 11 → Addr) (ok : Bool) (W : World) (h : ErrsAt ad W) : Calls Tryd.prog 14 #[ovE (ad 6) ok, .int .i64 (if ok then 0 else 107)] W fun e w' => e = .returned (.bool true) ∧ Below W.heap.size W w' := by
  cases ok
  · exact seeIs ad (some 6) 107 W h
  · exact seeIs ad none 0 W h
section
variable {w : World} {ad : Fin 11 → Addr} {S : Nat} {a : Option Addr} {len cap : Nat} {zs : List Int} {p : Nat} {l za zb : List Ent} {ve va vb : Value}
theorem pair_make (hl : l.length ≤ 100) (ok : EOk l) : PairOk 11 12 #[ve] (Says w ad S a len cap zs p l za zb ve va vb) :=
  ⟨ovE (ad 6) (okZ l), if okZ l then 0 else 107, mkZ l, fun W h => zMake l ve (ad 6) W h.r.over (by omega) ok h.e.ents, fun W h => refMake l ve W (by omega) (fun e he => (ok e he).1) h.e.ents _ rfl, fun W h => is_ok ad (okZ l) W h.r⟩
theorem pair_add (hx : za.length ≤ 10) (hy : zb.length ≤ 10) (zx : IsZ za) (zy : IsZ zb) (kx : EOk za) (ky : EOk zb) : PairOk 15 16 #[va, vb] (Says w ad S a len cap zs p l za zb ve va vb) :=
  ⟨ovE (ad 6) (okZ (za ++ zb)), if okZ (za ++ zb) then 0 else 107, mkZ (za ++ zb), fun W h => zAdd za zb va vb (ad 6) W h.r.over (by omega) kx ky zx.1 zy.1 h.x.ents h.y.ents, fun W h => refAdd za zb va vb W (by omega) (fun e he => (kx e he).1) (fun e he => (ky e he).1) h.x.ents h.y.ents _ rfl, fun W h => is_ok ad _ W h.r⟩
theorem pair_sub (hx : za.length ≤ 10) (hy : zb.length ≤ 10) (zx : IsZ za) (zy : IsZ zb) (kx : EOk za) (ky : EOk zb) : PairOk 17 18 #[va, vb] (Says w ad S a len cap zs p l za zb ve va vb) :=
  ⟨ovE (ad 6) (okZ (za ++ zb.map ngE)), if okZ (za ++ zb.map ngE) then 0 else 107, mkZ (za ++ zb.map ngE), fun W h => zSub za zb va vb (ad 6) W h.r.over (by omega) kx ky zx.1 zy.1 h.x.ents h.y.ents, fun W h => refSub za zb va vb W (by omega) (fun e he => (kx e he).1) (fun e he => (ky e he).1) h.x.ents h.y.ents _ rfl, fun W h => is_ok ad _ W h.r⟩
theorem pair_neg (hx : za.length ≤ 10) (zx : IsZ za) (kx : EOk za) : PairOk 19 20 #[va] (Says w ad S a len cap zs p l za zb ve va vb) :=
  ⟨ovE (ad 6) (ngOk za), if ngOk za then 0 else 107, ngZ za, fun W h => zNeg za va (ad 6) W h.r.over (by omega) kx zx h.x.ents, fun W h => refNeg za va W (by omega) (fun e he => (kx e he).1) h.x.ents _ rfl, fun W h => is_ok ad _ W h.r⟩
theorem same_ok {Z : List Ent} {vx vy : Value} {W : World} (hx : EntsIs W vx Z) (hy : EntsIs W vy Z) : Calls Tryd.prog 13 #[vx, vy] W fun e w' => e = .returned (.bool true) ∧ Below W.heap.size W w' := by
  have q := sameEntries Z Z vx vy W hx hy
  have e : sEs Z Z = true := by unfold sEs; simp
  rw [e] at q; exact q
end
set_option maxHeartbeats 16000000 in
theorem zsays_main (a : Option Addr) (len cap : Nat) (zs : List Int) (a' : Option Addr) (len' cap' : Nat) (zs' : List Int) (h1 : (len : Int) ≤ 150) (h2 : (len' : Int) ≤ 150) (ad : Fin 11 → Addr) (w : World) (he : ErrsAt ad w) (ha : IsRow .i64 w a len cap zs) (ha' : IsRow .i64 w a' len' cap' zs') :
    Calls Tryd.prog 3 #[.slice a len cap, .slice a' len' cap'] w fun e w' => e = .returned (.bool true) ∧ Below w.heap.size w w' := by
  have Ha : Hid (IsRow .i64 w a len cap zs) := ha
  have Ha' : Hid (IsRow .i64 w a' len' cap' zs') := ha'
  have HE : Hid (∀ W, Below w.heap.size w W → ErrsAt ad W) := fun W hW => he.on hW
  have qf := lawFirst3 (ad 6) w he.over
  clear ha ha' he
  go_enter Tryd.func3, Tryd.ntmps3
  go_wp2_with fail
  refine qf.mono ?_
  rintro e w1 ⟨rfl, hb⟩
  have B1 : Hid (Below w.heap.size w w1) := hb
  clear hb qf
  go_wp2_with fail
  have M := seqCols (Ha.out.below B1.out) [1, 2] 26 3
  refine (makeEntries w1.heap.size a len cap zs 0 (w1.heap.size + 1) 2 2 [1, 2] 14 _ M.1 (by decide) (by decide) M.2 (by omega) (by simp) (by intro i h; match i, h with | 0, _ => simp | 1, _ => simp)).mono ?_
  clear M
  rintro e w2 ⟨ve, rfl, l, us, p, e1, e2, e3, e4, e5, e6, e7⟩
  have B2 : Hid (Below w.heap.size w w2) := (B1.out.trans (below_two.mono B1.out.size)).trans (e7.below B1.out.size (by have := B1.out.size; simp; omega))
  have N2 : Hid (EntsNew (w1.heap.size + 1) l ve w2) := (EntsNew.of_own e3 e4).mono (by simp)
  have S2 : Hid (SeqAt w1.heap.size a len cap zs p w2) := e6
  have HL : Hid (l.length ≤ 100 ∧ EOk l) := ⟨by omega, fun e he => ⟨(e2 e he).1, by have := (e2 e he).2; omega⟩⟩
  have hp : p ≤ 1000 := by omega
  have s12 : w1.heap.size < w2.heap.size := e6.2.2.2.1
  obtain ⟨aE, cE, rfl⟩ := own_form e3
  clear e1 e2 e3 e4 e5 e6 e7
  go_wp2_with fail
  have C2 : ColsAt w2.heap.size [1] (w2.alloc (.cells #[.int .i64 1] 3)) := ⟨by simp, fun i hi => by
    rw [World.cell?_alloc_at _ _ _ _ (by simp)]
    obtain rfl : i = 0 := by simp at hi; exact hi
    rfl⟩
  refine (makeWide w1.heap.size a len cap zs p w2.heap.size 1 1 [1] 10 _ (S2.out.on one_box) (by omega) (by decide) C2 (by omega) (by decide) (by simp) (by intro i h; match i, h with | 0, _ => simp)).mono ?_
  rintro e w3 ⟨va, za, rfl, p3, i1, i2, i3, i4, i5, i6, i7⟩
  have hs3 : w2.heap.size < w3.heap.size := by have := i7.size; simp at this; omega
  have B3 : Hid (Below w.heap.size w w3) := (B2.out.trans (one_box.mono B2.out.size)).trans (i7.below (by have := B1.out.size; omega) (by have := B2.out.size; simp; omega))
  have N3 : Hid (EntsNew (w1.heap.size + 1) l (.slice aE us.length cE) w3) := (N2.out.on one_box).but i7 (by omega)
  have X3 : Hid (EntsNew (w1.heap.size + 1) za va w3) := i4.mono (by simp; omega)
  have S3 : Hid (SeqAt w1.heap.size a len cap zs p3 w3) := i6
  have HX : Hid (IsZ za ∧ EOk za ∧ za.length ≤ 10) := ⟨i1, i2, i3⟩
  have hp3 : p3 ≤ 2000 := by omega
  have f3 := i4.ents.form
  clear C2 B2 N2 S2 i1 i2 i3 i4 i5 i6 i7
  obtain ⟨aA, cA, rfl⟩ := f3
  go_wp2_with fail
  have M4 : SeqAt w3.heap.size a' len' cap' zs' 0 ((w3.alloc (.cells #[.slice a' len' cap', .int .i64 0] 26)).alloc (.cells #[.int .i64 1] 3)) ∧ ColsAt (w3.heap.size + 1) [1] ((w3.alloc (.cells #[.slice a' len' cap', .int .i64 0] 26)).alloc (.cells #[.int .i64 1] 3)) := seqCols (Ha'.out.below B3.out) [1] 26 3
  refine (makeWide w3.heap.size a' len' cap' zs' 0 (w3.heap.size + 1) 1 1 [1] 10 _ M4.1 (by omega) (by decide) M4.2 (by omega) (by decide) (by simp) (by intro i h; match i, h with | 0, _ => simp)).mono ?_
  rintro e w4 ⟨vb, zb, rfl, p4, i1, i2, i3, i4, i5, i6, i7⟩
  have hb34 : Below w3.heap.size w3 w4 := below_two.trans (i7.below (Nat.le_refl _) (by simp; omega))
  have T4 : Hid (Says w ad w1.heap.size a len cap zs p3 l za zb (.slice aE us.length cE) (.slice aA za.length cA) vb w4) :=
    ⟨B3.out.trans (hb34.mono B3.out.size), N3.out.on hb34, X3.out.on hb34, i4.mono (by simp; omega), S3.out.on hb34, HE.out _ (B3.out.trans (hb34.mono B3.out.size))⟩
  have HY : Hid (IsZ zb ∧ EOk zb ∧ zb.length ≤ 10) := ⟨i1, i2, i3⟩
  have f4 := i4.ents.form
  clear M4 hb34 B3 N3 X3 S3 i1 i2 i3 i4 i5 i6 i7
  obtain ⟨aB, cB, rfl⟩ := f4
  have PA : Hid (PairOk 11 12 #[.slice aE us.length cE] (Says w ad w1.heap.size a len cap zs p3 l za zb (.slice aE us.length cE) (.slice aA za.length cA) (.slice aB zb.length cB))) := pair_make HL.out.1 HL.out.2
  have PB : Hid (PairOk 15 16 #[.slice aA za.length cA, .slice aB zb.length cB] (Says w ad w1.heap.size a len cap zs p3 l za zb (.slice aE us.length cE) (.slice aA za.length cA) (.slice aB zb.length cB))) := pair_add HX.out.2.2 HY.out.2.2 HX.out.1 HY.out.1 HX.out.2.1 HY.out.2.1
  have PC : Hid (PairOk 17 18 #[.slice aA za.length cA, .slice aB zb.length cB] (Says w ad w1.heap.size a len cap zs p3 l za zb (.slice aE us.length cE) (.slice aA za.length cA) (.slice aB zb.length cB))) := pair_sub HX.out.2.2 HY.out.2.2 HX.out.1 HY.out.1 HX.out.2.1 HY.out.2.1
  have PD : Hid (PairOk 19 20 #[.slice aA za.length cA] (Says w ad w1.heap.size a len cap zs p3 l za zb (.slice aE us.length cE) (.slice aA za.length cA) (.slice aB zb.length cB))) := pair_neg HX.out.2.2 HX.out.1 HX.out.2.1
  obtain ⟨fvA, coA, ZA, q1A, q2A, q3A⟩ := PA.out
  have Q2A : Hid (∀ W, Says w ad w1.heap.size a len cap zs p3 l za zb (.slice aE us.length cE) (.slice aA za.length cA) (.slice aB zb.length cB) W → _) := q2A
  have Q3A : Hid (∀ W, Says w ad w1.heap.size a len cap zs p3 l za zb (.slice aE us.length cE) (.slice aA za.length cA) (.slice aB zb.length cB) W → _) := q3A
  have qA := q1A w4 T4.out
  clear q1A q2A q3A PA
  go_wp2_with fail
  refine qA.mono ?_
  rintro e w5 ⟨xA, rfl, ex, hb⟩
  have T5 : Hid (Says w ad w1.heap.size a len cap zs p3 l za zb (.slice aE us.length cE) (.slice aA za.length cA) (.slice aB zb.length cB) w5) := T4.out.on hb
  have X5 : Hid (EntsIs w5 xA ZA) := ex
  have qq := Q2A.out w5 T5.out
  clear qA ex hb Q2A T4
  go_wp2_with fail
  refine qq.mono ?_
  rintro e w6 ⟨yA, rfl, ex, hb⟩
  have T6 : Hid (Says w ad w1.heap.size a len cap zs p3 l za zb (.slice aE us.length cE) (.slice aA za.length cA) (.slice aB zb.length cB) w6) := T5.out.on hb
  have qs := same_ok (X5.out.on hb) ex
  clear qq ex hb X5 T5
  go_wp2_with fail
  refine qs.mono ?_
  rintro e w7 ⟨rfl, hb⟩
  have T7 : Hid (Says w ad w1.heap.size a len cap zs p3 l za zb (.slice aE us.length cE) (.slice aA za.length cA) (.slice aB zb.length cB) w7) := T6.out.on hb
  have qi := Q3A.out w7 T7.out
  clear qs hb T6 Q3A
  go_wp2_with fail
  refine qi.mono ?_
  rintro e w8 ⟨rfl, hb⟩
  have T8 : Hid (Says w ad w1.heap.size a len cap zs p3 l za zb (.slice aE us.length cE) (.slice aA za.length cA) (.slice aB zb.length cB) w8) := T7.out.on hb
  clear qi hb T7
  obtain ⟨fvB, coB, ZB, q1B, q2B, q3B⟩ := PB.out
  have Q2B : Hid (∀ W, Says w ad w1.heap.size a len cap zs p3 l za zb (.slice aE us.length cE) (.slice aA za.length cA) (.slice aB zb.length cB) W → _) := q2B
  have Q3B : Hid (∀ W, Says w ad w1.heap.size a len cap zs p3 l za zb (.slice aE us.length cE) (.slice aA za.length cA) (.slice aB zb.length cB) W → _) := q3B
  have qB := q1B w8 T8.out
  clear q1B q2B q3B PB
  go_wp2_with fail
  refine qB.mono ?_
  rintro e w9 ⟨xB, rfl, ex, hb⟩
  have T9 : Hid (Says w ad w1.heap.size a len cap zs p3 l za zb (.slice aE us.length cE) (.slice aA za.length cA) (.slice aB zb.length cB) w9) := T8.out.on hb
  have X9 : Hid (EntsIs w9 xB ZB) := ex
  have qq := Q2B.out w9 T9.out
  clear qB ex hb Q2B T8
  go_wp2_with fail
  refine qq.mono ?_
  rintro e w10 ⟨yB, rfl, ex, hb⟩
  have T10 : Hid (Says w ad w1.heap.size a len cap zs p3 l za zb (.slice aE us.length cE) (.slice aA za.length cA) (.slice aB zb.length cB) w10) := T9.out.on hb
  have qs := same_ok (X9.out.on hb) ex
  clear qq ex hb X9 T9
  go_wp2_with fail
  refine qs.mono ?_
  rintro e w11 ⟨rfl, hb⟩
  have T11 : Hid (Says w ad w1.heap.size a len cap zs p3 l za zb (.slice aE us.length cE) (.slice aA za.length cA) (.slice aB zb.length cB) w11) := T10.out.on hb
  have qi := Q3B.out w11 T11.out
  clear qs hb T10 Q3B
  go_wp2_with fail
  refine qi.mono ?_
  rintro e w12 ⟨rfl, hb⟩
  have T12 : Hid (Says w ad w1.heap.size a len cap zs p3 l za zb (.slice aE us.length cE) (.slice aA za.length cA) (.slice aB zb.length cB) w12) := T11.out.on hb
  clear qi hb T11
  obtain ⟨fvC, coC, ZC, q1C, q2C, q3C⟩ := PC.out
  have Q2C : Hid (∀ W, Says w ad w1.heap.size a len cap zs p3 l za zb (.slice aE us.length cE) (.slice aA za.length cA) (.slice aB zb.length cB) W → _) := q2C
  have Q3C : Hid (∀ W, Says w ad w1.heap.size a len cap zs p3 l za zb (.slice aE us.length cE) (.slice aA za.length cA) (.slice aB zb.length cB) W → _) := q3C
  have qC := q1C w12 T12.out
  clear q1C q2C q3C PC
  go_wp2_with fail
  refine qC.mono ?_
  rintro e w13 ⟨xC, rfl, ex, hb⟩
  have T13 : Hid (Says w ad w1.heap.size a len cap zs p3 l za zb (.slice aE us.length cE) (.slice aA za.length cA) (.slice aB zb.length cB) w13) := T12.out.on hb
  have X13 : Hid (EntsIs w13 xC ZC) := ex
  have qq := Q2C.out w13 T13.out
  clear qC ex hb Q2C T12
  go_wp2_with fail
  refine qq.mono ?_
  rintro e w14 ⟨yC, rfl, ex, hb⟩
  have T14 : Hid (Says w ad w1.heap.size a len cap zs p3 l za zb (.slice aE us.length cE) (.slice aA za.length cA) (.slice aB zb.length cB) w14) := T13.out.on hb
  have qs := same_ok (X13.out.on hb) ex
  clear qq ex hb X13 T13
  go_wp2_with fail
  refine qs.mono ?_
  rintro e w15 ⟨rfl, hb⟩
  have T15 : Hid (Says w ad w1.heap.size a len cap zs p3 l za zb (.slice aE us.length cE) (.slice aA za.length cA) (.slice aB zb.length cB) w15) := T14.out.on hb
  have qi := Q3C.out w15 T15.out
  clear qs hb T14 Q3C
  go_wp2_with fail
  refine qi.mono ?_
  rintro e w16 ⟨rfl, hb⟩
  have T16 : Hid (Says w ad w1.heap.size a len cap zs p3 l za zb (.slice aE us.length cE) (.slice aA za.length cA) (.slice aB zb.length cB) w16) := T15.out.on hb
  clear qi hb T15
  obtain ⟨fvD, coD, ZD, q1D, q2D, q3D⟩ := PD.out
  have Q2D : Hid (∀ W, Says w ad w1.heap.size a len cap zs p3 l za zb (.slice aE us.length cE) (.slice aA za.length cA) (.slice aB zb.length cB) W → _) := q2D
  have Q3D : Hid (∀ W, Says w ad w1.heap.size a len cap zs p3 l za zb (.slice aE us.length cE) (.slice aA za.length cA) (.slice aB zb.length cB) W → _) := q3D
  have qD := q1D w16 T16.out
  clear q1D q2D q3D PD
  go_wp2_with fail
  refine qD.mono ?_
  rintro e w17 ⟨xD, rfl, ex, hb⟩
  have T17 : Hid (Says w ad w1.heap.size a len cap zs p3 l za zb (.slice aE us.length cE) (.slice aA za.length cA) (.slice aB zb.length cB) w17) := T16.out.on hb
  have X17 : Hid (EntsIs w17 xD ZD) := ex
  have qq := Q2D.out w17 T17.out
  clear qD ex hb Q2D T16
  go_wp2_with fail
  refine qq.mono ?_
  rintro e w18 ⟨yD, rfl, ex, hb⟩
  have T18 : Hid (Says w ad w1.heap.size a len cap zs p3 l za zb (.slice aE us.length cE) (.slice aA za.length cA) (.slice aB zb.length cB) w18) := T17.out.on hb
  have qs := same_ok (X17.out.on hb) ex
  clear qq ex hb X17 T17
  go_wp2_with fail
  refine qs.mono ?_
  rintro e w19 ⟨rfl, hb⟩
  have T19 : Hid (Says w ad w1.heap.size a len cap zs p3 l za zb (.slice aE us.length cE) (.slice aA za.length cA) (.slice aB zb.length cB) w19) := T18.out.on hb
  have qi := Q3D.out w19 T19.out
  clear qs hb T18 Q3D
  go_wp2_with fail
  refine qi.mono ?_
  rintro e w20 ⟨rfl, hb⟩
  have T20 : Hid (Says w ad w1.heap.size a len cap zs p3 l za zb (.slice aE us.length cE) (.slice aA za.length cA) (.slice aB zb.length cB) w20) := T19.out.on hb
  clear qi hb T19
  go_wp2_with fail
  have C5 : ColsAt w20.heap.size [1] (w20.alloc (.cells #[.int .i64 1] 3)) := ⟨by simp, fun i hi => by
    rw [World.cell?_alloc_at _ _ _ _ (by simp)]
    obtain rfl : i = 0 := by simp at hi; exact hi
    rfl⟩
  have sS := T20.out.s.2.2.2.1
  refine (makeRow w1.heap.size a len cap zs p3 w20.heap.size 1 1 [1] _ (T20.out.s.on one_box) (by omega) C5 (by omega) (by simp) (by intro i h; match i, h with | 0, _ => simp)).mono ?_
  rintro e w21 ⟨vr, rfl, r, p5, k1, k2, k3, k4, k5, k6, k7⟩
  have BB : Hid (Below w.heap.size w w21) := (T20.out.b.trans (one_box.mono T20.out.b.size)).trans (k6.below (by have := B1.out.size; omega) (by have := T20.out.b.size; simp; omega))
  have NE : Hid (EntsIs w21 (.slice aE us.length cE) l) := ((T20.out.e.on one_box).but k6 (by omega)).ents
  have NA : Hid (EntsIs w21 (.slice aA za.length cA) za) := ((T20.out.x.on one_box).but k6 (by omega)).ents
  have NB : Hid (EntsIs w21 (.slice aB zb.length cB) zb) := ((T20.out.y.on one_box).but k6 (by omega)).ents
  have RR : Hid (RowIs w21 vr r) := RowIs.of_own (by rw [k1]; exact k3)
  obtain ⟨aR, cR', eR⟩ := RR.out.form
  subst eR
  have qa : Hid (∀ W, Below w21.heap.size w21 W → Calls Tryd.prog 22 #[.slice aA za.length cA, .slice aR r.length cR'] W fun e w' => e = .returned (.int .i64 (wt r za)) ∧ Below W.heap.size W w') := fun W hW => zGet za r _ _ W (by have := HX.out.2.2; omega) HX.out.1 (NA.out.on hW) (RR.out.on hW)
  have qb : Hid (∀ W, Below w21.heap.size w21 W → Calls Tryd.prog 23 #[.slice aA za.length cA, .slice aR r.length cR'] W fun e w' => e = .returned (.int .i64 (wt r za)) ∧ Below W.heap.size W w') := fun W hW => by
    have q := refGet za r _ _ W (NA.out.on hW) (RR.out.on hW)
    rw [gt_wt HX.out.1.1] at q; exact q
  have qc : Hid (∀ W, Below w21.heap.size w21 W → Calls Tryd.prog 24 #[.slice aA za.length cA] W fun e w' => e = .returned (.bool true) ∧ Below W.heap.size W w') := fun W hW => by
    have q := zCheck za _ W (NA.out.on hW)
    rw [isZ_yes HX.out.1] at q; exact q
  have qd : Hid (∀ W, Below w21.heap.size w21 W → Calls Tryd.prog 24 #[.slice aE us.length cE] W fun e w' => e = .returned (.bool (isZ l)) ∧ Below W.heap.size W w') := fun W hW => zCheck l _ W (NE.out.on hW)
  have qe : Hid (∀ W, Below w21.heap.size w21 W → Calls Tryd.prog 25 #[.slice aE us.length cE] W fun e w' => e = .returned (.bool (isZ l)) ∧ Below W.heap.size W w') := fun W hW => refCheckSet l _ W (NE.out.on hW)
  have qg : Hid (∀ W, Below w21.heap.size w21 W → Calls Tryd.prog 26 #[.slice aA za.length cA, .slice aB zb.length cB] W fun e w' => e = .returned (.bool (sEs za zb)) ∧ Below W.heap.size W w') := fun W hW => zSame za zb _ _ W (NA.out.on hW) (NB.out.on hW)
  have qh : Hid (∀ W, Below w21.heap.size w21 W → Calls Tryd.prog 13 #[.slice aA za.length cA, .slice aB zb.length cB] W fun e w' => e = .returned (.bool (sEs za zb)) ∧ Below W.heap.size W w') := fun W hW => sameEntries za zb _ _ W (NA.out.on hW) (NB.out.on hW)
  have qj : Hid (∀ W, Below w21.heap.size w21 W → Calls Tryd.prog 26 #[.slice aA za.length cA, .slice aA za.length cA] W fun e w' => e = .returned (.bool true) ∧ Below W.heap.size W w') := fun W hW => by
    have q := zSame za za _ _ W (NA.out.on hW) (NA.out.on hW)
    have e : sEs za za = true := by unfold sEs; simp
    rw [e] at q; exact q
  clear NE NA NB RR C5 k1 k2 k3 k4 k5 k6 k7 T20 HX HY HL
  generalize wt r za = g at *
  generalize isZ l = bl at *
  generalize sEs za zb = bs at *
  go_wp2_with fail
  refine (qa.out _ (Below.refl _ _)).mono ?_
  rintro e w22 ⟨rfl, hb⟩
  have D22 : Hid (Below w21.heap.size w21 w22) := hb
  clear hb qa
  go_wp2_with fail
  refine (qb.out _ D22.out).mono ?_
  rintro e w23 ⟨rfl, hb⟩
  have D23 : Hid (Below w21.heap.size w21 w23) := D22.out.trans (hb.mono D22.out.size)
  clear hb qb D22
  go_wp2_with fail
  refine (qc.out _ D23.out).mono ?_
  rintro e w24 ⟨rfl, hb⟩
  have D24 : Hid (Below w21.heap.size w21 w24) := D23.out.trans (hb.mono D23.out.size)
  clear hb qc D23
  go_wp2_with fail
  refine (qd.out _ D24.out).mono ?_
  rintro e w25 ⟨rfl, hb⟩
  have D25 : Hid (Below w21.heap.size w21 w25) := D24.out.trans (hb.mono D24.out.size)
  clear hb qd D24
  go_wp2_with fail
  refine (qe.out _ D25.out).mono ?_
  rintro e w26 ⟨rfl, hb⟩
  have D26 : Hid (Below w21.heap.size w21 w26) := D25.out.trans (hb.mono D25.out.size)
  clear hb qe D25
  go_wp2_with fail
  refine (qg.out _ D26.out).mono ?_
  rintro e w27 ⟨rfl, hb⟩
  have D27 : Hid (Below w21.heap.size w21 w27) := D26.out.trans (hb.mono D26.out.size)
  clear hb qg D26
  go_wp2_with fail
  refine (qh.out _ D27.out).mono ?_
  rintro e w28 ⟨rfl, hb⟩
  have D28 : Hid (Below w21.heap.size w21 w28) := D27.out.trans (hb.mono D27.out.size)
  clear hb qh D27
  go_wp2_with fail
  refine (qj.out _ D28.out).mono ?_
  rintro e w29 ⟨rfl, hb⟩
  have D29 : Hid (Below w21.heap.size w21 w29) := D28.out.trans (hb.mono D28.out.size)
  clear hb qj D28
  go_wp2_with fail
  go_ret
  exact ⟨rfl, BB.out.trans (D29.out.mono BB.out.size)⟩
set_option maxHeartbeats 1000000 in
theorem zsays_long (a : Option Addr) (len cap : Nat) (a' : Option Addr) (len' cap' : Nat) (ad : Fin 11 → Addr) (w : World) (he : ErrsAt ad w) (h : 150 < (len : Int)) :
    Calls Tryd.prog 3 #[.slice a len cap, .slice a' len' cap'] w fun e w' => e = .returned (.bool true) ∧ Below w.heap.size w w' := by
  have qf := lawFirst3 (ad 6) w he.over
  clear he
  go_enter Tryd.func3, Tryd.ntmps3
  go_wp2_with fail
  refine qf.mono ?_
  rintro e w1 ⟨rfl, hb1⟩
  go_wp2_with fail
  go_ret
  exact ⟨rfl, hb1⟩
set_option maxHeartbeats 1000000 in
theorem zsays_long' (a : Option Addr) (len cap : Nat) (a' : Option Addr) (len' cap' : Nat) (ad : Fin 11 → Addr) (w : World) (he : ErrsAt ad w) (h0 : (len : Int) ≤ 150) (h : 150 < (len' : Int)) :
    Calls Tryd.prog 3 #[.slice a len cap, .slice a' len' cap'] w fun e w' => e = .returned (.bool true) ∧ Below w.heap.size w w' := by
  have qf := lawFirst3 (ad 6) w he.over
  clear he
  go_enter Tryd.func3, Tryd.ntmps3
  go_wp2_with fail
  refine qf.mono ?_
  rintro e w1 ⟨rfl, hb1⟩
  go_wp2_with fail
  go_ret
  exact ⟨rfl, hb1⟩
/-- ZsetSays; the eleven errors are asked of the world besides. -/
theorem zsetSays_walk (a : Option Addr) (len cap : Nat) (zs : List Int) (a' : Option Addr) (len' cap' : Nat) (zs' : List Int) (w : World) (he : ∃ ad, ErrsAt ad w) (ha : IsRow .i64 w a len cap zs) (ha' : IsRow .i64 w a' len' cap' zs') :
    Calls Tryd.prog 3 #[.slice a len cap, .slice a' len' cap'] w fun e w' => e = .returned (.bool true) ∧ Below w.heap.size w w' := by
  obtain ⟨ad, he⟩ := he
  by_cases h : (len : Int) ≤ 150
  · by_cases h' : (len' : Int) ≤ 150
    · exact zsays_main a len cap zs a' len' cap' zs' h h' ad w he ha ha'
    · exact zsays_long' a len cap a' len' cap' ad w he h (by omega)
  · exact zsays_long a len cap a' len' cap' ad w he (by omega)
end Go.Proofs.YtkamnepbgbficaaDoor
