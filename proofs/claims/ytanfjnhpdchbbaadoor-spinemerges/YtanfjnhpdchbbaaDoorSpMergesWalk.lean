/- The walk of the law that with fuel for all it comes to one batch. -/
import Derived.Test.YtanfjnhpdchbbaaDoorPackFirst
namespace Go.Proofs.YtanfjnhpdchbbaaDoor
open Go.RowKit Go.Sort
set_option maxRecDepth 100000
/-- How far the inserts have come. -/
def McTo (S : Nat) (a : Option Addr) (len cap : Nat) (zs : List Int) (sb : Nat) (w : World) (i m : Nat) (wr : World) : Prop := ∃ p A n, PS NoP [] S a len cap zs p sb A n m w wr ∧ p ≤ 100 * i ∧ m ≤ 6 * i ∧ n ≤ i ∧ ∀ r, -(600 * (i : Int)) ≤ wt r A ∧ wt r A ≤ 600 * (i : Int)
theorem McTo.ok {A Z : List Ent} {i : Nat} (hi : i ≤ 8) (h : ∀ r, -(600 * (i : Int)) ≤ wt r A ∧ wt r A ≤ 600 * (i : Int)) (hz : ∀ r, -(100 * ((6 : Nat) : Int)) ≤ wt r Z ∧ wt r Z ≤ 100 * ((6 : Nat) : Int)) : okZ (A ++ Z) = true :=
  (okZ_iff _).2 (fun r => by rw [wt_append]; have := h r; have := hz r; exact okI (by omega))
/-- Behind them. -/
def McAt (L : List QEnt) (S : Nat) (a : Option Addr) (len cap : Nat) (zs : List Int) (sb : Nat) (A : List Ent) (w : World) (n m : Nat) (wr : World) : Prop := ∃ p, PS NoP L S a len cap zs p sb A n m w wr
set_option maxHeartbeats 4000000 in
theorem spineMerges_walk (a : Option Addr) (len cap : Nat) (zs : List Int) (n : Int) (_ : (Lit.int .i64 n).wf = true) (w : World) (he : ∃ ad, OverAt ad w) (ha : IsRow .i64 w a len cap zs) :
    Calls Tryd.prog 3 #[.slice a len cap, .int .i64 n] w fun e w' => e = .returned (.bool true) ∧ Below w.heap.size w w' := by
  obtain ⟨ad, hE⟩ := he
  have q0 := lawFirst6 ad w hE
  have HE : Hid (OverAt ad w) := hE
  have HA : Hid (IsRow .i64 w a len cap zs) := ha
  clear hE ha
  go_enter Tryd.func3, Tryd.ntmps3
  go_wp2_with fail
  refine q0.mono ?_
  rintro e w1 ⟨rfl, hb1⟩
  have B1 : Hid (Below w.heap.size w w1) := hb1
  clear q0 hb1
  by_cases hl : 200 < len
  · have I1 : (200 : Int) < (len : Int) := by omega
    go_wp2_with fail
    go_ret
    exact ⟨rfl, B1.out⟩
  · have I1 : ¬ (200 : Int) < (len : Int) := by omega
    have q1 := number n 8 (by omega) (by omega) w1
    obtain ⟨c, hc⟩ : ∃ c : Nat, nm n 8 = (c : Int) := ⟨(nm n 8).toNat, by have := nm_bd n 8 (by omega); omega⟩
    have hc8 : c < 8 := by have := nm_bd n 8 (by omega); omega
    rw [hc] at q1
    clear hc
    go_wp2_with fail
    refine q1.mono ?_
    rintro e w2 ⟨rfl, rfl⟩
    clear q1
    have hS0 := SeqAt.make (HA.out.below B1.out) 27
    have hP0 : PS NoP [] w2.heap.size a len cap zs 0 (w2.heap.size + 1) [] 0 0 w ((w2.alloc (.cells #[.slice a len cap, .int .i64 0] 27)).alloc (.cells #[.slice none 0 0, .pointer none] 31)) := by
      have := PS.start B1.out one_box hS0
      simpa using this
    have P0 : Hid (McTo w2.heap.size a len cap zs (w2.heap.size + 1) w 0 0 ((w2.alloc (.cells #[.slice a len cap, .int .i64 0] 27)).alloc (.cells #[.slice none 0 0, .pointer none] 31))) := ⟨0, [], 0, hP0, by omega, by omega, by omega, fun r => by simp [wt]⟩
    clear hS0 hP0
    go_wp2_with fail
    go_loopw [8, 9] (fun s8 s9 wr => ∃ (i m : Nat), s9 = .int .i64 i ∧ s8 = .int .i64 m ∧ i ≤ c ∧ Hid (McTo w2.heap.size a len cap zs (w2.heap.size + 1) w i m wr)) (fun _ s _ => c - (intOf s).toNat)
    case atStart => exact ⟨0, 0, rfl, rfl, by omega, P0⟩
    case round =>
      clear P0
      obtain ⟨i, m, rfl, rfl, hi, hM⟩ := hrel
      by_cases k1 : i < c
      · have J1 : (i : Int) < (c : Int) := by omega
        obtain ⟨p, A, k, g1, g2, g3, g4, g5⟩ := hM.out
        obtain ⟨W, hW⟩ : ∃ W, W = wr.alloc (.cells #[.int .i64 1] 3) := ⟨_, rfl⟩
        have bW : Below wr.heap.size wr W := by rw [hW]; exact one_box
        have hC : ColsAt wr.heap.size [1] W := by rw [hW]; exact cols_x wr 1
        have hSl := g1.seq.2.2.2.1
        have q2 := makeSet w2.heap.size a len cap zs p wr.heap.size 1 1 [1] 6 W (g1.seq.on bW) (by omega) (by omega) hC (by omega) (by omega) (by simp) (fun i h => by
          obtain rfl : i = 0 := by simp at h; exact h
          simp)
        have HW : Hid (wr.alloc (.cells #[.int .i64 1] 3) = W) := hW.symm
        have G1 : Hid (PS NoP [] w2.heap.size a len cap zs p (w2.heap.size + 1) A k m w wr) := g1
        have BW : Hid (Below wr.heap.size wr W) := bW
        have G5 : Hid (∀ r, -(600 * (i : Int)) ≤ wt r A ∧ wt r A ≤ 600 * (i : Int)) := g5
        clear g1 g5 hM hW bW hC
        go_wp2_with fail
        rw [HW.out]
        refine q2.mono ?_
        rintro e w3 ⟨vz, Z, rfl, ⟨p', z1, z2, z3, z4, z5, z6, z7⟩, z8, z9⟩
        have hP3 := G1.out.made fr_no BW.out z7 z4 z6
        have hok := McTo.ok (by omega) G5.out z8
        have q3 := psInsert fr_no [(vz, Z)] w2.heap.size a len cap zs p' (w2.heap.size + 1) A k m w w3 ad hP3 HE.out vz Z z1 z2 z4.ents (by omega)
        rw [hok, ovE_t] at q3
        have H4 : Hid (∀ w4, PsIns NoP [(vz, Z)] w2.heap.size a len cap zs p' (w2.heap.size + 1) A k m w Z w4 → McTo w2.heap.size a len cap zs (w2.heap.size + 1) w (i + 1) (m + Z.length) w4) := fun w4 h4 => by
          refine ⟨p', mkZ (A ++ Z), _, (h4.1 hok).sub (fun x hx => by cases hx), by omega, by omega, ?_, fun r => ?_⟩
          · split <;> omega
          · rw [wt_mkZ hok, wt_append]
            have := G5.out r; have := z8 r; omega
        obtain ⟨az, cz, ez⟩ := z4.ents.form
        have hzl : Z.length ≤ 6 := z3
        clear q2 z1 z2 z3 z4 z5 z6 z7 z8 z9 hP3 hok G1
        generalize Z.length = zl at *
        subst ez
        go_wp2_with fail
        refine q3.mono ?_
        rintro e w4 ⟨rfl, h4⟩
        have G4 : Hid (McTo w2.heap.size a len cap zs (w2.heap.size + 1) w (i + 1) (m + zl) w4) := H4.out w4 h4
        clear q3 h4 H4
        go_wp2_with fail
        go_roundw
        case rel => exact ⟨i + 1, m + zl, by go_num, by go_num, by omega, G4⟩
        case measure => simp [intOf]; omega
      · have J1 : ¬ (i : Int) < (c : Int) := by omega
        obtain ⟨p, A, k, g1, g2, g3, g4, g5⟩ := hM.out
        have q2 := psBatches [] _ a len cap zs p _ A k m w wr g1
        have G1 : Hid (PS NoP [] w2.heap.size a len cap zs p (w2.heap.size + 1) A k m w wr) := g1
        have hm48 : m ≤ 48 := by omega
        have hkc : k ≤ c := by omega
        clear g1 g5 hM g2 g3 g4
        go_wp2_with fail
        refine q2.mono ?_
        rintro e w3 ⟨rfl, rfl⟩
        have q3 := psWork fr_no [] _ a len cap zs p _ A k m w w3 G1.out 0 (by omega) (by omega)
        clear q2 G1
        go_wp2_with fail
        refine q3.mono ?_
        rintro e w4 ⟨x, n4, m4, rfl, h4, e1, e2, e3, e4, e5, _⟩
        have ex : x = 0 := by omega
        have en : n4 = k := e5 (by omega)
        subst ex en
        have q4 := psAll [] _ a len cap zs p _ A n4 m4 w w4 ad h4 HE.out (by omega)
        have H4 : Hid (PS NoP [] w2.heap.size a len cap zs p (w2.heap.size + 1) A n4 m4 w w4) := h4
        clear q3 h4 e1 e2 e3 e5
        go_wp2_with fail
        refine q4.mono ?_
        rintro e w5 ⟨v5, rfl, h5, hb5⟩
        have hP5 := H4.out.also fr_no hb5 h5.new
        obtain ⟨a5, c5, e5⟩ := h5.ents.form
        have q5 := psBatches _ _ a len cap zs p _ A n4 m4 w w5 hP5
        have H5 : Hid (McAt [(v5, A)] w2.heap.size a len cap zs (w2.heap.size + 1) A w n4 m4 w5) := ⟨p, hP5⟩
        clear q4 h5 hb5 hP5 H4
        subst e5
        go_wp2_with fail
        refine q5.mono ?_
        rintro e w6 ⟨rfl, rfl⟩
        clear q5
        go_wp2_with fail
        go_loopw [15] (fun s wr => ∃ (t n' m' : Nat), s = .int .i64 t ∧ t ≤ 2 * c ∧ n' ≤ n4 ∧ m' ≤ m ∧ (0 < t → n' ≤ 1) ∧ Hid (McAt [(.slice a5 A.length c5, A)] w2.heap.size a len cap zs (w2.heap.size + 1) A w n' m' wr)) (fun s _ => 2 * c - (intOf s).toNat)
        case atStart => exact ⟨0, n4, m4, rfl, by omega, by omega, e4, by omega, H5⟩
        case round =>
          clear H5
          obtain ⟨t, n', m', rfl, t1, t2, t3, t4, hM⟩ := hrel
          obtain ⟨p6, h6⟩ := hM.out
          have H6 : Hid (PS NoP [(.slice a5 A.length c5, A)] w2.heap.size a len cap zs p6 (w2.heap.size + 1) A n' m' w wr) := h6
          have qB := psBatches _ _ a len cap zs p6 _ A n' m' w wr h6
          clear h6 hM
          by_cases k2 : t < 2 * c ∧ 1 < n'
          · have J2 : (t : Int) < 2 * (c : Int) := by omega
            have J3 : (1 : Int) < (n' : Int) := by omega
            have q7 := psWork fr_no _ _ a len cap zs p6 _ A n' m' w wr H6.out (m : Int) (by omega) (by omega)
            clear H6
            go_wp2_with fail
            refine qB.mono ?_
            rintro e w7 ⟨rfl, rfl⟩
            clear qB
            go_wp2_with fail
            refine q7.mono ?_
            rintro e w8 ⟨x, n8, m8, rfl, h8, f1, f2, f3, f4, f5, f6⟩
            have H8 : Hid (McAt [(.slice a5 A.length c5, A)] w2.heap.size a len cap zs (w2.heap.size + 1) A w n8 m8 w8) := ⟨p6, h8⟩
            have f7 : n8 ≤ 1 := f6 (by omega)
            clear q7 h8 f6 f5 f1 f2
            go_wp2_with fail
            go_roundw
            case rel => exact ⟨t + 1, n8, m8, by go_num, by omega, by omega, by omega, fun _ => f7, H8⟩
            case measure => simp [intOf]; omega
          · have hn1 : n' ≤ 1 := by
              by_cases ht : t < 2 * c
              · omega
              · by_cases h0 : 0 < t
                · exact t4 h0
                · omega
            have J4 : (n' : Int) ≤ 1 := by omega
            have qB2 := psBatches _ _ a len cap zs p6 _ A n' m' w wr H6.out
            have qA := psAll _ _ a len cap zs p6 _ A n' m' w wr ad H6.out HE.out (by omega)
            have TAIL : Hid (∀ w9 v9, ZHas wr.heap.size A v9 w9 → Below wr.heap.size wr w9 → Calls Tryd.prog 15 #[v9, .slice a5 A.length c5] w9 fun e w' => e = .returned (.bool true) ∧ Below w9.heap.size w9 w') := fun w9 v9 h9 hb9 => sameEnts6 A _ _ w9 h9.ents (PS.ents (x := (Value.slice a5 A.length c5, A)) (H6.out.on fr_no hb9) (List.mem_singleton.2 rfl))
            have TR : Hid (∀ w9, Below wr.heap.size wr w9 → Calls Tryd.prog 16 #[.pointer (some ⟨w2.heap.size + 1, 0, none⟩)] w9 fun e w' => e = .returned (.int .i64 A.length) ∧ Below w.heap.size w w') := fun w9 hb9 => by
              have hP9 := H6.out.on fr_no hb9
              refine (psRows _ _ a len cap zs p6 _ A n' m' w w9 ad hP9 HE.out (by omega)).mono ?_
              rintro e w' ⟨rfl, hb⟩
              exact ⟨rfl, hP9.below.trans (hb.mono hP9.below.size)⟩
            clear H6 t4
            by_cases ht : t < 2 * c
            · have J2 : (t : Int) < 2 * (c : Int) := by omega
              have J3 : ¬ (1 : Int) < (n' : Int) := by omega
              clear k2
              go_wp2_with fail
              refine qB.mono ?_
              rintro e w7 ⟨rfl, rfl⟩
              clear qB
              go_wp2_with fail
              refine qB2.mono ?_
              rintro e w8 ⟨rfl, rfl⟩
              clear qB2
              go_wp2_with fail
              refine qA.mono ?_
              rintro e w9 ⟨v9, rfl, h9, hb9⟩
              have q9 := TAIL.out w9 v9 h9 hb9
              have B9 : Hid (Below w8.heap.size w8 w9) := hb9
              obtain ⟨a9, c9, e9⟩ := h9.ents.form
              clear qA h9 hb9 TAIL
              subst e9
              go_wp2_with fail
              refine q9.mono ?_
              rintro e wa ⟨rfl, hba⟩
              have qa := TR.out wa (B9.out.trans (hba.mono B9.out.size))
              clear q9 hba TR
              go_wp2_with fail
              refine qa.mono ?_
              rintro e wb ⟨rfl, hbb⟩
              have BF : Hid (Below w.heap.size w wb) := hbb
              clear qa hbb
              go_wp2_with fail
              go_ret
              exact ⟨rfl, BF.out⟩
            · have J2 : ¬ (t : Int) < 2 * (c : Int) := by omega
              clear k2 qB
              go_wp2_with fail
              refine qB2.mono ?_
              rintro e w8 ⟨rfl, rfl⟩
              clear qB2
              go_wp2_with fail
              refine qA.mono ?_
              rintro e w9 ⟨v9, rfl, h9, hb9⟩
              have q9 := TAIL.out w9 v9 h9 hb9
              have B9 : Hid (Below w8.heap.size w8 w9) := hb9
              obtain ⟨a9, c9, e9⟩ := h9.ents.form
              clear qA h9 hb9 TAIL
              subst e9
              go_wp2_with fail
              refine q9.mono ?_
              rintro e wa ⟨rfl, hba⟩
              have qa := TR.out wa (B9.out.trans (hba.mono B9.out.size))
              clear q9 hba TR
              go_wp2_with fail
              refine qa.mono ?_
              rintro e wb ⟨rfl, hbb⟩
              have BF : Hid (Below w.heap.size w wb) := hbb
              clear qa hbb
              go_wp2_with fail
              go_ret
              exact ⟨rfl, BF.out⟩
end Go.Proofs.YtanfjnhpdchbbaaDoor
