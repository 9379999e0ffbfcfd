/- What join's count answers: how many rows there are whose weight is not 0, or that one is beyond. -/
import Derived.Test.YtlafokjkpbhckaaGreatDoorJcLines
import Derived.Test.YtlafokjkpbhckaaGreatDoorJcTake
import Derived.Test.YtlafokjkpbhckaaGreatDoorPackErr
namespace Go.Proofs.YtlafokjkpbhckaaGreatDoor
open Go.RowKit Go.Sort
set_option maxRecDepth 100000
set_option linter.unusedVariables false
theorem Below.cellB {B : Nat} {w w' : World} {a : Addr} {v : Value} (h : w.cell? a = some v) (hb : Below B w w') (hl : a.block < B) : w'.cell? a = some v := by
  rw [World.cell?_of_block (w := w) (hb.block a.block hl)]; exact h
theorem LIs.root {R : World} {hb ab cap : Nat} {x : QEnt} {T : List QEnt} {w : World} (h : LIs R hb ab cap (x :: T) w) : ∃ e ∈ flat (x :: T), e.1 = kf (x :: T) 0 := by
  obtain ⟨a1, c1, b, o, c, a2, c2, e, f, F, x0, _, _, _, _, _, _, _, _, _, _, _, _, _, _, ek⟩ := h.head (i := 0) (by simp)
  simp only [List.getD_cons_zero] at x0
  exact ⟨(e.1 ++ f.1, e.2 * f.2), by rw [flat_cons, x0]; simp [lnL], ek.symm⟩
/-- What a loop over lines knows: rows behind are done with. -/
def DoneBy (X Y : List QEnt) : Prop := ∀ r, wt r (flat Y) = wt r (flat X) ∨ (inI (wt r (flat X)) = true ∧ ∀ e ∈ flat Y, e.1 ≠ r)
theorem DoneBy.refl (X : List QEnt) : DoneBy X X := fun r => .inl rfl
theorem DoneBy.at {X Y : List QEnt} (h : DoneBy X Y) {e : Ent} (he : e ∈ flat Y) : wt e.1 (flat Y) = wt e.1 (flat X) := by
  rcases h e.1 with h1 | h1
  · exact h1
  · exact absurd rfl (h1.2 e he)
theorem DoneBy.step {X Y Y' : List QEnt} {N : List Val} (h : DoneBy X Y) (hN : inI (wt N (flat X)) = true) (h1 : ∀ r, r ≠ N → wt r (flat Y') = wt r (flat Y)) (h2 : ∀ e ∈ flat Y', e ∈ flat Y ∧ cR N e.1 < 0) : DoneBy X Y' := fun r => by
  by_cases e : r = N
  · subst e
    exact .inr ⟨hN, fun e he h0 => by have := (h2 e he).2; rw [h0, cR_self] at this; omega⟩
  · rcases h r with k | k
    · exact .inl (by rw [h1 r e]; exact k)
    · exact .inr ⟨k.1, fun e he => k.2 e (h2 e he).1⟩
theorem DoneBy.fin {X : List QEnt} (h : DoneBy X []) : okZ (flat X) = true := (okZ_iff _).2 fun r => by
  rcases h r with k | k
  · rw [← k]; show inI 0 = true; decide
  · exact k.1
/-- How far count has come. -/
def CntAt (R : World) (hb g cg B : Nat) (X : List QEnt) (w : World) (n : Nat) (Y : List QEnt) (wr : World) : Prop :=
  LIs R hb g cg Y wr ∧ Heap (kf Y) Y.length ∧ Below B w wr ∧ n + (flat Y).length ≤ (flat X).length ∧ DoneBy X Y
theorem wV_cells (n : Int) : wV n = .agg #[.int .u64 (wHi n), .int .u64 (wMid n), .int .u64 (wLo n)] := rfl
set_option maxHeartbeats 8000000 in
theorem jcCount (R : World) (base B : Nat) (X : List QEnt) (v : Value) (eO : Addr) (w : World) (h : LsOf R base X v w) (hu : Heap (kf X) X.length) (hF : (flat X).length ≤ 65536) (hR : R.heap.size ≤ w.heap.size) (hO : OverAt eO w) (hB1 : B ≤ base) (hB2 : B ≤ w.heap.size) (hOB : 0 < B) :
    Calls Tryz.prog 17 #[v] w fun e w' => (∃ n : Nat, n ≤ 65536 ∧ e = .returned (.tuple #[.int .i64 n, ovE eO (okZ (flat X))])) ∧ Below B w w' := by
  have hown := h.1
  rcases hown.2 with ⟨rfl, h0⟩ | ⟨g, cg, cur, rfl, hg, _⟩
  · obtain rfl := List.eq_nil_of_length_eq_zero h0
    have hk : okZ (flat []) = true := (okZ_iff _).2 fun r => by show inI 0 = true; decide
    rw [hk]
    have hz : Below B w (w.alloc (.cells #[.slice none 0 0] 51)) := one_box.mono hB2
    have HZ : Hid (Below B w (w.alloc (.cells #[.slice none 0 0] 51))) := hz
    clear h hu hF hR hO hown hB1 hB2 hOB hk hz
    go_enter Tryz.func17, Tryz.ntmps17
    go_wp2_with fail
    go_loopw [4] (fun s wr => s = .int .i64 0 ∧ wr = w.alloc (.cells #[.slice none 0 0] 51)) (fun _ _ => 0)
    case atStart => exact ⟨rfl, rfl⟩
    case round =>
      obtain ⟨rfl, rfl⟩ := hrel
      go_wp2_with fail
      go_ret2
      refine ⟨⟨0, by omega, rfl⟩, HZ.out⟩
  · obtain ⟨W, hW⟩ : ∃ W, W = w.alloc (.cells #[.slice (some ⟨g, 0, none⟩) X.length cg] 51) := ⟨_, rfl⟩
    have BW : Below w.heap.size w W := by rw [hW]; exact one_box
    have hk : W.heap[w.heap.size]? = some (.cells #[.slice (some ⟨g, 0, none⟩) X.length cg] 51 (0, 0)) := by rw [hW]; exact heap_alloc_new _ _
    obtain ⟨hL, _, hbg⟩ := (h.on BW).lis hk hR
    have F0 : Hid (CntAt R w.heap.size g cg B X w 0 X W) := ⟨hL, hu, BW.mono hB2, by omega, DoneBy.refl _⟩
    obtain ⟨K, hK⟩ : ∃ K, K = okZ (flat X) := ⟨_, rfl⟩
    rw [← hK]
    have HK : Hid (K = okZ (flat X)) := hK
    clear hK
    have HW : Hid (w.alloc (.cells #[.slice (some ⟨g, 0, none⟩) X.length cg] 51) = W) := hW.symm
    have HH : Hid (B ≤ g ∧ B ≤ w.heap.size ∧ OverAt eO w ∧ (flat X).length ≤ 65536 ∧ 0 < B) := ⟨by omega, hB2, hO, hF, hOB⟩
    clear h hu hF hR hO hown hB1 hB2 hOB hW BW hk hL hg
    go_enter Tryz.func17, Tryz.ntmps17
    go_wp2_with fail
    rw [HW.out]
    clear HW
    go_loopw [4] (fun s wr => ∃ (n : Nat) (Y : List QEnt), s = .int .i64 n ∧ n ≤ 65536 ∧ Hid (CntAt R w.heap.size g cg B X w n Y wr)) (fun _ wr => jLeft wr w.heap.size)
    case atStart => exact ⟨0, X, rfl, by omega, F0.out⟩
    case round =>
      clear F0
      obtain ⟨n, Y, rfl, hn, hS⟩ := hrel
      have hc := hS.out.1.1.cell
      rw [List.length_map] at hc
      cases Y with
      | nil =>
        have e0 : ([] : List QEnt).length = 0 := rfl
        rw [e0] at hc
        have hk := hS.out.2.2.2.2.fin
        obtain rfl : K = true := by rw [HK.out]; exact hk
        have HF : Hid (Below B w wr) := hS.out.2.2.1
        clear hS hk HH HK
        go_wp2_with fail
        go_ret2
        exact ⟨⟨n, hn, rfl⟩, HF.out⟩
      | cons y U =>
        have hT := jcTake R w.heap.size g cg y U wr hS.out.1 hS.out.2.1 (by have := hS.out.2.2.2.1; have := HH.out.2.2.2.1; omega)
        have I1 : (0 : Int) < ((y :: U).length : Int) := by simp <;> omega
        have I2 : 0 < (y :: U).length := by simp
        generalize (y :: U).length = NY at *
        go_wp2_with fail
        refine hT.mono ?_
        rintro e w2 ⟨v1, v2, f, b, Y', rfl, ef, r1, r2, l1, l2, u1, u2, u3, u4, u5, u6, u7⟩
        obtain ⟨a1, c1, rfl⟩ := r1.form
        obtain ⟨a2, c2, rfl⟩ := r2.form
        obtain ⟨N, hN⟩ : ∃ N, N = kf (y :: U) 0 := ⟨_, rfl⟩
        obtain ⟨s, hs⟩ : ∃ s, s = wt N (flat (y :: U)) := ⟨_, rfl⟩
        rw [← hN] at u4 u5 u7
        rw [← hN, ← hs]
        rw [← hs] at u7
        have hsX : s = wt N (flat X) := by
          obtain ⟨e0, he0, h0⟩ := hS.out.1.root
          rw [hs, hN, ← h0]; exact hS.out.2.2.2.2.at he0
        obtain ⟨ok, hok⟩ : ∃ ok, ok = inI s := ⟨_, rfl⟩
        obtain ⟨r, hr⟩ : ∃ r, r = if inI s = true then s else 0 := ⟨_, rfl⟩
        have hW : Hid (∀ V, Calls Tryz.prog 21 #[wV s] V fun e w' => e = .returned (.tuple #[.int .i64 r, .bool ok]) ∧ Below V.heap.size V w') := fun V =>
          jtWeight s u7 r ok (fun h => ⟨by rw [hr, if_pos (inI_iff.2 h)], by rw [hok]; exact inI_iff.2 h⟩) (fun h => ⟨by rw [hr, if_neg (fun h' => h (inI_iff.1 h'))], by rw [hok, Bool.eq_false_iff]; exact fun h' => h (inI_iff.1 h')⟩) V
        have B2 : Hid (Below B w w2) := hS.out.2.2.1.trans (u3.below HH.out.2.1 HH.out.1 (by have := hS.out.2.2.1.size; have := HH.out.2.1; omega))
        have HE : Hid (ok = false → K = false) := fun h0 => by
          rw [HK.out, Bool.eq_false_iff]
          intro h1
          have := (okZ_iff _).1 h1 N
          rw [← hsX, ← hok, h0] at this; cases this
        have HY : Hid (ok = true → ∀ w4, Below w2.heap.size w2 w4 → CntAt R w.heap.size g cg B X w n Y' w4 ∧ CntAt R w.heap.size g cg B X w (n + 1) Y' w4 ∧ n + 1 ≤ 65536 ∧ jLeft w4 w.heap.size < jLeft wr w.heap.size) := fun h0 w4 h4 => by
          have d1 : DoneBy X Y' := hS.out.2.2.2.2.step (N := N) (by rw [← hsX, ← hok]; exact h0) u4 u5
          have l4 := u2.on h4
          have k1 := hS.out.2.2.2.1
          have k2 := HH.out.2.2.2.1
          have b4 := B2.out.trans (h4.mono (by have := B2.out.size; have := HH.out.2.1; omega))
          exact ⟨⟨l4, u1, b4, by omega, d1⟩, ⟨l4, u1, b4, by omega, d1⟩, by omega, by rw [l4.left, hS.out.1.left]; exact u6⟩
        have HO2 : Hid (∀ w4, Below w2.heap.size w2 w4 → OverAt eO w4 ∧ Below B w w4) := fun w4 h4 => by
          have b4 := B2.out.trans (h4.mono (by have := B2.out.size; have := HH.out.2.1; omega))
          exact ⟨Below.cellB HH.out.2.2.1 b4 HH.out.2.2.2.2, b4⟩
        have HS0 : Hid (¬ r = 0 ∨ r = 0) := by by_cases h : r = 0; exact .inr h; exact .inl h
        clear hS HK hT r1 r2 u1 u2 u3 u4 u5 u6 u7 ef l1 l2 hsX hok hr hs hN HH B2 hc
        unfold wV at hW ⊢
        generalize wHi s = hi at *
        generalize wMid s = mi at *
        generalize wLo s = lo at *
        generalize f.length = n1 at *
        generalize b.length = n2 at *
        go_wp2_with fail
        refine (hW.out _).mono ?_
        rintro e w4 ⟨rfl, h4⟩
        have b4 : Below w2.heap.size w2 w4 := below_two.trans (h4.mono (by simp; omega))
        obtain ⟨hO4, hB4⟩ := HO2.out w4 b4
        have HB4 : Hid (Below B w w4) := hB4
        cases ok
        · obtain rfl := HE.out rfl
          clear HY HO2 hW h4 b4 hB4 HE HS0
          have hO5 : w4.cell? ⟨0, 0, none⟩ = some (errV eO) := hO4
          have hO6 : w4.drew.cell? ⟨0, 0, none⟩ = some (errV eO) := hO4
          clear hO4
          unfold errV at hO5 hO6
          go_wp2_with fail
          go_region
          all_goals (go_wp2_with fail; go_ret2; exact ⟨⟨0, by omega, rfl⟩, HB4.out.drew⟩)
        · obtain ⟨y1, y2, y3, y4⟩ := HY.out rfl w4 b4
          have Y1 : Hid _ := And.intro y1 (And.intro y2 (And.intro y3 y4))
          clear HY HO2 hW h4 b4 hB4 HE hO4 HB4 y1 y2 y4
          rcases HS0.out with h0 | h0
          · have bz : (r == 0) = false := by simp [h0]
            clear HS0
            go_wp2_with fail
            go_roundw
            case rel => exact ⟨n + 1, Y', by go_num, y3, Y1.out.2.1⟩
            case measure => exact Y1.out.2.2.2
          · subst h0
            clear HS0
            go_wp2_with fail
            go_roundw
            case rel => exact ⟨n, Y', rfl, hn, Y1.out.1⟩
            case measure => exact Y1.out.2.2.2
end Go.Proofs.YtlafokjkpbhckaaGreatDoor
