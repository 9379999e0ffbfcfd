/- Texts of one claim, one behind the other. -/
import Derived.Test.YtglbipnppldkmaaGreatDoorSeqB
import Derived.Test.YtglbipnppldkmaaGreatDoorPackInsB
import Derived.Test.YtglbipnppldkmaaGreatDoorArErrB
import Derived.Test.YtglbipnppldkmaaGreatDoorPackSetsB
/- A remainder brought up to a place: what the laws of rows reckon with their numbers. -/
namespace Go.Proofs.YtglbipnppldkmaaGreatDoor
open Go.RowKit
set_option maxRecDepth 100000

theorem mod_pos (t : Int) (n : Int) (hn : 0 < n) (hb : n ≤ 16) : ∃ k : Nat, (k : Int) < n ∧ (wrap64 (t.tmod n + n)).tmod n = (k : Int) := by
  have h1 := Int.tmod_lt_of_pos t hn
  have h2 : -n < t.tmod n := Int.neg_lt_of_neg_lt (by have := Int.tmod_lt_of_pos (-t) hn; rw [Int.neg_tmod] at this; omega)
  have e : wrap64 (t.tmod n + n) = t.tmod n + n := by unfold wrap64; omega
  have h3 : 0 ≤ (t.tmod n + n).tmod n := Int.tmod_nonneg n (by omega)
  have h4 := Int.tmod_lt_of_pos (t.tmod n + n) hn
  exact ⟨((t.tmod n + n).tmod n).toNat, by omega, by rw [e]; omega⟩

end Go.Proofs.YtglbipnppldkmaaGreatDoor
/- The walk of the law that what stands under all keys together is all of it. -/
namespace Go.Proofs.YtglbipnppldkmaaGreatDoor
open Go.RowKit Go.Sort
set_option maxRecDepth 100000
theorem cols7 (w : World) (x y : Int) : ColsAt w.heap.size [x, y] (w.alloc (.cells #[.int .i64 x, .int .i64 y] 3)) := by
  refine ⟨by simp, fun i hi => ?_⟩
  obtain rfl | rfl : i = 0 ∨ i = 1 := by simp at hi; omega
  · rw [World.cell?_alloc_at _ _ _ _ rfl]; rfl
  · rw [World.cell?_alloc_at _ _ _ _ rfl]; rfl
theorem allIn_k {r : List Val} {k : Nat} (h : k < r.length) : allIn r [(k : Int)] = true := by simp [allIn, inR]; omega
theorem pk_k {r : List Val} {k : Nat} (h : k < r.length) : pk r [(k : Int)] = [r[k]] := by
  unfold pk; rw [allIn_k h]; simp [atV, List.getD, h]
/-- A list that the call owns, and another behind it. -/
theorem EntsNew.app {base : Nat} {L E : List Ent} {v v' : Value} {us ue : List VEnt} {w w' : World} (h1 : w.ownsRow base 37 2 v us.length (es us)) (h2 : Reads w us L) (h3 : ∀ i (h : i < us.length) (h' : i < L.length), L[i].1 = [] ∨ ∀ k, us[i].1.ownBlock = some k → base ≤ k ∧ ValB k w) (g2 : Reads w ue E) (g3 : ∀ i (h : i < ue.length) (h' : i < E.length), E[i].1 = [] ∨ ∀ k, ue[i].1.ownBlock = some k → base ≤ k ∧ ValB k w)
    (hg : w.grownBy w' v.ownBlock) (ho : w'.ownsRow base 37 2 v' (us.length + ue.length) (es us ++ es ue)) : EntsNew base (L ++ E) v' w' := by
  have key : ∀ {x : Value} {r : List Val}, RowIs w x r → (r = [] ∨ ∀ k, x.ownBlock = some k → base ≤ k ∧ ValB k w) → RowIs w' x r ∧ (r = [] ∨ ∀ k, x.ownBlock = some k → base ≤ k ∧ ValB k w') := fun {x r} hr hv => by
    rcases hv with e | e
    · obtain ⟨a0, c0, ef⟩ := hr.form
      rw [e] at ef ⊢
      exact ⟨by rw [ef]; exact .inl ⟨a0, c0, rfl, rfl⟩, .inl rfl⟩
    · have hne : ∀ k, x.ownBlock = some k → v.ownBlock ≠ some k := fun k hk hv => by
        obtain ⟨c, fz, hb⟩ := (e k hk).2
        obtain ⟨c2, hb2⟩ := own_in h1 hv
        rw [hb] at hb2
        simp only [Option.some.injEq, Obj.cells.injEq] at hb2
        exact absurd hb2.2.1 (by decide)
      refine ⟨?_, .inr (fun k hk => ⟨(e k hk).1, ?_⟩)⟩
      · cases hv : v.ownBlock with
        | none => rw [hv] at hg; exact hr.on ((Below.refl _ _).grown hg (Nat.le_refl _) (fun k e => by cases e))
        | some g => rw [hv] at hg; exact hr.but (but_grown hg) (fun e' => hne g e' hv)
      · obtain ⟨c, fz, hb⟩ := (e k hk).2
        refine ⟨c, fz, ?_⟩
        rw [hg.block k (Array.getElem?_eq_some_iff.1 hb).1 (fun e' => hne k hk e'.symm)]; exact hb
  have hlu := h2.1
  have hle := g2.1
  have es_app : ∀ (x y : List VEnt), es (x ++ y) = es x ++ es y := fun x y => by unfold es; rw [List.flatMap_append]
  have get : ∀ i (h : i < (us ++ ue).length) (h' : i < (L ++ E).length), (RowIs w' (us ++ ue)[i].1 (L ++ E)[i].1 ∧ ((L ++ E)[i].1 = [] ∨ ∀ k, (us ++ ue)[i].1.ownBlock = some k → base ≤ k ∧ ValB k w')) ∧ (us ++ ue)[i].2 = (L ++ E)[i].2 := fun i h h' => by
    by_cases hi : i < us.length
    · rw [List.getElem_append_left hi, List.getElem_append_left (by omega)]
      exact ⟨key (h2.2 i hi (by omega)).1 (h3 i hi (by omega)), (h2.2 i hi (by omega)).2⟩
    · rw [List.length_append] at h h'
      rw [List.getElem_append_right (by omega), List.getElem_append_right (by omega)]
      have e1 : i - L.length = i - us.length := by omega
      simp only [e1]
      exact ⟨key (g2.2 _ (by omega) (by omega)).1 (g3 _ (by omega) (by omega)), (g2.2 _ (by omega) (by omega)).2⟩
  refine ⟨us ++ ue, by rw [List.length_append, es_app]; exact ho, ⟨by rw [List.length_append, List.length_append, hlu, hle], fun i h h' => ⟨(get i h h').1.1, (get i h h').2⟩⟩, fun i h h' => (get i h h').1.2⟩
theorem flat_take7 {ks : List Int} {A : List Ent} {K : List (List Val)} {j : Nat} (h : j < K.length) : ((K.take (j + 1)).flatMap fun k => under ks k A) = ((K.take j).flatMap fun k => under ks k A) ++ under ks K[j] A := by
  rw [List.take_succ_eq_append_getElem h, List.flatMap_append]; simp
theorem flat_len7 {ks : List Int} {A : List Ent} {K : List (List Val)} (h : KeysOf ks A K) (j : Nat) : ((K.take j).flatMap fun k => under ks k A).length ≤ A.length := by
  have h2 := (under_all h.1 (fun e he => (h.2 _).2 ⟨e, he, rfl⟩)).length_eq
  rw [← h2]
  conv => rhs; rw [← List.take_append_drop j K, List.flatMap_append, List.length_append]
  omega
theorem sV_self (v : Val) : sV v.1 v.2.1 v.2.2 v.1 v.2.1 v.2.2 = true := (sV_iff _ _ _ _ _ _).2 ⟨rfl, rfl, rfl⟩
set_option maxHeartbeats 8000000 in
theorem arrangeKeys_walk (a : Option Addr) (len cap : Nat) (zs : List Int) (col : Int) (_ : (Lit.int .i64 col).wf = true) (w : World) (he : ∃ eA eO, ArOvAt eA eO w) (ha : IsRow .i64 w a len cap zs) :
    Calls Tryz.prog 4 #[.slice a len cap, .int .i64 col] w fun e w' => e = .returned (.bool true) ∧ Below w.heap.size w w' := by
  obtain ⟨eA, eO, hA0, hO0⟩ := he
  have q0 := lawFirst7 eA eO w hA0 hO0
  have HE : Hid (ArityAt eA w ∧ OverAt eO w) := ⟨hA0, hO0⟩
  have HA : Hid (IsRow .i64 w a len cap zs) := ha
  clear hA0 hO0 ha
  go_enter Tryz.func4, Tryz.ntmps4
  go_wp2_with fail
  refine q0.mono ?_
  rintro e w1 ⟨rfl, hb1⟩
  have B1 : Hid (Below w.heap.size w w1) := hb1
  clear q0 hb1
  by_cases hl : 150 < len
  · have I1 : (150 : Int) < (len : Int) := by omega
    go_wp2_with fail
    go_ret
    exact ⟨rfl, B1.out⟩
  · have I1 : ¬ (150 : Int) < (len : Int) := by omega
    obtain ⟨k, hk2, hkm⟩ := mod_pos col 2 (by decide) (by decide)
    have hk : k < 2 := by omega
    have q1 := arNew [(k : Int)] (.slice (some ⟨w1.heap.size, 0, none⟩) 1 1) (w1.alloc (.cells #[.int .i64 k] 3)) (by simp) (ints_x w1 k) (.inl (by simp))
    have HKM : Hid ((wrap64 (col.tmod 2 + 2)).tmod 2 = (k : Int)) := hkm
    clear hkm hk2
    go_wp2_with fail
    rw [HKM.out]
    refine q1.mono ?_
    rintro e w2 ⟨sb, G, rfl, hA, hG, hb, hB⟩
    have b2 : Below w1.heap.size w1 w2 := one_box.trans (hB.mono (by simp))
    have bw2 : Below w.heap.size w w2 := B1.out.trans (b2.mono B1.out.size)
    obtain ⟨V, hV⟩ : ∃ V, V = w2.alloc (.cells #[.slice a len cap, .int .i64 0] 28) := ⟨_, rfl⟩
    have hVs : V.heap.size = w2.heap.size + 1 := by rw [hV]; simp
    have bV : Below w2.heap.size w2 V := by rw [hV]; exact one_box
    have hS0 : SeqAt w2.heap.size a len cap zs 0 V := by rw [hV]; exact SeqAt.make (HA.out.below bw2) _
    have hP0 : PA [(k : Int)] [] w2.heap.size a len cap zs 0 sb [] 0 w1 V := PA.start hA (fun k e => by have := hG k e; simp at this; omega) (by simp at hb; omega) b2 bV hS0 (HA.out.below B1.out).lt
    obtain ⟨W, hW⟩ : ∃ W, W = V.alloc (.cells #[.int .i64 3, .int .i64 1] 3) := ⟨_, rfl⟩
    have bW : Below V.heap.size V W := by rw [hW]; exact one_box
    have hC : ColsAt (w2.heap.size + 1) [3, 1] W := by rw [hW, ← hVs]; exact cols7 V 3 1
    have q2 := makeSet w2.heap.size a len cap zs 0 (w2.heap.size + 1) 2 2 [3, 1] 16 W (hS0.on bW) (by omega) (by omega) hC (by omega) (by omega) (by simp) (fun i h => by
      obtain rfl | rfl : i = 0 ∨ i = 1 := by simp at h; omega
      · simp
      · simp)
    have HW : Hid ((w2.alloc (.cells #[.slice a len cap, .int .i64 0] 28)).alloc (.cells #[.int .i64 3, .int .i64 1] 3) = W) := by show _ = _; rw [hW, hV]
    have BW : Hid (Below V.heap.size V W) := bW
    have P0 : Hid (PA [(k : Int)] [] w2.heap.size a len cap zs 0 sb [] 0 w1 V) := hP0
    clear q1 hA hG hb hB b2 bw2 hV hVs bV hS0 hP0 hW bW hC HKM
    go_wp2_with fail
    rw [HW.out]
    refine q2.mono ?_
    rintro e w3 ⟨vz, Z, rfl, ⟨p', z1, z2, z3, z4, z5, z6, z7⟩, z8, z9⟩
    have hP3 := P0.out.made BW.out z7 z4 z6
    have hkz : hasK [(k : Int)] Z = true := List.all_eq_true.2 (fun e he => allIn_k (by rw [(z9 e he).1]; exact hk))
    obtain ⟨y1, y2⟩ := isZ_self z1 z2
    have hzl : Z.length ≤ 16 := z3
    have HZ : Hid (IsZ Z ∧ EOk Z ∧ okZ Z = true ∧ mkZ Z = Z ∧ ∀ e ∈ Z, e.1.length = 2) := ⟨z1, z2, y1, y2, fun e he => (z9 e he).1⟩
    obtain ⟨az, cz, ez⟩ := z4.ents.form
    subst ez
    have HE1 : Hid (ArityAt eA w1 ∧ OverAt eO w1) := ⟨HE.out.1.on B1.out, HE.out.2.on B1.out⟩
    have q3 := paInsert [(k : Int)] _ _ a len cap zs p' sb [] 0 w1 w3 eA eO hP3 HE1.out.1 HE1.out.2 (.slice az Z.length cz) Z (fun _ => ⟨z1, z2⟩) z4.ents (by omega)
    have ez1 : insZ [(k : Int)] [] Z = Z := by unfold insZ; rw [hkz, List.nil_append, y1, y2]; rfl
    have ei : insE eA eO (hasK [(k : Int)] Z) (okZ ([] ++ Z)) = .nilIface := by rw [hkz, List.nil_append, y1]; rfl
    rw [ei, ez1] at q3
    clear q2 z1 z2 z3 z4 z5 z6 z7 z8 z9 hP3 hkz y1 y2 P0 BW HW ei ez1
    go_wp2_with fail
    refine q3.mono ?_
    rintro e w4 ⟨rfl, m4, hm4, h4⟩
    have q4 := paKeys [(k : Int)] _ _ a len cap zs p' sb Z m4 w1 w4 eO h4 HE1.out.2 (by omega)
    have H4 : Hid (PA [(k : Int)] [(.slice az Z.length cz, Z)] w2.heap.size a len cap zs p' sb Z m4 w1 w4) := h4
    have hm4' : m4 ≤ 16 := by omega
    clear q3 h4 hm4
    go_wp2_with fail
    refine q4.mono ?_
    rintro e w5 ⟨v5, K, rfl, k0, k1, k2⟩
    obtain ⟨a5, c5, e5⟩ := k1.form
    subst e5
    have H5 : Hid (PA [(k : Int)] [(.slice az Z.length cz, Z)] w2.heap.size a len cap zs p' sb Z m4 w1 w5) := H4.out.on k2
    have HKO : Hid (KeysOf [(k : Int)] Z K) := k0
    have HKR : Hid (RowsIs w5 (.slice a5 K.length c5) K) := k1
    have hKl := k0.len.1
    have EN0 : Hid (EntsNew w5.heap.size ((K.take 0).flatMap fun x => under [(k : Int)] x Z) (.slice none 0 0) w5) := ⟨[], World.ownsRow_nil _ _ _ _, Reads.nil _, fun i h => (by simp at h)⟩
    clear q4 k0 k1 k2 H4
    obtain ⟨i0, hi0, hz0, hz1, hz2⟩ := info_parts info_entry
    go_wp2_with fail
    go_loopw [9, 10] (fun s9 s10 wr => ∃ i : Nat, i ≤ K.length ∧ s10 = .int .i64 i ∧ Hid (EntsNew w5.heap.size ((K.take i).flatMap fun x => under [(k : Int)] x Z) s9 wr ∧ Below w5.heap.size w5 wr)) (fun _ s10 _ => K.length - (intOf s10).toNat)
    case atStart => exact ⟨0, by omega, rfl, EN0.out, Below.refl _ _⟩
    case round =>
      clear EN0
      obtain ⟨i, hi, rfl, hT⟩ := hrel
      have hTl := flat_len7 HKO.out i
      by_cases k1 : i < K.length
      · have J1 : (i : Int) < (K.length : Int) := by omega
        obtain ⟨bk, ok, ak, ck, rfl, x1, x2⟩ := (HKR.out.on hT.out.2).at i k1
        have q5 := paLookup [(k : Int)] _ _ a len cap zs p' sb Z m4 w1 wr eO (H5.out.on hT.out.2) HE1.out.2 (by omega) K[i] _ x2
        have hne := under_ne HKO.out K[i] (List.getElem_mem k1)
        have hE1 : ∀ e ∈ under [(k : Int)] K[i] Z, e.1.length = 2 ∧ ∀ h : k < e.1.length, K[i] = [e.1[k]] := fun e he => by
          obtain ⟨h1, h2⟩ := List.mem_filter.1 he
          have h3 := HZ.out.2.2.2.2 e h1
          exact ⟨h3, fun h => by rw [← pk_k h]; exact (kP_iff.1 h2).symm⟩
        have hK1 : K[i].length = 1 := by
          obtain ⟨e, he⟩ := List.exists_mem_of_ne_nil _ hne
          rw [(hE1 e he).2 (by rw [(hE1 e he).1]; exact hk)]; rfl
        have hEl : (under [(k : Int)] K[i] Z).length ≤ 16 := by have := List.length_filter_le (kP [(k : Int)] K[i]) Z; unfold under; omega
        have HX : Hid (∀ W, Below wr.heap.size wr W → W.cell? ⟨bk, ok + i, none⟩ = some (.slice ak 1 ck) ∧ RowIs W (.slice ak 1 ck) K[i]) := fun W hB => ⟨by have := cell_on x1 hB; rwa [hK1] at this, by have := x2.on hB; rwa [hK1] at this⟩
        have HF := flat_take7 (ks := [(k : Int)]) (A := Z) k1
        have HFF : Hid (((K.take (i + 1)).flatMap fun x => under [(k : Int)] x Z) = ((K.take i).flatMap fun x => under [(k : Int)] x Z) ++ under [(k : Int)] K[i] Z) := HF
        have HEE : Hid (∀ e ∈ under [(k : Int)] K[i] Z, e.1.length = 2 ∧ ∀ h : k < e.1.length, K[i] = [e.1[k]]) := hE1
        have hE0 : 0 < (under [(k : Int)] K[i] Z).length := List.length_pos_iff.2 hne
        rw [hK1] at x1 q5
        clear x2 hne hE1 HF hK1
        generalize under [(k : Int)] K[i] Z = E at *
        generalize ((K.take i).flatMap fun x => under [(k : Int)] x Z) = T at *
        obtain ⟨at_, ct, et⟩ := hT.out.1.ents.form
        subst et
        go_wp2_with fail
        refine q5.mono ?_
        rintro e w6 ⟨v6, rfl, e6, b6⟩
        obtain ⟨a6, c6, f6⟩ := e6.ents.form
        subst f6
        have E6 : Hid (EntsNew wr.heap.size E (.slice a6 E.length c6) w6) := e6
        have B6 : Hid (Below wr.heap.size wr w6) := b6
        obtain ⟨y1, _⟩ := HX.out w6 b6
        have hEn : ((E.length : Int) == 0) = false := by rw [beq_eq_false_iff_ne]; omega
        clear q5 e6 b6 x1
        obtain ⟨El, hEL⟩ : ∃ El, E.length = El := ⟨_, rfl⟩
        rw [hEL] at hEn hE0 hEl E6
        rw [hEL]
        have HEL : Hid (E.length = El) := hEL
        clear hEL
        go_wp2_with fail
        go_loopw [12] (fun s12 wr2 => ∃ t : Nat, t ≤ El ∧ s12 = .int .i64 t ∧ Hid (Below w6.heap.size w6 wr2)) (fun s _ => El - (intOf s).toNat)
        case atStart => exact ⟨0, by omega, rfl, Below.refl _ _⟩
        case round =>
          obtain ⟨t, ht, rfl, hB⟩ := hrel
          by_cases k2 : t < El
          · have J2 : (t : Int) < (El : Int) := by omega
            have kE : t < E.length := by rw [HEL.out]; exact k2
            obtain ⟨be, oe, a1, c1, e6, x1, x2, x3⟩ := (E6.out.ents.on hB.out).at t kE
            subst e6
            obtain ⟨hlen, hkey⟩ := HEE.out E[t] (List.getElem_mem kE)
            have hkl : k < E[t].1.length := by omega
            obtain ⟨br, or_, e1, r1, r2, r3, _⟩ := x3.at k hkl
            obtain ⟨y1', y2'⟩ := HX.out _ (B6.out.trans (hB.out.mono B6.out.size))
            rw [hkey hkl] at y2'
            obtain ⟨bq, oq, eq, s1, s2, s3, _⟩ := y2'.at 0 (by simp)
            subst e1 eq
            rw [hlen] at x1
            simp only [List.getElem_cons_zero, Nat.zero_mul, Nat.add_zero] at s1 s2 s3
            have q : Hid (∀ d os, Calls Tryz.prog 23 #[.agg #[.int .i64 E[t].1[k].1, .int .i64 E[t].1[k].2.1, .string E[t].1[k].2.2], .agg #[.int .i64 E[t].1[k].1, .int .i64 E[t].1[k].2.1, .string E[t].1[k].2.2]] (grow (redrawn wr d) os) fun e w'' => e = .returned (.bool true) ∧ ∃ p : Regrown, w'' = grow (redrawn wr p.d) p.os) :=
              fun d os => Calls.regrown_of (by
                have := sameValue E[t].1[k].1 E[t].1[k].2.1 E[t].1[k].2.2 E[t].1[k].1 E[t].1[k].2.1 E[t].1[k].2.2 (grow (redrawn wr d) os)
                rw [sV_self] at this; exact this)
            have g1 := fun d os => cell_regrown x1 d os
            have g2 := fun d os => cell_regrown r1 d os
            have g3 := fun d os => cell_regrown r2 d os
            have g4 := fun d os => cell_regrown r3 d os
            have g5 := fun d os => cell_regrown y1' d os
            have g6 := fun d os => cell_regrown s1 d os
            have g7 := fun d os => cell_regrown s2 d os
            have g8 := fun d os => cell_regrown s3 d os
            clear x1 x2 x3 r1 r2 r3 y1' y2' s1 s2 s3 hkey hlen y1
            generalize E[t].1[k].1 = va at *
            generalize E[t].1[k].2.1 = vb at *
            generalize E[t].1[k].2.2 = vc at *
            clear hkl
            have K2 : (k : Int) < 2 := by omega
            have K3 : ¬ (2 : Int) ≤ (k : Int) := by omega
            have K4 : (0 : Int) ≤ (k : Int) := by omega
            have K5 : decide ((2 : Int) ≤ (k : Int)) = false := decide_eq_false K3
            have J3 : (0 : Int) ≤ (t : Int) := by omega
            have J4 : (0 : Int) ≤ (i : Int) := by omega
            go_wp2_with fail
            refine wp_region_quiet_below (by kernel_rfl) (by kernel_rfl) ?_
            iterate 24 (go_big_quiet_step (exact q.out _ _))
            iterate 2 (go_big_quiet_step (fail))
            refine wpQuiet_nil ?_
            intro w8 hw8
            obtain ⟨p8, hw8⟩ := hw8
            have hb8 : Hid (Below w6.heap.size w6 w8) := by show Below _ _ _; rw [hw8]; exact hB.out.trans ((below_regrown wr _ _).mono hB.out.size)
            clear hw8 g1 g2 g3 g4 g5 g6 g7 g8 q
            go_wp2_with fail
            go_roundw
            case rel => exact ⟨t + 1, by omega, by go_num, hb8⟩
            case measure => simp [intOf]; omega
          · have J2 : ¬ (t : Int) < (El : Int) := by omega
            obtain ⟨ue, e61, e62, e63⟩ := E6.out.on hB.out
            obtain ⟨us, t1, t2, t3⟩ := (hT.out.1.on B6.out).on hB.out
            have hbb := B6.out.size
            have hb5 := hT.out.2.size
            obtain ⟨be, oe, ea⟩ : ∃ be oe, a6 = some ⟨be, oe, none⟩ := by
              obtain ⟨be, oe, _, _, ea, _⟩ := (E6.out.ents).at 0 (by rw [HEL.out]; exact hE0)
              exact ⟨be, oe, ea⟩
            subst ea
            have hul : us.length = T.length := t2.1
            have hel : ue.length = El := by rw [e62.1]; exact HEL.out
            have HC : Hid (∀ j u, (es ue)[j]? = some u → wr.cell? ((⟨be, oe, none⟩ : Addr).add j) = some u) := fun j u hu => (EntsAt.of_own e61).cells j u hu
            have H1 : Hid (∀ u ∈ es ue, u.oneCell' = true) := e62.one'
            have HN : Hid (∀ v' w', w'.ownsRow w5.heap.size 37 2 v' (T.length + El) (es us ++ es ue) → wr.grownBy w' (Value.ownBlock (.slice at_ T.length ct)) → EntsNew w5.heap.size (T ++ E) v' w' ∧ Below w5.heap.size w5 w') := fun v' w' ho hg => by
              refine ⟨EntsNew.app t1 t2 t3 e62 (fun i h h' => ?_) hg (by rw [hul, hel]; exact ho), ?_⟩
              · rcases e63 i h h' with e | e
                · exact .inl e
                · exact .inr (fun k hk => ⟨Nat.le_trans hb5 (e k hk).1, (e k hk).2⟩)
              · have b7 := (hT.out.2.trans (B6.out.mono hT.out.2.size)).trans (hB.out.mono (Nat.le_trans hb5 hbb))
                exact b7.grown hg b7.size (fun k e => (t1.lt k e).1)
            have O1 : Hid (wr.ownsRow w5.heap.size 37 2 (.slice at_ T.length ct) T.length (es us)) := by have := t1; rwa [hul] at this
            have hsz : w5.heap.size ≤ wr.heap.size := Nat.le_trans hb5 (Nat.le_trans hbb hB.out.size)
            have L1 : Hid ((es ue).length = El * 2) := by show _ = _; rw [es_len, hel]
            clear e61 e62 e63 t1 t2 t3 hul hel y1
            have hTb : T.length ≤ 16 := by omega
            go_wp2_with (first | (at_builtin; refine wpList_append_own _ rfl _ _ 29 rfl w5.heap.size 37 i0 (.agg #[.slice none 0 0, .int .i64 0]) 2 32 Tryz.underlying29 hi0 hz0 hz1 hz2 rfl (by decide) _ T.length (es us) rfl O1.out ⟨be, oe, none⟩ El c6 (es ue) rfl L1.out HC.out H1.out (by unfold maxLen; omega) (by omega) hsz ?_; intro v9 w9 hown9 hg9 _; have H9 : Hid (EntsNew w5.heap.size (T ++ E) v9 w9 ∧ Below w5.heap.size w5 w9) := HN.out _ _ hown9 hg9; clear hown9 hg9) | go_in)
            go_roundw
            case rel => exact ⟨i + 1, by omega, by go_num, by rw [HFF.out]; exact H9⟩
            case measure => simp [intOf]; omega
      · have J1 : ¬ (i : Int) < (K.length : Int) := by omega
        obtain ⟨T, hTT⟩ : ∃ T, T = (K.take i).flatMap fun x => under [(k : Int)] x Z := ⟨_, rfl⟩
        rw [← hTT] at hT
        have hperm : T.Perm Z := by
          rw [hTT, List.take_of_length_le (by omega)]
          exact under_all HKO.out.1 (fun e he => (HKO.out.2 _).2 ⟨e, he, rfl⟩)
        have hTZ : T.length = Z.length := hperm.length_eq
        have hwt : ∀ r, wt r T = wt r Z := fun r => wt_perm hperm
        have hok : okZ T = true := (okZ_iff T).2 (fun r => by rw [hwt]; exact (okZ_iff Z).1 HZ.out.2.2.1 r)
        have hmk : mkZ T = Z := mkZ_of hok HZ.out.1 (fun r => (hwt r).symm)
        obtain ⟨at_, ct, et⟩ := hT.out.1.ents.form
        rw [hTZ] at et
        subst et
        have q6 := refMakeR T _ wr wr (fun _ _ h => h) (by omega) (fun e he => (HZ.out.2.1 e (hperm.mem_iff.1 he)).1) hT.out.1.ents 0 (by rw [hok]; rfl)
        rw [hmk] at q6
        have H6 := H5.out.on hT.out.2
        have HH6 : Hid (PA [(k : Int)] [(.slice az Z.length cz, Z)] w2.heap.size a len cap zs p' sb Z m4 w1 wr) := H6
        clear hTT hperm hTZ hwt hok hmk hT H6 hTl
        go_wp2_with fail
        refine q6.mono ?_
        rintro e w6 ⟨v6, rfl, ⟨us, n1, n2⟩, n3⟩
        have e6 : EntsIs w6 v6 Z := ⟨us, EntsAt.of_own n1, n2.on n3⟩
        have H7 := HH6.out.on n3
        have q7 := sameEnts7 Z v6 (.slice az Z.length cz) w6 e6 (H7.ents (x := (.slice az Z.length cz, Z)) (by simp))
        have HH7 : Hid (PA [(k : Int)] [(.slice az Z.length cz, Z)] w2.heap.size a len cap zs p' sb Z m4 w1 w6) := H7
        obtain ⟨a6, c6, f6⟩ := e6.form
        clear q6 n1 n2 n3 e6 H7
        subst f6
        go_wp2_with fail
        refine q7.mono ?_
        rintro e w7 ⟨rfl, hb7⟩
        have H8 := HH7.out.on hb7
        have q8 := paAll [(k : Int)] _ _ a len cap zs p' sb Z m4 w1 w7 eO H8 HE1.out.2 (by omega)
        have HH8 : Hid (PA [(k : Int)] [(.slice az Z.length cz, Z)] w2.heap.size a len cap zs p' sb Z m4 w1 w7) := H8
        clear q7 hb7 H8
        go_wp2_with fail
        refine q8.mono ?_
        rintro e w8 ⟨v8, rfl, e8, b8⟩
        have H9 := HH8.out.on b8
        have q9 := sameEnts7 Z v8 (.slice az Z.length cz) w8 e8 (H9.ents (x := (.slice az Z.length cz, Z)) (by simp))
        have B9 : Hid (Below w.heap.size w w8) := B1.out.trans (H9.below.mono B1.out.size)
        obtain ⟨a8, c8, f8⟩ := e8.form
        clear q8 e8 b8 H9
        subst f8
        go_wp2_with fail
        refine q9.mono ?_
        rintro e w9 ⟨rfl, hb9⟩
        have B10 : Hid (Below w.heap.size w w9) := B9.out.trans (hb9.mono B9.out.size)
        clear q9 hb9
        go_wp2_with fail
        go_ret
        exact ⟨rfl, B10.out⟩
end Go.Proofs.YtglbipnppldkmaaGreatDoor
