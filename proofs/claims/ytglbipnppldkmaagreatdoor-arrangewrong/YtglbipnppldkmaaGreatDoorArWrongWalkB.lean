/- The walk of the law that rows without the key's columns are told, and that what goes again leaves no key. -/
import Derived.Test.YtglbipnppldkmaaGreatDoorPackInsB
import Derived.Test.YtglbipnppldkmaaGreatDoorPackPutB
import Derived.Test.YtglbipnppldkmaaGreatDoorPackSetsB
namespace Go.Proofs.YtglbipnppldkmaaGreatDoor
open Go.RowKit Go.Sort
set_option maxRecDepth 100000
theorem cols7_xy (w : World) (x y : Int) : ColsAt w.heap.size [x, y] (w.alloc (.cells #[.int .i64 x, .int .i64 y] 3)) := by
  refine ⟨by simp, fun i hi => ?_⟩
  obtain rfl | rfl : i = 0 ∨ i = 1 := by simp at hi; omega
  · rw [World.cell?_alloc_at _ _ _ _ rfl]; rfl
  · rw [World.cell?_alloc_at _ _ _ _ rfl]; rfl
theorem ok7 {k : Int} (h : -100000 ≤ k ∧ k ≤ 100000) : inI k = true := by rw [inI_iff]; omega
theorem neg_gone {Z : List Ent} (hz : IsZ Z) (hw : ∀ e ∈ Z, inI e.2 = true ∧ inI (-e.2) = true) : ngOk Z = true ∧ ngZ Z = Z.map ngE ∧ IsZ (Z.map ngE) ∧ okZ (Z ++ Z.map ngE) = true ∧ mkZ (Z ++ Z.map ngE) = [] := by
  have h1 : ngOk Z = true := List.all_eq_true.2 (fun e he => (hw e he).2)
  have hwt : ∀ (l : List Ent) r, wt r (l ++ l.map ngE) = 0 := fun l r => by
    rw [wt_append]
    induction l with
    | nil => rfl
    | cons e l ih => simp only [List.map_cons, wt, ngE]; split <;> omega
  have ho : okZ (Z ++ Z.map ngE) = true := (okZ_iff _).2 (fun r => by rw [hwt]; rfl)
  refine ⟨h1, by unfold ngZ; rw [h1]; rfl, ⟨?_, fun e he => ?_⟩, ho, ?_⟩
  · exact List.pairwise_map.2 hz.1
  · obtain ⟨x, hx, rfl⟩ := List.mem_map.1 he
    have := hz.2 x hx
    show -x.2 ≠ 0; omega
  · exact mkZ_of ho ⟨List.Pairwise.nil, fun e h => (by cases h)⟩ (fun r => by rw [hwt]; rfl)
theorem allIn_10 {r : List Val} (h : r.length = 2) : allIn r [1, 0] = true := by simp [allIn, inR, h]
/-- The row without the columns. -/
def rz : List Val := [(2, 0, ⟨#[122]⟩)]
theorem short_not (Z : List Ent) : hasK [1, 0] (Z ++ [(rz, 1)]) = false := by
  unfold hasK; rw [List.all_append]; simp [allIn, inR, rz]
set_option maxHeartbeats 8000000 in
theorem arrangeWrong_walk (a : Option Addr) (len cap : Nat) (zs : List Int) (n : Int) (_ : (Lit.int .i64 n).wf = true) (w : World) (he : ∃ ad, ErrsAt ad w) (ha : IsRow .i64 w a len cap zs) :
    Calls Tryz.prog 5 #[.slice a len cap, .int .i64 n] w fun e w' => e = .returned (.bool true) ∧ Below w.heap.size w w' := by
  obtain ⟨ad, hE⟩ := he
  have q0 := lawFirst7 (ad 5) (ad 6) w hE.arity hE.over
  have HE : Hid (ErrsAt ad w) := hE
  have HA : Hid (IsRow .i64 w a len cap zs) := ha
  clear hE ha
  go_enter Tryz.func5, Tryz.ntmps5
  go_wp2_with fail
  refine q0.mono ?_
  rintro e w1 ⟨rfl, hb1⟩
  have B1 : Hid (Below w.heap.size w w1) := hb1
  clear q0 hb1
  by_cases hl : 100 < len
  · have I1 : (100 : Int) < (len : Int) := by omega
    go_wp2_with fail
    go_ret
    exact ⟨rfl, B1.out⟩
  · have I1 : ¬ (100 : Int) < (len : Int) := by omega
    have q1 := arNew [1, 0] (.slice (some ⟨w1.heap.size, 0, none⟩) 2 2) (w1.alloc (.cells #[.int .i64 1, .int .i64 0] 3)) (by simp) (ints_xy w1 1 0) (.inl (by simp))
    go_wp2_with fail
    refine q1.mono ?_
    rintro e w2 ⟨sb, G, rfl, hA, hG, hb, hB⟩
    have b2 : Below w1.heap.size w1 w2 := one_box.trans (hB.mono (by simp))
    have bw2 : Below w.heap.size w w2 := B1.out.trans (b2.mono B1.out.size)
    obtain ⟨V, hV⟩ : ∃ V, V = w2.alloc (.cells #[.slice a len cap, .int .i64 0] 28) := ⟨_, rfl⟩
    have hVs : V.heap.size = w2.heap.size + 1 := by rw [hV]; simp
    have bV : Below w2.heap.size w2 V := by rw [hV]; exact one_box
    have hS0 : SeqAt w2.heap.size a len cap zs 0 V := by rw [hV]; exact SeqAt.make (HA.out.below bw2) _
    have hP0 : PA [1, 0] [] w2.heap.size a len cap zs 0 sb [] 0 w1 V := PA.start hA (fun k e => by have := hG k e; simp at this; omega) (by simp at hb; omega) b2 bV hS0 (HA.out.below B1.out).lt
    obtain ⟨W, hW⟩ : ∃ W, W = V.alloc (.cells #[.int .i64 1, .int .i64 3] 3) := ⟨_, rfl⟩
    have bW : Below V.heap.size V W := by rw [hW]; exact one_box
    have hC : ColsAt (w2.heap.size + 1) [1, 3] W := by rw [hW, ← hVs]; exact cols7_xy V 1 3
    have q2 := makeSet w2.heap.size a len cap zs 0 (w2.heap.size + 1) 2 2 [1, 3] 8 W (hS0.on bW) (by omega) (by omega) hC (by omega) (by omega) (by simp) (fun i h => by
      obtain rfl | rfl : i = 0 ∨ i = 1 := by simp at h; omega
      · simp
      · simp)
    have HW : Hid ((w2.alloc (.cells #[.slice a len cap, .int .i64 0] 28)).alloc (.cells #[.int .i64 1, .int .i64 3] 3) = W) := by show _ = _; rw [hW, hV]
    have BW : Hid (Below V.heap.size V W) := bW
    have P0 : Hid (PA [1, 0] [] w2.heap.size a len cap zs 0 sb [] 0 w1 V) := hP0
    clear q1 hA hG hb hB b2 bw2 hV hVs bV hS0 hP0 hW bW hC
    go_wp2_with fail
    rw [HW.out]
    refine q2.mono ?_
    rintro e w3 ⟨vz, Z, rfl, ⟨p', z1, z2, z3, z4, z5, z6, z7⟩, z8, z9⟩
    have hP3 := P0.out.made BW.out z7 z4 z6
    have hzw : ∀ e ∈ Z, -1000 ≤ e.2 ∧ e.2 ≤ 1000 := fun e he => by have := z8 e.1; rw [wt_mem z1.1 he] at this; omega
    have hng := neg_gone z1 (fun e he => ⟨ok7 (by have := hzw e he; omega), ok7 (by have := hzw e he; omega)⟩)
    have hEm : EOk (Z.map ngE) := fun e he => by
      obtain ⟨x, hx, rfl⟩ := List.mem_map.1 he
      exact ⟨ok7 (by have := hzw x hx; show -100000 ≤ -x.2 ∧ -x.2 ≤ 100000; omega), (z2 x hx).2⟩
    have hk1 : hasK [1, 0] Z = true := List.all_eq_true.2 (fun e he => allIn_10 (z9 e he).1)
    have hk2 : hasK [1, 0] (Z.map ngE) = true := List.all_eq_true.2 (fun e he => by
      obtain ⟨x, hx, rfl⟩ := List.mem_map.1 he
      exact allIn_10 (z9 x hx).1)
    obtain ⟨y1, y2⟩ := isZ_self z1 z2
    have HZ : Hid (IsZ Z ∧ EOk Z ∧ IsZ (Z.map ngE) ∧ EOk (Z.map ngE) ∧ okZ (Z ++ Z.map ngE) = true ∧ mkZ (Z ++ Z.map ngE) = [] ∧ hasK [1, 0] Z = true ∧ hasK [1, 0] (Z.map ngE) = true ∧ okZ Z = true ∧ mkZ Z = Z) := ⟨z1, z2, hng.2.2.1, hEm, hng.2.2.2.1, hng.2.2.2.2, hk1, hk2, y1, y2⟩
    have HNG : Hid (ngOk Z = true ∧ ngZ Z = Z.map ngE) := ⟨hng.1, hng.2.1⟩
    have hzl : Z.length ≤ 8 := z3
    -- the copy, and the row without the columns
    obtain ⟨Rl, hSl, hLl, hMl⟩ := hP3.open
    obtain ⟨vs, ka, kr⟩ := hLl (vz, Z) (by simp)
    simp only at ka kr
    have q3 := refEntries vs Z vz w3 (by omega) (ka.sees hSl) (kr.sees hSl)
    obtain ⟨az, cz, ez⟩ := z4.ents.form
    have hvl : vs.length ≤ 8 := by rw [kr.1]; exact hzl
    have HS : Hid (∀ w4 w5 v4 v5, CopyTo vs w3 vs.length v4 w4 → w5.ownsRow w3.heap.size 37 2 v5 (vs.length + 1) (es vs ++ ec (.slice (some ⟨w4.heap.size, 0, none⟩) 1 1, 1)) → ((w4.alloc (.cells #[.int .i64 2, .int .i64 0, .string ⟨#[122]⟩] 56)).alloc (.cells #[.slice (some ⟨w4.heap.size, 0, none⟩) 1 1, .int .i64 1] 37)).grownBy w5 v4.ownBlock → PA [1, 0] [(v5, Z ++ [(rz, 1)]), (vz, Z)] w2.heap.size a len cap zs p' sb [] 0 w1 w5) := fun w4 w5 v4 v5 hc ho hg => by
      obtain ⟨k1, k2⟩ := hc
      have b5 : Below w3.heap.size w3 w5 := by
        have h1 : Below w3.heap.size w3 ((w4.alloc (.cells #[.int .i64 2, .int .i64 0, .string ⟨#[122]⟩] 56)).alloc (.cells #[.slice (some ⟨w4.heap.size, 0, none⟩) 1 1, .int .i64 1] 37)) := k2.trans (below_two.mono k2.size)
        exact h1.grown hg h1.size (fun k e => (k1.lt k e).1)
      refine hMl w5 v5 _ b5 (ents_app (hSl.on b5) kr ho ?_ (fun b e => ?_))
      · have r0 : RowIs ((w4.alloc (.cells #[.int .i64 2, .int .i64 0, .string ⟨#[122]⟩] 56)).alloc (.cells #[.slice (some ⟨w4.heap.size, 0, none⟩) 1 1, .int .i64 1] 37)) (.slice (some ⟨w4.heap.size, 0, none⟩) 1 1) rz := (row_new w4 2 0 ⟨#[122]⟩).on one_box
        cases hv : v4.ownBlock with
        | none =>
          rw [hv] at hg
          exact r0.on ((Below.refl _ _).grown hg (Nat.le_refl _) (fun k e => by cases e))
        | some k =>
          rw [hv] at hg
          have hlt := (k1.lt k hv).2
          exact r0.but (but_grown hg) (fun e => by simp only [Value.ownBlock, Option.some.injEq] at e; omega)
      · simp only [Value.ownBlock, Option.some.injEq] at e
        have := k2.size; omega
    clear q2 z1 z2 z3 z4 z5 z6 z7 z8 z9 hP3 hzw hng hEm hk1 hk2 y1 y2 hSl hLl hMl ka kr P0 BW HW
    subst ez
    obtain ⟨i0, hi0, hz0, hz1, hz2⟩ := info_parts info_entry
    go_wp2_with fail
    refine q3.mono ?_
    rintro e w4 ⟨v4, rfl, hc4⟩
    obtain ⟨a4, c4, e4⟩ := own_form hc4.1
    have H4 : Hid (CopyTo vs w3 vs.length v4 w4) := hc4
    have O4 : Hid (w4.ownsRow w3.heap.size 37 2 v4 vs.length (es vs)) := by have := hc4.1; rwa [List.take_length] at this
    have hs4 := hc4.2.size
    clear q3 hc4
    subst e4
    go_wp2_with (first | (at_builtin; refine wpList_append_own _ rfl _ _ 29 rfl w3.heap.size 37 i0 (.agg #[.slice none 0 0, .int .i64 0]) 2 32 Tryz.underlying29 hi0 hz0 hz1 hz2 rfl (by decide) _ vs.length (es vs) rfl (own_on O4.out below_two) ⟨w4.heap.size + 1, 0, none⟩ 1 1 (ec (.slice (some ⟨w4.heap.size, 0, none⟩) 1 1, 1)) rfl rfl (by have := cell_two_new (w4.alloc (.cells #[.int .i64 2, .int .i64 0, .string ⟨#[122]⟩] 56)) (.slice (some ⟨w4.heap.size, 0, none⟩) 1 1) (.int .i64 1) 37; simpa [ec] using this) (by simp [ec, Value.oneCell']) (by unfold maxLen; omega) (by omega) (by simp; omega) ?_; intro v5 w5 hown5 hg5 _; have H5 : Hid (PA [1, 0] [(v5, Z ++ [(rz, 1)]), (.slice az Z.length cz, Z)] w2.heap.size a len cap zs p' sb [] 0 w1 w5) := HS.out _ _ _ _ H4.out hown5 hg5; clear hown5 hg5) | fail)
    obtain ⟨a5, c5, e5⟩ := (H5.out.ents (x := (v5, Z ++ [(rz, 1)])) (by simp)).form
    simp only at e5
    subst e5
    have hsl : (Z ++ [(rz, (1 : Int))]).length ≤ 9 := by rw [List.length_append]; simp; omega
    have HSN : Hid (hasK [1, 0] (Z ++ [(rz, 1)]) = false) := short_not Z
    have q6 := paNeg [1, 0] _ _ a len cap zs p' sb [] 0 w1 w5 H5.out (.slice az Z.length cz) Z (by simp) (by omega) (fun e he => (HZ.out.2.1 e he).1) 0 (by rw [HNG.out.1]; rfl)
    rw [HNG.out.2] at q6
    clear HS H4 O4 hs4 H5 hz0 hz1 hz2 hi0
    generalize Z ++ [(rz, (1 : Int))] = Y at *
    have HM : Hid (∃ M, M = Z.map ngE) := ⟨_, rfl⟩
    go_wp2_with fail
    refine q6.mono ?_
    rintro e w6 ⟨v6, rfl, h6⟩
    obtain ⟨a6, c6, e6⟩ := (h6.ents (x := (v6, Z.map ngE)) (by simp)).form
    simp only at e6
    subst e6
    obtain ⟨M, hM⟩ := HM.out
    rw [← hM] at h6 HZ HNG
    have hMl : M.length ≤ 8 := by rw [hM, List.length_map]; exact hzl
    have H6 : Hid (PA [1, 0] [(.slice a6 M.length c6, M), (.slice a5 Y.length c5, Y), (.slice az Z.length cz, Z)] w2.heap.size a len cap zs p' sb [] 0 w1 w6) := h6
    have HE1 : Hid (ErrsAt ad w1) := HE.out.on B1.out
    rw [← hM]
    clear q6 h6 HM HNG hM
    have q7 := paInsert [1, 0] _ _ a len cap zs p' sb [] 0 w1 w6 (ad 5) (ad 6) H6.out HE1.out.arity HE1.out.over (.slice a5 Y.length c5) Y (fun h => by rw [HSN.out] at h; cases h) (H6.out.ents (x := (.slice a5 Y.length c5, Y)) (by simp)) (by omega)
    rw [HSN.out] at q7
    have ei : insE (ad 5) (ad 6) false (okZ ([] ++ Y)) = errV (ad 5) := rfl
    have ez0 : insZ [1, 0] [] Y = [] := by unfold insZ; rw [HSN.out]; rfl
    rw [ei, ez0] at q7
    clear ei ez0 H6
    go_wp2_with fail
    refine q7.mono ?_
    rintro e w7 ⟨rfl, m7, hm7, h7⟩
    have q8 := paAll [1, 0] _ _ a len cap zs p' sb [] m7 w1 w7 (ad 6) h7 HE1.out.over (by omega)
    have H7 : Hid (PA [1, 0] [(.slice a6 M.length c6, M), (.slice a5 Y.length c5, Y), (.slice az Z.length cz, Z)] w2.heap.size a len cap zs p' sb [] m7 w1 w7) := h7
    have hm7' : m7 ≤ 9 := by omega
    clear q7 h7 hm7
    rw [errV_ne]
    go_wp2_with fail
    refine q8.mono ?_
    rintro e w8 ⟨v8, rfl, k1, k2⟩
    obtain ⟨a8, c8, e8⟩ := k1.form
    have H8 : Hid (PA [1, 0] [(.slice a6 M.length c6, M), (.slice a5 Y.length c5, Y), (.slice az Z.length cz, Z)] w2.heap.size a len cap zs p' sb [] m7 w1 w8) := H7.out.on k2
    have el : ([] : List Ent).length = 0 := rfl
    rw [el] at e8
    clear q8 k1 k2 H7 el
    subst e8
    have q9 := paInsert [1, 0] _ _ a len cap zs p' sb [] m7 w1 w8 (ad 5) (ad 6) H8.out HE1.out.arity HE1.out.over (.slice az Z.length cz) Z (fun _ => ⟨HZ.out.1, HZ.out.2.1⟩) (H8.out.ents (x := (.slice az Z.length cz, Z)) (by simp)) (by omega)
    have ez1 : insZ [1, 0] [] Z = Z := by unfold insZ; rw [HZ.out.2.2.2.2.2.2.1, List.nil_append, HZ.out.2.2.2.2.2.2.2.2.1, HZ.out.2.2.2.2.2.2.2.2.2]; rfl
    have ei : insE (ad 5) (ad 6) (hasK [1, 0] Z) (okZ ([] ++ Z)) = .nilIface := by rw [HZ.out.2.2.2.2.2.2.1, List.nil_append, HZ.out.2.2.2.2.2.2.2.2.1]; rfl
    rw [ei, ez1] at q9
    clear ei ez1 H8
    go_wp2_with fail
    refine q9.mono ?_
    rintro e w9 ⟨rfl, m9, hm9, h9⟩
    have q10 := paKeys [1, 0] _ _ a len cap zs p' sb Z m9 w1 w9 (ad 6) h9 HE1.out.over (by omega)
    have H9 : Hid (PA [1, 0] [(.slice a6 M.length c6, M), (.slice a5 Y.length c5, Y), (.slice az Z.length cz, Z)] w2.heap.size a len cap zs p' sb Z m9 w1 w9) := h9
    have hm9' : m9 ≤ 17 := by omega
    clear q9 h9 hm9
    go_wp2_with fail
    refine q10.mono ?_
    rintro e w10 ⟨v10, K, rfl, k0, k1, k2⟩
    obtain ⟨a10, c10, e10⟩ := k1.form
    have H10 : Hid (PA [1, 0] [(.slice a6 M.length c6, M), (.slice a5 Y.length c5, Y), (.slice az Z.length cz, Z)] w2.heap.size a len cap zs p' sb Z m9 w1 w10) := H9.out.on k2
    have hK := k0.len
    clear q10 k0 k1 k2 H9
    subst e10
    obtain ⟨kl, hkl⟩ : ∃ kl, K.length = kl := ⟨_, rfl⟩
    rw [hkl] at hK
    rw [hkl]
    clear hkl
    obtain ⟨hK1, hK2⟩ := hK
    have q11 := paInsert [1, 0] _ _ a len cap zs p' sb Z m9 w1 w10 (ad 5) (ad 6) H10.out HE1.out.arity HE1.out.over (.slice a6 M.length c6) M (fun _ => ⟨HZ.out.2.2.1, HZ.out.2.2.2.1⟩) (H10.out.ents (x := (.slice a6 M.length c6, M)) (by simp)) (by omega)
    have ez1 : insZ [1, 0] Z M = [] := by unfold insZ; rw [HZ.out.2.2.2.2.2.2.2.1, HZ.out.2.2.2.2.1, HZ.out.2.2.2.2.2.1]; rfl
    have ei : insE (ad 5) (ad 6) (hasK [1, 0] M) (okZ (Z ++ M)) = .nilIface := by rw [HZ.out.2.2.2.2.2.2.2.1, HZ.out.2.2.2.2.1]; rfl
    rw [ei, ez1] at q11
    clear ei ez1 H10
    go_wp2_with fail
    refine q11.mono ?_
    rintro e w11 ⟨rfl, m11, hm11, h11⟩
    have H11 : Hid (PA [1, 0] [(.slice a6 M.length c6, M), (.slice a5 Y.length c5, Y), (.slice az Z.length cz, Z)] w2.heap.size a len cap zs p' sb [] m11 w1 w11) := h11
    have q12 : Hid (Calls Tryz.prog 13 #[.iface 202 (.pointer (some (ad 5))), .int .i64 106] w11 fun e w' => e = .returned (.bool true) ∧ Below w11.heap.size w11 w') := seeIs ad (some 5) 106 w11 (HE1.out.on h11.below)
    have hm11' : m11 ≤ 25 := by omega
    clear q11 h11 hm11
    go_wp2_with fail
    refine q12.out.mono ?_
    rintro e w12 ⟨rfl, hb12⟩
    have H12 : Hid (PA [1, 0] [(.slice a6 M.length c6, M), (.slice a5 Y.length c5, Y), (.slice az Z.length cz, Z)] w2.heap.size a len cap zs p' sb [] m11 w1 w12) := H11.out.on hb12
    have q13 := paKeys [1, 0] _ _ a len cap zs p' sb [] m11 w1 w12 (ad 6) H12.out HE1.out.over (by omega)
    clear q12 hb12 H11
    have J1 : (kl : Int) ≤ (Z.length : Int) := by omega
    have J2 : decide ((0 : Int) < (kl : Int)) = decide ((0 : Int) < (Z.length : Int)) := by rw [decide_eq_decide]; omega
    have EB : Below w.heap.size w w1 := B1.out
    have HB : Hid (∀ W, Below w1.heap.size w1 W → Below w.heap.size w W) := fun W h => EB.trans (h.mono EB.size)
    clear EB
    generalize Z.length = zl at *
    by_cases hk0 : 0 < kl
    · have L1 : (0 : Int) < (kl : Int) := by omega
      have L2 : (0 : Int) < (zl : Int) := by omega
      clear J2 hK2
      go_wp2_with fail
      refine q13.mono ?_
      intro e w13 hE
      obtain ⟨a13, c13, rfl, _, hb13⟩ := hE.len (KeysOf.nil [1, 0])
      have H13 := H12.out.on hb13
      have q14 := paChunk [1, 0] _ _ a len cap zs p' sb [] m11 w1 w13 (ad 6) H13 HE1.out.over (by omega) [] (.slice none 0 0) (.inl ⟨none, 0, rfl, rfl⟩) false 5
      have HH13 : Hid (PA [1, 0] [(.slice a6 M.length c6, M), (.slice a5 Y.length c5, Y), (.slice az zl cz, Z)] w2.heap.size a len cap zs p' sb [] m11 w1 w13) := H13
      have el : ([] : List (List Val)).length = 0 := rfl
      rw [el]
      clear q13 hE hb13 H12 H13 el
      go_wp2_with fail
      refine q14.mono ?_
      rintro e w14 ⟨v14, rfl, k1, k2⟩
      obtain ⟨a14, c14, e14⟩ := k1.form
      have el : (after false [] ([] : List Ent) 5).length = 0 := rfl
      rw [el] at e14
      have H14 := HH13.out.on k2
      have b14 := H14.below
      have hr14 := (row_new w14 1 n ⟨#[]⟩)
      have q15 := paLookup [1, 0] _ _ a len cap zs p' sb [] m11 w1 _ (ad 6) (H14.on one_box) HE1.out.over (by omega) _ _ hr14
      have B14 : Hid (Below w1.heap.size w1 (w14.alloc (.cells #[.int .i64 1, .int .i64 n, .string ⟨#[]⟩] 56))) := b14.trans (one_box.mono b14.size)
      clear q14 k1 k2 HH13 H14 b14 hr14 el
      subst e14
      go_wp2_with fail
      refine q15.mono ?_
      rintro e w15 ⟨v15, rfl, k1, k2⟩
      obtain ⟨a15, c15, e15⟩ := k1.ents.form
      have el : (under [1, 0] [(1, n, (⟨#[]⟩ : ByteArray))] ([] : List Ent)).length = 0 := rfl
      rw [el] at e15
      have B15 : Hid (Below w.heap.size w w15) := HB.out w15 (B14.out.trans (k2.mono B14.out.size))
      clear q15 k1 k2 el
      subst e15
      go_wp2_with fail
      go_ret
      exact ⟨rfl, B15.out⟩
    · have L1 : ¬ (0 : Int) < (kl : Int) := by omega
      have L2 : ¬ (0 : Int) < (zl : Int) := by omega
      clear J2 hK2
      go_wp2_with fail
      refine q13.mono ?_
      intro e w13 hE
      obtain ⟨a13, c13, rfl, _, hb13⟩ := hE.len (KeysOf.nil [1, 0])
      have H13 := H12.out.on hb13
      have q14 := paChunk [1, 0] _ _ a len cap zs p' sb [] m11 w1 w13 (ad 6) H13 HE1.out.over (by omega) [] (.slice none 0 0) (.inl ⟨none, 0, rfl, rfl⟩) false 5
      have HH13 : Hid (PA [1, 0] [(.slice a6 M.length c6, M), (.slice a5 Y.length c5, Y), (.slice az zl cz, Z)] w2.heap.size a len cap zs p' sb [] m11 w1 w13) := H13
      have el : ([] : List (List Val)).length = 0 := rfl
      rw [el]
      clear q13 hE hb13 H12 H13 el
      go_wp2_with fail
      refine q14.mono ?_
      rintro e w14 ⟨v14, rfl, k1, k2⟩
      obtain ⟨a14, c14, e14⟩ := k1.form
      have el : (after false [] ([] : List Ent) 5).length = 0 := rfl
      rw [el] at e14
      have H14 := HH13.out.on k2
      have b14 := H14.below
      have hr14 := (row_new w14 1 n ⟨#[]⟩)
      have q15 := paLookup [1, 0] _ _ a len cap zs p' sb [] m11 w1 _ (ad 6) (H14.on one_box) HE1.out.over (by omega) _ _ hr14
      have B14 : Hid (Below w1.heap.size w1 (w14.alloc (.cells #[.int .i64 1, .int .i64 n, .string ⟨#[]⟩] 56))) := b14.trans (one_box.mono b14.size)
      clear q14 k1 k2 HH13 H14 b14 hr14 el
      subst e14
      go_wp2_with fail
      refine q15.mono ?_
      rintro e w15 ⟨v15, rfl, k1, k2⟩
      obtain ⟨a15, c15, e15⟩ := k1.ents.form
      have el : (under [1, 0] [(1, n, (⟨#[]⟩ : ByteArray))] ([] : List Ent)).length = 0 := rfl
      rw [el] at e15
      have B15 : Hid (Below w.heap.size w w15) := HB.out w15 (B14.out.trans (k2.mono B14.out.size))
      clear q15 k1 k2 el
      subst e15
      go_wp2_with fail
      go_ret
      exact ⟨rfl, B15.out⟩
end Go.Proofs.YtglbipnppldkmaaGreatDoor
