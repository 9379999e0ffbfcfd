/- What linear's calls answer. -/
import Derived.Test.YtaccinophamgmaaDoorLnPick
import Derived.Test.YtaccinophamgmaaDoorLnFlt
import Derived.Test.YtaccinophamgmaaDoorZComb
import Derived.Test.YtaccinophamgmaaDoorZMk
import Derived.Test.YtaccinophamgmaaDoorNewRows
namespace Go.Proofs.YtaccinophamgmaaDoor
open Go.RowKit Go.Sort
set_option maxRecDepth 100000
set_option linter.unusedVariables false

/-- The error of a projection. -/
def prjE (eA eO : Addr) (ks : List Int) (l : List Ent) : Value := if prjOk ks l then ovE eO (okZ (prjP ks l)) else errV eA
theorem pk_short (r : List Val) (ks : List Int) : (pk r ks).length ≤ ks.length := by
  unfold pk; split <;> simp
theorem prj_eok {ks : List Int} {l : List Ent} (h : EOk l) (hk : ks.length ≤ 65536) : EOk (prjP ks l) := by
  intro e he
  obtain ⟨x, hx, rfl⟩ := List.mem_map.1 he
  exact ⟨(h x hx).1, Nat.le_trans (pk_short _ _) hk⟩
set_option maxHeartbeats 2000000 in
theorem lnProject (ks : List Int) (cv va : Value) (l : List Ent) (eA eO : Addr) (w : World) (hA : w.cell? ⟨0, 0, none⟩ = some (errV eA)) (hO : OverAt eO w) (hn : l.length ≤ 65536) (hl : EOk l) (hks : ks.length ≤ 65536) (hki : ∀ c ∈ ks, inI c = true) (hc : IntsIs w cv ks) (ha : EntsIs w va l) :
    Calls Tryd.prog 10 #[cv, va] w fun e w' => ∃ v, e = .returned (.tuple #[v, prjE eA eO ks l]) ∧ ZHas w.heap.size (prjZ ks l) v w' ∧ Below w.heap.size w w' := by
  have q1 := lnEach ks cv w hks hki hc
  have HA : Hid (w.cell? ⟨0, 0, none⟩ = some (errV eA)) := hA
  have HO : Hid (OverAt eO w) := hO
  have Ha : Hid (EntsIs w va l) := ha
  have hol := onceL_len ks
  have Q2 : Hid (∀ v1 W, IntsIs W v1 (onceL ks) → Below w.heap.size w W → Calls Tryd.prog 27 #[v1, va] W fun e w' => ∃ v, e = .returned (.tuple #[v, pickE eA ks l]) ∧ ZHas W.heap.size (pickP (onceL ks) l) v w' ∧ Below W.heap.size W w') := fun v1 W h1 hW => by
    have := lnPickAll (onceL ks) l v1 va eA W (cell_on HA.out hW) hn (by omega) h1 (Ha.out.on hW)
    unfold pickE at this ⊢
    rw [prjOk_once] at this
    exact this
  have HE : Hid (EOk (prjP (onceL ks) l)) := prj_eok hl (by omega)
  have hpl : (prjP (onceL ks) l).length ≤ 65536 := by rw [prj_len]; exact hn
  have Q3 : Hid (∀ v2 W, EntsIs W v2 (prjP (onceL ks) l) → Below w.heap.size w W → Calls Tryd.prog 28 #[v2] W fun e w' => ∃ v, e = .returned (.tuple #[v, ovE eO (okZ (prjP (onceL ks) l))]) ∧ ZHas W.heap.size (mkZ (prjP (onceL ks) l)) v w' ∧ Below W.heap.size W w') := fun v2 W h2 hW => zMakeO _ v2 eO W (HO.out.on hW) hpl HE.out h2
  have hml : (mkZ (prjP (onceL ks) l)).length ≤ 65536 := Nat.le_trans (mkZ_len _) hpl
  have Q4 : Hid (∀ v1 v2 W, IntsIs W v1 (plcL ks) → EntsIs W v2 (mkZ (prjP (onceL ks) l)) → Below w.heap.size w W → Calls Tryd.prog 27 #[v1, v2] W fun e w' => ∃ v, e = .returned (.tuple #[v, pickE eA (plcL ks) (mkZ (prjP (onceL ks) l))]) ∧ ZHas W.heap.size (pickP (plcL ks) (mkZ (prjP (onceL ks) l))) v w' ∧ Below W.heap.size W w') := fun v1 v2 W h1 h2 hW => lnPickAll (plcL ks) _ v1 v2 eA W (cell_on HA.out hW) hml (by rw [plcL_len]; exact hks) h1 h2
  have HN : Hid (prjOk ks l = false → prjE eA eO ks l = errV eA ∧ prjZ ks l = []) := fun h => by unfold prjE prjZ; rw [h]; exact ⟨rfl, rfl⟩
  have HV : Hid (prjOk ks l = true → okZ (prjP (onceL ks) l) = false → prjE eA eO ks l = errV eO ∧ prjZ ks l = []) := fun h h' => by
    have e := (prj_by_once h).1
    rw [h'] at e
    unfold prjE prjZ mkZ; rw [h, ← e]; exact ⟨rfl, rfl⟩
  have HY : Hid (prjOk ks l = true → okZ (prjP (onceL ks) l) = true → prjE eA eO ks l = .nilIface ∧ pickE eA (plcL ks) (mkZ (prjP (onceL ks) l)) = .nilIface ∧ pickP (plcL ks) (mkZ (prjP (onceL ks) l)) = prjZ ks l ∧ pickP (onceL ks) l = prjP (onceL ks) l) := fun h h' => by
    obtain ⟨e1, e2, e3⟩ := prj_by_once h
    refine ⟨?_, ?_, ?_, ?_⟩
    · unfold prjE; rw [h, ← e1, h']; rfl
    · unfold pickE; rw [e3]; rfl
    · unfold pickP; rw [e3, e2]; rfl
    · unfold pickP; rw [prjOk_once, h]; rfl
  have HP : Hid (prjOk ks l = true → pickP (onceL ks) l = prjP (onceL ks) l) := fun h => by unfold pickP; rw [prjOk_once, h]; rfl
  clear hA hO ha hc hki hl hol hpl hml
  go_enter Tryd.func10, Tryd.ntmps10
  go_wp2_with fail
  refine q1.mono ?_
  rintro e w1 ⟨v1, v2, rfl, g1, g2, b1⟩
  have B1 : Hid (Below w.heap.size w w1) := b1
  have q2 := Q2.out v1 w1 g1 b1
  have G2 : Hid (IntsIs w1 v2 (plcL ks)) := g2
  clear q1 g1 g2 b1 Q2
  by_cases hok : prjOk ks l = true
  · have ep : pickE eA ks l = .nilIface := by unfold pickE; rw [hok]; rfl
    rw [ep] at q2
    go_wp2_with fail
    refine q2.mono ?_
    rintro e w2 ⟨v3, rfl, h3, b2⟩
    rw [HP.out hok] at h3
    have B2 : Hid (Below w.heap.size w w2) := B1.out.trans (b2.mono B1.out.size)
    have q3 := Q3.out v3 w2 h3.ents B2.out
    have G2' : Hid (IntsIs w2 v2 (plcL ks)) := G2.out.on b2
    clear q2 h3 b2 Q3 G2 HP HN
    by_cases hz : okZ (prjP (onceL ks) l) = true
    · rw [hz] at q3
      obtain ⟨y1, y2, y3, _⟩ := HY.out hok hz
      have Y1 : Hid (prjE eA eO ks l = .nilIface) := y1
      have Y3 : Hid (pickP (plcL ks) (mkZ (prjP (onceL ks) l)) = prjZ ks l) := y3
      clear HY HV y1 y3
      go_wp2_with fail
      refine q3.mono ?_
      rintro e w3 ⟨v4, rfl, h4, b3⟩
      have B3 : Hid (Below w.heap.size w w3) := B2.out.trans (b3.mono B2.out.size)
      have q4 := Q4.out v2 v4 w3 (G2'.out.on b3) h4.ents B3.out
      rw [y2] at q4
      clear q3 h4 b3 Q4 y2
      unfold ovE
      go_wp2_with fail
      refine q4.mono ?_
      rintro e w4 ⟨v5, rfl, h5, b4⟩
      have E : Hid (ZHas w.heap.size (prjZ ks l) v5 w4 ∧ Below w.heap.size w w4) := by
        refine ⟨?_, B3.out.trans (b4.mono B3.out.size)⟩
        rw [← Y3.out]
        obtain ⟨us, h6⟩ := h5
        exact ⟨us, h6.mono B3.out.size⟩
      clear q4 h5 b4
      go_wp2_with fail
      go_ret2
      exact ⟨_, by rw [Y1.out]; rfl, E.out.1, E.out.2⟩
    · have hz' : okZ (prjP (onceL ks) l) = false := by simpa using hz
      rw [hz'] at q3
      obtain ⟨y1, y2⟩ := HV.out hok hz'
      have E : Hid (prjE eA eO ks l = errV eO ∧ prjZ ks l = []) := ⟨y1, y2⟩
      clear HY HV y1 y2 Q4
      go_wp2_with fail
      refine q3.mono ?_
      rintro e w3 ⟨v4, rfl, h4, b3⟩
      have B3 : Hid (Below w.heap.size w w3) := B2.out.trans (b3.mono B2.out.size)
      clear q3 h4 b3
      unfold ovE errV
      go_wp2_with fail
      go_ret2
      exact ⟨.slice none 0 0, by rw [E.out.1]; rfl, by rw [E.out.2]; exact ⟨[], ZOwn.nil _ _⟩, B3.out⟩
  · have hok' : prjOk ks l = false := by simpa using hok
    have ep : pickE eA ks l = errV eA := by unfold pickE; rw [hok']; rfl
    rw [ep] at q2
    obtain ⟨y1, y2⟩ := HN.out hok'
    have E : Hid (prjE eA eO ks l = errV eA ∧ prjZ ks l = []) := ⟨y1, y2⟩
    clear HY HV HN HP y1 y2 Q3 Q4 ep
    go_wp2_with fail
    refine q2.mono ?_
    rintro e w2 ⟨v3, rfl, h3, b2⟩
    have B2 : Hid (Below w.heap.size w w2) := B1.out.trans (b2.mono B1.out.size)
    clear q2 h3 b2
    unfold errV
    go_wp2_with fail
    go_ret2
    exact ⟨.slice none 0 0, by rw [E.out.1]; rfl, by rw [E.out.2]; exact ⟨[], ZOwn.nil _ _⟩, B2.out⟩
theorem lnUnion (l m : List Ent) (va vb : Value) (a : Addr) (w : World) (ho : OverAt a w) (hN : l.length + m.length ≤ 65536) (hl : EOk l) (hm : EOk m) (zl : SortedZ l) (zm : SortedZ m) (ha : EntsIs w va l) (hb : EntsIs w vb m) :
    Calls Tryd.prog 12 #[va, vb] w fun e w' => ∃ v, e = .returned (.tuple #[v, ovE a (okZ (l ++ m))]) ∧ ZHas w.heap.size (mkZ (l ++ m)) v w' ∧ Below w.heap.size w w' := by
  have q := zAddO l m va vb a w ho hN hl hm zl zm ha hb
  go_enter Tryd.func12, Tryd.ntmps12
  go_wp2_with fail
  refine q.mono ?_
  rintro e w1 ⟨v, rfl, h1, h2⟩
  have E : Hid (ZHas w.heap.size (mkZ (l ++ m)) v w1 ∧ Below w.heap.size w w1) := ⟨h1, h2⟩
  clear q h1 h2
  go_wp2_with fail
  go_ret2
  exact ⟨_, rfl, E.out.1, E.out.2⟩
theorem first_prj : prjZ [0, 0] [([(1, 5, ⟨#[]⟩)], 1)] = [([(1, 5, ⟨#[]⟩), (1, 5, ⟨#[]⟩)], 1)] := by rfl
theorem first_err (eA eO : Addr) : prjE eA eO [0, 0] [([(1, 5, ⟨#[]⟩)], 1)] = .nilIface := by rfl
set_option maxHeartbeats 2000000 in
theorem lawFirst11 (eA eO : Addr) (w : World) (hA : w.cell? ⟨0, 0, none⟩ = some (errV eA)) (hO : OverAt eO w) : Calls Tryd.prog 7 #[] w fun e w' => e = .returned (.bool true) ∧ Below w.heap.size w w' := by
  obtain ⟨W1, hW1⟩ : ∃ W1, W1 = (w.alloc (.cells #[.int .i64 1, .int .i64 5, .string ⟨#[]⟩] 30)).alloc (.cells #[.slice (some ⟨w.heap.size, 0, none⟩) 1 1, .int .i64 1] 52) := ⟨_, rfl⟩
  have hE : Hid (EntsIs W1 (.slice (some ⟨w.heap.size + 1, 0, none⟩) 1 1) [([(1, 5, ⟨#[]⟩)], 1)]) := by
    rw [hW1]
    have h := ents_one (row_new w 1 5 ⟨#[]⟩) 1
    rw [show (w.alloc (.cells #[.int .i64 1, .int .i64 5, .string ⟨#[]⟩] 30)).heap.size = w.heap.size + 1 by simp] at h
    exact h
  have hs : W1.heap.size = w.heap.size + 1 + 1 := by rw [hW1]; simp
  have hB1 : Hid (Below w.heap.size w W1) := by rw [hW1]; exact below_two
  have hI : IntsIs (W1.alloc (.cells #[.int .i64 0, .int .i64 0] 3)) (.slice (some ⟨w.heap.size + 1 + 1, 0, none⟩) 2 2) [0, 0] := by
    rw [← hs]
    refine .inr ⟨W1.heap.size, 0, 2, rfl, by simp, by unfold maxLen; omega, by simp, fun i hi => ?_⟩
    obtain rfl | rfl : i = 0 ∨ i = 1 := by simp at hi; omega
    · rw [World.cell?_alloc_at _ _ _ _ rfl]; rfl
    · rw [World.cell?_alloc_at _ _ _ _ rfl]; rfl
  have q1 : Hid (Calls Tryd.prog 10 #[.slice (some ⟨w.heap.size + 1 + 1, 0, none⟩) 2 2, .slice (some ⟨w.heap.size + 1, 0, none⟩) 1 1] (W1.alloc (.cells #[.int .i64 0, .int .i64 0] 3)) fun e w' => ∃ b o cap' ac cc, e = .returned (.tuple #[.slice (some ⟨b, o, none⟩) 1 cap', .nilIface]) ∧ w'.cell? ⟨b, o, none⟩ = some (.slice ac 2 cc) ∧ Below w.heap.size w w') := by
    refine (lnProject [0, 0] _ _ _ eA eO _ (cell_on (cell_on hA hB1.out) one_box) ((hO.on hB1.out).on one_box) (by simp) (fun e he => by rw [List.mem_singleton.1 he]; exact ⟨rfl, by simp⟩) (by simp) (fun c hc => by simp at hc; subst hc; rfl) hI (hE.out.on one_box)).mono ?_
    rintro e w' ⟨v, rfl, h1, h2⟩
    rw [first_prj] at h1
    rw [first_err]
    obtain ⟨a', cap', rfl⟩ := h1.ents.form
    obtain ⟨b, o, a2, c2, rfl, x1, _, _⟩ := h1.ents.at 0 (by simp)
    exact ⟨b, o, cap', a2, c2, rfl, by simpa using x1, hB1.out.trans ((one_box.trans (h2.mono (by simp))).mono hB1.out.size)⟩
  have q2 : Hid (∀ W, Below w.heap.size w W → Calls Tryd.prog 16 #[.agg #[.int .i64 4, .int .i64 0, .int .i64 0, .int .i64 0, .int .i64 0, .int .i64 0, .string ⟨#[]⟩, .slice none 0 0], .slice none 0 0] W fun e w' => ∃ a' cap', e = .returned (.slice a' 0 cap') ∧ Below W.heap.size W w') := fun W hW => by
    refine (lnFilter 0 (fun _ => True) ⟨4, 0, 0, 0, nul, []⟩ (.slice none 0 0) (.slice none 0 0) [] W (by simp) (fun e he => by cases he) (PdL.nil _ _ _ _ _) (EntsIs.nil _ _ _)).mono ?_
    rintro e w' ⟨v, rfl, h1, h2⟩
    obtain ⟨a', cap', rfl⟩ := h1.ents.form
    exact ⟨a', cap', rfl, h2⟩
  rw [hW1] at q1
  clear hE hB1 hW1 hA hO hI hs
  go_enter Tryd.func7, Tryd.ntmps7
  go_wp2_with fail
  refine q1.out.mono ?_
  rintro e w2 ⟨b, o, cap', ac, cc, rfl, x2, hb2⟩
  have B2 : Hid (Below w.heap.size w w2) := hb2
  have q3 := q2.out w2 hb2
  have X2 : Hid (∀ w3, Below w2.heap.size w2 w3 → w3.cell? ⟨b, o, none⟩ = some (.slice ac 2 cc)) := fun w3 h3 => cell_on x2 h3
  clear q1 q2 hb2 x2
  go_wp2_with fail
  refine q3.mono ?_
  rintro e w3 ⟨a3, cap3, rfl, hb3⟩
  have x3 := X2.out w3 hb3
  have B3 : Hid (Below w.heap.size w w3) := B2.out.trans (hb3.mono B2.out.size)
  clear q3 hb3 X2
  go_wp2_with fail
  go_ret
  exact ⟨rfl, B3.out⟩
end Go.Proofs.YtaccinophamgmaaDoor
