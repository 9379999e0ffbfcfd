/- What pred.Check answers of predicates of whatever depth. -/
import Derived.Test.YtiphnbpkliglcaaDoorPdFit
import Derived.Test.YtiphnbpkliglcaaDoorErrs
namespace Go.Proofs.YtiphnbpkliglcaaDoor
open Go.RowKit Go.Sort
set_option maxRecDepth 100000
set_option linter.unusedVariables false

def askOk (ks : List Int) (p : Pd) : Bool := (askP p).all fun c => decide (0 ≤ c) && decide (c < (ks.length : Int))
def frstE : List (Option (Fin 11)) → Option (Fin 11)
  | [] => none
  | none :: l => frstE l
  | some e :: _ => some e
/-- What is wrong with a predicate, if anything. -/
def chP (ks : List Int) : Pd → Option (Fin 11)
  | ⟨k, c, o, d, v, l⟩ =>
    if askOk ks ⟨k, c, o, d, v, l⟩ = false then some 5
    else if fitP ks ⟨k, c, o, d, v, l⟩ = false then some 1
    else frstE (if k = 4 ∨ k = 5 then l.map fun q => chP ks q else if k = 6 then (l.map fun q => chP ks q).take 1 else [])
theorem chP_eq (ks : List Int) (p : Pd) : chP ks p = if askOk ks p = false then some 5 else if fitP ks p = false then some 1 else frstE ((ptsP p).map fun q => chP ks q) := by
  obtain ⟨k, c, o, d, v, l⟩ := p
  rw [chP]
  unfold ptsP
  by_cases h4 : k = 4 ∨ k = 5
  · simp only [h4, if_true]
  · by_cases h6 : k = 6
    · simp only [h6, if_true]
      simp [List.map_take]
    · simp [h4, h6]
theorem frst_none {l : List (Option (Fin 11))} (h : ∀ x ∈ l, x = none) : frstE l = none := by
  induction l with
  | nil => rfl
  | cons x l ih =>
    obtain rfl := h x (by simp)
    exact ih fun y hy => h y (by simp [hy])
theorem frst_some : ∀ {l : List (Option (Fin 11))} {j : Nat} {e : Fin 11} (hj : j < l.length), (∀ i (h : i < l.length), i < j → l[i] = none) → l[j] = some e → frstE l = some e
  | x :: l, 0, e, _, _, he => by
    obtain rfl : x = some e := he
    rfl
  | x :: l, j + 1, e, hj, hn, he => by
    obtain rfl : x = none := hn 0 (by simp) (by omega)
    exact frst_some (l := l) (j := j) (by simpa using hj) (fun i h hi => by have := hn (i + 1) (by simp; omega) (by omega); simpa using this) (by simpa using he)
/-- Of predicates no deeper than n it tells what is wrong with them. -/
def CheckAt (ad : Fin 11 → Addr) (ks : List Int) (n : Nat) : Prop := ∀ (F : Nat → Prop) (p : Pd) (s cv : Value) (w : World), PdL F n w s p.l → IntsIs w cv ks → ErrsAt ad w → Calls Tryd.prog 6 #[pv p s, cv] w fun e w' => e = .returned (errC ad (chP ks p)) ∧ Below w.heap.size w w'
theorem ask_bad {ks : List Int} {p : Pd} {j : Nat} (hj : j < (askP p).length) (h : ¬ (0 ≤ (askP p)[j] ∧ (askP p)[j] < (ks.length : Int))) : askOk ks p = false := by
  unfold askOk
  rw [List.all_eq_false]
  refine ⟨_, List.getElem_mem hj, ?_⟩
  simp only [Bool.and_eq_true, decide_eq_true_eq]
  exact h
theorem ask_good {ks : List Int} {p : Pd} (h : ∀ j (hj : j < (askP p).length), 0 ≤ (askP p)[j] ∧ (askP p)[j] < (ks.length : Int)) : askOk ks p = true := by
  unfold askOk
  rw [List.all_eq_true]
  intro c hc
  obtain ⟨j, hj, rfl⟩ := List.getElem_of_mem hc
  simp only [Bool.and_eq_true, decide_eq_true_eq]
  exact h j hj
theorem askP_len (p : Pd) : (askP p).length ≤ 2 := by
  unfold askP
  split
  · simp
  · split <;> simp
/-- The very world. -/
def SameW (w w' : World) : Prop := w' = w
set_option maxHeartbeats 4000000 in
theorem checkStep (ad : Fin 11 → Addr) (ks : List Int) (n : Nat) (ih : ∀ m, n = m + 1 → CheckAt ad ks m) : CheckAt ad ks n := by
  intro F p s cv w hp hi he
  obtain ⟨k, c, o, d, ⟨vk, vn, vs⟩, l⟩ := p
  have HE0 : Hid (chP ks ⟨k, c, o, d, (vk, vn, vs), l⟩ = if askOk ks ⟨k, c, o, d, (vk, vn, vs), l⟩ = false then some 5 else if fitP ks ⟨k, c, o, d, (vk, vn, vs), l⟩ = false then some 1 else frstE ((ptsP ⟨k, c, o, d, (vk, vn, vs), l⟩).map fun q => chP ks q)) := chP_eq ks _
  have HL : Hid (PdL F n w s l) := hp
  have HI : Hid (IntsIs w cv ks) := hi
  have HE : Hid (ErrsAt ad w) := he
  have IH : Hid (∀ m, n = m + 1 → CheckAt ad ks m) := ih
  have HB1 : Hid (∀ {j : Nat} (hj : j < (askP ⟨k, c, o, d, (vk, vn, vs), l⟩).length), ¬ (0 ≤ (askP ⟨k, c, o, d, (vk, vn, vs), l⟩)[j] ∧ (askP ⟨k, c, o, d, (vk, vn, vs), l⟩)[j] < (ks.length : Int)) → askOk ks ⟨k, c, o, d, (vk, vn, vs), l⟩ = false) := fun hj h => ask_bad hj h
  have HG1 : Hid ((∀ j (hj : j < (askP ⟨k, c, o, d, (vk, vn, vs), l⟩).length), 0 ≤ (askP ⟨k, c, o, d, (vk, vn, vs), l⟩)[j] ∧ (askP ⟨k, c, o, d, (vk, vn, vs), l⟩)[j] < (ks.length : Int)) → askOk ks ⟨k, c, o, d, (vk, vn, vs), l⟩ = true) := fun h => ask_good h
  obtain ⟨a1, cap1, hs⟩ := hp.form
  obtain ⟨a2, cap2, hcv⟩ := hi.form
  have lks := hi.le
  unfold maxLen at lks
  have HF : Hid (∀ W, Below w.heap.size w W → (∀ c' ∈ askP ⟨k, c, o, d, (vk, vn, vs), l⟩, 0 ≤ c' ∧ c' < (ks.length : Int)) → Calls Tryd.prog 14 #[.agg #[.int .i64 k, .int .i64 c, .int .i64 o, .int .i64 d, .int .i64 vk, .int .i64 vn, .string vs, s], cv] W fun e w' => e = .returned (.bool (fitP ks ⟨k, c, o, d, (vk, vn, vs), l⟩)) ∧ Below W.heap.size W w') := fun W hW ha => predFits ks cv ⟨k, c, o, d, (vk, vn, vs), l⟩ s W (hi.on hW) hp.le ⟨a1, cap1, hs⟩ ha
  have HP : Hid (∀ W, Below w.heap.size w W → Calls Tryd.prog 15 #[.agg #[.int .i64 k, .int .i64 c, .int .i64 o, .int .i64 d, .int .i64 vk, .int .i64 vn, .string vs, s]] W fun e w' => ∃ v, e = .returned v ∧ PdL F n w' v (ptsP ⟨k, c, o, d, (vk, vn, vs), l⟩) ∧ Below W.heap.size W w') := fun W hW => predParts F n k c o d vk vn vs l s W (hp.on hW)
  have qa := predAsked k c o d vk vn vs l s (w.alloc (.cells #[.int .i64 k, .int .i64 c, .int .i64 o, .int .i64 d, .int .i64 vk, .int .i64 vn, .string vs, s] 28))
  have BX : Hid (PdBox w.heap.size ⟨k, c, o, d, (vk, vn, vs), l⟩ s (w.alloc (.cells #[.int .i64 k, .int .i64 c, .int .i64 o, .int .i64 d, .int .i64 vk, .int .i64 vn, .string vs, s] 28))) := PdBox.new w ⟨k, c, o, d, (vk, vn, vs), l⟩ s
  have lA := askP_len ⟨k, c, o, d, (vk, vn, vs), l⟩
  generalize chP ks ⟨k, c, o, d, (vk, vn, vs), l⟩ = R at *
  generalize askP ⟨k, c, o, d, (vk, vn, vs), l⟩ = A at *
  generalize askOk ks ⟨k, c, o, d, (vk, vn, vs), l⟩ = ak at *
  generalize fitP ks ⟨k, c, o, d, (vk, vn, vs), l⟩ = fk at *
  generalize ptsP ⟨k, c, o, d, (vk, vn, vs), l⟩ = L at *
  unfold pv
  simp only
  clear hp hi he ih
  subst hs hcv
  go_enter Tryd.func6, Tryd.ntmps6
  go_wp2_with fail
  refine qa.mono ?_
  rintro e w2 ⟨va, rfl, hA, hb2⟩
  have B2 : Hid (Below w.heap.size w w2) := one_box.trans (hb2.mono (by simp))
  have BX2 : Hid (PdBox w.heap.size ⟨k, c, o, d, (vk, vn, vs), l⟩ (.slice a1 l.length cap1) w2) := BX.out.on hb2
  obtain ⟨ga, gc, hva, hgc⟩ : ∃ ga gc, va = .slice ga A.length gc ∧ ∀ j (hj : j < A.length), ∃ g, ga = some ⟨g, 0, none⟩ ∧ w2.cell? ⟨g, 0 + j, none⟩ = some (.int .i64 A[j]) := by
    rcases hA with ⟨h1, h2⟩ | ⟨g, h1, h2, h3⟩
    · exact ⟨none, 0, by rw [h2, h1]; rfl, fun j hj => by rw [h1] at hj; simp at hj⟩
    · refine ⟨_, _, h1, fun j hj => ⟨g, rfl, ?_⟩⟩
      have := h3 j (.int .i64 A[j]) (by simp [iv, hj])
      rw [add_plain] at this
      exact this
  have HGC : Hid (∀ j (hj : j < A.length), ∃ g, ga = some ⟨g, 0, none⟩ ∧ w2.cell? ⟨g, 0 + j, none⟩ = some (.int .i64 A[j])) := hgc
  subst hva
  clear qa hA hb2 hgc BX
  go_wp2_with fail
  go_loopw [13] (fun i wr => ∃ j : Nat, j ≤ A.length ∧ i = .int .i64 j ∧ Hid (SameW w2 wr ∧ ∀ i (h : i < A.length), i < j → 0 ≤ A[i] ∧ A[i] < (ks.length : Int))) (fun i _ => A.length - (intOf i).toNat)
  case atStart => exact ⟨0, by omega, rfl, rfl, fun _ _ h => by omega⟩
  case round =>
    obtain ⟨j, hj, rfl, hT⟩ := hrel
    have hw : wr = w2 := hT.out.1
    subst hw
    by_cases hlt : j < A.length
    · obtain ⟨g, hg, hx⟩ := HGC.out j hlt
      rw [Nat.zero_add] at hx
      have I1 : (j : Int) < (A.length : Int) := by omega
      have HBd : Hid (¬ (0 ≤ A[j] ∧ A[j] < (ks.length : Int)) → ak = false) := fun h => HB1.out hlt h
      have HNx : Hid (0 ≤ A[j] ∧ A[j] < (ks.length : Int) → ∀ i (h : i < A.length), i < j + 1 → 0 ≤ A[i] ∧ A[i] < (ks.length : Int)) := fun h i hi h1 => by
        by_cases e : i = j
        · subst e; exact h
        · exact hT.out.2 i hi (by omega)
      have HC5 : Hid (wr.cell? ⟨0, 0, none⟩ = some (.iface 127 (.pointer (some (ad 5))))) := by
        obtain ⟨_, _, c0, c1, c2, c3, c4, c5, _⟩ := HE.out.on B2.out
        exact c5
      have HR5 : Hid (ak = false → R = some 5) := fun h => by rw [HE0.out, if_pos h]
      subst hg
      clear hT
      generalize A[j] = x at *
      by_cases x0 : x < 0
      · have r5 := HR5.out (HBd.out (by omega))
        subst r5
        have c5 := HC5.out
        clear HBd HNx HR5 HC5
        go_wp2_with fail
        go_ret
        exact ⟨rfl, B2.out⟩
      · by_cases x1 : x < (ks.length : Int)
        · have hnx := HNx.out ⟨by omega, x1⟩
          have HN : Hid (∀ i (h : i < A.length), i < j + 1 → 0 ≤ A[i] ∧ A[i] < (ks.length : Int)) := hnx
          have x2 : ¬ (ks.length : Int) ≤ x := by omega
          clear HBd HNx HR5 HC5 hnx
          go_wp2_with fail
          go_roundw
          case rel => exact ⟨j + 1, by omega, by go_num, rfl, HN.out⟩
          case measure => simp [intOf]; omega
        · have r5 := HR5.out (HBd.out (by omega))
          subst r5
          have x2 : (ks.length : Int) ≤ x := by omega
          have c5 := HC5.out
          clear HBd HNx HR5 HC5
          go_wp2_with fail
          go_ret
          exact ⟨rfl, B2.out⟩
    · obtain rfl : j = A.length := by omega
      have I1 : ¬ (A.length : Int) < (A.length : Int) := by omega
      have hak := HG1.out (fun i hi => hT.out.2 i hi hi)
      have HAll : Hid (∀ c' ∈ A, 0 ≤ c' ∧ c' < (ks.length : Int)) := fun c' hc' => by
        obtain ⟨i, hi, rfl⟩ := List.getElem_of_mem hc'
        exact hT.out.2 i hi hi
      have HR1 : Hid (R = if fk = false then some 1 else frstE (L.map fun q => chP ks q)) := by
        show _ = _
        rw [HE0.out, if_neg (by rw [hak]; decide)]
      have HC1 : Hid (∀ W, Below w.heap.size w W → W.cell? ⟨1, 0, none⟩ = some (.iface 127 (.pointer (some (ad 1))))) := fun W hW => by
        obtain ⟨_, _, c0, c1, _⟩ := HE.out.on hW
        exact c1
      clear hT hak HG1 HB1 HE0 HGC
      obtain ⟨⟨x0, x1, x2, x3, x4, x5, x6, x7⟩, _, _⟩ := BX2.out
      simp only [Nat.zero_add] at x1 x2 x3 x4 x5 x6 x7
      go_wp2_with fail
      refine (HF.out _ B2.out HAll.out).mono ?_
      rintro e w3 ⟨rfl, hb3⟩
      have B3 : Hid (Below w.heap.size w w3) := B2.out.trans (hb3.mono B2.out.size)
      have BX3 : Hid (PdBox w.heap.size ⟨k, c, o, d, (vk, vn, vs), l⟩ (.slice a1 l.length cap1) w3) := BX2.out.on hb3
      clear hb3 x0 x1 x2 x3 x4 x5 x6 x7 HF HAll
      cases fk
      · have r1 : R = some 1 := by rw [HR1.out]; rfl
        subst r1
        have c1 := HC1.out _ B3.out
        clear HC1 HR1
        go_wp2_with fail
        go_ret
        exact ⟨rfl, B3.out⟩
      · have HR2 : Hid (R = frstE (L.map fun q => chP ks q)) := by show _ = _; rw [HR1.out, if_neg (by decide)]
        obtain ⟨⟨x0, x1, x2, x3, x4, x5, x6, x7⟩, _, _⟩ := BX3.out
        simp only [Nat.zero_add] at x1 x2 x3 x4 x5 x6 x7
        clear HC1 HR1
        go_wp2_with fail
        refine (HP.out _ B3.out).mono ?_
        rintro e w4 ⟨vp, rfl, hP, hb4⟩
        have B4 : Hid (Below w.heap.size w w4) := B3.out.trans (hb4.mono B3.out.size)
        have P4 : Hid (PdL F n w4 vp L) := hP
        obtain ⟨ap, cp, hvp⟩ := hP.form
        have lP := hP.le
        unfold maxLen at lP
        subst hvp
        clear hb4 hP x0 x1 x2 x3 x4 x5 x6 x7 HP
        go_wp2_with fail
        go_loopw [35] (fun i wr => ∃ j : Nat, j ≤ L.length ∧ i = .int .i64 j ∧ Hid (Below w4.heap.size w4 wr ∧ ∀ i (h : i < L.length), i < j → chP ks L[i] = none)) (fun i _ => L.length - (intOf i).toNat)
        case atStart => exact ⟨0, by omega, rfl, Below.refl _ _, fun _ _ h => by omega⟩
        case round =>
          obtain ⟨j, hj, rfl, hT⟩ := hrel
          by_cases hlt : j < L.length
          · obtain ⟨m, b, o', s', hm, hab, ⟨x0, x1, x2, x3, x4, x5, x6, x7⟩, hq, hbs⟩ := (P4.out.on hT.out.1).at j hlt
            obtain ⟨as1, cs1, hs1⟩ := hq.form
            have I1 : (j : Int) < (L.length : Int) := by omega
            have BR : Hid (Below w.heap.size w wr) := B4.out.trans (hT.out.1.mono B4.out.size)
            have HQ : Hid (∀ W, Below wr.heap.size wr W → Calls Tryd.prog 6 #[.agg #[.int .i64 L[j].k, .int .i64 L[j].c, .int .i64 L[j].o, .int .i64 L[j].d, .int .i64 L[j].v.1, .int .i64 L[j].v.2.1, .string L[j].v.2.2, s'], .slice a2 ks.length cap2] W fun e w' => e = .returned (errC ad (chP ks L[j])) ∧ Below W.heap.size W w') := fun W hW => IH.out m hm F L[j] s' _ W (hq.on hW) ((HI.out.on BR.out).on hW) ((HE.out.on BR.out).on hW)
            have HNx : Hid (chP ks L[j] = none → ∀ i (h : i < L.length), i < j + 1 → chP ks L[i] = none) := fun h i hi h1 => by
              by_cases e : i = j
              · subst e; exact h
              · exact hT.out.2 i hi (by omega)
            have HSm : Hid (∀ e, chP ks L[j] = some e → R = some e) := fun e h => by
              rw [HR2.out]
              exact frst_some (j := j) (by simpa using hlt) (fun i hi h1 => by rw [List.getElem_map]; exact hT.out.2 i (by simpa using hi) h1) (by rw [List.getElem_map]; exact h)
            have HT1 : Hid (Below w4.heap.size w4 wr) := hT.out.1
            subst hab hs1
            clear hT hq hm hbs
            generalize chP ks L[j] = r at *
            generalize L[j] = q at *
            go_wp2_with fail
            refine (HQ.out _ one_box).mono ?_
            rintro e w5 ⟨rfl, hb5⟩
            have T5 : Hid (Below w4.heap.size w4 w5 ∧ Below w.heap.size w w5) := by
              have h1 := one_box.trans (hb5.mono (by simp))
              exact ⟨HT1.out.trans (h1.mono HT1.out.size), BR.out.trans (h1.mono BR.out.size)⟩
            clear HQ hb5 x0 x1 x2 x3 x4 x5 x6 x7
            cases r with
            | none =>
              have HN : Hid (∀ i (h : i < L.length), i < j + 1 → chP ks L[i] = none) := HNx.out rfl
              clear HNx HSm
              unfold errC
              go_wp2_with fail
              go_roundw
              case rel => exact ⟨j + 1, by omega, by go_num, T5.out.1, HN.out⟩
              case measure => simp [intOf]; omega
            | some e =>
              have r2 := HSm.out e rfl
              subst r2
              clear HNx HSm
              unfold errC errV
              go_wp2_with fail
              go_ret
              exact ⟨rfl, T5.out.2⟩
          · obtain rfl : j = L.length := by omega
            have I1 : ¬ (L.length : Int) < (L.length : Int) := by omega
            have r0 : R = none := by
              rw [HR2.out]
              exact frst_none fun x hx => by
                obtain ⟨q, hq, rfl⟩ := List.mem_map.1 hx
                obtain ⟨i, hi, rfl⟩ := List.getElem_of_mem hq
                exact hT.out.2 i hi hi
            subst r0
            have T5 : Hid (Below w.heap.size w wr) := B4.out.trans (hT.out.1.mono B4.out.size)
            clear hT HR2
            go_wp2_with fail
            go_ret
            exact ⟨rfl, T5.out⟩
theorem predCheck (ad : Fin 11 → Addr) (ks : List Int) : ∀ n, CheckAt ad ks n := by
  intro n
  induction n with
  | zero => exact checkStep ad ks 0 (fun m h => by omega)
  | succ n ih => exact checkStep ad ks (n + 1) (fun m h => (show n = m by omega) ▸ ih)
end Go.Proofs.YtiphnbpkliglcaaDoor
