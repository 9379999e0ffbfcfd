/- Texts of one claim, one behind the other. -/
import Derived.Test.YtglbipnppldkmaaGreatDoorPackQueueB
import Derived.Test.YtglbipnppldkmaaGreatDoorZMkB
/- What a queue's take answers: the next row out of all z-sets. -/
namespace Go.Proofs.YtglbipnppldkmaaGreatDoor
open Go.RowKit Go.Sort
set_option maxRecDepth 100000
theorem OverAt.sees {a : Addr} {R w : World} (h : OverAt a R) (hs : Sees R w) : OverAt a w := hs.2 _ _ h
/-- The entries that have been found. -/
def FoundTo (base : Nat) (w0 : World) (us : List VEnt) (F : List Ent) (v : Value) (w : World) : Prop := w.ownsRow base 37 2 v us.length (es us) ∧ Reads w0 us F
/-- How far take has come. -/
def TakeTo (w0 : World) (hb : Nat) (tH : Hd) (ab cap : Nat) (X : List QEnt) (w : World) (v : Value) (us : List VEnt) (F : List Ent) (Y : List QEnt) (wr : World) : Prop :=
  FoundTo w.heap.size w0 us F v wr ∧ Heap (kf Y) Y.length ∧ QIs w0 hb tH ab cap Y wr ∧ Off hb ab w wr ∧ (∀ s, wt s (flat Y) + wt s F = wt s (flat X)) ∧ (∀ e ∈ F, e.1 = kf X 0) ∧ EOk F ∧ (∀ e ∈ flat Y, e ∈ flat X) ∧ (flat Y).length + F.length = (flat X).length ∧ (F = [] → Y = X)
/-- Where take ends. -/
def TakeIs (w0 : World) (hb : Nat) (tH : Hd) (ab cap : Nat) (X : List QEnt) (v : Value) (w w' : World) : Prop :=
  ZHas w.heap.size (firstZ (kf X 0) (wt (kf X 0) (flat X))) v w' ∧ ∃ Y, Heap (kf Y) Y.length ∧ QIs w0 hb tH ab cap Y w' ∧ Off hb ab w w' ∧ Left (kf X 0) (flat X) (flat Y) ∧ (∀ e ∈ flat Y, e ∈ flat X)
theorem okZ_row {F : List Ent} {r : List Val} (h : ∀ e ∈ F, e.1 = r) : okZ F = inI (wt r F) := by
  cases hk : inI (wt r F) with
  | true =>
    refine (okZ_iff F).2 (fun s => ?_)
    rw [wt_all h]
    split
    · exact hk
    · rfl
  | false =>
    cases ho : okZ F with
    | false => rfl
    | true => have := (okZ_iff F).1 ho r; rw [hk] at this; cases this
theorem mkZ_row {F : List Ent} {r : List Val} (h : ∀ e ∈ F, e.1 = r) : mkZ F = firstZ r (wt r F) := by
  have ho := okZ_row h
  unfold firstZ
  by_cases hk : inI (wt r F) = true
  · rw [if_pos hk]
    refine mkZ_of (by rw [ho]; exact hk) ⟨?_, nzZ_nz⟩ (fun s => ?_)
    · unfold nzZ SortedZ; rw [List.filter_cons]; split <;> simp
    · rw [wt_nzZ, wt_one]; exact (wt_all h).symm
  · rw [if_neg hk]
    have : okZ F = false := by rw [ho]; simpa using hk
    unfold mkZ; rw [this]; rfl
theorem kf_mem {X : List QEnt} (ho : InOrder X) (hl : 0 < X.length) : ∃ e ∈ flat X, e.1 = kf X 0 := by
  cases X with
  | nil => simp at hl
  | cons x X =>
    obtain ⟨h1, _⟩ := ho x (by simp)
    obtain ⟨v, l⟩ := x
    cases l with
    | nil => exact absurd rfl h1
    | cons e l => exact ⟨e, by rw [flat_cons]; simp, rfl⟩
theorem flat_pos {X : List QEnt} (ho : InOrder X) (hl : 0 < X.length) : 0 < (flat X).length := by
  obtain ⟨e, he, _⟩ := kf_mem ho hl
  exact List.length_pos_of_mem he
theorem take_left {X Y : List QEnt} {F : List Ent} (hX : InOrder X) (hl : 0 < X.length) (hh : Heap (kf X) X.length) (hY : InOrder Y) (hg : Heap (kf Y) Y.length) (h1 : ∀ s, wt s (flat Y) + wt s F = wt s (flat X)) (h2 : ∀ e ∈ F, e.1 = kf X 0) (h3 : ∀ e ∈ flat Y, e ∈ flat X) (h4 : (flat Y).length + F.length = (flat X).length) (hF : F = [] → Y = X) (hn : Y.length = 0 ∨ kf Y 0 ≠ kf X 0) : Left (kf X 0) (flat X) (flat Y) ∧ wt (kf X 0) F = wt (kf X 0) (flat X) := by
  have hlt : ∀ e ∈ flat Y, cR (kf X 0) e.1 < 0 := fun e he => by
    rcases hn with h0 | h0
    · rw [List.eq_nil_of_length_eq_zero h0] at he; cases he
    · by_cases hy : Y.length = 0
      · rw [List.eq_nil_of_length_eq_zero hy] at he; cases he
      · refine first_lt hY hg ?_ he
        obtain ⟨f, hf, ef⟩ := kf_mem hY (by omega)
        have := first_le hX hh (h3 f hf)
        rw [ef] at this
        rcases Int.lt_or_eq_of_le this with h | h
        · exact h
        · exact absurd ((cR_zero _ _).1 h).symm h0
  have hz : wt (kf X 0) (flat Y) = 0 := wt_none (fun e he e' => by have := hlt e he; rw [e', cR_self] at this; omega)
  have hw : wt (kf X 0) F = wt (kf X 0) (flat X) := by have := h1 (kf X 0); omega
  refine ⟨⟨fun s hs => ?_, hlt, fun e he => first_le hX hh he, ?_⟩, hw⟩
  · have := h1 s
    have : wt s F = 0 := wt_none (fun e he e' => hs (by rw [← e', h2 e he]))
    omega
  · obtain ⟨f, hf, ef⟩ := kf_mem hX hl
    have : F ≠ [] := by
      rintro rfl
      have e := hF rfl
      rcases hn with h0 | h0
      · rw [e] at h0; omega
      · exact h0 (by rw [e])
    have := List.length_pos_iff.2 this
    omega
theorem TakeTo.fin {w0 : World} {hb : Nat} {tH : Hd} {ab cap : Nat} {X Y : List QEnt} {us : List VEnt} {F : List Ent} {v v' : Value} {w wr w' : World} (hX : InOrder X) (hl : 0 < X.length) (hh : Heap (kf X) X.length) (h : TakeTo w0 hb tH ab cap X w v us F Y wr) (hn : Y.length = 0 ∨ kf Y 0 ≠ kf X 0) (hz : ZHas wr.heap.size (mkZ F) v' w') (hB : Below wr.heap.size wr w') : TakeIs w0 hb tH ab cap X v' w w' := by
  obtain ⟨_, h2, h3, h4, h5, h6, _, h8, h9, h10⟩ := h
  obtain ⟨g1, g2⟩ := take_left hX hl hh h3.inOrder h2 h5 h6 h8 h9 h10 hn
  rw [mkZ_row h6, g2] at hz
  obtain ⟨us', hz⟩ := hz
  exact ⟨⟨us', hz.mono h4.size⟩, Y, h2, h3.on hB, h4.trans (Off.of_below hB), g1, h8⟩
theorem TakeTo.ents {w0 : World} {hb : Nat} {tH : Hd} {ab cap : Nat} {X Y : List QEnt} {us : List VEnt} {F : List Ent} {v : Value} {w wr : World} (h : TakeTo w0 hb tH ab cap X w v us F Y wr) : EntsIs wr v F :=
  ⟨us, EntsAt.of_own h.1.1, h.1.2.sees h.2.2.1.2.2.1⟩
theorem TakeTo.err {w0 : World} {hb : Nat} {tH : Hd} {ab cap : Nat} {X Y : List QEnt} {us : List VEnt} {F : List Ent} {v : Value} {w wr : World} (hX : InOrder X) (hl : 0 < X.length) (hh : Heap (kf X) X.length) (h : TakeTo w0 hb tH ab cap X w v us F Y wr) (hn : Y.length = 0 ∨ kf Y 0 ≠ kf X 0) : okZ F = inI (wt (kf X 0) (flat X)) := by
  obtain ⟨_, h2, h3, h4, h5, h6, _, h8, h9, h10⟩ := h
  obtain ⟨g1, g2⟩ := take_left hX hl hh h3.inOrder h2 h5 h6 h8 h9 h10 hn
  rw [okZ_row h6, g2]
theorem TakeTo.on {w0 : World} {hb : Nat} {tH : Hd} {ab cap : Nat} {X Y : List QEnt} {us : List VEnt} {F : List Ent} {v : Value} {w wr w' : World} (h : TakeTo w0 hb tH ab cap X w v us F Y wr) (hB : Below wr.heap.size wr w') : TakeTo w0 hb tH ab cap X w v us F Y w' := by
  obtain ⟨h1, h2, h3, h4, h5⟩ := h
  exact ⟨⟨own_on h1.1 hB, h1.2⟩, h2, h3.on hB, h4.trans (Off.of_below hB), h5⟩
/-- One more has been found. -/
theorem TakeTo.more {w0 : World} {hb : Nat} {tH : Hd} {ab cap : Nat} {X T : List QEnt} {vy : Value} {e : Ent} {l : List Ent} {us : List VEnt} {F : List Ent} {v v4 vr : Value} {w w2 w4 : World} (h : TakeTo w0 hb tH ab cap X w v us F ((vy, e :: l) :: T) w2) (h1 : 37 ≠ tH.t) (hsz : w0.heap.size ≤ w.heap.size) (hr : RowIs w0 vr e.1) (he : e.1 = kf X 0)
    (g1 : w4.ownsRow w.heap.size 37 2 v4 (us.length + 1) (es us ++ ec (vr, e.2))) (g2 : (w2.alloc (.cells #[vr, .int .i64 e.2] 37)).grownBy w4 v.ownBlock) :
    QIs w0 hb tH ab cap ((vy, e :: l) :: T) w4 ∧ ∀ w5, SkipIs w0 hb tH ab cap ((e :: l).drop 1) T w4 w5 → ∃ Y, TakeTo w0 hb tH ab cap X w v4 (us ++ [(vr, e.2)]) (F ++ [e]) Y w5 := by
  obtain ⟨k1, k2, k3, k4, k5, k6, k7, k8, k9, k10⟩ := h
  have hne := k3.1.ne_own k1.1 h1 (by decide)
  have hB : Below w2.heap.size w2 (w2.alloc (.cells #[vr, .int .i64 e.2] 37)) := one_box
  have hlt : ∀ k, v.ownBlock = some k → w.heap.size ≤ k := fun k e => (k1.1.lt k e).1
  have hQ : QIs w0 hb tH ab cap ((vy, e :: l) :: T) w4 := (k3.on hB).grown g2 hne.1 hne.2 (fun k e => free_le (Nat.le_trans hsz (hlt k e)))
  refine ⟨hQ, fun w5 ⟨Y, y1, y2, y3, y4, y5, y6⟩ => ⟨Y, ⟨?_, ?_⟩, y1, y2, ((k4.trans (Off.of_below hB)).grown g2 hlt).trans y3, fun s => ?_, fun f hf => ?_, fun f hf => ?_, fun f hf => ?_, ?_, fun e' => ?_⟩⟩
  · rw [List.length_append, es_snoc]; exact hQ.1.own y3 g1 h1 (by decide)
  · exact k1.2.snoc hr e.2
  · have := k5 s
    rw [flat_cons, wt_append] at this
    simp only [wt] at this
    rw [y4, wt_append, wt_append]
    simp only [List.drop_one, List.tail_cons, wt]
    omega
  · rcases List.mem_append.1 hf with hf | hf
    · exact k6 f hf
    · simp at hf; rw [hf]; exact he
  · rcases List.mem_append.1 hf with hf | hf
    · exact k7 f hf
    · simp at hf; rw [hf]; exact (k3.2.1 _ (List.mem_cons_self)).2.2.2.1 e (by simp)
  · refine k8 f ?_
    have := (y5 f).1 hf
    rw [flat_cons]
    simp only [List.drop_one, List.tail_cons, List.mem_append] at this
    rcases this with h | h
    · simp [h]
    · simp [h]
  · rw [y6]
    rw [flat_cons] at k9
    simp only [List.length_append, List.length_cons, List.drop_one, List.tail_cons, List.length_nil] at k9 ⊢
    omega
  · simp at e'
set_option maxHeartbeats 8000000 in
theorem qTake (w0 : World) (hb : Nat) (tH : Hd) (ab cap : Nat) (X : List QEnt) (a : Addr) (w : World) (h : QIs w0 hb tH ab cap X w) (h1 : 37 ≠ tH.t) (hl : 0 < X.length) (hh : Heap (kf X) X.length) (ho : OverAt a w0) (hN : (flat X).length ≤ 65536) :
    Calls Tryz.prog 89 #[.pointer (some ⟨hb, tH.o, none⟩)] w fun e w' => ∃ v, e = .returned (.tuple #[v, ovE a (inI (wt (kf X 0) (flat X)))]) ∧ TakeIs w0 hb tH ab cap X v w w' := by
  obtain ⟨i0, hi0, hz0, hz1, hz2⟩ := info_parts info_entry
  have hX := h.inOrder
  have F0 : Hid (TakeTo w0 hb tH ab cap X w (.slice none 0 0) [] [] X w) := ⟨⟨World.ownsRow_nil _ _ _ _, Reads.nil _⟩, hh, h, Off.refl _ _ _, fun s => by simp [wt], fun e he => (by cases he), fun e he => (by cases he), fun e he => he, by simp, fun _ => rfl⟩
  obtain ⟨x, T, hXe⟩ : ∃ x T, X = x :: T := by
    cases X with
    | nil => simp at hl
    | cons x T => exact ⟨x, T, rfl⟩
  have hsz : w0.heap.size ≤ w.heap.size := h.2.2.1.1
  have h' := h
  rw [hXe] at h'
  obtain ⟨b, o, c, ar, cr, ex, lx, ex1, k1, k2, k3, k4, k5, k6, k7, k8, k9, k10⟩ := h'.head0
  have c1 := h.1.cell
  have hL := h.2.2.2.2.2
  rw [List.length_map] at c1
  have hr : ex.1 = kf X 0 := by rw [hXe, ex1]; rfl
  have q1 := qFirst hb tH.o ab X.length cap (ex :: lx).length c (some ⟨b, o, none⟩) w (by omega) c1 k7
  have I0 : (0 : Int) < ((ex :: lx).length : Int) := by simp
  have k8' : w.cell? ⟨b, o, none⟩ = some (.slice ar (kf X 0).length cr) := by rw [← hr]; exact k8
  have KR : Hid (RowIs w0 (.slice ar (kf X 0).length cr) (kf X 0)) := by rw [← hr]; exact k10
  have HX : Hid (InOrder X ∧ 0 < X.length ∧ Heap (kf X) X.length) := ⟨hX, hl, hh⟩
  have HO : Hid (OverAt a w0) := ho
  clear h h' hX hh k1 k2 k3 k4 k5 k6 k7 k8 k9 k10 ho hl hr hXe ex1
  generalize (ex :: lx).length = m1 at *
  clear x T ex lx
  obtain ⟨n1, hn1⟩ : ∃ n1, n1 = (kf X 0).length := ⟨_, rfl⟩
  rw [← hn1] at k8' KR
  have HE : Hid (n1 = (kf X 0).length) := hn1
  clear hn1
  go_enter Tryz.func89, Tryz.ntmps89
  go_wp2_with fail
  refine q1.mono ?_
  rintro e w1 ⟨rfl, rfl⟩
  clear q1 c1
  go_wp2_with fail
  clear k8' I0
  go_loopw [5] (fun v wr => ∃ us F Y, TakeTo w0 hb tH ab cap X w1 v us F Y wr) (fun v _ => (flat X).length - slLen v)
  case atStart => exact ⟨_, _, _, F0.out⟩
  case round =>
    clear F0
    obtain ⟨us, F, Y, hT⟩ := hrel
    have hY := hT.2.2.1.1.cell
    have hYL := hT.2.2.1.2.2.2.2.2
    rw [List.length_map] at hY
    have qL := qEmpty hb tH.o _ _ _ wr hY
    by_cases hy : Y.length = 0
    · rw [hy] at qL
      have q3 := zMakeO F u5 a wr (HO.out.sees hT.2.2.1.2.2.1) (by have := hT.2.2.2.2.2.2.2.2.1; omega) hT.2.2.2.2.2.2.1 hT.ents
      have HF : Hid (∀ v' w', ZHas wr.heap.size (mkZ F) v' w' → Below wr.heap.size wr w' → TakeIs w0 hb tH ab cap X v' w1 w') := fun v' w' => hT.fin HX.out.1 HX.out.2.1 HX.out.2.2 (.inl hy)
      have HR : Hid (okZ F = inI (wt (kf X 0) (flat X))) := hT.err HX.out.1 HX.out.2.1 HX.out.2.2 (.inl hy)
      generalize hE : ovE a (okZ F) = er at q3
      have HE2 : Hid (er = ovE a (inI (wt (kf X 0) (flat X)))) := by show _ = _; rw [← hE, HR.out]
      clear hT hE HR hYL hy
      clear hY
      go_wp2_with fail
      refine qL.mono ?_
      rintro e w2 ⟨rfl, rfl⟩
      clear qL
      go_wp2_with fail
      refine q3.mono ?_
      rintro e w3 ⟨v3, rfl, z1, z2⟩
      have G : Hid (TakeIs w0 hb tH ab cap X v3 w1 w3) := HF.out _ _ z1 z2
      clear q3 z1 z2 HF
      go_wp2_with fail
      go_ret2
      exact ⟨v3, by rw [HE2.out]; rfl, G.out⟩
    · obtain ⟨y, T, hYe⟩ : ∃ y T, Y = y :: T := by
        cases Y with
        | nil => exact absurd rfl hy
        | cons y T => exact ⟨y, T, rfl⟩
      subst hYe
      obtain ⟨b, o, c, a2, c2, e2, l2, rfl, k1, k2, k3, k4, k5, k6, k7, k8, k9, k10⟩ := hT.2.2.1.head0
      rw [List.length_cons] at hY hYL
      have q2 := qFirst hb tH.o ab (T.length + 1) cap (e2 :: l2).length c (some ⟨b, o, none⟩) wr (by omega) hY k7
      have qL' : Hid (Calls Tryz.prog 82 #[.pointer (some ⟨hb, tH.o, none⟩)] wr fun e w' => e = .returned (.bool false) ∧ w' = wr) := qL
      have k8' := k8
      have I0 : (0 : Int) < ((e2 :: l2).length : Int) := by simp
      have q3 : Hid (Calls Tryz.prog 44 #[.slice a2 e2.1.length c2, .slice ar n1 cr] wr fun e w' => e = .returned (.int .i64 (cR e2.1 (kf X 0))) ∧ Below wr.heap.size wr w') := rowCompare e2.1 (kf X 0) _ _ wr (k10.sees hT.2.2.1.2.2.1) (KR.out.sees hT.2.2.1.2.2.1)
      have HT : Hid (TakeTo w0 hb tH ab cap X w1 u5 us F ((.slice (some ⟨b, o, none⟩) (e2 :: l2).length c, e2 :: l2) :: T) wr) := hT
      have K10 : Hid (RowIs w0 (.slice a2 e2.1.length c2) e2.1) := k10
      obtain ⟨s, hs⟩ : ∃ s, s = cR e2.1 (kf X 0) := ⟨_, rfl⟩
      have HS : Hid (s = cR e2.1 (kf X 0)) := hs
      rw [← hs] at q3
      clear hT k1 k2 k3 k4 k5 k6 k7 k8 k9 k10 hs hy
      obtain ⟨n2, hn2⟩ : ∃ n2, n2 = e2.1.length := ⟨_, rfl⟩
      rw [← hn2] at k8' q3 K10
      generalize hm2 : (e2 :: l2).length = m2 at q2 I0
      clear hn2
      clear qL hY
      go_wp2_with fail
      refine qL'.out.mono ?_
      rintro e w2 ⟨rfl, rfl⟩
      clear qL'
      go_wp2_with fail
      refine q2.mono ?_
      rintro e w3 ⟨rfl, rfl⟩
      clear q2
      go_wp2_with fail
      refine q3.out.mono ?_
      rintro e w4 ⟨rfl, hb4⟩
      have hT := HT.out.on hb4
      clear q3 HT hb4 k8' hm2
      by_cases h0 : s = 0
      · have he : e2.1 = kf X 0 := (cR_zero _ _).1 (by rw [← HS.out]; exact h0)
        obtain ⟨b', o', c', a3, c3, e3, l3, ee, j1, j2, j3, j4, j5, j6, j7, j8, j9, j10⟩ := hT.2.2.1.head0
        simp only [Prod.mk.injEq, Value.slice.injEq, Option.some.injEq, Addr.mk.injEq, and_true, List.cons.injEq] at ee
        obtain ⟨⟨⟨rfl, rfl⟩, _, rfl⟩, rfl, rfl⟩ := ee
        have hY := hT.2.2.1.1.cell
        rw [List.length_map, List.length_cons] at hY
        have qF := qFirst hb tH.o ab (T.length + 1) cap (e2 :: l2).length c (some ⟨b, o, none⟩) w4 (by omega) hY j7
        have I2 : (0 : Int) < ((e2 :: l2).length : Int) := by simp
        obtain ⟨av, cv, hv⟩ := own_form hT.1.1
        subst hv
        have hus : us.length + 1 ≤ 65536 := by
          have e1 := hT.2.2.2.2.2.2.2.2.1
          have e3 := hT.1.2.1
          rw [flat_cons] at e1
          simp only [List.length_append, List.length_cons] at e1
          omega
        have HU : Hid (us.length < (flat X).length) := by
          have e1 := hT.2.2.2.2.2.2.2.2.1
          have e3 := hT.1.2.1
          rw [flat_cons] at e1
          simp only [List.length_append, List.length_cons] at e1
          show _ < _
          omega
        have HM : Hid (∀ v4 w5, w5.ownsRow w1.heap.size 37 2 v4 (us.length + 1) (es us ++ ec (.slice a3 e2.1.length c3, e2.2)) → (w4.alloc (.cells #[.slice a3 e2.1.length c3, .int .i64 e2.2] 37)).grownBy w5 (Value.ownBlock (.slice av us.length cv)) → QIs w0 hb tH ab cap ((.slice (some ⟨b, o, none⟩) (e2 :: l2).length c, e2 :: l2) :: T) w5 ∧ (∀ w6, SkipIs w0 hb tH ab cap ((e2 :: l2).drop 1) T w5 w6 → ∃ Y, TakeTo w0 hb tH ab cap X w1 v4 (us ++ [(.slice a3 e2.1.length c3, e2.2)]) (F ++ [e2]) Y w6) ∧ Heap (kf ((.slice (some ⟨b, o, none⟩) (e2 :: l2).length c, e2 :: l2) :: T)) ((Value.slice (some ⟨b, o, none⟩) (e2 :: l2).length c, e2 :: l2) :: T).length) := fun v4 w5 g1 g2 =>
          ⟨(hT.more h1 hsz j10 he g1 g2).1, (hT.more h1 hsz j10 he g1 g2).2, hT.2.1⟩
        have HOWN : Hid (w4.ownsRow w1.heap.size 37 2 (.slice av us.length cv) us.length (es us)) := hT.1.1
        have hwz := hT.2.2.2.1.size
        clear hT j1 j2 j3 j4 j5 j6 j10
        generalize hn3 : e2.1.length = n3 at *
        generalize hk3 : e2.2 = k3 at *
        clear hY j7
        go_wp2_with fail
        refine qF.mono ?_
        rintro e w3 ⟨rfl, rfl⟩
        clear qF
        go_wp2_with (first | (at_builtin; refine wpList_append_own _ rfl _ _ 29 rfl w1.heap.size 37 i0 (.agg #[.slice none 0 0, .int .i64 0]) 2 32 Tryz.underlying29 hi0 hz0 hz1 hz2 rfl (by decide) _ us.length (es us) rfl (own_on HOWN.out one_box) ⟨w3.heap.size, 0, none⟩ 1 1 (ec (.slice a3 n3 c3, k3)) rfl rfl (cell_two_new _ _ _ _) (by simp [ec, Value.oneCell']) (by unfold maxLen; omega) (by omega) (by simp; omega) ?_; intro v5 w5 hown5 hg5 _; have R5 : Hid _ := HM.out _ _ hown5 hg5; have O5 := own_form hown5; clear hown5 hg5 HM) | fail)
        obtain ⟨a5, c5, rfl⟩ := O5
        obtain ⟨R1, R2, R3⟩ := R5.out
        have q5 := qSkip w0 hb tH ab cap _ T 1 w5 R1 R3 (by simp)
        have RR : Hid (∀ w6, SkipIs w0 hb tH ab cap ((e2 :: l2).drop 1) T w5 w6 → ∃ Y, TakeTo w0 hb tH ab cap X w1 (.slice a5 (us.length + 1) c5) (us ++ [(.slice a3 n3 c3, k3)]) (F ++ [e2]) Y w6) := R2
        clear R1 R2 R3 R5
        refine q5.mono ?_
        rintro e w6 ⟨rfl, h6⟩
        have G : Hid (∃ Y, TakeTo w0 hb tH ab cap X w1 (.slice a5 (us.length + 1) c5) (us ++ [(.slice a3 n3 c3, k3)]) (F ++ [e2]) Y w6) := RR.out w6 h6
        clear q5 RR h6 j8 j9
        go_wp2_with fail
        go_roundw
        case rel => obtain ⟨Y6, h7⟩ := G.out; exact ⟨_, _, _, h7⟩
        case measure => have := HU.out; simp only [slLen]; omega
      · have hne : ((Value.slice (some ⟨b, o, none⟩) (e2 :: l2).length c, e2 :: l2) :: T).length = 0 ∨ kf ((.slice (some ⟨b, o, none⟩) (e2 :: l2).length c, e2 :: l2) :: T) 0 ≠ kf X 0 := .inr (fun e => h0 (by rw [HS.out, show e2.1 = kf X 0 from e, cR_self]))
        have b0 : (s == 0) = false := by simpa using h0
        have q3 := zMakeO F u5 a w4 (HO.out.sees hT.2.2.1.2.2.1) (by have := hT.2.2.2.2.2.2.2.2.1; omega) hT.2.2.2.2.2.2.1 hT.ents
        have HF : Hid (∀ v' w', ZHas w4.heap.size (mkZ F) v' w' → Below w4.heap.size w4 w' → TakeIs w0 hb tH ab cap X v' w1 w') := fun v' w' => hT.fin HX.out.1 HX.out.2.1 HX.out.2.2 hne
        have HR : Hid (okZ F = inI (wt (kf X 0) (flat X))) := hT.err HX.out.1 HX.out.2.1 HX.out.2.2 hne
        generalize hE : ovE a (okZ F) = er at q3
        have HE2 : Hid (er = ovE a (inI (wt (kf X 0) (flat X)))) := by show _ = _; rw [← hE, HR.out]
        clear hT hE HR hYL hne
        go_wp2_with fail
        refine q3.mono ?_
        rintro e w5 ⟨v3, rfl, z1, z2⟩
        have G : Hid (TakeIs w0 hb tH ab cap X v3 w1 w5) := HF.out _ _ z1 z2
        clear q3 z1 z2 HF
        go_wp2_with fail
        go_ret2
        exact ⟨v3, by rw [HE2.out]; rfl, G.out⟩
end Go.Proofs.YtglbipnppldkmaaGreatDoor
/- What merge.All and merge.Two answer. -/
namespace Go.Proofs.YtglbipnppldkmaaGreatDoor
open Go.RowKit Go.Sort
set_option maxRecDepth 100000
/-- How many entries a queue in memory still has. -/
def qLeft (w : World) : Value → Nat
  | .pointer (some a) => match w.cell? a with
    | some (.slice (some b) n _) => ((List.range n).map fun i => slLen ((w.cell? ⟨b.block, i, none⟩).getD undef)).sum
    | _ => 0
  | _ => 0
theorem flat_sum : ∀ X : List QEnt, (X.map fun x => x.2.length).sum = (flat X).length
  | [] => rfl
  | x :: X => by rw [List.map_cons, List.sum_cons, flat_sum X, flat_cons, List.length_append]
theorem QIs.left {w0 : World} {hb : Nat} {tH : Hd} {ab cap : Nat} {X : List QEnt} {w : World} (h : QIs w0 hb tH ab cap X w) : qLeft w (.pointer (some ⟨hb, tH.o, none⟩)) = (flat X).length := by
  have hc := h.1.cell
  rw [List.length_map] at hc
  unfold qLeft
  simp only [hc]
  rw [← flat_sum]
  congr 1
  apply List.ext_getElem
  · simp
  · intro i h1 h2
    simp at h1 h2
    have := h.1.at i (by simpa using h2)
    simp only [List.getElem_map, List.getElem_range]
    rw [this]
    simp only [List.getElem_map, Option.getD_some]
    obtain ⟨a, c, e⟩ := (h.2.1 X[i] (List.getElem_mem h2)).1.form
    rw [e]; rfl
theorem QIs.rehead {w0 : World} {hb : Nat} {tH : Hd} {ab cap : Nat} {X : List QEnt} {w : World} (h : QIs w0 hb tH ab cap X w) : QIs w0 w.heap.size qH ab cap X (w.alloc (.cells #[.slice (some ⟨ab, 0, none⟩) X.length cap] 138)) := by
  refine ⟨⟨?_, own_on h.1.2.1 one_box, by decide, by decide⟩, h.2.1, h.2.2.1.on one_box, free_le h.2.2.1.1, h.2.2.2.2.1, h.2.2.2.2.2⟩
  rw [List.length_map]; exact heap_alloc_new w _
theorem QueIs.head {X : List QEnt} {w : World} {v : Value} {w1 : World} (h : QueIs X w v w1) : ∃ Y ab cap, v = .slice (some ⟨ab, 0, none⟩) Y.length cap ∧ Y.Perm (nonE X) ∧ Heap (kf Y) Y.length ∧ QIs w w1.heap.size qH ab cap Y (w1.alloc (.cells #[.slice (some ⟨ab, 0, none⟩) Y.length cap] 138)) ∧ w.heap.size ≤ ab ∧ Below w.heap.size w w1 := by
  obtain ⟨Y, ab, cap, e, h1, h2, h3, h4, h5, h6⟩ := h
  refine ⟨Y, ab, cap, e, h1, h2, ⟨⟨?_, ?_, by decide, by decide⟩, h3, Sees.of_below (h6.trans (one_box.mono h6.size)), free_le h6.size, free_le (h5.lt ab rfl).1, h4⟩, (h5.lt ab rfl).1, h6⟩
  · rw [List.length_map]; exact heap_alloc_new w1 _
  · rw [List.length_map]; exact own_on (own_mono h5 (Nat.zero_le _)) one_box
/-- All that a call turned lies above what was. -/
def Near (w : World) (hb ab : Nat) (wr : World) : Prop := w.heap.size ≤ hb ∧ w.heap.size ≤ ab ∧ Below w.heap.size w wr
theorem Near.off {w : World} {hb ab : Nat} {wr w2 : World} (h : Near w hb ab wr) (hO : Off hb ab wr w2) : Near w hb ab w2 := ⟨h.1, h.2.1, h.2.2.trans (hO.below h.1 h.2.1 h.2.2.size)⟩
theorem Near.box {w : World} {hb ab : Nat} {w2 : World} {o : Obj} (h : Near w hb ab w2) : Near w w2.heap.size ab (w2.alloc o) := ⟨h.2.2.size, h.2.1, h.2.2.trans (one_box.mono h.2.2.size)⟩
theorem Near.grown {w : World} {hb ab : Nat} {w2 w4 : World} {g : Option Nat} (h : Near w hb ab w2) (hg : w2.grownBy w4 g) (hk : ∀ k, g = some k → w.heap.size ≤ k) : Near w hb ab w4 := ⟨h.1, h.2.1, h.2.2.grown hg h.2.2.size hk⟩
theorem que_flat {X Y : List QEnt} (h : Y.Perm (nonE X)) : (∀ r, wt r (flat Y) = wt r (flat X)) ∧ (flat Y).length = (flat X).length ∧ ∀ e, e ∈ flat Y ↔ e ∈ flat X :=
  ⟨fun r => by rw [wt_flat h, flat_nonE], by rw [flat_len h, flat_nonE], fun e => by rw [flat_perm h, flat_nonE]⟩
/-- How far All has come. -/
def AllTo (X : List QEnt) (w : World) (hb : Nat) (v : Value) (us : List VEnt) (S : List Ent) (Y : List QEnt) (ab cap : Nat) (wr : World) : Prop :=
  QIs w hb qH ab cap Y wr ∧ Heap (kf Y) Y.length ∧ ZOwn w.heap.size us S v wr ∧ SumTo (flat X) S (flat Y) ∧ us.length + (flat Y).length ≤ (flat X).length ∧ Near w hb ab wr
theorem AllTo.start {X : List QEnt} {w w1 : World} {Y : List QEnt} {ab cap : Nat} (h1 : Y.Perm (nonE X)) (h2 : Heap (kf Y) Y.length) (h3 : QIs w w1.heap.size qH ab cap Y (w1.alloc (.cells #[.slice (some ⟨ab, 0, none⟩) Y.length cap] 138))) (h4 : w.heap.size ≤ ab) (h5 : Below w.heap.size w w1) :
    AllTo X w w1.heap.size (.slice none 0 0) [] [] Y ab cap (w1.alloc (.cells #[.slice (some ⟨ab, 0, none⟩) Y.length cap] 138)) := by
  obtain ⟨f1, f2, f3⟩ := que_flat h1
  refine ⟨h3, h2, ZOwn.nil _ _, ⟨⟨List.Pairwise.nil, fun e h => by cases h⟩, fun e h => (by cases h), fun e h => (by cases h), fun s => ?_⟩, by simp; omega, h5.size, h4, h5.trans (one_box.mono h5.size)⟩
  rw [f1]; simp [wt]
theorem AllTo.fin {X : List QEnt} {w : World} {hb : Nat} {v : Value} {us : List VEnt} {S : List Ent} {ab cap : Nat} {wr : World} (h : AllTo X w hb v us S [] ab cap wr) : okZ (flat X) = true ∧ ZHas w.heap.size (mkZ (flat X)) v wr ∧ Below w.heap.size w wr := by
  obtain ⟨h1, h2, h3, h4, h5, h6⟩ := h
  obtain ⟨e1, e2⟩ := SumTo.fin h4
  exact ⟨e1, by rw [e2]; exact ⟨us, h3⟩, h6.2.2⟩
/-- Between take and append. -/
def AllMid (X : List QEnt) (w : World) (hb : Nat) (v vz : Value) (us uz : List VEnt) (S Z : List Ent) (Y : List QEnt) (ab cap n : Nat) (w2 : World) : Prop :=
  QIs w hb qH ab cap Y w2 ∧ Heap (kf Y) Y.length ∧ ZOwn w.heap.size us S v w2 ∧ ZOwn w.heap.size uz Z vz w2 ∧ SumTo (flat X) (S ++ Z) (flat Y) ∧ us.length + 1 + (flat Y).length ≤ (flat X).length ∧ (flat Y).length < n ∧ uz.length ≤ 1 ∧ Near w hb ab w2
theorem firstZ_len (r : List Val) (k : Int) : (firstZ r k).length ≤ 1 := by
  rw [firstZ_cut]; exact Nat.le_trans (List.length_filter_le _ _) (by simp)
theorem AllTo.mid {X : List QEnt} {w : World} {hb : Nat} {v vz : Value} {us : List VEnt} {S : List Ent} {Y : List QEnt} {ab cap : Nat} {wr w2 : World} (h : AllTo X w hb v us S Y ab cap wr) (hl : 0 < Y.length) (ht : TakeIs w hb qH ab cap Y vz wr w2) (hk : inI (wt (kf Y 0) (flat Y)) = true) :
    ∃ uz Y2, AllMid X w hb v vz us uz S (firstZ (kf Y 0) (wt (kf Y 0) (flat Y))) Y2 ab cap (flat Y).length w2 := by
  obtain ⟨h1, h2, h3, h4, h5, h6⟩ := h
  obtain ⟨⟨uz, t1⟩, Y2, t2, t3, t4, t5, t6⟩ := ht
  have hm := kf_mem h1.inOrder hl
  refine ⟨uz, Y2, t3, t2, h1.1.zown t4 (by decide) (by decide) h3, t1.mono h1.2.2.1.1, h4.step hm t5 (fun e he => ⟨e, t6 e he, rfl⟩) hk, ?_, t5.2.2.2, ?_, h6.off t4⟩
  · have := t5.2.2.2; omega
  · rw [t1.2.1]; exact firstZ_len _ _
theorem AllTo.over {X : List QEnt} {w : World} {hb : Nat} {v vz : Value} {us : List VEnt} {S : List Ent} {Y : List QEnt} {ab cap : Nat} {wr w2 : World} (h : AllTo X w hb v us S Y ab cap wr) (hl : 0 < Y.length) (ht : TakeIs w hb qH ab cap Y vz wr w2) (hk : inI (wt (kf Y 0) (flat Y)) = false) :
    okZ (flat X) = false ∧ mkZ (flat X) = [] ∧ Below w.heap.size w w2 := by
  obtain ⟨h1, h2, h3, h4, h5, h6⟩ := h
  obtain ⟨_, Y2, t2, t3, t4, t5, t6⟩ := ht
  have ho := h4.over (kf_mem h1.inOrder hl) hk
  exact ⟨ho, by unfold mkZ; rw [ho]; rfl, (h6.off t4).2.2⟩
theorem OwnRows.app {base : Nat} {w : World} {us uz : List VEnt} {l m : List Ent} (h : OwnRows base w us l) (k : OwnRows base w uz m) : OwnRows base w (us ++ uz) (l ++ m) := by
  refine ⟨by simp [h.1, k.1], fun i h1 h2 => ?_⟩
  by_cases hi : i < us.length
  · have hi' : i < l.length := by rw [← h.1]; exact hi
    rw [List.getElem_append_left hi, List.getElem_append_left hi']; exact h.2 i hi hi'
  · have hi' : l.length ≤ i := by rw [← h.1]; omega
    rw [List.getElem_append_right (by omega), List.getElem_append_right hi']
    have e : i - us.length = i - l.length := by rw [h.1]
    simp only [e]
    exact k.2 _ _ _
theorem AllMid.zero {X : List QEnt} {w : World} {hb : Nat} {v vz : Value} {us uz : List VEnt} {S Z : List Ent} {Y : List QEnt} {ab cap n : Nat} {w2 : World} (h : AllMid X w hb v vz us uz S Z Y ab cap n w2) (hz : uz.length = 0) :
    (∃ a c, vz = .slice a 0 c) ∧ w2.cell? ⟨hb, 0, none⟩ = some (.slice (some ⟨ab, 0, none⟩) Y.length cap) ∧ AllTo X w w2.heap.size v us S Y ab cap (w2.alloc (.cells #[.slice (some ⟨ab, 0, none⟩) Y.length cap] 138)) ∧ (flat Y).length < n := by
  obtain ⟨h1, h2, h3, h4, h5, h6, h7, _, h9⟩ := h
  have hZ : Z = [] := List.eq_nil_of_length_eq_zero (by rw [← h4.2.1]; exact hz)
  have c := h1.1.cell
  rw [List.length_map] at c
  obtain ⟨a, c', e⟩ := own_form h4.1
  rw [hz] at e
  refine ⟨⟨a, c', e⟩, c, ⟨h1.rehead, h2, h3.on one_box, by rw [hZ, List.append_nil] at h5; exact h5, by omega, h9.box⟩, h7⟩
theorem AllMid.more {X : List QEnt} {w : World} {hb : Nat} {v vz : Value} {us uz : List VEnt} {S Z : List Ent} {Y : List QEnt} {ab cap n : Nat} {w2 : World} (h : AllMid X w hb v vz us uz S Z Y ab cap n w2) (hz : uz.length = 1) :
    (∃ g c, vz = .slice (some ⟨g, 0, none⟩) 1 c ∧ (∀ j u, (es uz)[j]? = some u → w2.cell? ((⟨g, 0, none⟩ : Addr).add j) = some u)) ∧ (es uz).length = 1 * 2 ∧ (∀ u ∈ es uz, u.oneCell' = true) ∧ w2.ownsRow w.heap.size 37 2 v us.length (es us) ∧ w.heap.size ≤ w2.heap.size ∧
      ∀ v4 w4, w4.ownsRow w.heap.size 37 2 v4 (us.length + 1) (es us ++ es uz) → w2.grownBy w4 v.ownBlock → w4.cell? ⟨hb, 0, none⟩ = some (.slice (some ⟨ab, 0, none⟩) Y.length cap) ∧ AllTo X w w4.heap.size v4 (us ++ uz) (S ++ Z) Y ab cap (w4.alloc (.cells #[.slice (some ⟨ab, 0, none⟩) Y.length cap] 138)) ∧ (flat Y).length < n := by
  obtain ⟨h1, h2, h3, h4, h5, h6, h7, _, h9⟩ := h
  refine ⟨?_, by rw [es_len, hz], h4.2.reads.one', h3.1, h1.2.2.1.1, fun v4 w4 g1 g2 => ?_⟩
  · have hv := h4.1
    rw [hz] at hv
    rcases hv.2 with ⟨_, e⟩ | ⟨g, c, cur, rfl, _⟩
    · omega
    · exact ⟨g, c, rfl, hv.cells rfl⟩
  · have hne := h1.1.ne_own h3.1 (by decide) (by decide)
    have hQ : QIs w hb qH ab cap Y w4 := h1.grown g2 hne.1 hne.2 (fun k e => free_le (h3.1.lt k e).1)
    have c := hQ.1.cell
    rw [List.length_map] at c
    refine ⟨c, ⟨hQ.rehead, h2, ZOwn.on ⟨?_, ?_⟩ one_box, h5, by rw [List.length_append, hz]; omega, (h9.grown g2 (fun k e => (h3.1.lt k e).1)).box⟩, h7⟩
    · rw [List.length_append, hz, show es (us ++ uz) = es us ++ es uz from by simp [es]]; exact g1
    · exact (h3.2.grown h3.1 g2).app (h4.2.grown h3.1 g2)
theorem errV_ne (a : Addr) : errV a = .iface 202 (.pointer (some a)) := rfl
set_option maxHeartbeats 8000000 in
theorem mgAll (X : List QEnt) (va : Value) (a : Addr) (w : World) (ho : OverAt a w) (h : LsIs w va X) (hN : (flat X).length ≤ 65536) :
    Calls Tryz.prog 61 #[va] w fun e w' => ∃ v, e = .returned (.tuple #[v, ovE a (okZ (flat X))]) ∧ ZHas w.heap.size (mkZ (flat X)) v w' ∧ Below w.heap.size w w' := by
  obtain ⟨i0, hi0, hz0, hz1, hz2⟩ := info_parts info_entry
  have q1 := mgQueueOf X va w h
  have HO : Hid (OverAt a w) := ho
  obtain ⟨a0, c0, rfl⟩ := h.form
  clear h ho
  go_enter Tryz.func61, Tryz.ntmps61
  go_wp2_with fail
  refine q1.mono ?_
  rintro e w1 ⟨v, rfl, hQ⟩
  obtain ⟨Y0, ab0, cap0, rfl, y1, y2, y3, y4, y5⟩ := hQ.head
  have G0 : Hid (AllTo X w w1.heap.size (.slice none 0 0) [] [] Y0 ab0 cap0 (w1.alloc (.cells #[.slice (some ⟨ab0, 0, none⟩) Y0.length cap0] 138))) := AllTo.start y1 y2 y3 y4 y5
  clear q1 hQ y1 y2 y3 y4 y5
  go_wp2_with fail
  go_loopw [4, 5] (fun s4 s5 wr => ∃ hb us S Y ab cap, s5 = .pointer (some ⟨hb, 0, none⟩) ∧ AllTo X w hb s4 us S Y ab cap wr) (fun _ s5 wr => qLeft wr s5)
  case atStart => exact ⟨_, _, _, _, _, _, rfl, G0.out⟩
  case round =>
    clear G0
    obtain ⟨hb, us, S, Y, ab, cap, rfl, hA⟩ := hrel
    have hY := hA.1.1.cell
    have hYL := hA.1.2.2.2.2.2
    rw [List.length_map] at hY
    have qL := qEmpty hb 0 _ _ _ wr hY
    by_cases hy : Y.length = 0
    · obtain rfl := List.eq_nil_of_length_eq_zero hy
      have qL' : Hid (Calls Tryz.prog 82 #[.pointer (some ⟨hb, 0, none⟩)] wr fun e w' => e = .returned (.bool true) ∧ w' = wr) := qL
      have F : Hid _ := hA.fin
      obtain ⟨av, cv, hv⟩ := own_form hA.2.2.1.1
      subst hv
      clear hA qL
      go_wp2_with fail
      refine qL'.out.mono ?_
      rintro e w2 ⟨rfl, rfl⟩
      clear qL'
      go_wp2_with fail
      go_ret2
      exact ⟨_, by rw [F.out.1]; rfl, F.out.2.1, F.out.2.2⟩
    · have hm : Hid (qLeft wr (.pointer (some ⟨hb, 0, none⟩)) = (flat Y).length) := hA.1.left
      have q2 : Calls Tryz.prog 89 #[.pointer (some ⟨hb, 0, none⟩)] wr _ := qTake w hb qH ab cap Y a wr hA.1 (by decide) (by omega) hA.2.1 HO.out (by have := hA.2.2.2.2.1; omega)
      have qL' : Hid (Calls Tryz.prog 82 #[.pointer (some ⟨hb, 0, none⟩)] wr fun e w' => e = .returned (.bool false) ∧ w' = wr) := by
        have e : (Y.length == 0) = false := by simpa using hy
        rw [e] at qL; exact qL
      have HA : Hid (AllTo X w hb u4 us S Y ab cap wr) := hA
      have hy' : 0 < Y.length := by omega
      have I1 : (0 : Int) < (Y.length : Int) := by omega
      obtain ⟨b, hb0⟩ : ∃ b, b = inI (wt (kf Y 0) (flat Y)) := ⟨_, rfl⟩
      have HB : Hid (b = inI (wt (kf Y 0) (flat Y))) := hb0
      rw [← hb0] at q2
      clear hA hy hb0 qL
      go_wp2_with fail
      refine qL'.out.mono ?_
      rintro e w2 ⟨rfl, rfl⟩
      clear qL'
      go_wp2_with fail
      refine q2.mono ?_
      rintro e w3 ⟨vz, rfl, hT⟩
      clear q2 hY
      cases b
      · have F : Hid _ := HA.out.over hy' hT HB.out.symm
        rw [ovE_f, errV_ne]
        clear hT HA HB
        go_wp2_with fail
        go_ret2
        exact ⟨.slice none 0 0, by rw [F.out.1]; rfl, by rw [F.out.2.1]; exact ⟨[], ZOwn.nil _ _⟩, F.out.2.2⟩
      · obtain ⟨uz, Y2, hM⟩ := HA.out.mid hy' hT HB.out.symm
        rw [ovE_t]
        have hY2 := hM.1.2.2.2.2.2
        obtain ⟨av, cv, hv⟩ := own_form hM.2.2.1.1
        subst hv
        clear hT HA HB
        by_cases hu : uz.length = 0
        · obtain ⟨⟨az, cz, rfl⟩, c3, hT, hlt⟩ := hM.zero hu
          have HOW : Hid (w3.ownsRow w.heap.size 37 2 (.slice av us.length cv) us.length (es us)) := hM.2.2.1.1
          have F : Hid (AllTo X w w3.heap.size (.slice av us.length cv) us S Y2 ab cap (w3.alloc (.cells #[.slice (some ⟨ab, 0, none⟩) Y2.length cap] 138))) := hT
          have LT : Hid ((flat Y2).length < (flat Y).length) := hlt
          clear hM hT hu hlt
          go_wp2_with (first | (at_builtin; refine wpList_append_zero rfl _ _ 29 rfl w.heap.size 37 i0 2 Tryz.underlying29 hi0 _ us.length (es us) rfl HOW.out az cz rfl ?_) | fail)
          go_roundw
          case rel => exact ⟨_, _, _, _, _, _, rfl, F.out⟩
          case measure => rw [F.out.1.left, hm.out]; exact LT.out
        · have hu1 : uz.length = 1 := by have := hM.2.2.2.2.2.2.2.1; omega
          obtain ⟨⟨gz, cz, rfl, x1⟩, x2, x3, x4, x5, x6⟩ := hM.more hu1
          have X1 : Hid (∀ j u, (es uz)[j]? = some u → w3.cell? ((⟨gz, 0, none⟩ : Addr).add j) = some u) := x1
          have X2 : Hid ((es uz).length = 1 * 2) := x2
          have X3 : Hid (∀ u ∈ es uz, u.oneCell' = true) := x3
          have X4 : Hid (w3.ownsRow w.heap.size 37 2 (.slice av us.length cv) us.length (es us)) := x4
          have X6 : Hid (∀ v4 w4, w4.ownsRow w.heap.size 37 2 v4 (us.length + 1) (es us ++ es uz) → w3.grownBy w4 (Value.ownBlock (.slice av us.length cv)) → w4.cell? ⟨hb, 0, none⟩ = some (.slice (some ⟨ab, 0, none⟩) Y2.length cap) ∧ AllTo X w w4.heap.size v4 (us ++ uz) (S ++ firstZ (kf Y 0) (wt (kf Y 0) (flat Y))) Y2 ab cap (w4.alloc (.cells #[.slice (some ⟨ab, 0, none⟩) Y2.length cap] 138)) ∧ (flat Y2).length < (flat Y).length) := x6
          have hus : us.length + 1 ≤ 65536 := by have := hM.2.2.2.2.2.1; omega
          clear hM hu hu1 x1 x2 x3 x4 x6
          go_wp2_with (first | (at_builtin; refine wpList_append_own _ rfl _ _ 29 rfl w.heap.size 37 i0 (.agg #[.slice none 0 0, .int .i64 0]) 2 32 Tryz.underlying29 hi0 hz0 hz1 hz2 rfl (by decide) _ us.length (es us) rfl X4.out ⟨gz, 0, none⟩ 1 cz (es uz) rfl X2.out X1.out X3.out (by unfold maxLen; omega) (by omega) x5 ?_; intro v5 w5 hown5 hg5 _; obtain ⟨c5, F, LT⟩ := X6.out _ _ hown5 hg5; have F5 : Hid _ := F; have LT5 : Hid _ := LT; clear hown5 hg5 X6 F LT) | fail)
          go_roundw
          case rel => exact ⟨_, _, _, _, _, _, rfl, F5.out⟩
          case measure => rw [QIs.left F5.out.1, hm.out]; exact LT5.out
end Go.Proofs.YtglbipnppldkmaaGreatDoor
