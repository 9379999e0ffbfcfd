/- The walk of the law that what comes and goes again leaves no row. -/
import Derived.Test.YtanfjnhpdchbbaaDoorPackFirst
import Derived.Test.YtanfjnhpdchbbaaDoorPackNeg
namespace Go.Proofs.YtanfjnhpdchbbaaDoor
open Go.RowKit Go.Sort
set_option maxRecDepth 100000
/-- A spine beside z-sets that are read. -/
def PG (L : List QEnt) (sb : Nat) (A : List Ent) (n m : Nat) (w0 w : World) : Prop := ∃ F Rl, Sees Rl w ∧ (∀ k, F k → Free Rl k ∧ w0.heap.size ≤ k) ∧ Below w0.heap.size w0 w ∧ SpIs F sb A n m w ∧ ∀ x ∈ L, EntsIs Rl x.1 x.2
theorem PG.on {L : List QEnt} {sb : Nat} {A : List Ent} {n m : Nat} {w0 w w' : World} (h : PG L sb A n m w0 w) (hB : Below w.heap.size w w') : PG L sb A n m w0 w' := by
  obtain ⟨F, Rl, h1, h2, h3, h4, h5⟩ := h
  exact ⟨F, Rl, h1.on hB, h2, h3.trans (hB.mono h3.size), h4.on hB, h5⟩
theorem PG.below {L : List QEnt} {sb : Nat} {A : List Ent} {n m : Nat} {w0 w : World} (h : PG L sb A n m w0 w) : Below w0.heap.size w0 w := by obtain ⟨F, Rl, h1, h2, h3, h4, h5⟩ := h; exact h3
theorem PG.ents {L : List QEnt} {sb : Nat} {A : List Ent} {n m : Nat} {w0 w : World} (h : PG L sb A n m w0 w) {x : QEnt} (hx : x ∈ L) : EntsIs w x.1 x.2 := by obtain ⟨F, Rl, h1, _, _, _, h5⟩ := h; exact (h5 x hx).sees h1
theorem PG.step {L : List QEnt} {sb : Nat} {A : List Ent} {n m : Nat} {w0 w : World} (h : PG L sb A n m w0 w) : ∃ F, SpIs F sb A n m w ∧ ∀ w' A' n' m', Chg F w w' → SpIs (Grow F w w') sb A' n' m' w' → PG L sb A' n' m' w0 w' := by
  obtain ⟨F, Rl, h1, h2, h3, h4, h5⟩ := h
  refine ⟨F, h4, fun w' A' n' m' hc hs => ⟨Grow F w w', Rl, h1.chg hc (fun k e => (h2 k e).1), fun k e => ?_, h3.trans ⟨hc.1, hc.2.1, hc.2.2.1, hc.size, fun k hk => hc.2.2.2.2 k (fun e => ?_) ?_⟩, hs, h5⟩⟩
  · rcases e with e | e
    · exact h2 k e
    · exact ⟨free_le (Nat.le_trans h1.1 e.1), Nat.le_trans h3.size e.1⟩
  · have := (h2 k e).2; omega
  · have := h3.size; omega
theorem PG.start {L : List QEnt} {w0 w : World} (hB : Below w0.heap.size w0 w) (hL : ∀ x ∈ L, EntsIs w x.1 x.2) : PG L w.heap.size [] 0 0 w0 (w.alloc (.cells #[.slice none 0 0, .pointer none] 31)) :=
  ⟨fun k => k = w.heap.size, w, Sees.of_below one_box, fun k e => by subst e; exact ⟨free_le (Nat.le_refl _), hB.size⟩, hB.trans (one_box.mono hB.size), SpIs.new w, hL⟩
theorem pgInsert (L : List QEnt) (sb : Nat) (A : List Ent) (n m : Nat) (w0 w : World) (ad : Addr) (h : PG L sb A n m w0 w) (ho : OverAt ad w0) (v : Value) (Z : List Ent) (hz : IsZ Z) (he : EOk Z) (hv : EntsIs w v Z) (hm : m + Z.length ≤ 30000) (hok : okZ (A ++ Z) = true) (A' : List Ent) (hA : mkZ (A ++ Z) = A') (n' : Nat) (hn : n' = n + if Z = [] then 0 else 1) :
    Calls Tryd.prog 11 #[.pointer (some ⟨sb, 0, none⟩), v] w fun e w' => e = .returned .nilIface ∧ PG L sb A' n' (m + Z.length) w0 w' := by
  have hB := h.below
  obtain ⟨F, h3, hst⟩ := h.step
  refine (spInsert F sb A n m Z v ad w h3 (ho.on hB) hz he hv hm).mono ?_
  rintro e w' ⟨rfl, h2, h4, h5⟩
  rw [hok] at *
  refine ⟨rfl, ?_⟩
  rw [← hA, hn]
  exact hst w' _ _ _ h2 (h4 rfl)
def PgWork (L : List QEnt) (sb : Nat) (A : List Ent) (n m : Nat) (w0 : World) (f : Int) (e : Ending) (w' : World) : Prop :=
  ∃ (k : Int) (n' m' : Nat), e = .returned (.int .i64 k) ∧ PG L sb A n' m' w0 w' ∧ n' ≤ n ∧ m' ≤ m ∧ ((m : Int) ≤ f → n' ≤ 1)
theorem pgWork (L : List QEnt) (sb : Nat) (A : List Ent) (n m : Nat) (w0 w : World) (h : PG L sb A n m w0 w) (f : Int) (hm : m ≤ 30000) (hf : -1000000 ≤ f ∧ f ≤ 1000000) :
    Calls Tryd.prog 13 #[.pointer (some ⟨sb, 0, none⟩), .int .i64 f] w fun e w' => PgWork L sb A n m w0 f e w' := by
  obtain ⟨F, h3, hst⟩ := h.step
  refine (spWork F sb A n m f w h3 hm hf).mono ?_
  rintro e w' ⟨k, rfl, n', m', g1, g2, g3, g4, g5, g6, g7, g8⟩
  exact ⟨k, n', m', rfl, hst w' _ _ _ g2 g1, g5, g6, g8⟩
theorem pgAll (L : List QEnt) (sb : Nat) (A : List Ent) (n m : Nat) (w0 w : World) (ad : Addr) (h : PG L sb A n m w0 w) (ho : OverAt ad w0) (hm : m ≤ 30000) :
    Calls Tryd.prog 14 #[.pointer (some ⟨sb, 0, none⟩)] w fun e w' => ∃ a' c', e = .returned (.slice a' A.length c') ∧ Below w.heap.size w w' := by
  have hB := h.below
  obtain ⟨F, Rl, _, _, _, ⟨st, h3, _⟩, _⟩ := h
  refine (spAllX F sb A n m st ad w h3 (ho.on hB) (by omega)).mono ?_
  rintro e w' ⟨v, rfl, h1, h2⟩
  obtain ⟨a', c', rfl⟩ := h1.ents.form
  exact ⟨a', c', rfl, h2⟩
theorem pgRows (L : List QEnt) (sb : Nat) (A : List Ent) (n m : Nat) (w0 w : World) (ad : Addr) (h : PG L sb A n m w0 w) (ho : OverAt ad w0) (hm : m ≤ 30000) :
    Calls Tryd.prog 16 #[.pointer (some ⟨sb, 0, none⟩)] w fun e w' => e = .returned (.int .i64 A.length) ∧ Below w.heap.size w w' := by
  have hB := h.below
  obtain ⟨F, Rl, _, _, _, ⟨st, h3, _⟩, _⟩ := h
  exact spRowsX F sb A n m st ad w h3 (ho.on hB) (by omega)
theorem pgBatches (L : List QEnt) (sb : Nat) (A : List Ent) (n m : Nat) (w0 w : World) (h : PG L sb A n m w0 w) :
    Calls Tryd.prog 12 #[.pointer (some ⟨sb, 0, none⟩)] w fun e w' => e = .returned (.int .i64 n) ∧ w' = w := by
  obtain ⟨F, Rl, _, _, _, ⟨st, h3, _⟩, _⟩ := h
  exact spBatchesX F sb A n m st w h3
theorem pgGet (L : List QEnt) (sb : Nat) (A : List Ent) (n m : Nat) (w0 w : World) (h : PG L sb A n m w0 w) (r : List Val) (vr : Value) (hr : RowIs w vr r) :
    Calls Tryd.prog 19 #[.pointer (some ⟨sb, 0, none⟩), vr] w fun e w' => e = .returned (.int .i64 (wt r A)) ∧ Below w.heap.size w w' := by
  obtain ⟨F, Rl, _, _, _, ⟨st, h3, _⟩, _⟩ := h
  exact spGetX F sb A n m st r vr w h3 hr
theorem neg_gone {Z : List Ent} (hz : IsZ Z) (hw : ∀ e ∈ Z, inI e.2 = true ∧ inI (-e.2) = true) : ngOk Z = true ∧ ngZ Z = Z.map ngE ∧ IsZ (Z.map ngE) ∧ okZ (Z ++ Z.map ngE) = true ∧ mkZ (Z ++ Z.map ngE) = [] := by
  have h1 : ngOk Z = true := List.all_eq_true.2 (fun e he => (hw e he).2)
  have hwt : ∀ (l : List Ent) r, wt r (l ++ l.map ngE) = 0 := fun l r => by
    rw [wt_append]
    induction l with
    | nil => rfl
    | cons e l ih => simp only [List.map_cons, wt, ngE]; split <;> omega
  have ho : okZ (Z ++ Z.map ngE) = true := (okZ_iff _).2 (fun r => by rw [hwt]; rfl)
  refine ⟨h1, by unfold ngZ; rw [h1]; rfl, ⟨?_, fun e he => ?_⟩, ho, ?_⟩
  · exact List.pairwise_map.2 hz.1
  · obtain ⟨x, hx, rfl⟩ := List.mem_map.1 he
    have := hz.2 x hx
    show -x.2 ≠ 0; omega
  · exact mkZ_of ho ⟨List.Pairwise.nil, fun e h => (by cases h)⟩ (fun r => by rw [hwt]; rfl)
set_option maxHeartbeats 4000000 in
theorem spineGone_walk (a : Option Addr) (len cap : Nat) (zs : List Int) (w : World) (he : ∃ ad, OverAt ad w) (ha : IsRow .i64 w a len cap zs) :
    Calls Tryd.prog 5 #[.slice a len cap] w fun e w' => e = .returned (.bool true) ∧ Below w.heap.size w w' := by
  obtain ⟨ad, hE⟩ := he
  have q0 := lawFirst6 ad w hE
  have HE : Hid (OverAt ad w) := hE
  have HA : Hid (IsRow .i64 w a len cap zs) := ha
  clear hE ha
  go_enter Tryd.func5, Tryd.ntmps5
  go_wp2_with fail
  refine q0.mono ?_
  rintro e w1 ⟨rfl, hb1⟩
  have B1 : Hid (Below w.heap.size w w1) := hb1
  clear q0 hb1
  by_cases hl : 120 < len
  · have I1 : (120 : Int) < (len : Int) := by omega
    go_wp2_with fail
    go_ret
    exact ⟨rfl, B1.out⟩
  · have I1 : ¬ (120 : Int) < (len : Int) := by omega
    have hS0 := SeqAt.make (HA.out.below B1.out) 27
    obtain ⟨V, hV⟩ : ∃ V, V = w1.alloc (.cells #[.slice a len cap, .int .i64 0] 27) := ⟨_, rfl⟩
    rw [← hV] at hS0
    have hVs : V.heap.size = w1.heap.size + 1 := by rw [hV]; simp
    obtain ⟨W, hW⟩ : ∃ W, W = V.alloc (.cells #[.int .i64 1, .int .i64 2] 3) := ⟨_, rfl⟩
    have hWs : W.heap.size = w1.heap.size + 2 := by rw [hW]; simp [hVs]
    have BW : Hid (Below w.heap.size w W) := by
      have h1 : Below w1.heap.size w1 V := by rw [hV]; exact one_box
      have h2 : Below V.heap.size V W := by rw [hW]; exact one_box
      exact B1.out.trans ((h1.trans (h2.mono h1.size)).mono B1.out.size)
    have hS1 : SeqAt w1.heap.size a len cap zs 0 W := hS0.on (by rw [hW]; exact one_box)
    have hC : ColsAt (w1.heap.size + 1) [1, 2] W := by rw [hW, ← hVs]; exact cols_xy V 1 2
    have q1 := makeSet w1.heap.size a len cap zs 0 (w1.heap.size + 1) 2 2 [1, 2] 10 W hS1 (by omega) (by omega) hC (by omega) (by omega) (by simp) (fun i h => by
      obtain rfl | rfl : i = 0 ∨ i = 1 := by simp at h; omega
      · simp
      · simp)
    have HW : Hid ((w1.alloc (.cells #[.slice a len cap, .int .i64 0] 27)).alloc (.cells #[.int .i64 1, .int .i64 2] 3) = W) := by show _ = _; rw [hW, hV]
    have hBs := B1.out.size
    clear hS0 hS1 hC hW hV hVs
    go_wp2_with fail
    rw [HW.out]
    refine q1.mono ?_
    rintro e w2 ⟨vz, Z, rfl, ⟨p', z1, z2, z3, z4, z5, z6, z7⟩, z8, z9⟩
    have B2 : Hid (Below w.heap.size w w2) := BW.out.trans (z7.below hBs BW.out.size)
    have hzw : ∀ e ∈ Z, -1000 ≤ e.2 ∧ e.2 ≤ 1000 := fun e he => by have := z8 e.1; rw [wt_mem z1.1 he] at this; omega
    obtain ⟨n1, n2, n3, n4, n5⟩ := neg_gone z1 (fun e he => ⟨okI (by have := hzw e he; omega), okI (by have := hzw e he; omega)⟩)
    have hEz : EOk Z := z2
    have hEm : EOk (Z.map ngE) := fun e he => by
      obtain ⟨x, hx, rfl⟩ := List.mem_map.1 he
      exact ⟨okI (by have := hzw x hx; show -100000 ≤ -x.2 ∧ -x.2 ≤ 100000; omega), (z2 x hx).2⟩
    have q2 := refNeg Z vz w2 (by omega) (fun e he => (z2 e he).1) z4.ents _ rfl
    rw [n1, n2] at q2
    have EZ : Hid (EntsIs w2 vz Z) := z4.ents
    have HZ : Hid (IsZ Z ∧ EOk Z ∧ IsZ (Z.map ngE) ∧ EOk (Z.map ngE) ∧ okZ (Z ++ Z.map ngE) = true ∧ mkZ (Z ++ Z.map ngE) = []) := ⟨z1, hEz, n3, hEm, n4, n5⟩
    obtain ⟨az, cz, ez⟩ := z4.ents.form
    have hzl : Z.length ≤ 10 := z3
    clear q1 z1 z2 z3 z4 z5 z6 z7 z8 z9 hzw n1 n2 n3 n4 n5 hEz hEm
    subst ez
    simp only [if_true] at q2
    go_wp2_with fail
    refine q2.mono ?_
    rintro e w3 ⟨vm, rfl, hm, hb3⟩
    obtain ⟨am, cm, em⟩ := hm.form
    subst em
    have B3 : Hid (Below w.heap.size w w3) := B2.out.trans (hb3.mono B2.out.size)
    have hP0 : PG [(.slice az Z.length cz, Z), (.slice am (Z.map ngE).length cm, Z.map ngE)] w3.heap.size [] 0 0 w (w3.alloc (.cells #[.slice none 0 0, .pointer none] 31)) := PG.start B3.out (fun x hx => by
      rcases List.mem_cons.1 hx with rfl | hx
      · exact EZ.out.on hb3
      · rw [List.mem_singleton.1 hx]; exact hm)
    obtain ⟨zk1, zk2⟩ := isZ_mk HZ.out.1 HZ.out.2.1
    obtain ⟨L, hL⟩ : ∃ L : List QEnt, L = [(.slice az Z.length cz, Z), (.slice am (Z.map ngE).length cm, Z.map ngE)] := ⟨_, rfl⟩
    rw [← hL] at hP0
    have hLz : (Value.slice az Z.length cz, Z) ∈ L := by rw [hL]; simp
    have hLm : (Value.slice am (Z.map ngE).length cm, Z.map ngE) ∈ L := by rw [hL]; simp
    obtain ⟨ka, hka⟩ : ∃ k : Nat, k = 0 + if Z = [] then 0 else 1 := ⟨_, rfl⟩
    obtain ⟨kb, hkb⟩ : ∃ k : Nat, k = ka + if Z.map ngE = [] then 0 else 1 := ⟨_, rfl⟩
    have q3 := pgInsert L w3.heap.size [] 0 0 w _ ad hP0 HE.out _ Z HZ.out.1 HZ.out.2.1 (hP0.ents hLz) (by omega) (by rw [List.nil_append]; exact zk1) Z (by rw [List.nil_append]; exact zk2) ka hka
    have HLm : Hid ((Value.slice am (Z.map ngE).length cm, Z.map ngE) ∈ L) := hLm
    have HLz : Hid ((Value.slice az Z.length cz, Z) ∈ L) := hLz
    have Q4 : Hid (∀ w4, PG L w3.heap.size Z ka (0 + Z.length) w w4 → Calls Tryd.prog 11 #[.pointer (some ⟨w3.heap.size, 0, none⟩), .slice am (Z.map ngE).length cm] w4 fun e w' => e = .returned .nilIface ∧ PG L w3.heap.size [] kb (0 + Z.length + (Z.map ngE).length) w w') := fun w4 h4 =>
      pgInsert L w3.heap.size Z ka (0 + Z.length) w w4 ad h4 HE.out _ (Z.map ngE) HZ.out.2.2.1 HZ.out.2.2.2.1 (h4.ents HLm.out) (by simp; omega) HZ.out.2.2.2.2.1 [] HZ.out.2.2.2.2.2 kb hkb
    have Q5 : Hid (∀ w4, PG L w3.heap.size [] kb (0 + Z.length + (Z.map ngE).length) w w4 → Calls Tryd.prog 11 #[.pointer (some ⟨w3.heap.size, 0, none⟩), .slice none 0 0] w4 fun e w' => e = .returned .nilIface ∧ PG L w3.heap.size [] kb (0 + Z.length + (Z.map ngE).length + ([] : List Ent).length) w w') := fun w4 h4 =>
      pgInsert L w3.heap.size [] kb _ w w4 ad h4 HE.out _ [] ⟨List.Pairwise.nil, fun e h => (by cases h)⟩ (fun e h => (by cases h)) (EntsIs.nil _ _ _) (by simp; omega) rfl [] rfl kb (by simp)
    have HLN : Hid ((Z.map ngE).length = Z.length) := by show _ = _; simp
    clear q2 hm hb3 hP0 zk1 zk2 hL hLz hLm hka hkb EZ
    generalize hzl' : Z.length = zl at *
    have HZL : Hid (Z.length = zl) := hzl'
    clear hzl'
    generalize (Z.map ngE).length = zm at *
    go_wp2_with fail
    refine q3.mono ?_
    rintro e w4 ⟨rfl, h4⟩
    have q4 := Q4.out w4 h4
    clear q3 Q4 h4
    go_wp2_with fail
    refine q4.mono ?_
    rintro e w5 ⟨rfl, h5⟩
    have q5 := Q5.out w5 h5
    clear q4 Q5 h5
    go_wp2_with fail
    refine q5.mono ?_
    rintro e w6 ⟨rfl, h6⟩
    have hmm : 0 + zl + zm + ([] : List Ent).length = zl + zl := by have := HLN.out; simp; omega
    rw [hmm] at h6
    have q6 := pgRows L _ [] kb (zl + zl) w w6 ad h6 HE.out (by omega)
    have H6 : Hid (PG L w3.heap.size [] kb (zl + zl) w w6) := h6
    clear q5 h6 hmm
    go_wp2_with fail
    refine q6.mono ?_
    rintro e w7 ⟨rfl, hb7⟩
    have H7 : Hid (PG L w3.heap.size [] kb (zl + zl) w w7) := H6.out.on hb7
    clear q6 H6 hb7
    go_wp2_with fail
    go_loopw [9] (fun s wr => ∃ (i n m : Nat), s = .int .i64 i ∧ i ≤ 5 ∧ m ≤ zl + zl ∧ (0 < i → n ≤ 1) ∧ Hid (PG L w3.heap.size [] n m w wr)) (fun s _ => 5 - (intOf s).toNat)
    case atStart => exact ⟨0, kb, zl + zl, rfl, by omega, by omega, by omega, H7⟩
    case round =>
      clear H7
      obtain ⟨i, n, m, rfl, hi, hm, hn, hP⟩ := hrel
      by_cases k1 : i < 5
      · have J1 : (i : Int) < 5 := by omega
        have q8 := pgWork L _ [] n m w wr hP.out (2 * (zl : Int) + 1) (by omega) (by omega)
        clear hP
        go_wp2_with fail
        refine q8.mono ?_
        rintro e w8 ⟨k, n', m', rfl, g1, g2, g3, g4⟩
        have G1 : Hid (PG L w3.heap.size [] n' m' w w8) := g1
        have g5 : n' ≤ 1 := g4 (by omega)
        clear q8 g1 g4
        go_wp2_with fail
        go_roundw
        case rel => exact ⟨i + 1, n', m', by go_num, by omega, by omega, fun _ => g5, G1⟩
        case measure => simp [intOf]; omega
      · have J1 : ¬ (i : Int) < 5 := by omega
        have hn1 : n ≤ 1 := hn (by omega)
        have hm30 : m ≤ 30000 := by omega
        have J0 : (n : Int) ≤ 1 := by omega
        clear hn hm
        go_wp2_with fail
        go_loopw [10] (fun s wr => ∃ (i : Nat), s = .int .i64 i ∧ i ≤ zl ∧ Hid (PG L w3.heap.size [] n m w wr)) (fun s _ => zl - (intOf s).toNat)
        case atStart => exact ⟨0, rfl, by omega, hP⟩
        case round =>
          clear hP
          obtain ⟨t, rfl, ht, hP⟩ := hrel
          by_cases k2 : t < zl
          · have J2 : (t : Int) < (zl : Int) := by omega
            have hz := hP.out.ents HLz.out
            simp only at hz
            obtain ⟨b, o, a1, c1, rfl, x1, x2, x3⟩ := hz.at t (by rw [HZL.out]; exact k2)
            have q9 := pgGet L _ [] n m w wr hP.out _ _ x3
            have HP : Hid (PG L w3.heap.size [] n m w wr) := hP
            clear hz x2 x3 hP
            generalize (Z[t]'(by rw [HZL.out]; exact k2)).1.length = nr at *
            go_wp2_with fail
            refine q9.mono ?_
            rintro e w9 ⟨rfl, hb9⟩
            have H9 : Hid (PG L w3.heap.size [] n m w w9) := HP.out.on hb9
            clear q9 HP hb9 x1
            go_wp2_with fail
            go_roundw
            case rel => exact ⟨t + 1, by go_num, by omega, H9⟩
            case measure => simp [intOf]; omega
          · have J2 : ¬ (t : Int) < (zl : Int) := by omega
            have qa := pgRows L _ [] n m w wr ad hP.out HE.out hm30
            go_wp2_with fail
            refine qa.mono ?_
            rintro e wa ⟨rfl, hba⟩
            have HPa : Hid (PG L w3.heap.size [] n m w wa) := hP.out.on hba
            have qb := pgAll L _ [] n m w wa ad HPa.out HE.out hm30
            clear qa hba hP
            go_wp2_with fail
            refine qb.mono ?_
            rintro e wb ⟨ab, cb, rfl, hbb⟩
            have HPb : Hid (PG L w3.heap.size [] n m w wb) := HPa.out.on hbb
            have qc := pgBatches L _ [] n m w wb HPb.out
            clear qb hbb HPa
            go_wp2_with fail
            refine qc.mono ?_
            rintro e wc ⟨rfl, rfl⟩
            have BF : Hid (Below w.heap.size w wc) := HPb.out.below
            clear qc HPb
            go_wp2_with fail
            go_ret
            exact ⟨rfl, BF.out⟩
end Go.Proofs.YtanfjnhpdchbbaaDoor
