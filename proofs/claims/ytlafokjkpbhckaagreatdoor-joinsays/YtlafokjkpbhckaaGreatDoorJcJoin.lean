/- What join's Join answers. -/
import Derived.Test.YtlafokjkpbhckaaGreatDoorJcCount
import Derived.Test.YtlafokjkpbhckaaGreatDoorPackCat
import Derived.Test.YtlafokjkpbhckaaGreatDoorPackKeys
namespace Go.Proofs.YtlafokjkpbhckaaGreatDoor
open Go.RowKit Go.Sort
set_option maxRecDepth 100000
set_option linter.unusedVariables false
/-- While Join puts rows together: what is left, what there is. -/
structure JnAt (R : World) (hb g cg base : Nat) (X : List QEnt) (w : World) (z : List Ent) (v : Value) (Y : List QEnt) (wr : World) : Prop where
  l : LIs R hb g cg Y wr
  u : Heap (kf Y) Y.length
  o : ∃ us, ZOwn base us z v wr
  b : Below w.heap.size w wr
  s : ∀ r, wt r z + wt r (flat Y) = wt r (flat X)
  i : IsZ z
  lt : ∀ f ∈ z, ∀ e ∈ flat Y, cR f.1 e.1 < 0
  n : z.length + (flat Y).length ≤ (flat X).length
  bs : base ≤ wr.heap.size
theorem JnAt.on {R : World} {hb g cg base : Nat} {X : List QEnt} {w : World} {z : List Ent} {v : Value} {Y : List QEnt} {wr w' : World} (h : JnAt R hb g cg base X w z v Y wr) (hB : Below wr.heap.size wr w') : JnAt R hb g cg base X w z v Y w' :=
  ⟨h.l.on hB, h.u, by obtain ⟨us, ho⟩ := h.o; exact ⟨us, ho.on hB⟩, h.b.trans (hB.mono h.b.size), h.s, h.i, h.lt, h.n, Nat.le_trans h.bs hB.size⟩
theorem isZ_snoc {z : List Ent} {N : List Val} {s : Int} (h : IsZ z) (hl : ∀ f ∈ z, cR f.1 N < 0) (hs : s ≠ 0) : IsZ (z ++ [(N, s)]) := by
  refine ⟨?_, fun e he => ?_⟩
  · unfold SortedZ
    rw [List.pairwise_append]
    refine ⟨h.1, List.pairwise_singleton _ _, fun f hf e he => ?_⟩
    rw [List.mem_singleton.1 he]; exact hl f hf
  · rcases List.mem_append.1 he with he | he
    · exact h.2 e he
    · rw [List.mem_singleton.1 he]; exact hs
theorem wt_snoc (r : List Val) (z : List Ent) (N : List Val) (s : Int) : wt r (z ++ [(N, s)]) = wt r z + (if N = r then s else 0) := by
  rw [wt_append]; simp [wt]
/-- What a step of it takes. -/
theorem JnAt.took {R : World} {hb g cg base : Nat} {X : List QEnt} {w : World} {z : List Ent} {v : Value} {y : QEnt} {U : List QEnt} {wr w2 : World} (h : JnAt R hb g cg base X w z v (y :: U) wr) (hk : okZ (flat X) = true) (n1 : hb < base ∧ g < base ∧ w.heap.size ≤ hb ∧ w.heap.size ≤ g)
    {Y' : List QEnt} (u1 : Heap (kf Y') Y'.length) (u2 : LIs R hb g cg Y' w2) (u3 : Off hb g wr w2) (u4 : ∀ r, r ≠ kf (y :: U) 0 → wt r (flat Y') = wt r (flat (y :: U))) (u5 : ∀ e ∈ flat Y', e ∈ flat (y :: U) ∧ cR (kf (y :: U) 0) e.1 < 0) (u6 : (flat Y').length < (flat (y :: U)).length) :
    inI (wt (kf (y :: U) 0) (flat (y :: U))) = true ∧ (wt (kf (y :: U) 0) (flat (y :: U)) = 0 → JnAt R hb g cg base X w z v Y' w2) ∧
      (wt (kf (y :: U) 0) (flat (y :: U)) ≠ 0 → ∀ v' w', (∃ us, ZOwn base us (z ++ [(kf (y :: U) 0, wt (kf (y :: U) 0) (flat (y :: U)))]) v' w') → LIs R hb g cg Y' w' → Below w.heap.size w w' → base ≤ w'.heap.size → JnAt R hb g cg base X w (z ++ [(kf (y :: U) 0, wt (kf (y :: U) 0) (flat (y :: U)))]) v' Y' w') ∧ (∃ us, ZOwn base us z v w2) ∧ Below w.heap.size w w2 ∧ z.length + 1 ≤ (flat X).length := by
  obtain ⟨e0, he0, h0⟩ := h.l.root
  obtain ⟨N, hN⟩ : ∃ N, N = kf (y :: U) 0 := ⟨_, rfl⟩
  rw [← hN] at u4 u5 h0 ⊢
  have hzN : ∀ f ∈ z, cR f.1 N < 0 := fun f hf => by rw [← h0]; exact h.lt f hf e0 he0
  have hz0 : wt N z = 0 := wt_gone (fun f hf e => by have := hzN f hf; rw [e, cR_self] at this; omega)
  have hs := h.s N
  rw [hz0, Int.zero_add] at hs
  have hw0 : wt N (flat Y') = 0 := wt_gone (fun e he h1 => by have := (u5 e he).2; rw [h1, cR_self] at this; omega)
  have hb2 : Below w.heap.size w w2 := h.b.trans (u3.below n1.2.2.1 n1.2.2.2 h.b.size)
  have ho2 : ∃ us, ZOwn base us z v w2 := by
    obtain ⟨us, ho⟩ := h.o
    exact ⟨us, u3.own_lt ho.1 n1.1 n1.2.1, ho.2.1, fun i a b => ⟨u3.own_lt (ho.2.2 i a b).1 n1.1 n1.2.1, (ho.2.2 i a b).2⟩⟩
  refine ⟨by rw [hs]; exact (okZ_iff _).1 hk N, fun hz => ⟨u2, u1, ho2, hb2, fun r => ?_, h.i, fun f hf e he => h.lt f hf e (u5 e he).1, by have := h.n; omega, Nat.le_trans h.bs u3.size⟩, fun hz v' w' o' l' b' s' => ⟨l', u1, o', b', fun r => ?_, isZ_snoc h.i hzN hz, fun f hf e he => ?_, ?_, s'⟩, ho2, hb2, by have := h.n; omega⟩
  · by_cases e : r = N
    · subst e; rw [hw0, ← h.s r, hz]
    · rw [u4 r e]; exact h.s r
  · rw [wt_snoc]
    by_cases e : N = r
    · subst e; rw [if_pos rfl, hw0, hz0, hs]; omega
    · rw [if_neg e, u4 r (fun e' => e e'.symm)]; have := h.s r; omega
  · rcases List.mem_append.1 hf with hf | hf
    · exact h.lt f hf e (u5 e he).1
    · rw [List.mem_singleton.1 hf]; exact (u5 e he).2
  · rw [List.length_append, List.length_singleton]; have := h.n; omega
theorem JnAt.fin {R : World} {hb g cg base : Nat} {X : List QEnt} {w : World} {z : List Ent} {v : Value} {wr : World} (h : JnAt R hb g cg base X w z v [] wr) (hk : okZ (flat X) = true) (hw : w.heap.size ≤ base) {L : List Ent} (hp : (flat X).Perm L) : ZHas w.heap.size (mkZ L) v wr ∧ Below w.heap.size w wr := by
  have hkL : okZ L = true := (okZ_iff _).2 fun r => by rw [← wt_perm hp]; exact (okZ_iff _).1 hk r
  have hz : mkZ L = z := mkZ_of hkL h.i (fun r => by have := h.s r; rw [← wt_perm hp, ← this]; show wt r z = wt r z + 0; omega)
  rw [hz]
  obtain ⟨us, ho⟩ := h.o
  exact ⟨⟨us, ho.mono hw⟩, h.b⟩
theorem okZ_perm {l m : List Ent} (h : l.Perm m) : okZ l = okZ m := by
  have e : okZ l = true ↔ okZ m = true := by
    rw [okZ_iff, okZ_iff]
    exact ⟨fun k r => by rw [← wt_perm h]; exact k r, fun k r => by rw [wt_perm h]; exact k r⟩
  cases h1 : okZ l <;> cases h2 : okZ m <;> simp_all
set_option maxHeartbeats 8000000 in
theorem jnJoin (on : List (Int × Int)) (a b : List Ent) (ov va vb : Value) (eO : Addr) (w : World) (hO : OverAt eO w) (hla : a.length ≤ 65536) (hlb : b.length ≤ 65536) (hN : a.length * b.length ≤ 65536) (hA : EOk a) (hB : EOk b) (za : IsZ a) (zb : IsZ b) (hon : OnOk on) (ho : PairsIs w ov on) (ha : EntsIs w va a) (hb : EntsIs w vb b) :
    Calls Tryz.prog 7 #[ov, va, vb] w fun e w' => ∃ v, e = .returned (.tuple #[v, ovE eO (okZ (jnP on a b))]) ∧ ZHas w.heap.size (mkZ (jnP on a b)) v w' ∧ Below w.heap.size w w' := by
  obtain ⟨i0, hi, hz0, hz1, hz2⟩ := info_parts info_entry
  have q1 := jcLines on a b ov va vb w hA hB zb.1 hla hlb ho ha hb
  have hJ : (jnP on a b).length ≤ 65536 := Nat.le_trans (jnP_len on b a) hN
  obtain ⟨K, hK⟩ : ∃ K, K = okZ (jnP on a b) := ⟨_, rfl⟩
  rw [← hK]
  have HK : Hid (K = okZ (jnP on a b)) := hK
  obtain ⟨ao, co, rfl⟩ := ho.form
  obtain ⟨aa, ca, rfl⟩ := ha.form
  obtain ⟨ab', cb, rfl⟩ := hb.form
  clear ho ha hb hA hB za zb hon hK hN hla hlb
  go_enter Tryz.func7, Tryz.ntmps7
  go_wp2_with fail
  refine q1.mono ?_
  rintro e w1 ⟨v, X, R, base, rfl, hL, hbase, hu, hp, hb1⟩
  obtain ⟨av, cv, rfl⟩ : ∃ av cv, v = .slice av X.length cv := own_form hL.1
  obtain ⟨W, hW⟩ : ∃ W, W = w1.alloc (.cells #[.slice av X.length cv] 51) := ⟨_, rfl⟩
  have bW : Below w1.heap.size w1 W := by rw [hW]; exact one_box
  have kW : W.heap[w1.heap.size]? = some (.cells #[.slice av X.length cv] 51 (0, 0)) := by rw [hW]; exact heap_alloc_new _ _
  have sW : W.heap.size = w1.heap.size + 1 := by rw [hW]; simp
  have hL2 := hL.on bW
  have hRs : R.heap.size ≤ w1.heap.size := hL.2.2.1.1
  have q2 := jcClone R base X (.slice av X.length cv) W hL2 (by omega)
  have HW : Hid (w1.alloc (.cells #[.slice av X.length cv] 51) = W) := hW.symm
  have B1 : Hid (Below w.heap.size w W) := hb1.trans (bW.mono hb1.size)
  have HL : Hid (LsOf R base X (.slice av X.length cv) W ∧ W.heap[w1.heap.size]? = some (.cells #[.slice av X.length cv] 51 (0, 0)) ∧ W.heap.size = w1.heap.size + 1 ∧ R.heap.size ≤ w1.heap.size ∧ w.heap.size ≤ base ∧ w.heap.size ≤ w1.heap.size ∧ Heap (kf X) X.length ∧ (flat X).Perm (jnP on a b) ∧ OverAt eO w ∧ (jnP on a b).length ≤ 65536) := ⟨hL2, kW, sW, hRs, hbase, hb1.size, hu, hp, hO, hJ⟩
  have dW : W.cell? ⟨w1.heap.size, 0, none⟩ = some (.slice av X.length cv) := by simp [World.cell?, kW]
  clear q1 hL hbase hu hp hb1 hW bW kW sW hL2 hRs hO hJ
  go_wp2_with fail
  rw [HW.out]
  go_wp2_with fail
  refine q2.mono ?_
  rintro e w2 ⟨v', rfl, hC, hb2⟩
  have b2 : Hid (Below W.heap.size W w2) := hb2
  have hKX : K = okZ (flat X) := by rw [HK.out, okZ_perm HL.out.2.2.2.2.2.2.2.1]
  have hO2 : OverAt eO w2 := (HL.out.2.2.2.2.2.2.2.2.1.on B1.out).on hb2
  have q3 := jcCount R W.heap.size W.heap.size X v' eO w2 hC HL.out.2.2.2.2.2.2.1 (by rw [HL.out.2.2.2.2.2.2.2.1.length_eq]; exact HL.out.2.2.2.2.2.2.2.2.2) (by have := hb2.size; have := HL.out.2.2.1; have := HL.out.2.2.2.1; omega) hO2 (Nat.le_refl _) hb2.size (by have := HL.out.2.2.2.2.2.2.2.2.1.lt; have := B1.out.size; omega)
  rw [← hKX] at q3
  have HKX : Hid (K = okZ (flat X)) := hKX
  have hcl := own_form hC.1
  obtain ⟨av', cv', rfl⟩ := hcl
  clear q2 hC hb2 hKX hO2 dW
  go_wp2_with fail
  refine q3.mono ?_
  rintro e w3 ⟨⟨n, hn, rfl⟩, hb3⟩
  have B3 : Hid (Below W.heap.size W w3) := b2.out.trans hb3
  clear q3 hb3 b2
  cases K
  · have hmk : mkZ (jnP on a b) = [] := by unfold mkZ; rw [← HK.out]; rfl
    have HZ : Hid (ZHas w.heap.size (mkZ (jnP on a b)) (.slice none 0 0) w3 ∧ Below w.heap.size w w3) := ⟨by rw [hmk]; exact ⟨[], ZOwn.nil _ _⟩, B1.out.trans (B3.out.mono B1.out.size)⟩
    clear B3 HL HK HKX B1 hmk
    rw [ovE_f]
    unfold errV
    go_wp2_with fail
    go_ret2
    exact ⟨_, rfl, HZ.out⟩
  · rw [ovE_t]
    have q4 := growEnts n w3 (by omega)
    clear HK
    go_wp2_with fail
    refine q4.mono ?_
    rintro e w4 ⟨vz, rfl, hz, hb4⟩
    obtain ⟨az, cz, rfl⟩ := own_form hz
    have hs3 := B3.out.size
    have b4 : Below W.heap.size W w4 := B3.out.trans (hb4.mono hs3)
    have kW4 : w4.heap[w1.heap.size]? = some (.cells #[.slice av X.length cv] 51 (0, 0)) := by
      rw [b4.block _ (by have := HL.out.2.2.1; omega)]; exact HL.out.2.1
    have hL4 := (HL.out.1.on b4)
    have hlen : (flat X).length ≤ 65536 := by rw [HL.out.2.2.2.2.2.2.2.1.length_eq]; exact HL.out.2.2.2.2.2.2.2.2.2
    have Bw4 : Below w.heap.size w w4 := B1.out.trans (b4.mono B1.out.size)
    clear q4
    rcases hL4.1.2 with ⟨ev, h0⟩ | ⟨g, cg, cur, ev, hg, _⟩
    · have hX0 : X = [] := List.eq_nil_of_length_eq_zero h0
      subst hX0
      simp only [Value.slice.injEq] at ev
      obtain ⟨rfl, h00, rfl⟩ := ev
      have hZ0 : JnAt R w1.heap.size 0 0 w3.heap.size [] w [] (.slice az 0 cz) [] w4 ∨ True := .inr trivial
      have hJ0 : jnP on a b = [] := List.perm_nil.1 HL.out.2.2.2.2.2.2.2.1.symm
      have HZ : Hid (ZHas w.heap.size (mkZ (jnP on a b)) (.slice az 0 cz) w4 ∧ Below w.heap.size w w4) := ⟨by rw [hJ0]; exact ⟨[], ⟨own_mono hz (by have := B1.out.size; omega), rfl, fun i h => by simp at h⟩⟩, Bw4⟩
      have d4 : w4.cell? ⟨w1.heap.size, 0, none⟩ = some (.slice none 0 0) := by simp [World.cell?, kW4]
      clear HL HKX B1 B3 b4 kW4 hL4 hZ0 hJ0 hz hb4 Bw4
      go_wp2_with fail
      go_loopw [11] (fun s wr => s = .slice az 0 cz ∧ wr = w4) (fun _ _ => 0)
      case atStart => exact ⟨rfl, rfl⟩
      case round =>
        obtain ⟨rfl, rfl⟩ := hrel
        go_wp2_with fail
        go_ret2
        exact ⟨_, rfl, HZ.out⟩
    · simp only [Value.slice.injEq] at ev
      obtain ⟨rfl, _, rfl⟩ := ev
      obtain ⟨hL5, _, hbg⟩ := hL4.lis kW4 HL.out.2.2.2.1
      have hgl := hL5.1.lt
      have hkX : okZ (flat X) = true := HKX.out.symm
      have hg1 : g < w1.heap.size + 1 := by
        have hx := HL.out.1.1
        have := (hx.lt g rfl).2
        have := HL.out.2.2.1
        omega
      have hs4 := hb4.size
      have F0 : Hid (JnAt R w1.heap.size g cv w3.heap.size X w [] (.slice az 0 cz) X w4) :=
        ⟨hL5, HL.out.2.2.2.2.2.2.1, ⟨[], hz, rfl, fun i h => by simp at h⟩, Bw4, fun r => by show 0 + _ = _; omega, ⟨List.Pairwise.nil, List.forall_mem_nil _⟩, List.forall_mem_nil _, by rw [List.length_nil]; omega, hs4⟩
      have HN : Hid (w1.heap.size < w3.heap.size ∧ g < w3.heap.size ∧ w.heap.size ≤ w1.heap.size ∧ w.heap.size ≤ g ∧ R.heap.size ≤ w3.heap.size ∧ w.heap.size ≤ w3.heap.size ∧ okZ (flat X) = true ∧ (flat X).length ≤ 65536 ∧ (flat X).Perm (jnP on a b)) := by
        have h1 := HL.out.2.2.1
        have h2 := HL.out.2.2.2.1
        have h3 := HL.out.2.2.2.2.1
        have h4 := HL.out.2.2.2.2.2.1
        exact ⟨by omega, by omega, h4, by omega, by omega, by omega, hkX, hlen, HL.out.2.2.2.2.2.2.2.1⟩
      clear HL HKX B1 B3 b4 kW4 hL4 hL5 hz hb4 Bw4 hlen hkX hgl hg1 hs4 hs3 hbg hg
      go_wp2_with fail
      go_loopw [11] (fun s wr => ∃ (z : List Ent) (Y : List QEnt), Hid (JnAt R w1.heap.size g cv w3.heap.size X w z s Y wr)) (fun _ wr => jLeft wr w1.heap.size)
      case atStart => exact ⟨[], X, F0.out⟩
      case round =>
        clear F0
        obtain ⟨z, Y, hS⟩ := hrel
        have hc := hS.out.l.1.cell
        rw [List.length_map] at hc
        cases Y with
        | nil =>
          have e0 : ([] : List QEnt).length = 0 := rfl
          rw [e0] at hc
          have hf := hS.out.fin HN.out.2.2.2.2.2.2.1 HN.out.2.2.2.2.2.1 HN.out.2.2.2.2.2.2.2.2
          obtain ⟨us, ho⟩ := hS.out.o
          obtain ⟨av11, cv11, rfl⟩ := own_form ho.1
          have HF : Hid _ := hf
          clear hS hf HN ho
          go_wp2_with fail
          go_ret2
          exact ⟨_, rfl, HF.out⟩
        | cons y U =>
          have hT := jcTake R w1.heap.size g cv y U wr hS.out.l hS.out.u (by have := hS.out.n; have := HN.out.2.2.2.2.2.2.2.1; omega)
          have I1 : (0 : Int) < ((y :: U).length : Int) := by simp <;> omega
          have I2 : 0 < (y :: U).length := by simp
          generalize (y :: U).length = NY at *
          go_wp2_with fail
          refine hT.mono ?_
          rintro e w5 ⟨v1, v2, f, bk, Y', rfl, ef, r1, r2, l1, l2, u1, u2, u3, u4, u5, u6, u7⟩
          obtain ⟨a1, c1, rfl⟩ := r1.form
          obtain ⟨a2, c2, rfl⟩ := r2.form
          obtain ⟨t1, t2, t3, ⟨us, t4⟩, t5, t6⟩ := hS.out.took HN.out.2.2.2.2.2.2.1 ⟨HN.out.1, HN.out.2.1, HN.out.2.2.1, HN.out.2.2.2.1⟩ u1 u2 u3 u4 u5 u6
          obtain ⟨N, hN⟩ : ∃ N, N = kf (y :: U) 0 := ⟨_, rfl⟩
          obtain ⟨s, hs⟩ : ∃ s, s = wt N (flat (y :: U)) := ⟨_, rfl⟩
          rw [← hN, ← hs] at t1 t2 t3 u7 ⊢
          have hW : Hid (∀ V, Calls Tryz.prog 21 #[wV s] V fun e w' => e = .returned (.tuple #[.int .i64 s, .bool true]) ∧ Below V.heap.size V w') := fun V =>
            jtWeight s u7 s true (fun h => ⟨rfl, rfl⟩) (fun h => absurd (inI_iff.1 t1) h) V
          have HR : Hid (RowIs R (.slice a1 f.length c1) f ∧ RowIs R (.slice a2 bk.length c2) bk ∧ f.length ≤ 65536 ∧ bk.length ≤ 65536 ∧ f ++ bk = N) := ⟨r1, r2, l1, l2, by rw [ef, hN]⟩
          have HT : Hid (s = 0 → ∀ w8, Below w5.heap.size w5 w8 → JnAt R w1.heap.size g cv w3.heap.size X w z u11 Y' w8 ∧ jLeft w8 w1.heap.size < jLeft wr w1.heap.size) := fun h w8 h8 => by
            have j8 := (t2 h).on h8
            exact ⟨j8, by rw [j8.l.left, hS.out.l.left]; exact u6⟩
          obtain ⟨az2, cz2, rfl⟩ : ∃ a c, u11 = .slice a us.length c := own_form t4.1
          have hul : us.length = z.length := t4.2.1
          have hus : us.length ≤ 65535 := by have := HN.out.2.2.2.2.2.2.2.1; omega
          have HQ : Hid (∀ V, Below w5.heap.size w5 V → Calls Tryz.prog 22 #[.agg #[.slice a1 f.length c1, .slice a2 bk.length c2]] V fun e w' => ∃ v, e = .returned v ∧ w'.ownsRow V.heap.size 46 3 v N.length (rc N) ∧ Below V.heap.size V w') := fun V hV => by
            have := jcTogether f bk _ _ V ((r1.sees u2.2.2.1).on hV) ((r2.sees u2.2.2.1).on hV) l1 l2
            rw [HR.out.2.2.2.2] at this; exact this
          have HY : Hid (¬ s = 0 → ∀ w7, Below w5.heap.size w5 w7 → ∀ vr base7, w5.heap.size ≤ base7 → w7.ownsRow base7 46 3 vr N.length (rc N) →
              w7.ownsRow w3.heap.size 41 2 (.slice az2 us.length cz2) us.length (es us) ∧ w3.heap.size ≤ w7.heap.size ∧
              ∀ v9 w9, w9.ownsRow w3.heap.size 41 2 v9 (us.length + 1) (es us ++ ec (vr, s)) → (w7.alloc (.cells #[vr, .int .i64 s] 41)).grownBy w9 (Value.ownBlock (.slice az2 us.length cz2)) → ∃ z', JnAt R w1.heap.size g cv w3.heap.size X w z' v9 Y' w9 ∧ jLeft w9 w1.heap.size < jLeft wr w1.heap.size) := by
            intro h0 w7 h7 vr base7 hb7 hv
            have o7 := t4.on h7
            have n35 : w3.heap.size ≤ w5.heap.size := Nat.le_trans hS.out.bs u3.size
            have n57 := h7.size
            refine ⟨o7.1, by omega, fun v9 w9 g1 g2 => ?_⟩
            have hlt := o7.1.lt
            have hl9 : LIs R w1.heap.size g cv Y' w9 := ((u2.on h7).on one_box).grown g2 (fun e => by have := (hlt _ e).1; have := HN.out.1; omega) (fun e => by have := (hlt _ e).1; have := HN.out.2.1; omega) (fun k e => free_le (by have := (hlt k e).1; have := HN.out.2.2.2.2.1; omega))
            have hb9 : Below w.heap.size w w9 := ((t5.trans (h7.mono t5.size)).alloc (by have := t5.size; omega) _).grown g2 (by have := t5.size; simp; omega) (fun k e => by have := (hlt k e).1; have := HN.out.2.2.2.2.2.1; omega)
            have hz9 : ∃ us, ZOwn w3.heap.size us (z ++ [(N, s)]) v9 w9 := by
              refine ⟨us ++ [(vr, s)], by rw [List.length_append, es_snoc]; exact g1, ?_⟩
              exact OwnRows.grown (w := w7.alloc (.cells #[vr, .int .i64 s] 41)) (OwnRows.snoc (o7.2.on one_box) (own_on (own_mono hv (by omega)) one_box) s) (own_on o7.1 one_box) g2
            have j9 := t3 h0 v9 w9 hz9 hl9 hb9 (by have := g2.size; simp at this; omega)
            exact ⟨_, j9, by rw [j9.l.left, hS.out.l.left]; exact u6⟩
          clear hS hT r1 r2 u1 u2 u3 u4 u5 u6 u7 ef l1 l2 hs hN hc t1 t2 t3 t4 t5 t6 HR HN hul
          unfold wV at hW ⊢
          generalize wHi s = shi at *
          generalize wMid s = smi at *
          generalize wLo s = slo at *
          generalize rc N = RN at *
          generalize N.length = nN at *
          generalize f.length = n1 at *
          generalize bk.length = n2 at *
          go_wp2_with fail
          refine (hW.out _).mono ?_
          rintro e w6 ⟨rfl, h6⟩
          have b6 : Hid (Below w5.heap.size w5 w6) := below_two.trans (h6.mono (by simp; omega))
          have dr : w6.cell? ⟨w5.heap.size, 0, none⟩ = some (.slice a1 n1 c1) ∧ w6.cell? ⟨w5.heap.size, 1, none⟩ = some (.slice a2 n2 c2) :=
            ⟨cell_on (cell_on (by rw [World.cell?_alloc_at _ _ _ _ rfl]; rfl) one_box) h6, cell_on (cell_on (by rw [World.cell?_alloc_at _ _ _ _ rfl]; rfl) one_box) h6⟩
          obtain ⟨dr1, dr2⟩ := dr
          clear hW h6
          by_cases h0 : s = 0
          · obtain ⟨j6, m6⟩ := HT.out h0 w6 b6.out
            have HJ : Hid _ := And.intro j6 m6
            clear HT HY HQ j6 m6
            subst h0
            go_wp2_with fail
            go_roundw
            case rel => exact ⟨z, Y', HJ.out.1⟩
            case measure => exact HJ.out.2
          · have bz : (s == 0) = false := by simp [h0]
            have q7 := HQ.out w6 b6.out
            have HY2 : Hid _ := HY.out h0
            clear HT HY HQ
            go_wp2_with fail
            refine q7.mono ?_
            rintro e w7 ⟨vr, rfl, hv, h7⟩
            have h57 := b6.out.trans (h7.mono b6.out.size)
            obtain ⟨o7, n7, FB⟩ := HY2.out w7 h57 vr _ b6.out.size hv
            obtain ⟨ar, cr, rfl⟩ := own_form hv
            have HFB : Hid _ := FB
            have HO7 : Hid (w7.ownsRow w3.heap.size 41 2 (.slice az2 us.length cz2) us.length (es us)) := o7
            clear q7 HY2 hv h7 h57 FB o7 b6 dr1 dr2
            go_wp2_with (first | (at_builtin; refine wpList_append_own _ rfl _ _ 27 rfl w3.heap.size 41 i0 (.agg #[.slice none 0 0, .int .i64 0]) 2 32 Tryz.underlying27 hi hz0 hz1 hz2 rfl (by decide) _ us.length (es us) rfl (own_on HO7.out one_box) ⟨w7.heap.size, 0, none⟩ 1 1 (ec (.slice ar nN cr, s)) rfl rfl (cell_two_new _ _ _ _) (by simp [ec, Value.oneCell']) (by unfold maxLen; omega) (by omega) (by simp; omega) ?_; intro v9 w9 hown9 hg9 _; have HG : Hid _ := HFB.out v9 w9 hown9 hg9; clear hown9 hg9 HFB HO7) | fail)
            obtain ⟨z', j9, m9⟩ := HG.out
            go_roundw
            case rel => exact ⟨z', Y', j9⟩
            case measure => exact m9
end Go.Proofs.YtlafokjkpbhckaaGreatDoor
