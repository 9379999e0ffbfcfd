/- What once.sharedWith answers, and once.Change. -/
import Derived.Test.YtmpochhcokmaiaaDoorOnceOnce
import Derived.Test.YtmpochhcokmaiaaDoorOnceSh
import Derived.Test.YtmpochhcokmaiaaDoorZComb
import Derived.Test.YtmpochhcokmaiaaDoorZLook
namespace Go.Proofs.YtmpochhcokmaiaaDoor
open Go.RowKit Go.Sort
set_option maxRecDepth 100000
set_option linter.unusedVariables false

/-- How far it has come: a list of the call's own, rows as they came in. -/
def ShSo (a b : List Ent) (w : World) (j : Nat) (v : Value) (wr : World) : Prop :=
  (∃ us, us.length ≤ j ∧ wr.ownsRow w.heap.size 42 2 v us.length (es us) ∧ Reads w us (shZ a (b.take j))) ∧ Below w.heap.size w wr
set_option maxHeartbeats 4000000 in
theorem onShared (a b : List Ent) (va vb : Value) (w : World) (hna : a.length ≤ 65536) (hnb : b.length ≤ 65536) (za : IsZ a) (ha : EntsIs w va a) (hb : EntsIs w vb b) :
    Calls Tryd.prog 19 #[vb, va] w fun e w' => ∃ v, e = .returned v ∧ EntsIs w' v (shZ a b) ∧ Below w.heap.size w w' := by
  obtain ⟨i0, hi, hz0, hz1, hz2⟩ := info_parts info_entry
  obtain ⟨b0, cap, rfl⟩ := hb.form
  obtain ⟨a0, capa, rfl⟩ := ha.form
  have Hb : Hid (EntsIs w (.slice b0 b.length cap) b) := hb
  have HG : Hid (∀ v r W, Below w.heap.size w W → RowIs W v r → Calls Tryd.prog 35 #[.slice a0 a.length capa, v] W fun e w' => e = .returned (.int .i64 (wt r a)) ∧ Below W.heap.size W w') := fun v r W hW hr => zGet a r _ v W hna za (ha.on hW) hr
  have F0 : Hid (ShSo a b w 0 (.slice none 0 0) w) := ⟨⟨[], Nat.le_refl _, World.ownsRow_nil _ _ _ _, by rw [List.take_zero]; exact Reads.nil _⟩, Below.refl _ _⟩
  clear ha hb za
  generalize a.length = na at *
  go_enter Tryd.func19, Tryd.ntmps19
  go_wp2_with fail
  go_loopw [5, 11] (fun v i wr => ∃ j : Nat, j ≤ b.length ∧ i = .int .i64 j ∧ Hid (ShSo a b w j v wr)) (fun _ i _ => b.length - (intOf i).toNat)
  case atStart => exact ⟨0, by omega, rfl, F0.out⟩
  case round =>
    clear F0
    obtain ⟨j, hj, rfl, hS⟩ := hrel
    by_cases k1 : j < b.length
    · have I1 : (j : Int) < (b.length : Int) := by omega
      obtain ⟨⟨us, hu, s1, s2⟩, s3⟩ := hS.out
      obtain ⟨vs, e1, e2⟩ := Hb.out
      have hv : j < vs.length := by rw [e2.1]; exact k1
      obtain ⟨bb, o, rfl, y1, y2, y3⟩ := e1.at j hv
      obtain ⟨x3, r2⟩ := e2.2 j hv k1
      obtain ⟨a1, c1, er⟩ := x3.form
      rw [er] at y1 x3
      rw [r2] at y2
      have x1 := (s3.cell (p := ⟨bb, o + j * 2, none⟩) y3).trans y1
      have x2 := (s3.cell (p := ⟨bb, o + j * 2 + 1, none⟩) y3).trans y2
      clear e1 e2 er r2 y1 y2 y3 hv
      have HT : Hid (shZ a (b.take (j + 1)) = shZ a (b.take j) ++ if wt b[j].1 a ≠ 0 then [(b[j].1, wt b[j].1 a)] else []) := shZ_take k1
      have q1 := HG.out (.slice a1 b[j].1.length c1) b[j].1 (wr.alloc (.cells #[.slice a1 b[j].1.length c1, .int .i64 b[j].2] 42)) (s3.trans (one_box.mono s3.size)) (x3.on (s3.trans (one_box.mono s3.size)))
      have hs3 := s3.size
      have FA : Hid (∀ w7, Below wr.heap.size wr w7 → wt b[j].1 a ≠ 0 →
          w7.ownsRow w.heap.size 42 2 u5 us.length (es us) ∧ w.heap.size ≤ w7.heap.size ∧
          ∀ v8 w8, w8.ownsRow w.heap.size 42 2 v8 (us.length + 1) (es us ++ ec (.slice a1 b[j].1.length c1, wt b[j].1 a)) → (w7.alloc (.cells #[.slice a1 b[j].1.length c1, .int .i64 (wt b[j].1 a)] 42)).grownBy w8 (Value.ownBlock u5) → ShSo a b w (j + 1) v8 w8) := by
        intro w7 h7 h0
        have o7 := own_on s1 h7
        have b7 := s3.trans (h7.mono hs3)
        refine ⟨o7, b7.size, fun v8 w8 g1 g2 => ⟨⟨us ++ [(.slice a1 b[j].1.length c1, wt b[j].1 a)], by simp; omega, ?_, ?_⟩, ?_⟩⟩
        · rw [List.length_append, es_snoc]; exact g1
        · rw [HT.out, if_pos h0]
          exact s2.snoc x3 _
        · exact (b7.alloc b7.size _).grown g2 (by have := b7.size; simp; omega) (fun k e => (o7.lt k e).1)
      have FB : Hid (¬ wt b[j].1 a ≠ 0 → ∀ w7, Below wr.heap.size wr w7 → ShSo a b w (j + 1) u5 w7) := fun h0 w7 h7 => by
        refine ⟨⟨us, by omega, own_on s1 h7, ?_⟩, s3.trans (h7.mono hs3)⟩
        rw [HT.out, if_neg h0, List.append_nil]
        exact s2
      clear hS s1 s2 s3 x3 HT HG
      generalize b[j].1.length = n1 at *
      generalize b[j].2 = k at *
      generalize wt b[j].1 a = g at *
      go_wp2_with fail
      refine q1.mono ?_
      rintro e w7 ⟨rfl, h7⟩
      have H7 : Hid (Below wr.heap.size wr w7) := one_box.trans (h7.mono (by simp))
      have c0 : w7.cell? ⟨wr.heap.size, 0, none⟩ = some (.slice a1 n1 c1) := cell_on (by rw [World.cell?_alloc_at _ _ _ _ rfl]; rfl) h7
      clear q1 h7
      by_cases h0 : g = 0
      · subst h0
        have hf : Hid _ := FB.out (by simp) w7 H7.out
        clear FA FB H7 c0
        go_wp2_with fail
        go_roundw
        case rel => exact ⟨j + 1, by omega, by go_num, hf.out⟩
        case measure => simp [intOf]; omega
      · have bg : (g == 0) = false := by simp [h0]
        obtain ⟨o7, hz7, hf7⟩ := FA.out w7 H7.out h0
        have G7 : Hid (∀ v8 w8, _ → _ → _) := hf7
        clear FA FB H7 hf7
        go_wp2_with (first | (at_builtin; refine wpList_append_own _ rfl _ _ 27 rfl w.heap.size 42 i0 (.agg #[.slice none 0 0, .int .i64 0]) 2 32 Tryd.underlying27 hi hz0 hz1 hz2 rfl (by decide) _ us.length (es us) rfl (own_on o7 one_box) ⟨w7.heap.size, 0, none⟩ 1 1 (ec (.slice a1 n1 c1, g)) rfl rfl (cell_two_new _ _ _ _) (by simp [ec, Value.oneCell']) (by unfold maxLen; omega) (by omega) (by simp; omega) ?_; intro v8 w8 hown8 hg8 _; have hf : Hid _ := G7.out _ _ hown8 hg8; clear hown8 hg8 G7 o7) | go_in)
        go_roundw
        case rel => exact ⟨j + 1, by omega, by go_num, hf.out⟩
        case measure => simp [intOf]; omega
    · obtain rfl : j = b.length := by omega
      have I1 : ¬ (b.length : Int) < (b.length : Int) := by omega
      obtain ⟨⟨us, hu, s1, s2⟩, s3⟩ := hS.out
      rw [List.take_length] at s2
      have E : Hid (EntsIs wr u5 (shZ a b) ∧ Below w.heap.size w wr) := ⟨⟨us, EntsAt.of_own s1, s2.on s3⟩, s3⟩
      clear hS s1 s2 s3
      go_wp2_with fail
      go_ret
      exact ⟨_, rfl, E.out.1, E.out.2⟩
set_option maxHeartbeats 4000000 in
theorem onChange (a b : List Ent) (va vb : Value) (eO : Addr) (w : World) (hO : OverAt eO w) (hN : a.length + b.length ≤ 20000) (hA : EOk a) (hB : EOk b) (za : IsZ a) (zb : IsZ b) (ha : EntsIs w va a) (hb : EntsIs w vb b) :
    Calls Tryd.prog 8 #[va, vb] w fun e w' => ∃ v, e = .returned (.tuple #[v, ovE eO (okZ (a ++ b))]) ∧ ZHas w.heap.size (chZ a b) v w' ∧ Below w.heap.size w w' := by
  have q0 := onShared a b va vb w (by omega) (by omega) za ha hb
  rw [← sh_ok za.1 hA zb.1, ← sh_ch za.1 hA zb.1]
  have zs : IsZ (shZ a b) := shZ_isZ zb.1
  have hS : EOk (shZ a b) := sh_eok za.1 hA hB
  have ls : (shZ a b).length ≤ 20000 := Nat.le_trans (shZ_len a b) (by omega)
  have lb : b.length ≤ 20000 := by omega
  have HB : Hid (EntsIs w vb b) := hb
  clear hA za ha hN hb
  generalize shZ a b = s at *
  have Q1 : Hid (∀ v V, Below w.heap.size w V → EntsIs V v s → Calls Tryd.prog 20 #[v, vb] V fun e w' => ∃ v, e = .returned (.tuple #[v, ovE eO (okZ (s ++ b))]) ∧ ZHas V.heap.size (mkZ (s ++ b)) v w' ∧ Below V.heap.size V w') := fun v V hV h => zAddO s b v vb eO V (hO.on hV) (by omega) hS hB zs.1 zb.1 h (HB.out.on hV)
  by_cases hok : okZ (s ++ b) = true
  · have hch : chZ s b = mkZ (onZ (mkZ (s ++ b)) ++ (onZ s).map ngE) := by unfold chZ chP; rw [if_pos hok]
    have hco : okZ (onZ (mkZ (s ++ b)) ++ (onZ s).map ngE) = true := ch_ok s b zs.1
    have l1 : (mkZ (s ++ b)).length ≤ 40000 := Nat.le_trans (mkZ_len _) (by rw [List.length_append]; omega)
    have l2 : (onZ (mkZ (s ++ b))).length ≤ 40000 := Nat.le_trans (onZ_len _) l1
    have l3 : (onZ s).length ≤ 20000 := Nat.le_trans (onZ_len _) ls
    have hAB : EOk (mkZ (s ++ b)) := mkZ_ok (fun e he => by
      rcases List.mem_append.1 he with h | h
      · exact (hS e h).2
      · exact (hB e h).2)
    have Q2 : Hid (∀ v V, EntsIs V v (mkZ (s ++ b)) → Calls Tryd.prog 13 #[v] V fun e w' => ∃ v, e = .returned v ∧ ZHas V.heap.size (onZ (mkZ (s ++ b))) v w' ∧ Below V.heap.size V w') := fun v V h => onOnce _ v V (by omega) hAB h
    have Q3 : Hid (∀ v V, EntsIs V v s → Calls Tryd.prog 13 #[v] V fun e w' => ∃ v, e = .returned v ∧ ZHas V.heap.size (onZ s) v w' ∧ Below V.heap.size V w') := fun v V h => onOnce s v V (by omega) hS h
    have Q4 : Hid (∀ vx vy V, Below w.heap.size w V → EntsIs V vx (onZ (mkZ (s ++ b))) → EntsIs V vy (onZ s) → Calls Tryd.prog 21 #[vx, vy] V fun e w' => ∃ v, e = .returned (.tuple #[v, .nilIface]) ∧ ZHas V.heap.size (chZ s b) v w' ∧ Below V.heap.size V w') := fun vx vy V h hx hy => by
      have q := zSubO _ _ vx vy eO V (hO.on h) (by omega) (on_eok hAB) (on_eok hS) (onZ_isZ (mkZ_isZ _).1).1 (onZ_isZ zs.1).1 hx hy
      rw [hco, ← hch] at q
      exact q
    rw [hok] at Q1 ⊢
    rw [show ovE eO true = .nilIface from rfl] at Q1 ⊢
    clear hO hB zb hch hco l1 l2 l3 hAB hok HB zs hS ls lb
    generalize mkZ (s ++ b) = z at *
    generalize chZ s b = c at *
    generalize onZ z = os at *
    generalize onZ s = oa at *
    go_enter Tryd.func8, Tryd.ntmps8
    go_wp2_with fail
    refine q0.mono ?_
    rintro e w0 ⟨v0, rfl, h0, b0⟩
    have H0 : Hid (EntsIs w0 v0 s ∧ Below w.heap.size w w0) := ⟨h0, b0⟩
    have q1 := Q1.out v0 w0 b0 h0
    clear q0 h0 b0 Q1
    go_wp2_with fail
    refine q1.mono ?_
    rintro e w1 ⟨v1, rfl, h1, b1⟩
    have H1 : Hid (EntsIs w1 v0 s ∧ Below w.heap.size w w1) := ⟨H0.out.1.on b1, H0.out.2.trans (b1.mono H0.out.2.size)⟩
    have q2 := Q2.out v1 w1 h1.ents
    clear q1 h1 b1 Q2 H0
    go_wp2_with fail
    refine q2.mono ?_
    rintro e w2 ⟨v2, rfl, h2, b2⟩
    have H2 : Hid (EntsIs w2 v2 os ∧ Below w.heap.size w w2) := ⟨h2.ents, H1.out.2.trans (b2.mono H1.out.2.size)⟩
    have q3 := Q3.out v0 w2 (H1.out.1.on b2)
    clear q2 h2 b2 H1 Q3
    go_wp2_with fail
    refine q3.mono ?_
    rintro e w3 ⟨v3, rfl, h3, b3⟩
    have H3 : Hid (Below w.heap.size w w3) := H2.out.2.trans (b3.mono H2.out.2.size)
    have q4 := Q4.out v2 v3 w3 H3.out (H2.out.1.on b3) h3.ents
    clear q3 h3 b3 H2 Q4
    go_wp2_with fail
    refine q4.mono ?_
    rintro e w4 ⟨v4, rfl, h4, b4⟩
    have H4 : Hid (ZHas w.heap.size c v4 w4 ∧ Below w.heap.size w w4) := ⟨by obtain ⟨us, h⟩ := h4; exact ⟨us, h.mono H3.out.size⟩, H3.out.trans (b4.mono H3.out.size)⟩
    clear q4 h4 b4 H3
    go_wp2_with fail
    go_ret2
    exact ⟨v4, rfl, H4.out⟩
  · have hok' : okZ (s ++ b) = false := by simpa using hok
    have hch : chZ s b = [] := by unfold chZ; rw [if_neg hok]
    rw [hok'] at Q1 ⊢
    rw [hch]
    rw [show ovE eO false = errV eO from rfl] at Q1 ⊢
    clear hO hB zb hch hok hok' HB zs hS ls lb
    unfold errV at Q1 ⊢
    go_enter Tryd.func8, Tryd.ntmps8
    go_wp2_with fail
    refine q0.mono ?_
    rintro e w0 ⟨v0, rfl, h0, b0⟩
    have H0 : Hid (Below w.heap.size w w0) := b0
    have q1 := Q1.out v0 w0 b0 h0
    clear q0 h0 b0 Q1
    go_wp2_with fail
    refine q1.mono ?_
    rintro e w1 ⟨v1, rfl, h1, b1⟩
    have H1 : Hid (Below w.heap.size w w1) := H0.out.trans (b1.mono H0.out.size)
    clear q1 h1 b1 H0
    go_wp2_with fail
    go_ret2
    exact ⟨_, rfl, ⟨[], ZOwn.nil _ _⟩, H1.out⟩
end Go.Proofs.YtmpochhcokmaiaaDoor
