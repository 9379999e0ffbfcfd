/- The law ZsetSums answers true at every argument. -/
import Derived.Test.YtkamnepbgbficaaDoorZFirst
import Derived.Test.YtkamnepbgbficaaDoorStepCall
namespace Go.Proofs.YtkamnepbgbficaaDoor
open Go.RowKit Go.Sort
set_option maxRecDepth 100000

/-- A list of the call's own: one row, with these weights. -/
def LOwn (base : Nat) (vr : Value) (ks : List Int) (v : Value) (w : World) : Prop := w.ownsRow base 50 2 v ks.length (es (ks.map fun k => (vr, k)))
theorem LOwn.nil (base : Nat) (vr : Value) (w : World) : LOwn base vr [] (.slice none 0 0) w := World.ownsRow_nil _ _ _ _
theorem LOwn.on {base : Nat} {vr : Value} {ks : List Int} {v : Value} {w w' : World} (h : LOwn base vr ks v w) (hb : Below w.heap.size w w') : LOwn base vr ks v w' := own_on h hb
theorem LOwn.form {base : Nat} {vr : Value} {ks : List Int} {v : Value} {w : World} (h : LOwn base vr ks v w) : ∃ a cap, v = .slice a ks.length cap := own_form h
theorem reads_one {w : World} {vr : Value} {r : List Val} (h : RowIs w vr r) (ks : List Int) : Reads w (ks.map fun k => (vr, k)) (ks.map fun k => (r, k)) :=
  ⟨by simp, fun i h1 h2 => by simp only [List.getElem_map]; exact ⟨h, trivial⟩⟩
theorem LOwn.at {base : Nat} {vr : Value} {ks : List Int} {v : Value} {w : World} (h : LOwn base vr ks v w) : EntsAt w v (ks.map fun k => (vr, k)) := EntsAt.of_own (by rw [List.length_map]; exact h)
theorem LOwn.ents {base : Nat} {vr : Value} {ks : List Int} {v : Value} {w : World} {r : List Val} (h : LOwn base vr ks v w) (hr : RowIs w vr r) : EntsIs w v (ks.map fun k => (r, k)) := ⟨_, h.at, reads_one hr ks⟩
theorem wpList_append_ent {ops : Array Oper} {rest : List Oper} {op : Oper} {a : Act} {w : World} {Q : Exit → Act → World → Prop} (hgd : op.guard = none) (s x : Operand)
    (ho : op.op = .call { callee := .builtin .append, args := #[s, x], argTypes := #[27, 27] }) (base : Nat) {vr : Value} (h1 : vr.oneCell' = true) {ks : List Int} {v : Value} (k : Int) (hs : a.eval s = v) (hown : LOwn base vr ks v w) (hlen : ks.length ≤ 1000) (hbase : base ≤ w.heap.size)
    (hx : a.eval x = .slice (some ⟨w.heap.size, 0, none⟩) 1 1)
    (h : ∀ v' w', LOwn base vr (ks ++ [k]) v' w' → Below base w w' → wpList Tryd.prog ops Q rest (a.put op.dst v') w') :
    wpList Tryd.prog ops Q (op :: rest) a (w.alloc (.cells #[vr, .int .i64 k] 50)) := by
  obtain ⟨i0, hi, hz0, hz1, hz2⟩ := info_parts info_entry
  refine wpList_append_own _ hgd s x 27 ho base 50 i0 (.agg #[.slice none 0 0, .int .i64 0]) 2 32 Tryd.underlying27 hi hz0 hz1 hz2 rfl (by decide) v ks.length _ hs (own_on hown one_box) ⟨w.heap.size, 0, none⟩ 1 1 (ec (vr, k)) hx rfl (cell_two_new _ _ _ _) (by intro u hu; simp only [ec, List.mem_cons, List.not_mem_nil, or_false] at hu; rcases hu with rfl | rfl; exact h1; rfl) (by unfold maxLen; omega) (by omega) (by simp; omega) ?_
  intro v' w' g1 g2 _
  refine h v' w' ?_ ?_
  · unfold LOwn
    rw [List.length_append, List.map_append, List.map_cons, List.map_nil, es_snoc]
    exact g1
  · exact ((Below.refl _ _).alloc hbase _).grown g2 (by simp; omega) (fun k e => (hown.lt k e).1)
theorem LOwn.addr {base : Nat} {vr : Value} {ks : List Int} {v : Value} {w : World} (h : LOwn base vr ks v w) (hk : 0 < ks.length) : ∃ g cap, v = .slice (some ⟨g, 0, none⟩) ks.length cap ∧ ks.length ≤ cap ∧ cap ≤ maxLen := by
  rcases h.2 with ⟨_, e⟩ | ⟨g, cap, cur, hv, _, _, h1, h2, _⟩
  · omega
  · exact ⟨g, cap, hv, h1, h2⟩
/-- A weight of the list, its entry. -/
theorem LOwn.look {base : Nat} {vr : Value} {ks : List Int} {w : World} {a : Option Addr} {n cap : Nat} (h : LOwn base vr ks (.slice a n cap) w) (i : Nat) (hi : i < ks.length) : ∃ b o, a = some ⟨b, o, none⟩ ∧ w.cell? ⟨b, o + i * 2, none⟩ = some vr ∧ w.cell? ⟨b, o + i * 2 + 1, none⟩ = some (.int .i64 ks[i]) := by
  obtain ⟨b, o, e, c1, c2, _⟩ := h.at.at i (by simpa using hi)
  simp only [List.getElem_map] at c1 c2
  exact ⟨b, o, e, c1, c2⟩
theorem step_call1x {P : Program} {ops : Array Oper} {o : Oper} {a : Act} {w : World} {K : Act → World → Prop} {Q : Exit → Act → World → Prop} {E : Prop} (hw : Region.wanted o (yielded ops a.tmps) = true)
    (f : FuncId) (x : Operand) (t : TypeId) (ho : o.op = .call { callee := .value (.func f), args := #[x], argTypes := #[t] }) (he : ∀ args w, (callFunc f args).run P w = .ok (.enter f args) w)
    (vx : Value) (hx : a.eval x = vx) (R : Value → World → Prop) (hc : Calls P f #[vx] w fun e w' => ∃ v, e = .returned v ∧ R v w') (h : ∀ v w', R v w' → K (a.put o.dst v) w') :
    if Region.wanted o (yielded ops a.tmps) = true then Oper.wp P o a w K Q else E := by
  rw [if_pos hw]
  subst hx
  have e0 : a.eval (.func f) = .func (.func f) #[] #[] := rfl
  unfold Oper.wp
  simp [execOp, ho, resolve, invoke, e0, Deferred.ofValue, he, Oper.upon]
  exact hc.mono fun e w' ⟨v, h1, h2⟩ => by subst h1; exact h v w' h2
/-- So many rounds of the three weights. -/
def three (i : Nat) : List Int := (List.replicate i [9223372036854775807, -9223372036854775808, 1]).flatten
theorem three_succ (i : Nat) : three (i + 1) = three i ++ [9223372036854775807] ++ [-9223372036854775808] ++ [1] := by
  unfold three; rw [List.replicate_succ', List.flatten_append]; simp
theorem three_len (i : Nat) : (three i).length = 3 * i := by
  induction i with
  | zero => rfl
  | succ i ih => rw [three_succ]; simp [ih]; omega
theorem three_sum (i : Nat) : (three i).sum = 0 := by
  induction i with
  | zero => rfl
  | succ i ih => rw [three_succ]; simp [ih]
theorem three_in (i : Nat) : ∀ k ∈ three i, inI k = true := by
  induction i with
  | zero => intro k hk; cases hk
  | succ i ih =>
    intro k hk
    rw [three_succ] at hk
    simp only [List.mem_append, List.mem_singleton] at hk
    rcases hk with ((hk | rfl) | rfl) | rfl
    · exact ih k hk
    all_goals decide
theorem wt_ks (r : List Val) (s : List Val) : ∀ ks : List Int, wt s (ks.map fun k => (r, k)) = if r = s then ks.sum else 0
  | [] => by simp [wt]
  | k :: ks => by
    have ih := wt_ks r s ks
    simp only [List.map_cons, wt, List.sum_cons]
    rw [ih]; split <;> simp
theorem mkZ_congr {l m : List Ent} (h : ∀ r, wt r l = wt r m) : okZ l = okZ m ∧ mkZ l = mkZ m := by
  have e : okZ l = okZ m := by
    rw [Bool.eq_iff_iff, okZ_iff, okZ_iff]
    exact ⟨fun g r => by rw [← h]; exact g r, fun g r => by rw [h]; exact g r⟩
  refine ⟨e, ?_⟩
  by_cases ho : okZ m = true
  · exact mkZ_of (by rw [e]; exact ho) (mkZ_isZ m) (fun r => by rw [wt_mkZ ho, h])
  · have ho' : okZ m = false := by simpa using ho
    rw [mk_bad ho', mk_bad (by rw [e]; exact ho')]
theorem six (n : Int) : ∃ N : Nat, 1 ≤ N ∧ N ≤ 6 ∧ wrap64 ((wrap64 (n.tmod 6 + 6)).tmod 6 + 1) = (N : Int) := by
  have h1 := Int.tmod_lt_of_pos n (by decide : (0 : Int) < 6)
  have h2 := Int.tmod_lt_of_pos (-n) (by decide : (0 : Int) < 6)
  rw [Int.neg_tmod] at h2
  have e1 : wrap64 (n.tmod 6 + 6) = n.tmod 6 + 6 := by unfold wrap64; omega
  rw [e1]
  generalize n.tmod 6 = a at *
  have h3 := Int.tmod_lt_of_pos (a + 6) (by decide : (0 : Int) < 6)
  have h4 := Int.tmod_nonneg (a := a + 6) 6 (by omega)
  have e2 : wrap64 ((a + 6).tmod 6 + 1) = (a + 6).tmod 6 + 1 := by unfold wrap64; omega
  rw [e2]
  exact ⟨((a + 6).tmod 6 + 1).toNat, by omega, by omega, by omega⟩
theorem turned (t : Int) (L : Nat) (h1 : 1 ≤ L) (h2 : L ≤ 1000) : ∃ k : Nat, k < L ∧ wrap64 (t.tmod (L : Int) + (L : Int)) = t.tmod (L : Int) + (L : Int) ∧ (t.tmod (L : Int) + (L : Int)).tmod (L : Int) = (k : Int) := by
  have h0 : (0 : Int) < (L : Int) := by omega
  have a1 := Int.tmod_lt_of_pos t h0
  have a2 := Int.tmod_lt_of_pos (-t) h0
  rw [Int.neg_tmod] at a2
  generalize t.tmod (L : Int) = a at *
  have a3 := Int.tmod_lt_of_pos (a + (L : Int)) h0
  have a4 := Int.tmod_nonneg (a := a + (L : Int)) (L : Int) (by omega)
  exact ⟨((a + (L : Int)).tmod (L : Int)).toNat, by omega, by unfold wrap64; omega, by omega⟩
theorem sum_parts (l : List Int) : (l.filter fun x => decide (0 < x)).sum + (l.filter fun x => decide (x ≤ 0)).sum = l.sum := by
  induction l with
  | nil => rfl
  | cons a l ih =>
    by_cases h : 0 < a
    · rw [List.filter_cons_of_pos (by simpa using h), List.filter_cons_of_neg (by simp; omega)]; simp only [List.sum_cons]; omega
    · rw [List.filter_cons_of_neg (by simpa using h), List.filter_cons_of_pos (by simp; omega)]; simp only [List.sum_cons]; omega
theorem filter_take {l : List Int} {p : Int → Bool} {j : Nat} (h : j < l.length) : (l.take (j + 1)).filter p = (l.take j).filter p ++ (if p l[j] then [l[j]] else []) := by
  rw [List.take_succ_eq_append_getElem h, List.filter_append]
  by_cases hp : p l[j] = true
  · rw [if_pos hp, List.filter_cons_of_pos hp]; rfl
  · rw [if_neg hp, List.filter_cons_of_neg hp]; rfl
theorem mkZ_len1 (r : List Val) (k : Int) : (mkZ [(r, k)]).length ≤ 1 := by
  have h := gat_len [(r, k)]
  unfold mkZ
  split
  · have h2 := List.length_filter_le (fun e : Ent => e.2 != 0) (gat [(r, k)])
    unfold nzZ; simp at h; omega
  · simp
/-- What the law's lists come to. -/
theorem sums_of {r : List Val} {ks : List Int} {wv : Int} (hs : ks.sum = wv) : (∀ s, wt s (ks.map fun k => (r, k)) = wt s [(r, wv)]) := fun s => by
  rw [wt_ks, hs]; simp [wt]
theorem eok_ks {v : Val} {ks : List Int} (h : ∀ k ∈ ks, inI k = true) : EOk (ks.map fun k => ([v], k)) := fun e he => by
  obtain ⟨k, hk, rfl⟩ := List.mem_map.1 he
  exact ⟨h k hk, by simp⟩
theorem cell_six_new (w : World) (a b c d e f : Value) (t : TypeId) : ∀ j u, [a, b, c, d, e, f][j]? = some u → (w.alloc (.cells #[a, b, c, d, e, f] t)).cell? ((⟨w.heap.size, 0, none⟩ : Addr).add j) = some u := by
  intro j u h
  rw [add_plain, World.cell?_alloc_at _ _ _ _ rfl]
  simpa using h
set_option maxHeartbeats 16000000 in
theorem zsums_main (n turn wv : Int) (hw : inI wv = true) (ad : Fin 11 → Addr) (w : World) (he : ErrsAt ad w) :
    Calls Tryd.prog 5 #[.int .i64 n, .int .i64 turn, .int .i64 wv] w fun e w' => e = .returned (.bool true) ∧ Below w.heap.size w w' := by
  have qf := lawFirst3 (ad 6) w he.over
  have HE : Hid (∀ W, Below w.heap.size w W → ErrsAt ad W) := fun W hW => he.on hW
  have Hw : Hid (inI wv = true) := hw
  clear he hw
  go_enter Tryd.func5, Tryd.ntmps5
  go_wp2_with fail
  refine qf.mono ?_
  rintro e w1 ⟨rfl, hb1⟩
  have B1 : Hid (Below w.heap.size w w1) := hb1
  clear qf hb1
  obtain ⟨N, n1, n2, hN⟩ := six n
  have HN : Hid (wrap64 ((wrap64 (n.tmod 6 + 6)).tmod 6 + 1) = (N : Int)) := hN
  clear hN
  go_wp2_with fail
  rw [HN.out]
  have hvr : Value.oneCell' (.slice (some ⟨w1.heap.size, 0, none⟩) 1 1) = true := rfl
  obtain ⟨W1, hW1⟩ : ∃ W1, W1 = w1.alloc (.cells #[.int .i64 1, .int .i64 1, .string ⟨#[]⟩] 48) := ⟨_, rfl⟩
  have R1 : Hid (RowIs W1 (.slice (some ⟨w1.heap.size, 0, none⟩) 1 1) [(1, 1, ⟨#[]⟩)]) := by rw [hW1]; exact row_new w1 1 1 ⟨#[]⟩
  have BW : Hid (Below w.heap.size w W1) := by rw [hW1]; exact B1.out.trans (one_box.mono B1.out.size)
  rw [← hW1]
  obtain ⟨vr, hvre⟩ : ∃ vr : Value, vr = .slice (some ⟨w1.heap.size, 0, none⟩) 1 1 := ⟨_, rfl⟩
  clear hW1
  go_loopw [9, 10] (fun vl vi wr => ∃ i : Nat, i ≤ N ∧ vi = .int .i64 i ∧ LOwn W1.heap.size (.slice (some ⟨w1.heap.size, 0, none⟩) 1 1) (three i) vl wr ∧ Below W1.heap.size W1 wr) (fun _ vi _ => N - (intOf vi).toNat)
  case atStart => exact ⟨0, by omega, rfl, LOwn.nil _ _ _, Below.refl _ _⟩
  case round =>
    obtain ⟨i, hi, rfl, c1, c2⟩ := hrel
    by_cases hlt : i < N
    · have I1 : (i : Int) < (N : Int) := by omega
      have O0 : Hid (LOwn W1.heap.size (.slice (some ⟨w1.heap.size, 0, none⟩) 1 1) (three i) u9 wr) := c1
      have B0 : Hid (Below W1.heap.size W1 wr) := c2
      have l0 := three_len i
      have HT := three_succ i
      have HTT : Hid (three (i + 1) = three i ++ [9223372036854775807] ++ [-9223372036854775808] ++ [1]) := HT
      clear c1 c2 HT
      go_wp2_with (first
        | (at_builtin; refine wpList_append_ent rfl _ _ rfl W1.heap.size rfl 1 rfl O2.out (by simp; omega) (by have := B0.out.size; have := B1a.out.size; have := B2a.out.size; omega) rfl ?_; intro v3 w3 O3' B3'; have O3 : Hid (LOwn W1.heap.size (.slice (some ⟨w1.heap.size, 0, none⟩) 1 1) (three i ++ [9223372036854775807] ++ [-9223372036854775808] ++ [1]) v3 w3) := O3'; have B3a : Hid (Below W1.heap.size w2 w3) := B3'; clear O3' B3')
        | (at_builtin; refine wpList_append_ent rfl _ _ rfl W1.heap.size rfl (-9223372036854775808) rfl O1.out (by simp; omega) (by have := B0.out.size; have := B1a.out.size; omega) rfl ?_; intro v2 w2 O2' B2'; have O2 : Hid (LOwn W1.heap.size (.slice (some ⟨w1.heap.size, 0, none⟩) 1 1) (three i ++ [9223372036854775807] ++ [-9223372036854775808]) v2 w2) := O2'; have B2a : Hid (Below W1.heap.size w1a w2) := B2'; clear O2' B2')
        | (at_builtin; refine wpList_append_ent rfl _ _ rfl W1.heap.size rfl 9223372036854775807 rfl O0.out (by omega) B0.out.size rfl ?_; intro v1 w1a O1' B1'; have O1 : Hid (LOwn W1.heap.size (.slice (some ⟨w1.heap.size, 0, none⟩) 1 1) (three i ++ [9223372036854775807]) v1 w1a) := O1'; have B1a : Hid (Below W1.heap.size wr w1a) := B1'; clear O1' B1')
        | fail)
      have E4 : Hid (Below W1.heap.size W1 w3) := ((B0.out.trans B1a.out).trans B2a.out).trans B3a.out
      go_roundw
      case rel => exact ⟨i + 1, by omega, by go_num, by rw [HTT.out]; exact O3.out, E4.out⟩
      case measure => simp [intOf]; omega
    · have I1 : ¬ (i : Int) < (N : Int) := by omega
      obtain rfl : i = N := by omega
      have O0 : Hid (LOwn W1.heap.size (.slice (some ⟨w1.heap.size, 0, none⟩) 1 1) (three i) u9 wr) := c1
      have B0 : Hid (Below W1.heap.size W1 wr) := c2
      have l0 := three_len i
      obtain ⟨L, hL⟩ : ∃ L : Nat, L = 3 * i + 1 := ⟨_, rfl⟩
      obtain ⟨ks, hks⟩ : ∃ ks : List Int, ks = three i ++ [wv] := ⟨_, rfl⟩
      have KL : ks.length = L := by rw [hks, List.length_append, l0, hL]; rfl
      have KS : Hid (ks.sum = wv) := by show _ = _; rw [hks, List.sum_append, three_sum]; simp
      have KI : Hid (∀ k ∈ ks, inI k = true) := by
        intro k hk
        rw [hks] at hk
        rcases List.mem_append.1 hk with h | h
        · exact three_in i k h
        · simp only [List.mem_singleton] at h; rw [h]; exact Hw.out
      have HKS : Hid (three i ++ [wv] = ks) := hks.symm
      have hl0 : (three i).length ≤ 1000 := by omega
      have hL1 : 1 ≤ L ∧ L ≤ 400 := by omega
      have bz : ((L : Int) == 0) = false := by simp; omega
      have bm : ((L : Int) == -1) = false := by simp
      obtain ⟨k, hk1, hk2, hk3⟩ := turned turn L hL1.1 (by omega)
      have HK2 : Hid (wrap64 (turn.tmod (L : Int) + (L : Int)) = turn.tmod (L : Int) + (L : Int)) := hk2
      have HK3 : Hid ((turn.tmod (L : Int) + (L : Int)).tmod (L : Int) = (k : Int)) := hk3
      clear c1 c2 hks l0 hL hk2 hk3 hlt
      go_wp2_with (first
        | (at_builtin; refine wpList_append_ent rfl _ _ rfl W1.heap.size rfl wv rfl O0.out hl0 B0.out.size rfl ?_; intro v2 w2 O2' B2'; rw [HKS.out] at O2'; obtain ⟨g, cv, rfl, hc1, hc2⟩ := O2'.addr (by omega); have O2 : Hid (LOwn W1.heap.size (.slice (some ⟨w1.heap.size, 0, none⟩) 1 1) ks (.slice (some ⟨g, 0, none⟩) L cv) w2) := (by rw [← KL]; exact O2'); have B2 : Hid (Below W1.heap.size W1 w2) := B0.out.trans B2'; rw [KL] at hc1; unfold maxLen at hc2; clear O2' B2'; rw [KL])
        | fail)
      rw [HK2.out, HK3.out]
      have J1 : (k : Int) < (L : Int) := by omega
      have J2 : k ≤ L := by omega
      have J3 : ¬ cv = k := by omega
      have J4 : k ≤ cv := by omega
      have qe : Hid (∀ W, Below w2.heap.size w2 W → Calls Tryd.prog 28 #[.slice (some ⟨g, k * 2, none⟩) (L - k) (cv - k)] W fun e w' => ∃ v, e = .returned v ∧ (LOwn W1.heap.size (.slice (some ⟨w1.heap.size, 0, none⟩) 1 1) (ks.drop k) v w' ∧ Below W.heap.size W w')) := fun W hW => by
        have hE : EntsAt W (.slice (some ⟨g, k * 2, none⟩) (L - k) (cv - k)) ((ks.drop k).map fun x => (.slice (some ⟨w1.heap.size, 0, none⟩) 1 1, x)) := by
          have h0 := (O2.out.on hW).at
          refine .inr ⟨g, k * 2, cv - k, by simp [KL], by simp [KL]; omega, by unfold maxLen; omega, ?_, fun j hj => ?_⟩
          · obtain ⟨b, o, e, _, _, hb⟩ := h0.at 0 (by simp; omega)
            cases e; exact hb
          · simp only [List.length_map, List.length_drop] at hj
            obtain ⟨b, o, e, d1, d2, _⟩ := h0.at (k + j) (by simp; omega)
            cases e
            rw [show 0 + (k + j) * 2 = k * 2 + j * 2 by omega] at d1 d2
            simp only [List.getElem_map] at d1 d2
            simp only [List.getElem_map, List.getElem_drop]
            exact ⟨d1, d2⟩
        refine (refEntries _ _ _ W (by simp; omega) hE (reads_one (R1.out.on (B2.out.trans (hW.mono B2.out.size))) (ks.drop k))).mono ?_
        rintro e w' ⟨v, rfl, h1, h2⟩
        rw [List.take_length, List.length_map] at h1
        exact ⟨v, rfl, own_mono h1 (by have := B2.out.size; have := hW.size; omega), h2⟩
      have HA : Hid (∀ W v' w', Below w2.heap.size w2 W → LOwn W1.heap.size (.slice (some ⟨w1.heap.size, 0, none⟩) 1 1) (ks.drop k) v' W → ∀ v3 w3, w3.ownsRow W1.heap.size 50 2 v3 ((ks.drop k).length + k) (es ((ks.drop k).map fun x => (.slice (some ⟨w1.heap.size, 0, none⟩) 1 1, x)) ++ es ((ks.take k).map fun x => (.slice (some ⟨w1.heap.size, 0, none⟩) 1 1, x))) → W.grownBy w3 v'.ownBlock → w' = w3 → LOwn W1.heap.size (.slice (some ⟨w1.heap.size, 0, none⟩) 1 1) (ks.drop k ++ ks.take k) v3 w3 ∧ Below W1.heap.size W1 w3) := by
        intro W v' w' hW hO v3 w3 g1 g2 _
        refine ⟨?_, (B2.out.trans (hW.mono B2.out.size)).grown g2 (by have := B2.out.size; have := hW.size; omega) (fun k e => (hO.lt k e).1)⟩
        unfold LOwn
        rw [List.length_append, List.map_append, show ∀ (a b : List VEnt), es (a ++ b) = es a ++ es b from fun a b => by simp [es], List.length_take, Nat.min_eq_left (by omega)]
        exact g1
      have HC : Hid (∀ W, Below w2.heap.size w2 W → ∀ j u, (es ((ks.take k).map fun x => ((.slice (some ⟨w1.heap.size, 0, none⟩) 1 1 : Value), x)))[j]? = some u → W.cell? ((⟨g, 0, none⟩ : Addr).add j) = some u) := by
        intro W hW j u hu
        refine (O2.out.on hW).at.cells j u ?_
        have e : es (ks.map fun x => ((.slice (some ⟨w1.heap.size, 0, none⟩) 1 1 : Value), x)) = es ((ks.take k).map fun x => ((.slice (some ⟨w1.heap.size, 0, none⟩) 1 1 : Value), x)) ++ es ((ks.drop k).map fun x => ((.slice (some ⟨w1.heap.size, 0, none⟩) 1 1 : Value), x)) := by
          rw [← show ∀ (a b : List VEnt), es (a ++ b) = es a ++ es b from fun a b => by simp [es], ← List.map_append, List.take_append_drop]
        rw [e, List.getElem?_append_left (List.getElem?_eq_some_iff.1 hu).1]
        exact hu
      have H1c : Hid (∀ u ∈ es ((ks.take k).map fun x => ((.slice (some ⟨w1.heap.size, 0, none⟩) 1 1 : Value), x)), u.oneCell' = true) := by
        intro u hu
        obtain ⟨v, hv, hu'⟩ := List.mem_flatMap.1 hu
        obtain ⟨x, _, rfl⟩ := List.mem_map.1 hv
        simp only [ec, List.mem_cons, List.not_mem_nil, or_false] at hu'
        rcases hu' with rfl | rfl <;> rfl
      have hLk : (ks.drop k).length = L - k := by rw [List.length_drop, KL]
      have HLn : Hid ((es ((ks.take k).map fun x => ((.slice (some ⟨w1.heap.size, 0, none⟩) 1 1 : Value), x))).length = k * 2) := by show _ = _; rw [es_len, List.length_map, List.length_take, Nat.min_eq_left (by omega)]
      obtain ⟨i0, hi0, hz0, hz1, hz2⟩ := info_parts info_entry
      have W1s := B2.out.size
      go_region_law (first
        | (refine step_call1x (by rfl) 28 (.tmp 69) 27 (by rfl) (enters_of Tryd.func28 (by kernel_rfl) rfl) _ (by rfl) _ (qe.out _ ⟨rfl, rfl, rfl, Nat.le_refl _, fun _ _ => rfl⟩) ?_; intro v4 w4 hR4; have O4 : Hid (LOwn W1.heap.size (.slice (some ⟨w1.heap.size, 0, none⟩) 1 1) (ks.drop k) v4 w4) := hR4.1; have B4 : Hid (Below w2.heap.size w2 w4) := ⟨hR4.2.os, hR4.2.tape, hR4.2.output, hR4.2.size, hR4.2.block⟩; clear hR4)
        | (refine step_append_own' _ (by rfl) (.tmp 70) (.tmp 73) 27 (by rfl) W1.heap.size 50 i0 (.agg #[.slice none 0 0, .int .i64 0]) 2 32 Tryd.underlying27 hi0 hz0 hz1 hz2 rfl (by decide) _ (ks.drop k).length _ (by rfl) O4.out ⟨g, 0, none⟩ k cv _ (by rfl) HLn.out (HC.out _ B4.out) H1c.out (by unfold maxLen; omega) (by omega) (by have := B4.out.size; omega) ?_; intro v5 w5 hown5 hg5; have R5 := HA.out _ _ _ B4.out O4.out v5 w5 hown5 hg5 rfl; clear hown5 hg5))
      obtain ⟨l1, hl1⟩ : ∃ l1 : List Int, l1 = ks.drop k ++ ks.take k := ⟨_, rfl⟩
      have L1 : l1.length = L := by rw [hl1, List.length_append, List.length_drop, List.length_take, KL]; omega
      have S1 : Hid (l1.sum = wv) := by
        show _ = _
        rw [hl1, List.sum_append, ← KS.out]
        have := congrArg List.sum (List.take_append_drop k ks)
        rw [List.sum_append] at this; omega
      have M1 : Hid (∀ x ∈ l1, inI x = true) := fun x hx => KI.out x (by
        rw [hl1] at hx
        rcases List.mem_append.1 hx with h | h
        · exact List.mem_of_mem_drop h
        · exact List.mem_of_mem_take h)
      rw [← hl1] at R5
      obtain ⟨g5, c5, rfl, hc5, hc6⟩ := R5.1.addr (by omega)
      rw [L1] at hc5
      unfold maxLen at hc6
      have O5 : Hid (LOwn W1.heap.size (.slice (some ⟨w1.heap.size, 0, none⟩) 1 1) l1 (.slice (some ⟨g5, 0, none⟩) L c5) w5) := by rw [← L1]; exact R5.1
      have B5 : Hid (Below W1.heap.size W1 w5) := R5.2
      rw [L1]
      clear R5 hl1 qe HA HC H1c HLn hLk O4 B4 O2 B2 KI KS HKS O0 B0 HK2 HK3 J1 J2 J3 J4 hc1 hc2 hk1 W1s bz bm
      go_wp2_with fail
      go_loopw [12, 13] (fun vm vi wr => ∃ j : Nat, j ≤ L ∧ vi = .int .i64 j ∧ LOwn w5.heap.size (.slice (some ⟨w1.heap.size, 0, none⟩) 1 1) ((l1.take j).filter fun x => decide (0 < x)) vm wr ∧ Below w5.heap.size w5 wr) (fun _ vi _ => L - (intOf vi).toNat)
      case atStart => exact ⟨0, by omega, rfl, LOwn.nil _ _ _, Below.refl _ _⟩
      case round =>
        obtain ⟨j, hj, rfl, c1, c2⟩ := hrel
        by_cases hjl : j < L
        · have hj1 : j < l1.length := by omega
          have I1 : (j : Int) < (L : Int) := by omega
          obtain ⟨b', o', e', x1, x2⟩ := (O5.out.on c2).look j hj1
          cases e'
          rw [Nat.zero_add] at x1 x2
          have OM : Hid (LOwn w5.heap.size (.slice (some ⟨w1.heap.size, 0, none⟩) 1 1) ((l1.take j).filter fun x => decide (0 < x)) u12 wr) := c1
          have BM : Hid (Below w5.heap.size w5 wr) := c2
          have HF : Hid ((l1.take (j + 1)).filter (fun x => decide (0 < x)) = (l1.take j).filter (fun x => decide (0 < x)) ++ (if decide (0 < l1[j]) then [l1[j]] else [])) := filter_take hj1
          have hll : ((l1.take j).filter fun x => decide (0 < x)).length ≤ 1000 := by have h1 := List.length_filter_le (fun x => decide (0 < x)) (l1.take j); rw [List.length_take] at h1; omega
          clear c1 c2
          generalize l1[j] = kj at *
          by_cases hp : 0 < kj
          · have HF1 : Hid (((l1.take (j + 1)).filter fun x => decide (0 < x)) = ((l1.take j).filter fun x => decide (0 < x)) ++ [kj]) := by show _ = _; rw [HF.out, if_pos (by simpa using hp)]
            clear HF
            go_wp2_with (first | (at_builtin; refine wpList_append_ent rfl _ _ rfl w5.heap.size rfl kj rfl OM.out hll BM.out.size rfl ?_; intro v7 w7 O7' B7'; rw [← HF1.out] at O7'; have O7 : Hid (LOwn w5.heap.size (.slice (some ⟨w1.heap.size, 0, none⟩) 1 1) ((l1.take (j + 1)).filter fun x => decide (0 < x)) v7 w7) := O7'; have B7 : Hid (Below w5.heap.size w5 w7) := BM.out.trans B7'; clear O7' B7') | fail)
            go_roundw
            case rel => exact ⟨j + 1, by omega, by go_num, O7.out, B7.out⟩
            case measure => simp [intOf]; omega
          · have HF1 : Hid (((l1.take (j + 1)).filter fun x => decide (0 < x)) = ((l1.take j).filter fun x => decide (0 < x))) := by show _ = _; rw [HF.out, if_neg (by simpa using hp), List.append_nil]
            have hp' : kj ≤ 0 := by omega
            clear HF
            go_wp2_with fail
            go_roundw
            case rel => exact ⟨j + 1, by omega, by go_num, by rw [HF1.out]; exact OM.out, BM.out⟩
            case measure => simp [intOf]; omega
        · have I1 : ¬ (j : Int) < (L : Int) := by omega
          have hjj : l1.take j = l1 := List.take_of_length_le (by omega)
          rw [hjj] at c1
          have OM : Hid (LOwn w5.heap.size (.slice (some ⟨w1.heap.size, 0, none⟩) 1 1) (l1.filter fun x => decide (0 < x)) u12 wr) := c1
          have BM : Hid (Below w5.heap.size w5 wr) := c2
          clear c1 c2 hjj
          go_wp2_with fail
          go_loopw [12, 14] (fun vm vi wr => ∃ j : Nat, j ≤ L ∧ vi = .int .i64 j ∧ LOwn w5.heap.size (.slice (some ⟨w1.heap.size, 0, none⟩) 1 1) ((l1.filter fun x => decide (0 < x)) ++ (l1.take j).filter fun x => decide (x ≤ 0)) vm wr ∧ Below w5.heap.size w5 wr) (fun _ vi _ => L - (intOf vi).toNat)
          case atStart => exact ⟨0, by omega, rfl, by rw [List.take_zero, List.filter_nil, List.append_nil]; exact OM.out, BM.out⟩
          case round =>
            obtain ⟨j, hj, rfl, c1, c2⟩ := hrel
            by_cases hjl : j < L
            · have hj1 : j < l1.length := by omega
              have I1 : (j : Int) < (L : Int) := by omega
              obtain ⟨b', o', e', x1, x2⟩ := (O5.out.on c2).look j hj1
              cases e'
              rw [Nat.zero_add] at x1 x2
              have OM : Hid (LOwn w5.heap.size (.slice (some ⟨w1.heap.size, 0, none⟩) 1 1) ((l1.filter fun x => decide (0 < x)) ++ (l1.take j).filter fun x => decide (x ≤ 0)) u12 wr) := c1
              have BM : Hid (Below w5.heap.size w5 wr) := c2
              have HF : Hid ((l1.take (j + 1)).filter (fun x => decide (x ≤ 0)) = (l1.take j).filter (fun x => decide (x ≤ 0)) ++ (if decide (l1[j] ≤ 0) then [l1[j]] else [])) := filter_take hj1
              have hll : ((l1.filter fun x => decide (0 < x)) ++ (l1.take j).filter fun x => decide (x ≤ 0)).length ≤ 1000 := by rw [List.length_append]; have h1 := List.length_filter_le (fun x => decide (x ≤ 0)) (l1.take j); have h2 := List.length_filter_le (fun x => decide (0 < x)) l1; rw [List.length_take] at h1; omega
              clear c1 c2
              generalize l1[j] = kj at *
              by_cases hp : kj ≤ 0
              · have HF1 : Hid (((l1.filter fun x => decide (0 < x)) ++ (l1.take (j + 1)).filter fun x => decide (x ≤ 0)) = ((l1.filter fun x => decide (0 < x)) ++ (l1.take j).filter fun x => decide (x ≤ 0)) ++ [kj]) := by show _ = _; rw [HF.out, if_pos (by simpa using hp)]; rw [List.append_assoc]
                clear HF
                go_wp2_with (first | (at_builtin; refine wpList_append_ent rfl _ _ rfl w5.heap.size rfl kj rfl OM.out hll BM.out.size rfl ?_; intro v7 w7 O7' B7'; rw [← HF1.out] at O7'; have O7 : Hid (LOwn w5.heap.size (.slice (some ⟨w1.heap.size, 0, none⟩) 1 1) ((l1.filter fun x => decide (0 < x)) ++ (l1.take (j + 1)).filter fun x => decide (x ≤ 0)) v7 w7) := O7'; have B7 : Hid (Below w5.heap.size w5 w7) := BM.out.trans B7'; clear O7' B7') | fail)
                go_roundw
                case rel => exact ⟨j + 1, by omega, by go_num, O7.out, B7.out⟩
                case measure => simp [intOf]; omega
              · have HF1 : Hid (((l1.filter fun x => decide (0 < x)) ++ (l1.take (j + 1)).filter fun x => decide (x ≤ 0)) = ((l1.filter fun x => decide (0 < x)) ++ (l1.take j).filter fun x => decide (x ≤ 0))) := by show _ = _; rw [HF.out, if_neg (by simpa using hp), List.append_nil]
                have hp' : 0 < kj := by omega
                clear HF
                go_wp2_with fail
                go_roundw
                case rel => exact ⟨j + 1, by omega, by go_num, by rw [HF1.out]; exact OM.out, BM.out⟩
                case measure => simp [intOf]; omega
            · have I1 : ¬ (j : Int) < (L : Int) := by omega
              have hjj : l1.take j = l1 := List.take_of_length_le (by omega)
              rw [hjj] at c1
              obtain ⟨mm, hmm⟩ : ∃ mm : List Int, mm = (l1.filter fun x => decide (0 < x)) ++ l1.filter fun x => decide (x ≤ 0) := ⟨_, rfl⟩
              rw [← hmm] at c1
              have SM : Hid (mm.sum = wv) := by show _ = _; rw [hmm, List.sum_append, sum_parts]; exact S1.out
              have MM : Hid (∀ x ∈ mm, inI x = true) := fun x hx => M1.out x (by
                rw [hmm] at hx
                rcases List.mem_append.1 hx with h | h <;> exact (List.mem_filter.1 h).1)
              have lm : mm.length ≤ 1000 := by
                rw [hmm, List.length_append]
                have h1 := List.length_filter_le (fun x => decide (0 < x)) l1
                have h2 := List.length_filter_le (fun x => decide (x ≤ 0)) l1
                omega
              have O6 : Hid (LOwn w5.heap.size (.slice (some ⟨w1.heap.size, 0, none⟩) 1 1) mm u12 wr) := c1
              have B6 : Hid (Below w5.heap.size w5 wr) := c2
              have V6 : Hid (Below w.heap.size w wr) := (BW.out.trans (B5.out.mono BW.out.size)).trans (c2.mono (by have := BW.out.size; have := B5.out.size; omega))
              have R6 : Hid (RowIs wr (.slice (some ⟨w1.heap.size, 0, none⟩) 1 1) [(1, 1, ⟨#[]⟩)]) := (R1.out.on B5.out).on c2
              have O5r : Hid (LOwn W1.heap.size (.slice (some ⟨w1.heap.size, 0, none⟩) 1 1) l1 (.slice (some ⟨g5, 0, none⟩) L c5) wr) := O5.out.on c2
              have hbw : w5.heap.size ≤ wr.heap.size := c2.size
              obtain ⟨Z, hZ⟩ : ∃ Z, Z = mkZ [([((1 : Int), (1 : Int), (⟨#[]⟩ : ByteArray))], wv)] := ⟨_, rfl⟩
              have ZZ : Hid (IsZ Z ∧ Z.length ≤ 1 ∧ wt [((1 : Int), (1 : Int), (⟨#[]⟩ : ByteArray))] Z = wv) := by
                rw [hZ]
                have ok : okZ [([((1 : Int), (1 : Int), (⟨#[]⟩ : ByteArray))], wv)] = true := by rw [okZ_one]; exact Hw.out
                exact ⟨mkZ_isZ _, mkZ_len1 _ _, by rw [wt_mkZ ok]; simp [wt]⟩
              have qm : Hid (∀ W (ks : List Int) v, Below w.heap.size w W → EntsIs W v (ks.map fun k => ([((1 : Int), (1 : Int), (⟨#[]⟩ : ByteArray))], k)) → ks.length ≤ 65536 → (∀ k ∈ ks, inI k = true) → ks.sum = wv → Calls Tryd.prog 11 #[v] W fun e w' => ∃ v', e = .returned (.tuple #[v', .nilIface]) ∧ ZHas W.heap.size Z v' w' ∧ Below W.heap.size W w') := fun W ks v hW hE hn hk hs => by
                have hc := mkZ_congr (sums_of (r := [((1 : Int), (1 : Int), (⟨#[]⟩ : ByteArray))]) hs)
                have q := zMakeO _ v (ad 6) W (HE.out W hW).over (by rw [List.length_map]; exact hn) (eok_ks hk) hE
                rw [hc.1, hc.2, okZ_one, Hw.out, ← hZ] at q
                exact q
              have qo : Hid (∀ W (ks : List Int) v, Below w.heap.size w W → EntsIs W v (ks.map fun k => ([((1 : Int), (1 : Int), (⟨#[]⟩ : ByteArray))], k)) → ks.length ≤ 65536 → (∀ k ∈ ks, inI k = true) → ks.sum = wv + 18446744073709551616 → Calls Tryd.prog 11 #[v] W fun e w' => ∃ v', e = .returned (.tuple #[v', .iface 145 (.pointer (some (ad 6)))]) ∧ Below W.heap.size W w') := fun W ks v hW hE hn hk hs => by
                have hc := mkZ_congr (sums_of (r := [((1 : Int), (1 : Int), (⟨#[]⟩ : ByteArray))]) hs)
                have q := zMake _ v (ad 6) W (HE.out W hW).over (by rw [List.length_map]; exact hn) (eok_ks hk) hE
                have hf : inI (wv + 18446744073709551616) = false := by have := inI_iff.1 Hw.out; unfold inI; simp; omega
                rw [hc.1, hc.2, okZ_one, hf] at q
                exact q.mono fun e w' ⟨v', h1, _, h3⟩ => ⟨v', h1, h3⟩
              have qs : Hid (∀ W va vb, EntsIs W va Z → EntsIs W vb Z → Calls Tryd.prog 26 #[va, vb] W fun e w' => e = .returned (.bool true) ∧ Below W.heap.size W w') := fun W va vb h1 h2 => by
                have q := zSame Z Z va vb W h1 h2
                have e : sEs Z Z = true := by unfold sEs; simp
                rw [e] at q; exact q
              have qg : Hid (∀ W va, EntsIs W va Z → RowIs W (.slice (some ⟨w1.heap.size, 0, none⟩) 1 1) [(1, 1, ⟨#[]⟩)] → Calls Tryd.prog 22 #[va, (.slice (some ⟨w1.heap.size, 0, none⟩) 1 1)] W fun e w' => e = .returned (.int .i64 wv) ∧ Below W.heap.size W w') := fun W va h1 h2 => by
                have q := zGet Z [(1, 1, ⟨#[]⟩)] va _ W (by have := ZZ.out.2.1; omega) ZZ.out.1 h1 h2
                rw [ZZ.out.2.2] at q; exact q
              have qi : Hid (∀ W, Below w.heap.size w W → Calls Tryd.prog 14 #[.iface 145 (.pointer (some (ad 6))), .int .i64 107] W fun e w' => e = .returned (.bool true) ∧ Below W.heap.size W w') := fun W hW => seeIs ad (some 6) 107 W (HE.out W hW)
              have qa := qm.out wr l1 _ V6.out (O5r.out.ents R6.out) (by omega) M1.out S1.out
              clear c1 c2 hjj hmm hZ ZZ OM BM
              obtain ⟨X0, hX0⟩ : ∃ X0, X0 = wr := ⟨_, rfl⟩
              subst hX0
              go_wp2_with fail
              refine qa.mono ?_
              rintro e X1 ⟨va, rfl, ea, b1⟩
              have V1 : Hid (Below w.heap.size w X1) := V6.out.trans (b1.mono V6.out.size)
              have E1 : Hid (ZHas X0.heap.size Z va X1) := ea
              have U0 : Hid (∀ k, u12.ownBlock = some k → k < X0.heap.size) := fun k e => (O6.out.lt k e).2
              have X01 : X0.heap.size ≤ X1.heap.size := b1.size
              have B71 : Hid (Below w5.heap.size w5 X1) := B6.out.trans (b1.mono hbw)
              have R7 : Hid (RowIs X1 (.slice (some ⟨w1.heap.size, 0, none⟩) 1 1) [(1, 1, ⟨#[]⟩)]) := R6.out.on b1
              have O7 : Hid (LOwn w5.heap.size (.slice (some ⟨w1.heap.size, 0, none⟩) 1 1) mm u12 X1) := O6.out.on b1
              have h7 : w5.heap.size ≤ X1.heap.size := Nat.le_trans hbw b1.size
              have qb := qm.out X1 mm _ V1.out (O7.out.ents R7.out) (by omega) MM.out SM.out
              clear qa ea b1 O6 R6 V6 hbw O5r
              go_wp2_with fail
              refine qb.mono ?_
              rintro e X2 ⟨vb, rfl, eb, b2⟩
              have V2 : Hid (Below w.heap.size w X2) := V1.out.trans (b2.mono V1.out.size)
              have E2 : Hid (ZHas X0.heap.size Z va X2) := E1.out.on b2
              have F2 : Hid (ZHas X1.heap.size Z vb X2) := eb
              have B72 : Hid (Below w5.heap.size w5 X2) := B71.out.trans (b2.mono h7)
              have R8 : Hid (RowIs X2 (.slice (some ⟨w1.heap.size, 0, none⟩) 1 1) [(1, 1, ⟨#[]⟩)]) := R7.out.on b2
              have O8 : Hid (LOwn w5.heap.size (.slice (some ⟨w1.heap.size, 0, none⟩) 1 1) mm u12 X2) := O7.out.on b2
              have h8 : w5.heap.size ≤ X2.heap.size := Nat.le_trans h7 b2.size
              have hw5 : w.heap.size ≤ w5.heap.size := by have := BW.out.size; have := B5.out.size; omega
              have HK : Hid (∀ v3 X3, X3.ownsRow w5.heap.size 50 2 v3 (mm.length + 3) (es (mm.map fun k => ((.slice (some ⟨w1.heap.size, 0, none⟩) 1 1), k)) ++ [(.slice (some ⟨w1.heap.size, 0, none⟩) 1 1), .int .i64 9223372036854775807, (.slice (some ⟨w1.heap.size, 0, none⟩) 1 1), .int .i64 9223372036854775807, (.slice (some ⟨w1.heap.size, 0, none⟩) 1 1), .int .i64 2]) → (X2.alloc (.cells #[(.slice (some ⟨w1.heap.size, 0, none⟩) 1 1), .int .i64 9223372036854775807, (.slice (some ⟨w1.heap.size, 0, none⟩) 1 1), .int .i64 9223372036854775807, (.slice (some ⟨w1.heap.size, 0, none⟩) 1 1), .int .i64 2] 50)).grownBy X3 u12.ownBlock → LOwn w5.heap.size (.slice (some ⟨w1.heap.size, 0, none⟩) 1 1) (mm ++ [9223372036854775807, 9223372036854775807, 2]) v3 X3 ∧ Below w5.heap.size X2 X3 ∧ ZHas X0.heap.size Z va X3 ∧ ZHas X1.heap.size Z vb X3) := by
                intro v3 X3 g1 g2
                refine ⟨?_, ((Below.refl _ _).alloc h8 _).grown g2 (by simp; omega) (fun k e => (O8.out.lt k e).1), (E2.out.on one_box).keep g2 U0.out, (F2.out.on one_box).keep g2 (fun k e => by have := U0.out k e; omega)⟩
                unfold LOwn
                rw [List.length_append, List.map_append, show ∀ (a b : List VEnt), es (a ++ b) = es a ++ es b from fun a b => by simp [es]]
                exact g1
              have O8a : Hid ((X2.alloc (.cells #[(.slice (some ⟨w1.heap.size, 0, none⟩) 1 1), .int .i64 9223372036854775807, (.slice (some ⟨w1.heap.size, 0, none⟩) 1 1), .int .i64 9223372036854775807, (.slice (some ⟨w1.heap.size, 0, none⟩) 1 1), .int .i64 2] 50)).ownsRow w5.heap.size 50 2 u12 mm.length (es (mm.map fun k => ((.slice (some ⟨w1.heap.size, 0, none⟩) 1 1), k)))) := own_on O8.out one_box
              clear qb eb b2 O7 R7 V1 h7 E1
              go_wp2_with (first | (at_builtin; refine wpList_append_own _ rfl _ _ 27 rfl w5.heap.size 50 i0 (.agg #[.slice none 0 0, .int .i64 0]) 2 32 Tryd.underlying27 hi0 hz0 hz1 hz2 rfl (by decide) _ mm.length _ rfl O8a.out ⟨X2.heap.size, 0, none⟩ 3 3 [(.slice (some ⟨w1.heap.size, 0, none⟩) 1 1), .int .i64 9223372036854775807, (.slice (some ⟨w1.heap.size, 0, none⟩) 1 1), .int .i64 9223372036854775807, (.slice (some ⟨w1.heap.size, 0, none⟩) 1 1), .int .i64 2] rfl rfl (cell_six_new _ _ _ _ _ _ _ _) (by simp [Value.oneCell']) (by unfold maxLen; omega) (by omega) (by simp; omega) ?_; intro v3 X3 hown3 hg3 _; have K3 := HK.out _ _ hown3 hg3; clear hown3 hg3) | fail)
              obtain ⟨K31, K32, K33, K34⟩ := K3
              have V3 : Hid (Below w.heap.size w X3) := V2.out.trans (K32.mono hw5)
              have R9 : Hid (RowIs X3 (.slice (some ⟨w1.heap.size, 0, none⟩) 1 1) [(1, 1, ⟨#[]⟩)]) := (R1.out.on B5.out).on (B72.out.trans K32)
              have E3 : Hid (EntsIs X3 va Z) := K33.ents
              have F3 : Hid (EntsIs X3 vb Z) := K34.ents
              have qc := qo.out X3 (mm ++ [9223372036854775807, 9223372036854775807, 2]) v3 V3.out (K31.ents R9.out) (by simp; omega) (by
                intro k hk
                rcases List.mem_append.1 hk with h | h
                · exact MM.out k h
                · simp only [List.mem_cons, List.not_mem_nil, or_false] at h
                  rcases h with rfl | rfl | rfl <;> decide) (by rw [List.sum_append, SM.out]; simp)
              clear K31 K32 K33 K34 HK O8 O8a R8 V2 E2 F2 B72 B71 h8
              refine qc.mono ?_
              rintro e X4 ⟨vc, rfl, b4⟩
              have V4 : Hid (Below w.heap.size w X4) := V3.out.trans (b4.mono V3.out.size)
              have E4 : Hid (EntsIs X4 va Z) := E3.out.on b4
              have R4 : Hid (RowIs X4 (.slice (some ⟨w1.heap.size, 0, none⟩) 1 1) [(1, 1, ⟨#[]⟩)]) := R9.out.on b4
              have qd := qs.out X4 va vb E4.out (F3.out.on b4)
              clear qc b4 V3 E3 F3 R9
              by_cases hneg : wv < 0
              · go_wp2_with fail
                refine qd.mono ?_
                rintro e X5 ⟨rfl, b5⟩
                have V5 : Hid (Below w.heap.size w X5) := V4.out.trans (b5.mono V4.out.size)
                have qe := qg.out X5 va (E4.out.on b5) (R4.out.on b5)
                clear qd b5 V4 E4 R4
                go_wp2_with fail
                refine qe.mono ?_
                rintro e X6 ⟨rfl, b6⟩
                have V6 : Hid (Below w.heap.size w X6) := V5.out.trans (b6.mono V5.out.size)
                clear qe b6 V5
                go_wp2_with fail
                go_ret
                exact ⟨rfl, V6.out⟩
              · have hge : 0 ≤ wv := by omega
                go_wp2_with fail
                refine qd.mono ?_
                rintro e X5 ⟨rfl, b5⟩
                have V5 : Hid (Below w.heap.size w X5) := V4.out.trans (b5.mono V4.out.size)
                have qe := qg.out X5 va (E4.out.on b5) (R4.out.on b5)
                clear qd b5 V4 E4 R4
                go_wp2_with fail
                refine qe.mono ?_
                rintro e X6 ⟨rfl, b6⟩
                have V6 : Hid (Below w.heap.size w X6) := V5.out.trans (b6.mono V5.out.size)
                have qf := qi.out X6 V6.out
                clear qe b6 V5
                go_wp2_with fail
                refine qf.mono ?_
                rintro e X7 ⟨rfl, b7⟩
                have V7 : Hid (Below w.heap.size w X7) := V6.out.trans (b7.mono V6.out.size)
                clear qf b7 V6
                go_wp2_with fail
                go_ret
                exact ⟨rfl, V7.out⟩
/-- ZsetSums. -/
theorem zsetSums_walk (n : Int) (_ : (Lit.int .i64 n).wf = true) (t : Int) (_ : (Lit.int .i64 t).wf = true) (wv : Int) (hw : (Lit.int .i64 wv).wf = true) (w : World) (he : ∃ ad, ErrsAt ad w) :
    Calls Tryd.prog 5 #[.int .i64 n, .int .i64 t, .int .i64 wv] w fun e w' => e = .returned (.bool true) ∧ Below w.heap.size w w' := by
  obtain ⟨ad, he⟩ := he
  have hb : -9223372036854775808 ≤ wv ∧ wv ≤ 9223372036854775807 := by simpa [Lit.wf, IntKind.min, IntKind.max, IntKind.signed, IntKind.bits] using hw
  exact zsums_main n t wv (inI_iff.2 hb) ad w he
end Go.Proofs.YtkamnepbgbficaaDoor
