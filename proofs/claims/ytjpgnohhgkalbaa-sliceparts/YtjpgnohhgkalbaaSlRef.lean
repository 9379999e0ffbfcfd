/- What the document's own After, Upto, Range and Count answer of entries in memory. -/
import Derived.Test.YtjpgnohhgkalbaaZRef
import Derived.Test.YtjpgnohhgkalbaaZAdd
namespace Go.Proofs.Ytjpgnohhgkalbaa
open Go.RowKit Go.Sort
set_option maxRecDepth 100000

/-- Chosen ones of entries that came in: a list of the call's own, its rows those. -/
def SelTo (w : World) (m : List Ent) (v : Value) (W : World) : Prop := EntsN w.heap.size w m v W ∧ Below w.heap.size w W
theorem SelTo.nil (w : World) : SelTo w [] (.slice none 0 0) w := ⟨⟨[], World.ownsRow_nil _ _ _ _, Reads.nil w⟩, Below.refl _ _⟩
theorem SelTo.on {w : World} {m : List Ent} {v : Value} {W W' : World} (h : SelTo w m v W) (hb : Below W.heap.size W W') : SelTo w m v W' := by
  obtain ⟨⟨us, h1, h2⟩, h3⟩ := h
  exact ⟨⟨us, own_on h1 hb, h2⟩, h3.trans (hb.mono h3.size)⟩
theorem SelTo.ents {w : World} {m : List Ent} {v : Value} {W : World} (h : SelTo w m v W) : EntsIs W v m := by
  obtain ⟨⟨us, h1, h2⟩, h3⟩ := h
  exact ⟨us, EntsAt.of_own h1, h2.on h3⟩
theorem SelTo.form {w : World} {m : List Ent} {v : Value} {W : World} (h : SelTo w m v W) : ∃ a cap, v = .slice a m.length cap := h.ents.form
theorem wpList_append_sel {ops : Array Oper} {rest : List Oper} {op : Oper} {a : Act} {w W : World} {Q : Exit → Act → World → Prop} (hgd : op.guard = none) (s x : Operand)
    (ho : op.op = .call { callee := .builtin .append, args := #[s, x], argTypes := #[27, 27] }) {m : List Ent} {v : Value} (hs : a.eval s = v) (hsel : SelTo w m v W) (hm : m.length ≤ 65536) {vr : Value} {r : List Val} (hr : RowIs w vr r) (k : Int)
    (hx : a.eval x = .slice (some ⟨W.heap.size, 0, none⟩) 1 1) (h : ∀ v' w', SelTo w (m ++ [(r, k)]) v' w' → wpList Try.prog ops Q rest (a.put op.dst v') w') :
    wpList Try.prog ops Q (op :: rest) a (W.alloc (.cells #[vr, .int .i64 k] 34)) := by
  obtain ⟨i0, hi, hz0, hz1, hz2⟩ := info_parts info_entry
  obtain ⟨⟨us, h1, h2⟩, h3⟩ := hsel
  have hz := h3.size
  have hul : us.length ≤ 65536 := by rw [h2.1]; exact hm
  obtain ⟨ar, cr, er⟩ := hr.form
  have hvr : vr.oneCell' = true := by rw [er]; rfl
  refine wpList_append_own _ hgd s x 27 ho w.heap.size 34 i0 (.agg #[.slice none 0 0, .int .i64 0]) 2 32 Try.underlying27 hi hz0 hz1 hz2 rfl (by decide) v us.length _ hs (own_on h1 one_box) ⟨W.heap.size, 0, none⟩ 1 1 (ec (vr, k)) hx rfl (cell_two_new _ _ _ _) (by intro u hu; simp only [ec, List.mem_cons, List.not_mem_nil, or_false] at hu; rcases hu with rfl | rfl; exact hvr; rfl) (by unfold maxLen; omega) (by omega) (by simp; omega) ?_
  intro v' w' g1 g2 _
  refine h v' w' ⟨⟨us ++ [(vr, k)], ?_, h2.snoc hr k⟩, ?_⟩
  · rw [es_snoc, List.length_append]; exact g1
  · exact (h3.alloc hz _).grown g2 (by simp; omega) (fun k e => (h1.lt k e).1)
theorem filter_snoc {p : Ent → Bool} {l : List Ent} {j : Nat} (h : j < l.length) : (l.take (j + 1)).filter p = (l.take j).filter p ++ (if p l[j] then [l[j]] else []) := by
  rw [List.take_succ_eq_append_getElem h, List.filter_append]
  by_cases hp : p l[j] = true
  · rw [if_pos hp, List.filter_cons_of_pos hp]; rfl
  · rw [if_neg hp, List.filter_cons_of_neg hp]; rfl
theorem filter_pre (p : Ent → Bool) (l : List Ent) (j : Nat) : l.filter p = (l.take j).filter p ++ (l.drop j).filter p := by rw [← List.filter_append, List.take_append_drop]
theorem filter_len (p : Ent → Bool) (l : List Ent) (j : Nat) (h : l.length ≤ 65536) : ((l.take j).filter p).length ≤ 65536 := by
  have h1 := List.length_filter_le p (l.take j)
  have h2 := List.length_take_le' j l
  omega
/-- Those behind a row; those up to it; those between two. -/
def afP (any : Bool) (r : List Val) (e : Ent) : Bool := !any || decide (0 < cR e.1 r)
def upP (any : Bool) (r : List Val) (e : Ent) : Bool := any && decide (cR e.1 r ≤ 0)
def rgP (f t : List Val) (e : Ent) : Bool := decide (0 ≤ cR e.1 f) && decide (cR e.1 t < 0)
def after (any : Bool) (r : List Val) (l : List Ent) (n : Int) : List Ent := (l.filter (afP any r)).take n.toNat
def upto (any : Bool) (r : List Val) (l : List Ent) : List Ent := l.filter (upP any r)
def range (f t : List Val) (l : List Ent) : List Ent := l.filter (rgP f t)
def SelBy (p : Ent → Bool) (l : List Ent) (w : World) (j : Nat) (v : Value) (W : World) : Prop := SelTo w ((l.take j).filter p) v W
set_option maxHeartbeats 4000000 in
theorem refAfter (l : List Ent) (r : List Val) (va vb : Value) (any : Bool) (n : Int) (w : World) (hn : l.length ≤ 65536) (ha : EntsIs w va l) (hb : RowIs w vb r) :
    Calls Try.prog 13 #[va, vb, .bool any, .int .i64 n] w fun e w' => ∃ v, e = .returned v ∧ SelTo w (after any r l n) v w' := by
  obtain ⟨vs, ha1, hr⟩ := ha
  obtain ⟨a0, cap, rfl⟩ := ha1.form
  obtain ⟨b0, cap', rfl⟩ := hb.form
  have HVL : Hid (vs.length = l.length) := hr.1
  have Ha : Hid (EntsAt w (.slice a0 vs.length cap) vs) := ha1
  have Hr : Hid (Reads w vs l) := hr
  have Hb : Hid (RowIs w (.slice b0 r.length cap') r) := hb
  clear ha1 hr hb
  go_enter Try.func13, Try.ntmps13
  go_wp2_with fail
  go_loopw [9, 10] (fun v i wr => ∃ j : Nat, j ≤ vs.length ∧ i = .int .i64 j ∧ SelBy (afP any r) l w j v wr ∧ Hid (((l.take j).filter (afP any r)).length ≤ n.toNat)) (fun _ i _ => vs.length - (intOf i).toNat)
  case atStart => exact ⟨0, by omega, rfl, SelTo.nil w, by show _ ≤ _; simp⟩
  case round =>
    obtain ⟨j, hj, rfl, hS, hL⟩ := hrel
    obtain ⟨av, cv, rfl⟩ := hS.form
    have hfl := filter_len (afP any r) l j hn
    have HS : Hid (SelTo w ((l.take j).filter (afP any r)) (.slice av ((l.take j).filter (afP any r)).length cv) wr) := hS
    clear hS
    by_cases k1 : j < vs.length
    · have k2 : j < l.length := by have := HVL.out; omega
      have I1 : (j : Int) < (vs.length : Int) := by omega
      by_cases k3 : (((l.take j).filter (afP any r)).length : Int) < n
      · obtain ⟨b, o, rfl, x1, x2, _⟩ := (Ha.out.on HS.out.2).at j k1
        obtain ⟨r1, r2⟩ := Hr.out.2 j k1 k2
        obtain ⟨am, cm, em⟩ := r1.form
        rw [em] at x1 r1
        rw [r2] at x2
        have HR : Hid (RowIs w (.slice am l[j].1.length cm) l[j].1) := r1
        have HF : Hid ((l.take (j + 1)).filter (afP any r) = (l.take j).filter (afP any r) ++ (if afP any r l[j] then [l[j]] else [])) := filter_snoc k2
        have hfl' : ((l.take j).filter (afP any r)).length + 1 ≤ n.toNat := by omega
        have HG : Hid (afP any r l[j] = true → SelTo w ((l.take j).filter (afP any r) ++ [(l[j].1, l[j].2)]) = SelBy (afP any r) l w (j + 1) ∧ ((l.take (j + 1)).filter (afP any r)).length ≤ n.toNat) := fun h => by
          unfold SelBy
          rw [HF.out, if_pos h]
          exact ⟨rfl, by rw [List.length_append]; exact hfl'⟩
        have HN : Hid (afP any r l[j] = false → SelTo w ((l.take j).filter (afP any r)) = SelBy (afP any r) l w (j + 1) ∧ ((l.take (j + 1)).filter (afP any r)).length ≤ n.toNat) := fun h => by
          unfold SelBy
          rw [HF.out, if_neg (by rw [h]; decide), List.append_nil]
          exact ⟨rfl, by omega⟩
        have q : Hid (Calls Try.prog 21 #[.slice am l[j].1.length cm, .slice b0 r.length cap'] wr fun e w'' => e = .returned (.int .i64 (cR l[j].1 r)) ∧ Below wr.heap.size wr w'') := refCompareRows _ _ _ _ wr (r1.on HS.out.2) (Hb.out.on HS.out.2)
        have HP : Hid (afP any r l[j] = (!any || decide (0 < cR l[j].1 r))) := rfl
        generalize afP any r l[j] = pj at *
        generalize (l.take j).filter (afP any r) = m at *
        generalize cR l[j].1 r = c at *
        generalize l[j].1 = rj at *
        generalize l[j].2 = kj at *
        generalize hnl : rj.length = nl at *
        clear r1 r2 em HF
        cases any
        · have HB2 : Hid (SelTo w (m ++ [(rj, kj)]) = SelBy (afP false r) l w (j + 1) ∧ ((l.take (j + 1)).filter (afP false r)).length ≤ n.toNat) := HG.out (by rw [HP.out]; rfl)
          clear HG HN HP q
          go_wp2_with (first | (at_builtin; refine wpList_append_sel rfl _ _ rfl rfl HS.out hfl HR.out kj rfl ?_; intro v3 w3 hs3; rw [HB2.out.1] at hs3; have H3 : Hid (SelBy (afP false r) l w (j + 1) v3 w3) := hs3; clear hs3) | fail)
          go_roundw
          case rel => exact ⟨j + 1, by omega, by go_num, H3.out, HB2.out.2⟩
          case measure => simp [intOf]; omega
        · by_cases hc : 0 < c
          · have HB2 : Hid (SelTo w (m ++ [(rj, kj)]) = SelBy (afP true r) l w (j + 1) ∧ ((l.take (j + 1)).filter (afP true r)).length ≤ n.toNat) := HG.out (by rw [HP.out]; simp [hc])
            clear HG HN HP
            go_wp2_with fail
            refine q.out.mono ?_
            rintro e w2 ⟨rfl, hb2⟩
            have y1 := cell_on x1 hb2
            have y2 := cell_on x2 hb2
            have HS2 : Hid (SelTo w m (.slice av m.length cv) w2) := HS.out.on hb2
            clear hb2 q x1 x2
            go_wp2_with (first | (at_builtin; refine wpList_append_sel rfl _ _ rfl rfl HS2.out hfl HR.out kj rfl ?_; intro v3 w3 hs3; rw [HB2.out.1] at hs3; have H3 : Hid (SelBy (afP true r) l w (j + 1) v3 w3) := hs3; clear hs3) | fail)
            go_roundw
            case rel => exact ⟨j + 1, by omega, by go_num, H3.out, HB2.out.2⟩
            case measure => simp [intOf]; omega
          · have HB2 : Hid (SelTo w m = SelBy (afP true r) l w (j + 1) ∧ ((l.take (j + 1)).filter (afP true r)).length ≤ n.toNat) := HN.out (by rw [HP.out]; simp [hc])
            have hc' : c ≤ 0 := by omega
            clear HG HN HP
            go_wp2_with fail
            refine q.out.mono ?_
            rintro e w2 ⟨rfl, hb2⟩
            have HS2 : Hid (SelBy (afP true r) l w (j + 1) (.slice av m.length cv) w2) := by
              have := HS.out.on hb2
              rw [HB2.out.1] at this; exact this
            clear hb2 q x1 x2
            go_wp2_with fail
            go_roundw
            case rel => exact ⟨j + 1, by omega, by go_num, HS2.out, HB2.out.2⟩
            case measure => simp [intOf]; omega
      · have E : Hid (after any r l n = (l.take j).filter (afP any r)) := by
          show _ = _
          unfold after
          have hlen : n.toNat = ((l.take j).filter (afP any r)).length := by have := hL.out; omega
          rw [filter_pre (afP any r) l j, hlen, List.take_left]
        have k3' : n ≤ (((l.take j).filter (afP any r)).length : Int) := by omega
        clear hL
        generalize (l.take j).filter (afP any r) = m at *
        go_wp2_with fail
        go_ret
        exact ⟨_, rfl, by rw [E.out]; exact HS.out⟩
    · have I1 : ¬ (j : Int) < (vs.length : Int) := by omega
      have E : Hid (after any r l n = (l.take j).filter (afP any r)) := by
        show _ = _
        have e1 : l.take j = l := List.take_of_length_le (by have := HVL.out; omega)
        have hL' := hL.out
        unfold after
        rw [e1] at hL' ⊢
        exact List.take_of_length_le hL'
      clear hL
      generalize (l.take j).filter (afP any r) = m at *
      go_wp2_with fail
      go_ret
      exact ⟨_, rfl, by rw [E.out]; exact HS.out⟩
set_option maxHeartbeats 4000000 in
theorem refUpto (l : List Ent) (r : List Val) (va vb : Value) (any : Bool) (w : World) (hn : l.length ≤ 65536) (ha : EntsIs w va l) (hb : RowIs w vb r) :
    Calls Try.prog 15 #[va, vb, .bool any] w fun e w' => ∃ v, e = .returned v ∧ SelTo w (upto any r l) v w' := by
  obtain ⟨vs, ha1, hr⟩ := ha
  obtain ⟨a0, cap, rfl⟩ := ha1.form
  obtain ⟨b0, cap', rfl⟩ := hb.form
  have HVL : Hid (vs.length = l.length) := hr.1
  have Ha : Hid (EntsAt w (.slice a0 vs.length cap) vs) := ha1
  have Hr : Hid (Reads w vs l) := hr
  have Hb : Hid (RowIs w (.slice b0 r.length cap') r) := hb
  clear ha1 hr hb
  go_enter Try.func15, Try.ntmps15
  go_wp2_with fail
  go_loopw [7, 8] (fun v i wr => ∃ j : Nat, j ≤ vs.length ∧ i = .int .i64 j ∧ SelBy (upP any r) l w j v wr) (fun _ i _ => vs.length - (intOf i).toNat)
  case atStart => exact ⟨0, by omega, rfl, SelTo.nil w⟩
  case round =>
    obtain ⟨j, hj, rfl, hS⟩ := hrel
    obtain ⟨av, cv, rfl⟩ := hS.form
    have hfl := filter_len (upP any r) l j hn
    have HS : Hid (SelTo w ((l.take j).filter (upP any r)) (.slice av ((l.take j).filter (upP any r)).length cv) wr) := hS
    clear hS
    by_cases k1 : j < vs.length
    · have k2 : j < l.length := by have := HVL.out; omega
      have I1 : (j : Int) < (vs.length : Int) := by omega
      obtain ⟨b, o, rfl, x1, x2, _⟩ := (Ha.out.on HS.out.2).at j k1
      obtain ⟨r1, r2⟩ := Hr.out.2 j k1 k2
      obtain ⟨am, cm, em⟩ := r1.form
      rw [em] at x1 r1
      rw [r2] at x2
      have HR : Hid (RowIs w (.slice am l[j].1.length cm) l[j].1) := r1
      have HF : Hid ((l.take (j + 1)).filter (upP any r) = (l.take j).filter (upP any r) ++ (if upP any r l[j] then [l[j]] else [])) := filter_snoc k2
      have HG : Hid (upP any r l[j] = true → SelTo w ((l.take j).filter (upP any r) ++ [(l[j].1, l[j].2)]) = SelBy (upP any r) l w (j + 1)) := fun h => by
        unfold SelBy
        rw [HF.out, if_pos h]
      have HN : Hid (upP any r l[j] = false → SelTo w ((l.take j).filter (upP any r)) = SelBy (upP any r) l w (j + 1)) := fun h => by
        unfold SelBy
        rw [HF.out, if_neg (by rw [h]; decide), List.append_nil]
      have q : Hid (Calls Try.prog 21 #[.slice am l[j].1.length cm, .slice b0 r.length cap'] wr fun e w'' => e = .returned (.int .i64 (cR l[j].1 r)) ∧ Below wr.heap.size wr w'') := refCompareRows _ _ _ _ wr (r1.on HS.out.2) (Hb.out.on HS.out.2)
      have HP : Hid (upP any r l[j] = (any && decide (cR l[j].1 r ≤ 0))) := rfl
      generalize upP any r l[j] = pj at *
      generalize (l.take j).filter (upP any r) = m at *
      generalize cR l[j].1 r = c at *
      generalize l[j].1 = rj at *
      generalize l[j].2 = kj at *
      generalize hnl : rj.length = nl at *
      clear r1 r2 em HF
      cases any
      · have HB2 : Hid (SelBy (upP false r) l w (j + 1) (.slice av m.length cv) wr) := by
          have := HN.out (by rw [HP.out]; rfl)
          rw [← this]; exact HS.out
        clear HG HN HP q
        go_wp2_with fail
        go_roundw
        case rel => exact ⟨j + 1, by omega, by go_num, HB2.out⟩
        case measure => simp [intOf]; omega
      · by_cases hc : c ≤ 0
        · have HB2 : Hid (SelTo w (m ++ [(rj, kj)]) = SelBy (upP true r) l w (j + 1)) := HG.out (by rw [HP.out]; simp [hc])
          clear HG HN HP
          go_wp2_with fail
          refine q.out.mono ?_
          rintro e w2 ⟨rfl, hb2⟩
          have y1 := cell_on x1 hb2
          have y2 := cell_on x2 hb2
          have HS2 : Hid (SelTo w m (.slice av m.length cv) w2) := HS.out.on hb2
          clear hb2 q x1 x2
          go_wp2_with (first | (at_builtin; refine wpList_append_sel rfl _ _ rfl rfl HS2.out hfl HR.out kj rfl ?_; intro v3 w3 hs3; rw [HB2.out] at hs3; have H3 : Hid (SelBy (upP true r) l w (j + 1) v3 w3) := hs3; clear hs3) | fail)
          go_roundw
          case rel => exact ⟨j + 1, by omega, by go_num, H3.out⟩
          case measure => simp [intOf]; omega
        · have HB2 : Hid (SelTo w m = SelBy (upP true r) l w (j + 1)) := HN.out (by rw [HP.out]; simp [hc])
          have hc' : 0 < c := by omega
          clear HG HN HP
          go_wp2_with fail
          refine q.out.mono ?_
          rintro e w2 ⟨rfl, hb2⟩
          have HS2 : Hid (SelBy (upP true r) l w (j + 1) (.slice av m.length cv) w2) := by
            have := HS.out.on hb2
            rw [HB2.out] at this; exact this
          clear hb2 q x1 x2
          go_wp2_with fail
          go_roundw
          case rel => exact ⟨j + 1, by omega, by go_num, HS2.out⟩
          case measure => simp [intOf]; omega
    · have I1 : ¬ (j : Int) < (vs.length : Int) := by omega
      have E : Hid (upto any r l = (l.take j).filter (upP any r)) := by
        show _ = _
        have e1 : l.take j = l := List.take_of_length_le (by have := HVL.out; omega)
        rw [e1]; rfl
      generalize (l.take j).filter (upP any r) = m at *
      go_wp2_with fail
      go_ret
      exact ⟨_, rfl, by rw [E.out]; exact HS.out⟩
set_option maxHeartbeats 4000000 in
theorem refRange (l : List Ent) (f t : List Val) (va vb vc : Value) (w : World) (hn : l.length ≤ 65536) (ha : EntsIs w va l) (hb : RowIs w vb f) (hc : RowIs w vc t) :
    Calls Try.prog 17 #[va, vb, vc] w fun e w' => ∃ v, e = .returned v ∧ SelTo w (range f t l) v w' := by
  obtain ⟨vs, ha1, hr⟩ := ha
  obtain ⟨a0, cap, rfl⟩ := ha1.form
  obtain ⟨b0, cap', rfl⟩ := hb.form
  obtain ⟨c0, cap'', rfl⟩ := hc.form
  have HVL : Hid (vs.length = l.length) := hr.1
  have Ha : Hid (EntsAt w (.slice a0 vs.length cap) vs) := ha1
  have Hr : Hid (Reads w vs l) := hr
  have Hb : Hid (RowIs w (.slice b0 f.length cap') f) := hb
  have Hc : Hid (RowIs w (.slice c0 t.length cap'') t) := hc
  clear ha1 hr hb hc
  go_enter Try.func17, Try.ntmps17
  go_wp2_with fail
  go_loopw [7, 8] (fun v i wr => ∃ j : Nat, j ≤ vs.length ∧ i = .int .i64 j ∧ SelBy (rgP f t) l w j v wr) (fun _ i _ => vs.length - (intOf i).toNat)
  case atStart => exact ⟨0, by omega, rfl, SelTo.nil w⟩
  case round =>
    obtain ⟨j, hj, rfl, hS⟩ := hrel
    obtain ⟨av, cv, rfl⟩ := hS.form
    have hfl := filter_len (rgP f t) l j hn
    have HS : Hid (SelTo w ((l.take j).filter (rgP f t)) (.slice av ((l.take j).filter (rgP f t)).length cv) wr) := hS
    clear hS
    by_cases k1 : j < vs.length
    · have k2 : j < l.length := by have := HVL.out; omega
      have I1 : (j : Int) < (vs.length : Int) := by omega
      obtain ⟨b, o, rfl, x1, x2, _⟩ := (Ha.out.on HS.out.2).at j k1
      obtain ⟨r1, r2⟩ := Hr.out.2 j k1 k2
      obtain ⟨am, cm, em⟩ := r1.form
      rw [em] at x1 r1
      rw [r2] at x2
      have HR : Hid (RowIs w (.slice am l[j].1.length cm) l[j].1) := r1
      have HF : Hid ((l.take (j + 1)).filter (rgP f t) = (l.take j).filter (rgP f t) ++ (if rgP f t l[j] then [l[j]] else [])) := filter_snoc k2
      have HG : Hid (rgP f t l[j] = true → SelTo w ((l.take j).filter (rgP f t) ++ [(l[j].1, l[j].2)]) = SelBy (rgP f t) l w (j + 1)) := fun h => by
        unfold SelBy
        rw [HF.out, if_pos h]
      have HN : Hid (rgP f t l[j] = false → SelTo w ((l.take j).filter (rgP f t)) = SelBy (rgP f t) l w (j + 1)) := fun h => by
        unfold SelBy
        rw [HF.out, if_neg (by rw [h]; decide), List.append_nil]
      have q1 : Hid (Calls Try.prog 21 #[.slice am l[j].1.length cm, .slice b0 f.length cap'] wr fun e w'' => e = .returned (.int .i64 (cR l[j].1 f)) ∧ Below wr.heap.size wr w'') := refCompareRows _ _ _ _ wr (r1.on HS.out.2) (Hb.out.on HS.out.2)
      have q2 : Hid (∀ W, Below wr.heap.size wr W → Calls Try.prog 21 #[.slice am l[j].1.length cm, .slice c0 t.length cap''] W fun e w'' => e = .returned (.int .i64 (cR l[j].1 t)) ∧ Below W.heap.size W w'') := fun W hW => refCompareRows _ _ _ _ W ((r1.on HS.out.2).on hW) ((Hc.out.on HS.out.2).on hW)
      have HP : Hid (rgP f t l[j] = (decide (0 ≤ cR l[j].1 f) && decide (cR l[j].1 t < 0))) := rfl
      generalize rgP f t l[j] = pj at *
      generalize (l.take j).filter (rgP f t) = m at *
      generalize cR l[j].1 f = c at *
      generalize cR l[j].1 t = d at *
      generalize l[j].1 = rj at *
      generalize l[j].2 = kj at *
      generalize hnl : rj.length = nl at *
      clear r1 r2 em HF
      by_cases hc : 0 ≤ c
      · by_cases hd : d < 0
        · have HB2 : Hid (SelTo w (m ++ [(rj, kj)]) = SelBy (rgP f t) l w (j + 1)) := HG.out (by rw [HP.out]; simp [hc, hd])
          clear HG HN HP
          go_wp2_with fail
          refine q1.out.mono ?_
          rintro e w2 ⟨rfl, hb2⟩
          have y1 := cell_on x1 hb2
          have B2 : Hid (Below wr.heap.size wr w2) := hb2
          clear hb2 q1
          go_wp2_with fail
          refine (q2.out _ B2.out).mono ?_
          rintro e w3 ⟨rfl, hb3⟩
          have B3 : Hid (Below wr.heap.size wr w3) := B2.out.trans (hb3.mono B2.out.size)
          have z1 := cell_on x1 B3.out
          have z2 := cell_on x2 B3.out
          have HS2 : Hid (SelTo w m (.slice av m.length cv) w3) := HS.out.on B3.out
          clear hb3 q2 x1 x2 y1 B2 B3
          go_wp2_with (first | (at_builtin; refine wpList_append_sel rfl _ _ rfl rfl HS2.out hfl HR.out kj rfl ?_; intro v3 w4 hs3; rw [HB2.out] at hs3; have H3 : Hid (SelBy (rgP f t) l w (j + 1) v3 w4) := hs3; clear hs3) | fail)
          go_roundw
          case rel => exact ⟨j + 1, by omega, by go_num, H3.out⟩
          case measure => simp [intOf]; omega
        · have HB2 : Hid (SelTo w m = SelBy (rgP f t) l w (j + 1)) := HN.out (by rw [HP.out]; simp [hc, hd])
          have hd' : 0 ≤ d := by omega
          clear HG HN HP
          go_wp2_with fail
          refine q1.out.mono ?_
          rintro e w2 ⟨rfl, hb2⟩
          have y1 := cell_on x1 hb2
          have B2 : Hid (Below wr.heap.size wr w2) := hb2
          clear hb2 q1
          go_wp2_with fail
          refine (q2.out _ B2.out).mono ?_
          rintro e w3 ⟨rfl, hb3⟩
          have HS2 : Hid (SelBy (rgP f t) l w (j + 1) (.slice av m.length cv) w3) := by
            have := (HS.out.on B2.out).on hb3
            rw [HB2.out] at this; exact this
          clear hb3 q2 x1 x2 y1 B2
          go_wp2_with fail
          go_roundw
          case rel => exact ⟨j + 1, by omega, by go_num, HS2.out⟩
          case measure => simp [intOf]; omega
      · have HB2 : Hid (SelTo w m = SelBy (rgP f t) l w (j + 1)) := HN.out (by rw [HP.out]; simp [hc])
        have hc' : c < 0 := by omega
        clear HG HN HP q2
        go_wp2_with fail
        refine q1.out.mono ?_
        rintro e w2 ⟨rfl, hb2⟩
        have HS2 : Hid (SelBy (rgP f t) l w (j + 1) (.slice av m.length cv) w2) := by
          have := HS.out.on hb2
          rw [HB2.out] at this; exact this
        clear hb2 q1 x1 x2
        go_wp2_with fail
        go_roundw
        case rel => exact ⟨j + 1, by omega, by go_num, HS2.out⟩
        case measure => simp [intOf]; omega
    · have I1 : ¬ (j : Int) < (vs.length : Int) := by omega
      have E : Hid (range f t l = (l.take j).filter (rgP f t)) := by
        show _ = _
        have e1 : l.take j = l := List.take_of_length_le (by have := HVL.out; omega)
        rw [e1]; rfl
      generalize (l.take j).filter (rgP f t) = m at *
      go_wp2_with fail
      go_ret
      exact ⟨_, rfl, by rw [E.out]; exact HS.out⟩
set_option maxHeartbeats 1000000 in
theorem refCount (l : List Ent) (r : List Val) (va vb : Value) (any : Bool) (w : World) (hn : l.length ≤ 65536) (ha : EntsIs w va l) (hb : RowIs w vb r) :
    Calls Try.prog 19 #[va, vb, .bool any] w fun e w' => e = .returned (.int .i64 (l.filter (afP any r)).length) ∧ Below w.heap.size w w' := by
  have q := refAfter l r va vb any (l.length : Int) w hn ha hb
  obtain ⟨a0, cap, rfl⟩ := ha.form
  have E : Hid ((after any r l (l.length : Int)).length = (l.filter (afP any r)).length) := by
    show _ = _
    unfold after
    have := List.length_filter_le (afP any r) l
    rw [List.length_take]; omega
  clear ha hb
  go_enter Try.func19, Try.ntmps19
  go_wp2_with fail
  refine q.mono ?_
  rintro e w1 ⟨v, rfl, h1⟩
  obtain ⟨av, cv, rfl⟩ := h1.form
  have H1 : Hid (Below w.heap.size w w1) := h1.2
  rw [E.out]
  clear q h1
  go_wp2_with fail
  go_ret
  exact ⟨rfl, H1.out⟩
end Go.Proofs.Ytjpgnohhgkalbaa
