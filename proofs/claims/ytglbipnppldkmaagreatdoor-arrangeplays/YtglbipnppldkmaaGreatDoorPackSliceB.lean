/- Texts of one claim, one behind the other. -/
import Derived.Test.YtglbipnppldkmaaGreatDoorZRefB
import Derived.Test.YtglbipnppldkmaaGreatDoorPackNegB
import Derived.Test.YtglbipnppldkmaaGreatDoorPackSetsB
import Derived.Test.YtglbipnppldkmaaGreatDoorRowCmpB
import Derived.Test.YtglbipnppldkmaaGreatDoorPackPutB
import Derived.Test.YtglbipnppldkmaaGreatDoorRowStoreB
/- What the document's own After, Upto, Range and Count answer of entries in memory. -/
namespace Go.Proofs.YtglbipnppldkmaaGreatDoor
open Go.RowKit Go.Sort
set_option maxRecDepth 100000

/-- Chosen ones of entries that came in: a list of the call's own, its rows those. -/
def SelTo (w : World) (m : List Ent) (v : Value) (W : World) : Prop := EntsN w.heap.size w m v W ∧ Below w.heap.size w W
theorem SelTo.nil (w : World) : SelTo w [] (.slice none 0 0) w := ⟨⟨[], World.ownsRow_nil _ _ _ _, Reads.nil w⟩, Below.refl _ _⟩
theorem SelTo.on {w : World} {m : List Ent} {v : Value} {W W' : World} (h : SelTo w m v W) (hb : Below W.heap.size W W') : SelTo w m v W' := by
  obtain ⟨⟨us, h1, h2⟩, h3⟩ := h
  exact ⟨⟨us, own_on h1 hb, h2⟩, h3.trans (hb.mono h3.size)⟩
theorem SelTo.ents {w : World} {m : List Ent} {v : Value} {W : World} (h : SelTo w m v W) : EntsIs W v m := by
  obtain ⟨⟨us, h1, h2⟩, h3⟩ := h
  exact ⟨us, EntsAt.of_own h1, h2.on h3⟩
theorem SelTo.form {w : World} {m : List Ent} {v : Value} {W : World} (h : SelTo w m v W) : ∃ a cap, v = .slice a m.length cap := h.ents.form
theorem wpList_append_sel {ops : Array Oper} {rest : List Oper} {op : Oper} {a : Act} {w W : World} {Q : Exit → Act → World → Prop} (hgd : op.guard = none) (s x : Operand)
    (ho : op.op = .call { callee := .builtin .append, args := #[s, x], argTypes := #[29, 29] }) {m : List Ent} {v : Value} (hs : a.eval s = v) (hsel : SelTo w m v W) (hm : m.length ≤ 65536) {vr : Value} {r : List Val} (hr : RowIs w vr r) (k : Int)
    (hx : a.eval x = .slice (some ⟨W.heap.size, 0, none⟩) 1 1) (h : ∀ v' w', SelTo w (m ++ [(r, k)]) v' w' → wpList Tryz.prog ops Q rest (a.put op.dst v') w') :
    wpList Tryz.prog ops Q (op :: rest) a (W.alloc (.cells #[vr, .int .i64 k] 37)) := by
  obtain ⟨i0, hi, hz0, hz1, hz2⟩ := info_parts info_entry
  obtain ⟨⟨us, h1, h2⟩, h3⟩ := hsel
  have hz := h3.size
  have hul : us.length ≤ 65536 := by rw [h2.1]; exact hm
  obtain ⟨ar, cr, er⟩ := hr.form
  have hvr : vr.oneCell' = true := by rw [er]; rfl
  refine wpList_append_own _ hgd s x 29 ho w.heap.size 37 i0 (.agg #[.slice none 0 0, .int .i64 0]) 2 32 Tryz.underlying29 hi hz0 hz1 hz2 rfl (by decide) v us.length _ hs (own_on h1 one_box) ⟨W.heap.size, 0, none⟩ 1 1 (ec (vr, k)) hx rfl (cell_two_new _ _ _ _) (by intro u hu; simp only [ec, List.mem_cons, List.not_mem_nil, or_false] at hu; rcases hu with rfl | rfl; exact hvr; rfl) (by unfold maxLen; omega) (by omega) (by simp; omega) ?_
  intro v' w' g1 g2 _
  refine h v' w' ⟨⟨us ++ [(vr, k)], ?_, h2.snoc hr k⟩, ?_⟩
  · rw [es_snoc, List.length_append]; exact g1
  · exact (h3.alloc hz _).grown g2 (by simp; omega) (fun k e => (h1.lt k e).1)
theorem filter_snoc {p : Ent → Bool} {l : List Ent} {j : Nat} (h : j < l.length) : (l.take (j + 1)).filter p = (l.take j).filter p ++ (if p l[j] then [l[j]] else []) := by
  rw [List.take_succ_eq_append_getElem h, List.filter_append]
  by_cases hp : p l[j] = true
  · rw [if_pos hp, List.filter_cons_of_pos hp]; rfl
  · rw [if_neg hp, List.filter_cons_of_neg hp]; rfl
theorem filter_pre (p : Ent → Bool) (l : List Ent) (j : Nat) : l.filter p = (l.take j).filter p ++ (l.drop j).filter p := by rw [← List.filter_append, List.take_append_drop]
theorem filter_len (p : Ent → Bool) (l : List Ent) (j : Nat) (h : l.length ≤ 65536) : ((l.take j).filter p).length ≤ 65536 := by
  have h1 := List.length_filter_le p (l.take j)
  have h2 := List.length_take_le' j l
  omega
/-- Those behind a row; those up to it; those between two. -/
def afP (any : Bool) (r : List Val) (e : Ent) : Bool := !any || decide (0 < cR e.1 r)
def upP (any : Bool) (r : List Val) (e : Ent) : Bool := any && decide (cR e.1 r ≤ 0)
def rgP (f t : List Val) (e : Ent) : Bool := decide (0 ≤ cR e.1 f) && decide (cR e.1 t < 0)
def after (any : Bool) (r : List Val) (l : List Ent) (n : Int) : List Ent := (l.filter (afP any r)).take n.toNat
def upto (any : Bool) (r : List Val) (l : List Ent) : List Ent := l.filter (upP any r)
def range (f t : List Val) (l : List Ent) : List Ent := l.filter (rgP f t)
def SelBy (p : Ent → Bool) (l : List Ent) (w : World) (j : Nat) (v : Value) (W : World) : Prop := SelTo w ((l.take j).filter p) v W
set_option maxHeartbeats 4000000 in
theorem refAfter (l : List Ent) (r : List Val) (va vb : Value) (any : Bool) (n : Int) (w : World) (hn : l.length ≤ 65536) (ha : EntsIs w va l) (hb : RowIs w vb r) :
    Calls Tryz.prog 20 #[va, vb, .bool any, .int .i64 n] w fun e w' => ∃ v, e = .returned v ∧ SelTo w (after any r l n) v w' := by
  obtain ⟨vs, ha1, hr⟩ := ha
  obtain ⟨a0, cap, rfl⟩ := ha1.form
  obtain ⟨b0, cap', rfl⟩ := hb.form
  have HVL : Hid (vs.length = l.length) := hr.1
  have Ha : Hid (EntsAt w (.slice a0 vs.length cap) vs) := ha1
  have Hr : Hid (Reads w vs l) := hr
  have Hb : Hid (RowIs w (.slice b0 r.length cap') r) := hb
  clear ha1 hr hb
  go_enter Tryz.func20, Tryz.ntmps20
  go_wp2_with fail
  go_loopw [9, 10] (fun v i wr => ∃ j : Nat, j ≤ vs.length ∧ i = .int .i64 j ∧ SelBy (afP any r) l w j v wr ∧ Hid (((l.take j).filter (afP any r)).length ≤ n.toNat)) (fun _ i _ => vs.length - (intOf i).toNat)
  case atStart => exact ⟨0, by omega, rfl, SelTo.nil w, by show _ ≤ _; simp⟩
  case round =>
    obtain ⟨j, hj, rfl, hS, hL⟩ := hrel
    obtain ⟨av, cv, rfl⟩ := hS.form
    have hfl := filter_len (afP any r) l j hn
    have HS : Hid (SelTo w ((l.take j).filter (afP any r)) (.slice av ((l.take j).filter (afP any r)).length cv) wr) := hS
    clear hS
    by_cases k1 : j < vs.length
    · have k2 : j < l.length := by have := HVL.out; omega
      have I1 : (j : Int) < (vs.length : Int) := by omega
      by_cases k3 : (((l.take j).filter (afP any r)).length : Int) < n
      · obtain ⟨b, o, rfl, x1, x2, _⟩ := (Ha.out.on HS.out.2).at j k1
        obtain ⟨r1, r2⟩ := Hr.out.2 j k1 k2
        obtain ⟨am, cm, em⟩ := r1.form
        rw [em] at x1 r1
        rw [r2] at x2
        have HR : Hid (RowIs w (.slice am l[j].1.length cm) l[j].1) := r1
        have HF : Hid ((l.take (j + 1)).filter (afP any r) = (l.take j).filter (afP any r) ++ (if afP any r l[j] then [l[j]] else [])) := filter_snoc k2
        have hfl' : ((l.take j).filter (afP any r)).length + 1 ≤ n.toNat := by omega
        have HG : Hid (afP any r l[j] = true → SelTo w ((l.take j).filter (afP any r) ++ [(l[j].1, l[j].2)]) = SelBy (afP any r) l w (j + 1) ∧ ((l.take (j + 1)).filter (afP any r)).length ≤ n.toNat) := fun h => by
          unfold SelBy
          rw [HF.out, if_pos h]
          exact ⟨rfl, by rw [List.length_append]; exact hfl'⟩
        have HN : Hid (afP any r l[j] = false → SelTo w ((l.take j).filter (afP any r)) = SelBy (afP any r) l w (j + 1) ∧ ((l.take (j + 1)).filter (afP any r)).length ≤ n.toNat) := fun h => by
          unfold SelBy
          rw [HF.out, if_neg (by rw [h]; decide), List.append_nil]
          exact ⟨rfl, by omega⟩
        have q : Hid (Calls Tryz.prog 36 #[.slice am l[j].1.length cm, .slice b0 r.length cap'] wr fun e w'' => e = .returned (.int .i64 (cR l[j].1 r)) ∧ Below wr.heap.size wr w'') := refCompareRows _ _ _ _ wr (r1.on HS.out.2) (Hb.out.on HS.out.2)
        have HP : Hid (afP any r l[j] = (!any || decide (0 < cR l[j].1 r))) := rfl
        generalize afP any r l[j] = pj at *
        generalize (l.take j).filter (afP any r) = m at *
        generalize cR l[j].1 r = c at *
        generalize l[j].1 = rj at *
        generalize l[j].2 = kj at *
        generalize hnl : rj.length = nl at *
        clear r1 r2 em HF
        cases any
        · have HB2 : Hid (SelTo w (m ++ [(rj, kj)]) = SelBy (afP false r) l w (j + 1) ∧ ((l.take (j + 1)).filter (afP false r)).length ≤ n.toNat) := HG.out (by rw [HP.out]; rfl)
          clear HG HN HP q
          go_wp2_with (first | (at_builtin; refine wpList_append_sel rfl _ _ rfl rfl HS.out hfl HR.out kj rfl ?_; intro v3 w3 hs3; rw [HB2.out.1] at hs3; have H3 : Hid (SelBy (afP false r) l w (j + 1) v3 w3) := hs3; clear hs3) | fail)
          go_roundw
          case rel => exact ⟨j + 1, by omega, by go_num, H3.out, HB2.out.2⟩
          case measure => simp [intOf]; omega
        · by_cases hc : 0 < c
          · have HB2 : Hid (SelTo w (m ++ [(rj, kj)]) = SelBy (afP true r) l w (j + 1) ∧ ((l.take (j + 1)).filter (afP true r)).length ≤ n.toNat) := HG.out (by rw [HP.out]; simp [hc])
            clear HG HN HP
            go_wp2_with fail
            refine q.out.mono ?_
            rintro e w2 ⟨rfl, hb2⟩
            have y1 := cell_on x1 hb2
            have y2 := cell_on x2 hb2
            have HS2 : Hid (SelTo w m (.slice av m.length cv) w2) := HS.out.on hb2
            clear hb2 q x1 x2
            go_wp2_with (first | (at_builtin; refine wpList_append_sel rfl _ _ rfl rfl HS2.out hfl HR.out kj rfl ?_; intro v3 w3 hs3; rw [HB2.out.1] at hs3; have H3 : Hid (SelBy (afP true r) l w (j + 1) v3 w3) := hs3; clear hs3) | fail)
            go_roundw
            case rel => exact ⟨j + 1, by omega, by go_num, H3.out, HB2.out.2⟩
            case measure => simp [intOf]; omega
          · have HB2 : Hid (SelTo w m = SelBy (afP true r) l w (j + 1) ∧ ((l.take (j + 1)).filter (afP true r)).length ≤ n.toNat) := HN.out (by rw [HP.out]; simp [hc])
            have hc' : c ≤ 0 := by omega
            clear HG HN HP
            go_wp2_with fail
            refine q.out.mono ?_
            rintro e w2 ⟨rfl, hb2⟩
            have HS2 : Hid (SelBy (afP true r) l w (j + 1) (.slice av m.length cv) w2) := by
              have := HS.out.on hb2
              rw [HB2.out.1] at this; exact this
            clear hb2 q x1 x2
            go_wp2_with fail
            go_roundw
            case rel => exact ⟨j + 1, by omega, by go_num, HS2.out, HB2.out.2⟩
            case measure => simp [intOf]; omega
      · have E : Hid (after any r l n = (l.take j).filter (afP any r)) := by
          show _ = _
          unfold after
          have hlen : n.toNat = ((l.take j).filter (afP any r)).length := by have := hL.out; omega
          rw [filter_pre (afP any r) l j, hlen, List.take_left]
        have k3' : n ≤ (((l.take j).filter (afP any r)).length : Int) := by omega
        clear hL
        generalize (l.take j).filter (afP any r) = m at *
        go_wp2_with fail
        go_ret
        exact ⟨_, rfl, by rw [E.out]; exact HS.out⟩
    · have I1 : ¬ (j : Int) < (vs.length : Int) := by omega
      have E : Hid (after any r l n = (l.take j).filter (afP any r)) := by
        show _ = _
        have e1 : l.take j = l := List.take_of_length_le (by have := HVL.out; omega)
        have hL' := hL.out
        unfold after
        rw [e1] at hL' ⊢
        exact List.take_of_length_le hL'
      clear hL
      generalize (l.take j).filter (afP any r) = m at *
      go_wp2_with fail
      go_ret
      exact ⟨_, rfl, by rw [E.out]; exact HS.out⟩
end Go.Proofs.YtglbipnppldkmaaGreatDoor
/- What the library's sort.Search answers with a closure of two captured boxes. -/
namespace Go.Proofs.YtglbipnppldkmaaGreatDoor
open Go.RowKit Go.Sort
set_option maxRecDepth 100000
/-- Where a search ends: how many places are still false. -/
def Ends (p : Nat → Bool) (n : Nat) (w : World) (e : Ending) (w' : World) : Prop := ∃ k : Nat, e = .returned (.int .i64 k) ∧ k ≤ n ∧ (∀ t, t < k → p t = false) ∧ (∀ t, t < n → k ≤ t → p t = true) ∧ Below w.heap.size w w'
set_option maxHeartbeats 4000000 in
theorem search (g : Nat) (c0 c1 : Value) (n : Nat) (p : Nat → Bool) (w : World) (hn : n ≤ 65536) (eg : ∀ args w, (callFunc g args).run Tryz.prog w = .ok (.enter g args) w)
    (hf : ∀ W, Below w.heap.size w W → ∀ i : Nat, i < n → Calls Tryz.prog g #[.int .i64 i, c0, c1] W fun e w' => e = .returned (.bool (p i)) ∧ Below W.heap.size W w')
    (hm : ∀ a b, a ≤ b → b < n → p a = true → p b = true) :
    Calls Tryz.prog 90 #[.int .i64 n, .func (.func g) #[] #[c0, c1]] w fun e w' => Ends p n w e w' := by
  have HF : Hid (∀ W, Below w.heap.size w W → ∀ i : Nat, i < n → Calls Tryz.prog g #[.int .i64 i, c0, c1] W fun e w' => e = .returned (.bool (p i)) ∧ Below W.heap.size W w') := hf
  have HM : Hid (∀ a b, a ≤ b → b < n → p a = true → p b = true) := hm
  clear hf hm
  go_enter Tryz.func90, Tryz.ntmps90
  go_wp2_with fail
  go_loopw [5, 6] (fun s5 s6 wr => ∃ lo hi : Nat, s5 = .int .i64 lo ∧ s6 = .int .i64 hi ∧ lo ≤ hi ∧ hi ≤ n ∧ Hid (∀ t, t < lo → p t = false) ∧ Hid (∀ t, t < n → hi ≤ t → p t = true) ∧ Below w.heap.size w wr) (fun s5 s6 _ => (intOf s6).toNat - (intOf s5).toNat)
  case atStart => exact ⟨0, n, rfl, rfl, Nat.zero_le _, Nat.le_refl _, fun t h => by omega, fun t _ h => by omega, Below.refl _ _⟩
  case round =>
    obtain ⟨lo, hi, rfl, rfl, h1, h2, hL, hH, hB⟩ := hrel
    by_cases hlt : lo < hi
    · obtain ⟨k, hk⟩ : ∃ k : Nat, k = (lo + hi) / 2 := ⟨_, rfl⟩
      have hk1 : k < n := by omega
      have I1 : (lo : Int) < (hi : Int) := by omega
      have E1 : Hid (((lo : Int) + (hi : Int)) / 2 = (k : Int) ∧ lo ≤ k ∧ k < hi) := ⟨by omega, by omega, by omega⟩
      have q : Hid (Calls Tryz.prog g #[.int .i64 (((lo : Int) + (hi : Int)) / 2), c0, c1] wr fun e w' => e = .returned (.bool (p k)) ∧ Below wr.heap.size wr w') := by rw [E1.out.1]; exact HF.out wr hB k hk1
      have HS : Hid (p k = false → ∀ t, t < k + 1 → p t = false) := fun h t ht => by
        cases hp : p t with
        | false => rfl
        | true => have := HM.out t k (by omega) hk1 hp; rw [h] at this; cases this
      have HG : Hid (p k = true → ∀ t, t < n → k ≤ t → p t = true) := fun h t ht htk => HM.out k t htk ht h
      clear hk hk1
      generalize p k = c at *
      go_wp2_with fail
      refine q.out.mono ?_
      rintro e w1 ⟨rfl, hb1⟩
      have hB1 : Hid (Below w.heap.size w w1) := hB.trans (hb1.mono hB.size)
      clear hb1 q
      cases c
      · have F : Hid (∀ t, t < k + 1 → p t = false) := HS.out rfl
        clear HS HG hL
        go_wp2_with fail
        go_roundw
        case rel => exact ⟨k + 1, hi, by rw [E1.out.1]; rfl, rfl, by have := E1.out.2; omega, h2, F.out, hH.out, hB1.out⟩
        case measure => rw [E1.out.1]; have := E1.out.2; simp only [intOf]; omega
      · have F : Hid (∀ t, t < n → k ≤ t → p t = true) := HG.out rfl
        clear HS HG hH
        go_wp2_with fail
        go_roundw
        case rel => exact ⟨lo, k, rfl, by rw [E1.out.1], by have := E1.out.2; omega, by have := E1.out.2; omega, hL.out, F.out, hB1.out⟩
        case measure => rw [E1.out.1]; have := E1.out.2; simp only [intOf]; omega
    · obtain rfl : lo = hi := by omega
      have I0 : ¬ (lo : Int) < (lo : Int) := by omega
      clear hlt
      go_wp2_with fail
      go_ret
      exact ⟨lo, rfl, h2, hL.out, hH.out, hB⟩
/-- What a closure over a list and a row is handed. -/
def Boxed (w : World) (b c : Nat) (va vb : Value) : Prop := w.cell? ⟨b, 0, none⟩ = some va ∧ w.cell? ⟨c, 0, none⟩ = some vb
theorem Boxed.on {w w' : World} {b c : Nat} {va vb : Value} (h : Boxed w b c va vb) (hb : Below w.heap.size w w') : Boxed w' b c va vb := ⟨cell_on h.1 hb, cell_on h.2 hb⟩
theorem split_at {l : List Ent} {P : Ent → Bool} {k : Nat} (h1 : ∀ t (h : t < l.length), t < k → P l[t] = false) (h2 : ∀ t (h : t < l.length), k ≤ t → P l[t] = true) : l.filter P = l.drop k ∧ l.filter (fun e => !P e) = l.take k := by
  have a1 : (l.take k).filter P = [] := List.filter_eq_nil_iff.2 (fun x hx => by
    obtain ⟨i, hi, rfl⟩ := List.getElem_of_mem hx
    rw [List.length_take] at hi
    rw [List.getElem_take, h1 i (by omega) (by omega)]; decide)
  have a2 : (l.drop k).filter P = l.drop k := List.filter_eq_self.2 (fun x hx => by
    obtain ⟨i, hi, rfl⟩ := List.getElem_of_mem hx
    rw [List.length_drop] at hi
    rw [List.getElem_drop]; exact h2 _ (by omega) (by omega))
  have b1 : (l.take k).filter (fun e => !P e) = l.take k := List.filter_eq_self.2 (fun x hx => by
    obtain ⟨i, hi, rfl⟩ := List.getElem_of_mem hx
    rw [List.length_take] at hi
    rw [List.getElem_take, h1 i (by omega) (by omega)]; rfl)
  have b2 : (l.drop k).filter (fun e => !P e) = [] := List.filter_eq_nil_iff.2 (fun x hx => by
    obtain ⟨i, hi, rfl⟩ := List.getElem_of_mem hx
    rw [List.length_drop] at hi
    rw [List.getElem_drop, h2 _ (by omega) (by omega)]; decide)
  constructor
  · conv => lhs; rw [← List.take_append_drop k l]
    rw [List.filter_append, a1, a2]; rfl
  · conv => lhs; rw [← List.take_append_drop k l]
    rw [List.filter_append, b1, b2, List.append_nil]
theorem z_after {l : List Ent} (h : SortedZ l) {r : List Val} {a b : Nat} (hab : a ≤ b) (hb : b < l.length) (hc : 0 < cR (l[a]'(by omega)).1 r) : 0 < cR l[b].1 r := by
  rcases Nat.lt_or_eq_of_le hab with hlt | rfl
  · have h1 := List.pairwise_iff_getElem.1 h a b (by omega) hb hlt
    have h3 := cR_anti (l[a]'(by omega)).1 r
    have h5 := cR_anti (l[a]'(by omega)).1 l[b].1
    by_cases hh : 0 < cR l[b].1 r
    · exact hh
    · have := cR_trans l[b].1 r (l[a]'(by omega)).1 (by omega) (by omega)
      omega
  · exact hc
theorem z_from {l : List Ent} (h : SortedZ l) {r : List Val} {a b : Nat} (hab : a ≤ b) (hb : b < l.length) (hc : 0 ≤ cR (l[a]'(by omega)).1 r) : 0 ≤ cR l[b].1 r := by
  rcases Nat.lt_or_eq_of_le hab with hlt | rfl
  · have h1 := List.pairwise_iff_getElem.1 h a b (by omega) hb hlt
    by_cases hh : 0 ≤ cR l[b].1 r
    · exact hh
    · have := cR_lt_trans h1 (show cR l[b].1 r < 0 by omega)
      omega
  · exact hc
/-- Boxes of a list and a row, new. -/
theorem boxed_new (w : World) (va vb : Value) : Boxed ((w.alloc (.cells #[va] 29)).alloc (.cells #[vb] 33)) w.heap.size (w.heap.size + 1) va vb := by
  constructor
  · exact cell_on (by rw [World.cell?_alloc_at _ _ _ _ (by simp)]; rfl) one_box
  · rw [World.cell?_alloc_at _ _ _ _ (by simp)]; rfl
end Go.Proofs.YtglbipnppldkmaaGreatDoor
/- What slice's searches answer. -/
namespace Go.Proofs.YtglbipnppldkmaaGreatDoor
open Go.RowKit Go.Sort
set_option maxRecDepth 100000
set_option maxHeartbeats 1000000 in
theorem uptoFn (l : List Ent) (r : List Val) (va vb : Value) (b c : Nat) (i : Nat) (hi : i < l.length) (w : World) (ha : EntsIs w va l) (hb : RowIs w vb r) (hx : Boxed w b c va vb) :
    Calls Tryz.prog 91 #[.int .i64 i, .pointer (some ⟨b, 0, none⟩), .pointer (some ⟨c, 0, none⟩)] w fun e w' => e = .returned (.bool (decide (0 < cR l[i].1 r))) ∧ Below w.heap.size w w' := by
  obtain ⟨a0, cap, rfl⟩ := ha.form
  obtain ⟨b0, cap', rfl⟩ := hb.form
  obtain ⟨b1, o1, a1, c1, rfl, x1, x2, x3⟩ := ha.at i hi
  obtain ⟨y1, y2⟩ := hx
  have I1 : (i : Int) < (l.length : Int) := by omega
  have q : Hid (∀ d os, Calls Tryz.prog 44 #[.slice a1 l[i].1.length c1, .slice b0 r.length cap'] (grow (redrawn w d) os) fun e w'' => e = .returned (.int .i64 (cR l[i].1 r)) ∧ ∃ p : Regrown, w'' = grow (redrawn w p.d) p.os) :=
    fun d os => Calls.regrown_of (rowCompare l[i].1 r _ _ _ (x3.on (below_regrown w d os)) (hb.on (below_regrown w d os)))
  have g1 := fun d os => cell_regrown x1 d os
  have g2 := fun d os => cell_regrown y1 d os
  have g3 := fun d os => cell_regrown y2 d os
  clear ha hb x3 x2
  generalize cR l[i].1 r = s at *
  generalize l[i].1.length = n1 at *
  generalize l[i].2 = i1 at *
  go_enter Tryz.func91, Tryz.ntmps91
  go_wp2_with fail
  refine wp_region_quiet_below (by kernel_rfl) (by kernel_rfl) ?_
  iterate 9 (quiet_step (exact q.out _ _))
  refine wpQuiet_nil ?_
  intro w6 hw6
  obtain ⟨p6, hw6⟩ := hw6
  have hb6 : Hid (Below w.heap.size w w6) := by rw [hw6]; exact below_regrown w _ _
  clear hw6 g1 g2 g3 q x1 y1 y2
  go_wp2_with fail
  go_ret
  exact ⟨rfl, hb6.out⟩
set_option maxHeartbeats 1000000 in
theorem slUptoT (l : List Ent) (r : List Val) (va vb : Value) (w : World) (hn : l.length ≤ 65536) (hl : SortedZ l) (ha : EntsIs w va l) (hb : RowIs w vb r) :
    Calls Tryz.prog 62 #[va, vb, .bool true] w fun e w' => ∃ k : Nat, e = .returned (.int .i64 k) ∧ k ≤ l.length ∧ l.filter (fun e => decide (0 < cR e.1 r)) = l.drop k ∧ l.filter (fun e => !decide (0 < cR e.1 r)) = l.take k ∧ Below w.heap.size w w' := by
  have hq : ∀ W, Below w.heap.size w W → Boxed W w.heap.size (w.heap.size + 1) va vb → Calls Tryz.prog 90 #[.int .i64 l.length, .func (.func 91) #[] #[.pointer (some ⟨w.heap.size, 0, none⟩), .pointer (some ⟨w.heap.size + 1, 0, none⟩)]] W fun e w' => Ends (fun i => decide (0 < cR (l.getD i ([], 0)).1 r)) l.length W e w' := by
    intro W hW hX
    refine search _ _ _ l.length _ W hn (enters_of Tryz.func91 (by kernel_rfl) rfl) (fun V hV i hi => ?_) (fun a b hab hb' h => ?_)
    · have e : l.getD i ([], 0) = l[i] := by rw [List.getD_eq_getElem?_getD, List.getElem?_eq_getElem hi]; rfl
      rw [e]
      exact uptoFn l r va vb _ _ i hi V ((ha.on hW).on hV) ((hb.on hW).on hV) (hX.on hV)
    · have e1 : l.getD a ([], 0) = l[a]'(by omega) := by rw [List.getD_eq_getElem?_getD, List.getElem?_eq_getElem (by omega)]; rfl
      have e2 : l.getD b ([], 0) = l[b] := by rw [List.getD_eq_getElem?_getD, List.getElem?_eq_getElem hb']; rfl
      rw [e1] at h
      rw [e2]
      exact decide_eq_true (z_after hl hab hb' (of_decide_eq_true h))
  have q : Hid (Calls Tryz.prog 90 #[.int .i64 l.length, .func (.func 91) #[] #[.pointer (some ⟨w.heap.size, 0, none⟩), .pointer (some ⟨w.heap.size + 1, 0, none⟩)]] ((w.alloc (.cells #[va] 29)).alloc (.cells #[vb] 33)) fun e w' => Ends (fun i => decide (0 < cR (l.getD i ([], 0)).1 r)) l.length ((w.alloc (.cells #[va] 29)).alloc (.cells #[vb] 33)) e w') := hq _ below_two (boxed_new w va vb)
  clear hq
  obtain ⟨a0, cap, rfl⟩ := ha.form
  obtain ⟨b0, cap', rfl⟩ := hb.form
  clear ha hb
  go_enter Tryz.func62, Tryz.ntmps62
  go_wp2_with fail
  refine q.out.mono ?_
  rintro e w1 ⟨k, rfl, h1, h2, h3, h4⟩
  have hB : Hid (Below w.heap.size w w1) := below_two.trans (h4.mono (by simp; omega))
  have hS := split_at (l := l) (P := fun e => decide (0 < cR e.1 r)) (k := k) (fun t h ht => by have := h2 t ht; dsimp only at this; rw [List.getD_eq_getElem?_getD, List.getElem?_eq_getElem h] at this; exact this) (fun t h ht => by have := h3 t h ht; dsimp only at this; rw [List.getD_eq_getElem?_getD, List.getElem?_eq_getElem h] at this; exact this)
  have HS : Hid _ := hS
  clear q h2 h3 h4 hS
  go_wp2_with fail
  go_ret
  exact ⟨k, rfl, h1, HS.out.1, HS.out.2, hB.out⟩
set_option maxHeartbeats 1000000 in
/-- slice.upto: where what is behind a row begins. -/
theorem slU (l : List Ent) (r : List Val) (va vb : Value) (any : Bool) (w : World) (hn : l.length ≤ 65536) (hl : SortedZ l) (ha : EntsIs w va l) (hb : RowIs w vb r) :
    Calls Tryz.prog 62 #[va, vb, .bool any] w fun e w' => ∃ k : Nat, e = .returned (.int .i64 k) ∧ k ≤ l.length ∧ l.filter (afP any r) = l.drop k ∧ l.filter (upP any r) = l.take k ∧ Below w.heap.size w w' := by
  cases any
  · have E : Hid (l.filter (afP false r) = l.drop 0 ∧ l.filter (upP false r) = l.take 0) :=
      ⟨List.filter_eq_self.2 (fun e _ => by simp [afP]), by rw [List.take_zero]; exact List.filter_eq_nil_iff.2 (fun e _ => by simp [upP])⟩
    obtain ⟨a0, cap, rfl⟩ := ha.form
    obtain ⟨b0, cap', rfl⟩ := hb.form
    clear ha hb
    go_enter Tryz.func62, Tryz.ntmps62
    go_wp2_with fail
    go_ret
    exact ⟨0, rfl, Nat.zero_le _, E.out.1, E.out.2, below_two⟩
  · refine (slUptoT l r va vb w hn hl ha hb).mono ?_
    rintro e w' ⟨k, h1, h2, h3, h4, h5⟩
    refine ⟨k, h1, h2, ?_, ?_, h5⟩
    · rw [← h3]; congr 1
    · rw [← h4]; congr 1; funext e
      simp only [upP, Bool.true_and]
      rw [← decide_not]; congr 1; exact propext ⟨fun h => by omega, fun h => by omega⟩
end Go.Proofs.YtglbipnppldkmaaGreatDoor
/- A list of entries that is copied entry by entry. -/
namespace Go.Proofs.YtglbipnppldkmaaGreatDoor
open Go.RowKit Go.Sort
set_option maxRecDepth 100000
theorem es_setO : ∀ (l : List VEnt) (i : Nat) (x : VEnt), i < l.length → es (l.set i x) = ((es l).set (i * 2) x.1).set (i * 2 + 1) (.int .i64 x.2)
  | a :: l, 0, x, _ => rfl
  | a :: l, i + 1, x, h => by
    have hv : (ec a).length = 2 := rfl
    have ih := es_setO l i x (by simpa using h)
    have s : ∀ (m : List Value) (j : Nat) (u : Value), (ec a ++ m).set (j + 2) u = ec a ++ m.set j u := by
      intro m j u; rw [List.set_append, if_neg (by omega), hv, Nat.add_sub_cancel]
    rw [List.set_cons_succ, es_cons, es_cons, ih, show (i + 1) * 2 = i * 2 + 2 by omega, show i * 2 + 2 + 1 = (i * 2 + 1) + 2 by omega, s, s]
/-- An entry of nothing. -/
def noEnt : VEnt := (.slice none 0 0, 0)
theorem made_ents (n : Nat) : (madeCells (Value.agg #[.slice none 0 0, .int .i64 0]).cells (n * 2)).toList = es (List.replicate n noEnt) := by
  apply List.ext_getElem?
  intro i
  by_cases h : i < n * 2
  · have hi : i / 2 < (List.replicate n noEnt).length := by simp; omega
    have hat := es_at (List.replicate n noEnt) (i / 2) hi
    rw [List.getElem_replicate] at hat
    have hm : (madeCells (Value.agg #[.slice none 0 0, .int .i64 0]).cells (n * 2)).toList[i]? = some (if i % 2 = 0 then .slice none 0 0 else .int .i64 0) := by
      simp [madeCells, h, Value.cells]
      rcases Nat.mod_two_eq_zero_or_one i with e | e <;> simp [e]
    rw [hm]
    rcases Nat.mod_two_eq_zero_or_one i with e | e
    · rw [if_pos e, show i = i / 2 * 2 by omega, hat.1]; rfl
    · rw [if_neg (by omega), show i = i / 2 * 2 + 1 by omega, hat.2]; rfl
  · rw [List.getElem?_eq_none (by simp [madeCells]; omega), List.getElem?_eq_none (by rw [es_len]; simp; omega)]
/-- A list copied entry by entry, so far. -/
def OwnTo (l : List Ent) (w : World) (j : Nat) (wr : World) : Prop :=
  ∃ us : List VEnt, us.length = j ∧ wr.ownsRow w.heap.size 37 2 (.slice (some ⟨w.heap.size, 0, none⟩) l.length l.length) l.length (es (us ++ List.replicate (l.length - j) noEnt)) ∧ OwnRows w.heap.size wr us (l.take j) ∧ Below w.heap.size w wr
end Go.Proofs.YtglbipnppldkmaaGreatDoor
/- What slice's own answers of entries in memory: a list and rows of its own. -/
namespace Go.Proofs.YtglbipnppldkmaaGreatDoor
open Go.RowKit Go.Sort
set_option maxRecDepth 100000
set_option maxHeartbeats 4000000 in
theorem slOwn (l : List Ent) (va : Value) (w : World) (hn : l.length ≤ 65536) (ho : ∀ e ∈ l, e.1.length ≤ 65536) (ha : EntsIs w va l) :
    Calls Tryz.prog 63 #[va] w fun e w' => ∃ v, e = .returned v ∧ ZHas w.heap.size l v w' ∧ Below w.heap.size w w' := by
  obtain ⟨i0, hi, hz0, hz1, hz2⟩ := info_parts info_entry
  obtain ⟨a0, cap, rfl⟩ := ha.form
  have Ha : Hid (EntsIs w (.slice a0 l.length cap) l) := ha
  have Ho : Hid (∀ e ∈ l, e.1.length ≤ 65536) := ho
  clear ha ho
  have F0 : Hid (∀ w1, w1.ownsRow w.heap.size 37 2 (.slice (some ⟨w.heap.size, 0, none⟩) l.length l.length) l.length (madeCells (Value.agg #[.slice none 0 0, .int .i64 0]).cells (l.length * 2)).toList → w.grownBy w1 none → OwnTo l w 0 w1) := by
    intro w1 g1 g2
    refine ⟨[], rfl, by rw [made_ents] at g1; simpa using g1, ⟨rfl, fun i h => by simp at h⟩, (Below.refl _ _).grown g2 (Nat.le_refl _) (fun k e => by cases e)⟩
  go_enter Tryz.func63, Tryz.ntmps63
  go_wp2_with (first | (at_make; refine wpList_make_full _ rfl _ _ 29 rfl w.heap.size 37 i0 (.agg #[.slice none 0 0, .int .i64 0]) 2 Tryz.underlying29 hi hz0 hz1 .i64 .i64 _ _ l.length rfl rfl rfl rfl (by rw [hz2]; omega) (by unfold maxLen; omega) (Nat.le_refl _) ?_; intro w1 hown1 hg1; have c4 : Hid (OwnTo l w 0 w1) := F0.out _ hown1 hg1; clear hown1 hg1) | fail)
  clear F0 hi hz0 hz1 hz2
  go_loopw [11] (fun i wr => ∃ j : Nat, j ≤ l.length ∧ i = .int .i64 j ∧ Hid (OwnTo l w j wr)) (fun i _ => l.length - (intOf i).toNat)
  case atStart => exact ⟨0, by omega, rfl, c4.out⟩
  case round =>
    obtain ⟨j, hj, rfl, hS⟩ := hrel
    by_cases k1 : j < l.length
    · have I1 : (j : Int) < (l.length : Int) := by omega
      obtain ⟨us, hu, s1, s2, s3⟩ := hS.out
      obtain ⟨b, o, a1, c1, rfl, x1, x2, x3⟩ := (Ha.out.on s3).at j k1
      have hr1 : l[j].1.length ≤ 65536 := Ho.out _ (List.getElem_mem k1)
      obtain ⟨W, hW⟩ : ∃ W, W = wr.alloc (.cells #[.slice a1 l[j].1.length c1, .int .i64 l[j].2] 37) := ⟨_, rfl⟩
      have hbW : Hid (Below wr.heap.size wr W) := by rw [hW]; exact one_box
      have q : Hid (∀ V, Below W.heap.size W V → Calls Tryz.prog 92 #[.slice a1 l[j].1.length c1] V fun e w' => ∃ v, e = .returned v ∧ w'.ownsRow W.heap.size 56 3 v l[j].1.length (rc l[j].1) ∧ Below W.heap.size W w') := fun V hV =>
        (rowCopy l[j].1 _ V hr1 ((x3.on hbW.out).on hV)).mono fun e w' ⟨v, h1, h2, h3⟩ => ⟨v, h1, own_mono h2 hV.size, hV.trans (h3.mono hV.size)⟩
      have FC : Hid (∀ w7, Below W.heap.size W w7 → w7.cell? ⟨wr.heap.size, 1, none⟩ = some (.int .i64 l[j].2) ∧ w7.cell? ⟨w.heap.size, j * 2, none⟩ = some (.slice none 0 0) ∧ w7.cell? ⟨w.heap.size, j * 2 + 1, none⟩ = some (.int .i64 0) ∧ ∀ o, w7.frozen? ⟨w.heap.size, o, none⟩ = false) := by
        intro w7 h7
        have o7 := own_on (own_on s1 hbW.out) h7
        have hlen : j < (us ++ List.replicate (l.length - j) noEnt).length := by simp; omega
        have hat := es_at (us ++ List.replicate (l.length - j) noEnt) j hlen
        have hel : (us ++ List.replicate (l.length - j) noEnt)[j] = noEnt := by rw [List.getElem_append_right (by omega)]; simp
        rw [hel] at hat
        refine ⟨?_, ?_, ?_, fun o => o7.frozenAt o⟩
        · refine cell_on ?_ h7
          rw [hW, World.cell?_alloc_at _ _ _ _ (by simp)]; rfl
        · rw [o7.cellAt (j * 2) (by omega)]; exact hat.1
        · rw [o7.cellAt (j * 2 + 1) (by omega)]; exact hat.2
      have FA : Hid (∀ w7 v7, Below W.heap.size W w7 → w7.ownsRow W.heap.size 56 3 v7 l[j].1.length (rc l[j].1) → OwnTo l w (j + 1) ((w7.setCell ⟨w.heap.size, j * 2, none⟩ v7).setCell ⟨w.heap.size, j * 2 + 1, none⟩ (.int .i64 l[j].2))) := by
        intro w7 v7 h7 g7
        have hsz := hbW.out.size
        have hs3 := s3.size
        have o7 := own_on (own_on s1 hbW.out) h7
        have r7 := (s2.on hbW.out).on h7
        have b7 : Below w.heap.size w w7 := (s3.trans (hbW.out.mono hs3)).trans (h7.mono (by omega))
        have t1 := o7.stored (j * 2) v7
        have t2 := t1.1.stored (j * 2 + 1) (.int .i64 l[j].2)
        have gg := grown_trans t1.2 t2.2
        have rr := (r7.snoc (own_mono g7 (show w.heap.size ≤ W.heap.size by omega)) l[j].2).grown o7 gg
        refine ⟨us ++ [(v7, l[j].2)], by simp [hu], ?_, ?_, (b7.setCell (p := ⟨w.heap.size, j * 2, none⟩) (Nat.le_refl _) _).setCell (p := ⟨w.heap.size, j * 2 + 1, none⟩) (Nat.le_refl _) _⟩
        · have e : us ++ [(v7, l[j].2)] ++ List.replicate (l.length - (j + 1)) noEnt = (us ++ List.replicate (l.length - j) noEnt).set j (v7, l[j].2) := by
            rw [List.set_append, if_neg (by omega), hu, Nat.sub_self, show l.length - j = (l.length - (j + 1)) + 1 by omega, List.replicate_succ, List.set_cons_zero, List.append_assoc]; rfl
          rw [e, es_setO _ _ _ (by simp; omega)]
          exact t2.1
        · rw [List.take_succ_eq_append_getElem k1]
          exact rr
      have HW : Hid (wr.alloc (.cells #[.slice a1 l[j].1.length c1, .int .i64 l[j].2] 37) = W) := hW.symm
      clear hS s1 s2 s3 x3 hbW hW
      generalize hrl : rc l[j].1 = rcl at *
      generalize l[j].1.length = n1 at *
      generalize l[j].2 = i1 at *
      go_wp2_with fail
      rw [HW.out]
      have z1 : W.cell? ⟨wr.heap.size, 0, none⟩ = some (.slice a1 n1 c1) := by rw [← HW.out, World.cell?_alloc_at _ _ _ _ (by simp)]; rfl
      have z2 : W.cell? ⟨wr.heap.size, 1, none⟩ = some (.int .i64 i1) := by rw [← HW.out, World.cell?_alloc_at _ _ _ _ (by simp)]; rfl
      go_region_with (go_at_call 92; refine (q.out _ ((Below.refl _ _).drew)).mono ?_; rintro e w7 ⟨v7, rfl, g7, h7⟩; obtain ⟨av, cv, rfl⟩ := own_form g7; obtain ⟨y0, y1, y2, fz⟩ := FC.out _ h7; have hf : Hid _ := FA.out _ _ h7 g7; clear g7 h7)
      all_goals
        clear FA FC q
        go_wp2_with fail
        go_roundw
        case rel => exact ⟨j + 1, by omega, by go_num, hf.out⟩
        case measure => simp [intOf]; omega
    · have I1 : ¬ (j : Int) < (l.length : Int) := by omega
      obtain rfl : j = l.length := by omega
      obtain ⟨us, hu, s1, s2, s3⟩ := hS.out
      have E : Hid (ZHas w.heap.size l (.slice (some ⟨w.heap.size, 0, none⟩) l.length l.length) wr ∧ Below w.heap.size w wr) := by
        refine ⟨⟨us, ?_, ?_⟩, s3⟩
        · rw [Nat.sub_self, List.replicate_zero, List.append_nil] at s1
          rw [hu]; exact s1
        · rw [List.take_length] at s2; exact s2
      clear hS s1 s2 s3 hu
      go_wp2_with fail
      go_ret
      exact ⟨_, rfl, E.out.1, E.out.2⟩
end Go.Proofs.YtglbipnppldkmaaGreatDoor
/- What the program's own slice answers of entries in memory: After, Upto, Range, Count. -/
namespace Go.Proofs.YtglbipnppldkmaaGreatDoor
open Go.RowKit Go.Sort
set_option maxRecDepth 100000
theorem ent_drop {w : World} {b o n cap : Nat} {l : List Ent} (h : EntsIs w (.slice (some ⟨b, o, none⟩) n cap) l) (k : Nat) (hk : k ≤ l.length) : EntsIs w (.slice (some ⟨b, o + k * 2, none⟩) (n - k) (cap - k)) (l.drop k) := by
  obtain ⟨vs, h1, h2⟩ := h
  have hkv : k ≤ vs.length := by rw [h2.1]; exact hk
  refine ⟨vs.drop k, ?_, by simp [h2.1], fun i h3 h4 => ?_⟩
  · rcases h1 with ⟨a, c, e, rfl⟩ | ⟨b', o', c, e, g1, g2, g3, g4⟩
    · simp only [Value.slice.injEq] at e
      obtain ⟨_, rfl, rfl⟩ := e
      exact .inl ⟨some ⟨b, o + k * 2, none⟩, cap - k, by simp, by simp⟩
    · simp only [Value.slice.injEq, Option.some.injEq, Addr.mk.injEq, and_true] at e
      obtain ⟨⟨rfl, rfl⟩, rfl, rfl⟩ := e
      refine .inr ⟨b, o + k * 2, cap - k, by simp, by simp; omega, by omega, g3, fun i hi => ?_⟩
      simp only [List.length_drop] at hi
      have := g4 (k + i) (by omega)
      rw [show o + (k + i) * 2 = o + k * 2 + i * 2 by omega] at this
      simpa using this
  · simp only [List.length_drop] at h3 h4
    simp only [List.getElem_drop]
    exact h2.2 (k + i) (by omega) (by omega)
theorem ent_take {w : World} {a : Option Addr} {n cap : Nat} {l : List Ent} (h : EntsIs w (.slice a n cap) l) (k : Nat) (hk : k ≤ l.length) : EntsIs w (.slice a k cap) (l.take k) := by
  obtain ⟨vs, h1, h2⟩ := h
  have hkv : k ≤ vs.length := by rw [h2.1]; exact hk
  refine ⟨vs.take k, ?_, h2.take k⟩
  rcases h1 with ⟨a, c, e, rfl⟩ | ⟨b', o', c, e, g1, g2, g3, g4⟩
  · simp only [Value.slice.injEq] at e
    obtain ⟨rfl, rfl, rfl⟩ := e
    simp at hkv
    subst hkv
    exact .inl ⟨_, _, rfl, rfl⟩
  · simp only [Value.slice.injEq] at e
    obtain ⟨rfl, rfl, rfl⟩ := e
    refine .inr ⟨b', o', cap, by simp [Nat.min_eq_left hkv], by simp; omega, g2, g3, fun i hi => ?_⟩
    simp only [List.length_take] at hi
    simpa using g4 i (by omega)
theorem ent_zero {w : World} {a : Option Addr} {l : List Ent} {n c : Nat} (h : l.length = 0) (hn : n = 0) : EntsIs w (.slice a n c) l := by
  obtain rfl := List.eq_nil_of_length_eq_zero h
  subst hn
  exact EntsIs.nil _ _ _
theorem ent_addr {w : World} {a : Option Addr} {n cap : Nat} {l : List Ent} (h : EntsIs w (.slice a n cap) l) (hl : l ≠ []) : (∃ b o, a = some ⟨b, o, none⟩) ∧ l.length ≤ cap ∧ cap ≤ maxLen := by
  obtain ⟨vs, h1, h2⟩ := h
  rcases h1 with ⟨a, c, e, rfl⟩ | ⟨b', o', c, e, g1, g2, g3, g4⟩
  · have := h2.1; exact absurd (List.eq_nil_of_length_eq_zero this.symm) hl
  · simp only [Value.slice.injEq] at e
    obtain ⟨rfl, rfl, rfl⟩ := e
    exact ⟨⟨b', o', rfl⟩, by rw [← h2.1]; exact g1, g2⟩
theorem ent_cap {w : World} {a : Option Addr} {n cap : Nat} {l : List Ent} (h : EntsIs w (.slice a n cap) l) : l.length ≤ cap := by
  by_cases hl : l = []
  · subst hl; exact Nat.zero_le _
  · exact (ent_addr h hl).2.1
/-- What is sliced off: the part of it from k on. -/
theorem drop_ifS {w : World} {b o n cap : Nat} {l : List Ent} (h : EntsIs w (.slice (some ⟨b, o, none⟩) n cap) l) (k : Nat) (hk : k ≤ l.length) (hc : n ≤ cap) : EntsIs w (.slice (if cap = k then some ⟨b, o, none⟩ else some ⟨b, o + k * 2, none⟩) (n - k) (cap - k)) (l.drop k) := by
  have hn : n = l.length := by obtain ⟨_, _, e⟩ := h.form; simp only [Value.slice.injEq] at e; exact e.2.1
  by_cases e : cap = k
  · rw [if_pos e]
    exact ent_zero (by rw [List.length_drop]; omega) (by omega)
  · rw [if_neg e]; exact ent_drop h k hk
theorem take_filter {l : List Ent} {P : Ent → Bool} {i k : Nat} (h1 : l.filter P = l.drop i) (h2 : l.filter (fun e => !P e) = l.take i) : (l.take k).filter P = (l.take k).drop i := by
  have hl : l.take k = (l.take i).take k ++ (l.drop i).take (k - min i l.length) := by
    conv => lhs; rw [← List.take_append_drop i l]
    rw [List.take_append, List.length_take]
  have a1 : ((l.take i).take k).filter P = [] := List.filter_eq_nil_iff.2 (fun x hx => by
    have := List.mem_of_mem_take hx
    rw [← h2] at this
    have := (List.mem_filter.1 this).2
    simpa using this)
  have a2 : ∀ m, ((l.drop i).take m).filter P = (l.drop i).take m := fun m => List.filter_eq_self.2 (fun x hx => by
    have := List.mem_of_mem_take hx
    rw [← h1] at this
    exact (List.mem_filter.1 this).2)
  rw [List.drop_take]
  rw [hl, List.filter_append, a1, a2, List.nil_append]
  by_cases hi : i ≤ l.length
  · rw [Nat.min_eq_left hi]
  · rw [List.drop_eq_nil_of_le (by omega)]; simp
set_option maxHeartbeats 1000000 in
theorem slAfter (l : List Ent) (r : List Val) (va vb : Value) (any : Bool) (n : Int) (w : World) (hn : l.length ≤ 65536) (hl : IsZ l) (ho : EOk l) (ha : EntsIs w va l) (hb : RowIs w vb r) :
    Calls Tryz.prog 41 #[va, vb, .bool any, .int .i64 n] w fun e w' => ∃ v, e = .returned v ∧ ZHas w.heap.size (after any r l n) v w' ∧ Below w.heap.size w w' := by
  have q := slU l r va vb any w hn hl.1 ha hb
  obtain ⟨a0, cap, rfl⟩ := ha.form
  obtain ⟨b0, cap', rfl⟩ := hb.form
  have Ha : Hid (EntsIs w (.slice a0 l.length cap) l) := ha
  have Ho : Hid (EOk l) := ho
  have la : l.length ≤ cap := ent_cap ha
  clear ha hb ho
  go_enter Tryz.func41, Tryz.ntmps41
  go_wp2_with fail
  refine q.mono ?_
  rintro e w1 ⟨k, rfl, h1, h2, h3, h4⟩
  have HU : Hid (after any r l n = (l.drop k).take n.toNat) := by show _ = _; unfold after; rw [h2]
  have H4 : Hid (Below w.heap.size w w1) := h4
  clear q h2 h3 h4
  have QO : Hid (∀ v, EntsIs w1 v ((l.drop k).take n.toNat) → Calls Tryz.prog 63 #[v] w1 fun e w' => ∃ v, e = .returned v ∧ Hid (ZHas w.heap.size (after any r l n) v w' ∧ Below w.heap.size w w')) := fun v hv =>
    (slOwn _ v w1 (by rw [List.length_take, List.length_drop]; omega) (fun e he => (Ho.out e (List.mem_of_mem_drop (List.mem_of_mem_take he))).2) hv).mono fun e w' ⟨v, h5, h6, h7⟩ => ⟨v, h5, by
      obtain ⟨us, h8⟩ := h6
      exact ⟨⟨us, by rw [HU.out]; exact h8.mono H4.out.size⟩, H4.out.trans (h7.mono H4.out.size)⟩⟩
  by_cases hne : l.length = k
  · have HZ : Hid (∀ a c m, m = 0 → EntsIs w1 (.slice a m c) ((l.drop k).take n.toNat)) := fun a c m hm => ent_zero (by rw [List.length_take, List.length_drop]; omega) hm
    clear Ha HU H4 Ho
    go_wp2_with fail
    all_goals
      refine (QO.out _ (HZ.out _ _ _ (by first | rfl | omega))).mono ?_
      rintro e w3 ⟨v, rfl, R⟩
      clear QO HZ
      go_wp2_with fail
      go_ret
      exact ⟨_, rfl, R.out.1, R.out.2⟩
  · obtain ⟨⟨b, o, rfl⟩, hc1, hc2⟩ := ent_addr Ha.out (by rintro rfl; simp at h1 hne; omega)
    unfold maxLen at hc2
    have hck : ¬ cap = k := by omega
    have hEd := ent_drop (Ha.out.on H4.out) k h1
    have HE : Hid (∀ m, m = min n.toNat (l.length - k) → EntsIs w1 (.slice (some ⟨b, o + k * 2, none⟩) m (cap - k)) ((l.drop k).take n.toNat)) := fun m hm => by
      have h8 := ent_take hEd m (by rw [List.length_drop]; omega)
      have e : (l.drop k).take m = (l.drop k).take n.toNat := by
        apply List.ext_getElem?; intro i
        simp only [List.getElem?_take]
        by_cases h : i < n.toNat
        · by_cases h' : i < m
          · simp [h, h']
          · simp [h, h']; omega
        · simp [h, show ¬ i < m by omega]
      rw [e] at h8; exact h8
    clear Ha HU H4 Ho hEd
    go_wp2_with fail
    all_goals
      refine (QO.out _ (HE.out _ (by first | omega | (simp; omega)))).mono ?_
      rintro e w3 ⟨v, rfl, R⟩
      clear QO HE
      go_wp2_with fail
      go_ret
      exact ⟨_, rfl, R.out.1, R.out.2⟩
end Go.Proofs.YtglbipnppldkmaaGreatDoor
