/- Texts of one claim, one behind the other. -/
import Derived.Test.YtlafokjkpbhckaaDoorJnCalls
import Derived.Test.YtlafokjkpbhckaaDoorNewRows
import Derived.Test.YtlafokjkpbhckaaDoorPackSets
import Derived.Test.YtlafokjkpbhckaaDoorPackSet
import Derived.Test.YtlafokjkpbhckaaDoorAddR
/- The chapter's examples hold. -/
namespace Go.Proofs.YtlafokjkpbhckaaDoor
open Go.RowKit Go.Sort
set_option maxRecDepth 100000
set_option linter.unusedVariables false

theorem on_one {x y : Int} (h : inI x = true) (h' : inI y = true) : OnOk [(x, y)] := ⟨by simp, fun p hp => by rw [List.mem_singleton.1 hp]; exact ⟨h, h'⟩⟩
theorem isZ_1 (r : List Val) {k : Int} (h : k ≠ 0) : IsZ [(r, k)] := ⟨List.pairwise_singleton _ _, fun e he => by rw [List.mem_singleton.1 he]; exact h⟩
theorem eok_1 {r : List Val} {k : Int} (h : inI k = true) (hr : r.length ≤ 65536) : EOk [(r, k)] := fun e he => by rw [List.mem_singleton.1 he]; exact ⟨h, hr⟩
theorem jn_1 (r s : List Val) (x y : Int) (h : fitP [(0, 0)] r s = true) : jnP [(0, 0)] [(r, x)] [(s, y)] = [(r ++ s, x * y)] := by
  unfold jnP jnR
  simp [h]
theorem mkZ_1 (r : List Val) (k : Int) (h : inI k = true) (h0 : k ≠ 0) : okZ [(r, k)] = true ∧ mkZ [(r, k)] = [(r, k)] := by
  have e : gat [(r, k)] = [(r, k)] := rfl
  have ok : okZ [(r, k)] = true := by unfold okZ; rw [e]; simp [fitsZ, h]
  refine ⟨ok, ?_⟩
  unfold mkZ; rw [if_pos ok, e]; simp [nzZ, h0]
theorem mkZ_1over (r : List Val) (k : Int) (h : inI k = false) : okZ [(r, k)] = false ∧ mkZ [(r, k)] = [] := by
  have e : gat [(r, k)] = [(r, k)] := rfl
  have ok : okZ [(r, k)] = false := by unfold okZ; rw [e]; simp [fitsZ, h]
  refine ⟨ok, ?_⟩
  unfold mkZ; rw [ok]; rfl
/-- The call of one row with itself, its lists laid first. -/
def oneW (V : World) (ar : Option Addr) (nr cr : Nat) (x y : Int) : World := ((V.alloc (.cells #[.int .i64 0, .int .i64 0] 33)).alloc (.cells #[.slice ar nr cr, .int .i64 x] 38)).alloc (.cells #[.slice ar nr cr, .int .i64 y] 38)
theorem jnOne (r : List Val) (ar : Option Addr) (cr : Nat) (x y : Int) (eO : Addr) (V : World) (hO : OverAt eO V) (hr : RowIs V (.slice ar r.length cr) r) (hl : r.length ≤ 65536) (hx : inI x = true) (hy : inI y = true) (hx0 : x ≠ 0) (hy0 : y ≠ 0) (hf : fitP [(0, 0)] r r = true) :
    Calls Tryd.prog 9 #[.slice (some ⟨V.heap.size, 0, none⟩) 1 1, .slice (some ⟨V.heap.size + 1, 0, none⟩) 1 1, .slice (some ⟨V.heap.size + 1 + 1, 0, none⟩) 1 1] (oneW V ar r.length cr x y) fun e w' =>
      ∃ v, e = .returned (.tuple #[v, ovE eO (inI (x * y))]) ∧ EntsIs w' v (if inI (x * y) = true then [(r ++ r, x * y)] else []) ∧ Below V.heap.size V w' := by
  have b1 : Below V.heap.size V (V.alloc (.cells #[.int .i64 0, .int .i64 0] 33)) := one_box
  have b2 : Below V.heap.size V ((V.alloc (.cells #[.int .i64 0, .int .i64 0] 33)).alloc (.cells #[.slice ar r.length cr, .int .i64 x] 38)) := b1.trans (one_box.mono (by simp))
  have b3 : Below V.heap.size V (oneW V ar r.length cr x y) := b2.trans (one_box.mono (by simp; omega))
  have p1 : PairsIs (oneW V ar r.length cr x y) (.slice (some ⟨V.heap.size, 0, none⟩) 1 1) [(0, 0)] := ((PairsIs.one V 0 0 33).on one_box).on one_box
  have e1 : EntsIs (oneW V ar r.length cr x y) (.slice (some ⟨V.heap.size + 1, 0, none⟩) 1 1) [(r, x)] := by
    have h := (ents_one (hr.on b1) x).on (one_box (o := .cells #[.slice ar r.length cr, .int .i64 y] 38))
    rw [World.size_alloc] at h
    exact h
  have e2 : EntsIs (oneW V ar r.length cr x y) (.slice (some ⟨V.heap.size + 1 + 1, 0, none⟩) 1 1) [(r, y)] := by
    have h := ents_one (hr.on b2) y
    rw [World.size_alloc, World.size_alloc] at h
    exact h
  refine (jnJoin [(0, 0)] [(r, x)] [(r, y)] _ _ _ eO _ (hO.on b3) (by simp) (by simp) (by simp) (eok_1 hx hl) (eok_1 hy hl) (isZ_1 r hx0) (isZ_1 r hy0) (on_one rfl rfl) p1 e1 e2).mono ?_
  rintro e w' ⟨v, rfl, h1, h2⟩
  rw [jn_1 r r x y hf] at h1 ⊢
  by_cases hi : inI (x * y) = true
  · obtain ⟨o1, o2⟩ := mkZ_1 (r ++ r) (x * y) hi (Int.mul_ne_zero hx0 hy0)
    rw [o2] at h1
    exact ⟨v, by rw [o1, hi], by rw [if_pos hi]; exact h1.ents, b3.trans (h2.mono b3.size)⟩
  · have hi' : inI (x * y) = false := by simpa using hi
    obtain ⟨o1, o2⟩ := mkZ_1over (r ++ r) (x * y) hi'
    rw [o2] at h1
    exact ⟨v, by rw [o1, hi'], by rw [if_neg hi]; exact h1.ents, b3.trans (h2.mono b3.size)⟩
theorem fit_5 : fitP [(0, 0)] [(1, 5, ⟨#[]⟩)] [(1, 5, ⟨#[]⟩)] = true := by rfl
theorem fit_null : fitP [(0, 0)] [nul] [nul] = false := by rfl
set_option maxHeartbeats 2000000 in
theorem lawFirst12 (eO : Addr) (w : World) (hO : OverAt eO w) : Calls Tryd.prog 7 #[] w fun e w' => e = .returned (.bool true) ∧ Below w.heap.size w w' := by
  have q1 := jnOne [(1, 5, ⟨#[]⟩)] (some ⟨w.heap.size, 0, none⟩) 1 2 3 eO _ (hO.on one_box) (row_new w 1 5 ⟨#[]⟩) (by simp) rfl rfl (by decide) (by decide) fit_5
  rw [World.size_alloc] at q1
  unfold oneW at q1
  have q2 : Hid (∀ V, Below w.heap.size w V → Calls Tryd.prog 10 #[.slice (some ⟨V.heap.size, 0, none⟩) 1 1, .slice (some ⟨V.heap.size + 1, 0, none⟩) 1 1, .slice (some ⟨V.heap.size + 1 + 1, 0, none⟩) 1 1] (((V.alloc (.cells #[.int .i64 0, .int .i64 0] 33)).alloc (.cells #[.int .i64 0, .int .i64 0, .string ⟨#[]⟩] 48)).alloc (.cells #[.int .i64 0, .int .i64 0, .string ⟨#[]⟩] 48)) fun e w' => e = .returned (.bool false) ∧ Below w.heap.size w w') := fun V hV => by
    have b3 : Below V.heap.size V (((V.alloc (.cells #[.int .i64 0, .int .i64 0] 33)).alloc (.cells #[.int .i64 0, .int .i64 0, .string ⟨#[]⟩] 48)).alloc (.cells #[.int .i64 0, .int .i64 0, .string ⟨#[]⟩] 48)) := (one_box.trans (one_box.mono (by simp))).trans (one_box.mono (by simp; omega))
    have r1 := row_new (V.alloc (.cells #[.int .i64 0, .int .i64 0] 33)) 0 0 ⟨#[]⟩
    have r2 := row_new ((V.alloc (.cells #[.int .i64 0, .int .i64 0] 33)).alloc (.cells #[.int .i64 0, .int .i64 0, .string ⟨#[]⟩] 48)) 0 0 ⟨#[]⟩
    rw [World.size_alloc] at r1
    rw [World.size_alloc, World.size_alloc] at r2
    have := jnFits [(0, 0)] [nul] [nul] _ _ _ _ (on_one rfl rfl) (((PairsIs.one V 0 0 33).on one_box).on one_box) (r1.on one_box) r2
    rw [fit_null] at this
    exact this.mono fun e w' ⟨h1, h2⟩ => ⟨h1, hV.trans ((b3.trans (h2.mono b3.size)).mono hV.size)⟩
  go_enter Tryd.func7, Tryd.ntmps7
  go_wp2_with fail
  refine q1.mono ?_
  rintro e w2 ⟨v2, rfl, h2, b2⟩
  have B2 : Below w.heap.size w w2 := one_box.trans (b2.mono (by simp))
  rw [show (if inI ((2 : Int) * 3) = true then [([((1 : Int), (5 : Int), (⟨#[]⟩ : ByteArray))] ++ [((1 : Int), (5 : Int), (⟨#[]⟩ : ByteArray))], (2 : Int) * 3)] else []) = [([(1, 5, ⟨#[]⟩), (1, 5, ⟨#[]⟩)], 6)] from rfl] at h2
  rw [show ovE eO (inI ((2 : Int) * 3)) = .nilIface from rfl]
  obtain ⟨a2, c2, rfl⟩ := h2.form
  obtain ⟨b, o, a3, c3, rfl, x1, x2, _⟩ := h2.at 0 (by simp)
  simp only [Nat.zero_mul, Nat.add_zero, List.getElem_cons_zero] at x1 x2
  have q3 := q2.out w2 B2
  clear q1 q2 h2 b2 x1 hO B2
  go_wp2_with fail
  refine q3.mono ?_
  rintro e w3 ⟨rfl, b3⟩
  have B3 : Hid (Below w.heap.size w w3) := b3
  clear q3 b3
  go_wp2_with fail
  go_ret
  exact ⟨rfl, B3.out⟩
end Go.Proofs.YtlafokjkpbhckaaDoor
/- What the statements' maker of pairs answers: some pairs, and the maker some numbers on. -/
namespace Go.Proofs.YtlafokjkpbhckaaDoor
open Go.RowKit Go.Sort
set_option maxRecDepth 100000
set_option linter.unusedVariables false

def pcs2 (on : List (Int × Int)) : List Value := on.flatMap fun p => [.int .i64 p.1, .int .i64 p.2]
theorem pcs2_len (on : List (Int × Int)) : (pcs2 on).length = on.length * 2 := by
  induction on with
  | nil => rfl
  | cons a l ih =>
    have e : pcs2 (a :: l) = [.int .i64 a.1, .int .i64 a.2] ++ pcs2 l := rfl
    rw [e, List.length_append, ih, List.length_cons]; simp; omega
theorem pcs2_snoc (l : List (Int × Int)) (p : Int × Int) : pcs2 (l ++ [p]) = pcs2 l ++ [.int .i64 p.1, .int .i64 p.2] := by simp [pcs2]
theorem pcs2_at : ∀ (l : List (Int × Int)) (i : Nat) (h : i < l.length), (pcs2 l)[i * 2]? = some (.int .i64 l[i].1) ∧ (pcs2 l)[i * 2 + 1]? = some (.int .i64 l[i].2)
  | a :: l, 0, _ => ⟨rfl, rfl⟩
  | a :: l, i + 1, h => by
    have ih := pcs2_at l i (by simpa using h)
    have e : pcs2 (a :: l) = [.int .i64 a.1, .int .i64 a.2] ++ pcs2 l := rfl
    rw [e, List.getElem?_append_right (by simp; omega), List.getElem?_append_right (by simp; omega)]
    rw [show (i + 1) * 2 - [Value.int .i64 a.1, Value.int .i64 a.2].length = i * 2 by simp; omega, show (i + 1) * 2 + 1 - [Value.int .i64 a.1, Value.int .i64 a.2].length = i * 2 + 1 by simp; omega]
    simpa using ih
theorem PairsIs.of_own {w : World} {base : Nat} {v : Value} {l : List (Int × Int)} (h : w.ownsRow base 33 2 v l.length (pcs2 l)) : PairsIs w v l := by
  have hlt := h.lt
  obtain ⟨h1, h2 | ⟨g, cap, cur, rfl, hg, hh, hc, hm, hs, ht⟩⟩ := h
  · exact .inl ⟨none, 0, h2.1, List.eq_nil_of_length_eq_zero h2.2⟩
  · have own : w.ownsRow base 33 2 (.slice (some ⟨g, 0, none⟩) l.length cap) l.length (pcs2 l) := ⟨h1, .inr ⟨g, cap, cur, rfl, hg, hh, hc, hm, hs, ht⟩⟩
    refine .inr ⟨g, 0, cap, rfl, hc, hm, (hlt g rfl).2, fun i hi => ?_⟩
    rw [Nat.zero_add, own.cellAt (i * 2) (by omega), own.cellAt (i * 2 + 1) (by omega)]
    exact pcs2_at l i hi
theorem info_two : (Tryd.prog.info? 33).map (fun i => (i.zero, i.size, i.bytes)) = some (some (.agg #[.int .i64 0, .int .i64 0]), 2, 16) := by kernel_rfl
end Go.Proofs.YtlafokjkpbhckaaDoor
/- Joins of the statements' small sets. -/
namespace Go.Proofs.YtlafokjkpbhckaaDoor
open Go.RowKit Go.Sort
set_option maxRecDepth 100000
set_option linter.unusedVariables false

/-- A join of small z-sets. -/
theorem jnSmall {B C m k n p : Nat} {a b : List Ent} (ha : S3 B m n a) (hb : S3 C k p b) (hB0 : B ≤ 1000000) (hC0 : C ≤ 1000000) (hBC : B * C ≤ 1000000) (hmk : m ≤ 65536 ∧ k ≤ 65536 ∧ m * k ≤ 65536) (hn : n ≤ 65536) (hp : p ≤ 65536) (on : List (Int × Int)) (hon : OnOk on) (ov va vb : Value) (eO : Addr) (V : World) (hO : OverAt eO V) (ho : PairsIs V ov on) (ea : EntsIs V va a) (eb : EntsIs V vb b) :
    Calls Tryd.prog 9 #[ov, va, vb] V fun e w' => ∃ v, e = .returned (.tuple #[v, .nilIface]) ∧ EntsIs w' v (mkZ (jnP on a b)) ∧ Below V.heap.size V w' :=
  (jnJoin on a b ov va vb eO V hO (Nat.le_trans ha.2.2.1 hmk.1) (Nat.le_trans hb.2.2.1 hmk.2.1) (Nat.le_trans (Nat.mul_le_mul ha.2.2.1 hb.2.2.1) hmk.2.2) (ha.ok hB0 hn) (hb.ok hC0 hp) ha.1 hb.1 hon ho ea eb).mono fun _ _ ⟨v, h1, h2, h3⟩ => ⟨v, by rw [h1, (ha.jn hb on hBC).1]; rfl, h2.ents, h3⟩
end Go.Proofs.YtlafokjkpbhckaaDoor
