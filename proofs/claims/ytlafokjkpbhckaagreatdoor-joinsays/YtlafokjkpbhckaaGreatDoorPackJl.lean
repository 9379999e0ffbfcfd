/- Texts of one claim, one behind the other. -/
import Derived.Test.YtlafokjkpbhckaaGreatDoorJnCalls
import Derived.Test.YtlafokjkpbhckaaGreatDoorNewRows
import Derived.Test.YtlafokjkpbhckaaGreatDoorPackSets
import Derived.Test.YtlafokjkpbhckaaGreatDoorPackSet
import Derived.Test.YtlafokjkpbhckaaGreatDoorAddR
/- The chapter's examples hold. -/
namespace Go.Proofs.YtlafokjkpbhckaaGreatDoor
open Go.RowKit Go.Sort
set_option maxRecDepth 100000
set_option linter.unusedVariables false

theorem on_one {x y : Int} (h : inI x = true) (h' : inI y = true) : OnOk [(x, y)] := ⟨by simp, fun p hp => by rw [List.mem_singleton.1 hp]; exact ⟨h, h'⟩⟩
theorem isZ_1 (r : List Val) {k : Int} (h : k ≠ 0) : IsZ [(r, k)] := ⟨List.pairwise_singleton _ _, fun e he => by rw [List.mem_singleton.1 he]; exact h⟩
theorem eok_1 {r : List Val} {k : Int} (h : inI k = true) (hr : r.length ≤ 65536) : EOk [(r, k)] := fun e he => by rw [List.mem_singleton.1 he]; exact ⟨h, hr⟩
theorem jn_1 (r s : List Val) (x y : Int) (h : fitP [(0, 0)] r s = true) : jnP [(0, 0)] [(r, x)] [(s, y)] = [(r ++ s, x * y)] := by
  unfold jnP jnR
  simp [h]
theorem mkZ_1 (r : List Val) (k : Int) (h : inI k = true) (h0 : k ≠ 0) : okZ [(r, k)] = true ∧ mkZ [(r, k)] = [(r, k)] := by
  have e : gat [(r, k)] = [(r, k)] := rfl
  have ok : okZ [(r, k)] = true := by unfold okZ; rw [e]; simp [fitsZ, h]
  refine ⟨ok, ?_⟩
  unfold mkZ; rw [if_pos ok, e]; simp [nzZ, h0]
theorem mkZ_1over (r : List Val) (k : Int) (h : inI k = false) : okZ [(r, k)] = false ∧ mkZ [(r, k)] = [] := by
  have e : gat [(r, k)] = [(r, k)] := rfl
  have ok : okZ [(r, k)] = false := by unfold okZ; rw [e]; simp [fitsZ, h]
  refine ⟨ok, ?_⟩
  unfold mkZ; rw [ok]; rfl
/-- The call of one row with itself, its lists laid first. -/
def oneW (V : World) (ar : Option Addr) (nr cr : Nat) (x y : Int) : World := ((V.alloc (.cells #[.int .i64 0, .int .i64 0] 47)).alloc (.cells #[.slice ar nr cr, .int .i64 x] 41)).alloc (.cells #[.slice ar nr cr, .int .i64 y] 41)
theorem jnOne (r : List Val) (ar : Option Addr) (cr : Nat) (x y : Int) (eO : Addr) (V : World) (hO : OverAt eO V) (hr : RowIs V (.slice ar r.length cr) r) (hl : r.length ≤ 65536) (hx : inI x = true) (hy : inI y = true) (hx0 : x ≠ 0) (hy0 : y ≠ 0) (hf : fitP [(0, 0)] r r = true) :
    Calls Tryz.prog 7 #[.slice (some ⟨V.heap.size, 0, none⟩) 1 1, .slice (some ⟨V.heap.size + 1, 0, none⟩) 1 1, .slice (some ⟨V.heap.size + 1 + 1, 0, none⟩) 1 1] (oneW V ar r.length cr x y) fun e w' =>
      ∃ v, e = .returned (.tuple #[v, ovE eO (inI (x * y))]) ∧ EntsIs w' v (if inI (x * y) = true then [(r ++ r, x * y)] else []) ∧ Below V.heap.size V w' := by
  have b1 : Below V.heap.size V (V.alloc (.cells #[.int .i64 0, .int .i64 0] 47)) := one_box
  have b2 : Below V.heap.size V ((V.alloc (.cells #[.int .i64 0, .int .i64 0] 47)).alloc (.cells #[.slice ar r.length cr, .int .i64 x] 41)) := b1.trans (one_box.mono (by simp))
  have b3 : Below V.heap.size V (oneW V ar r.length cr x y) := b2.trans (one_box.mono (by simp; omega))
  have p1 : PairsIs (oneW V ar r.length cr x y) (.slice (some ⟨V.heap.size, 0, none⟩) 1 1) [(0, 0)] := ((PairsIs.one V 0 0 47).on one_box).on one_box
  have e1 : EntsIs (oneW V ar r.length cr x y) (.slice (some ⟨V.heap.size + 1, 0, none⟩) 1 1) [(r, x)] := by
    have h := (ents_one (hr.on b1) x).on (one_box (o := .cells #[.slice ar r.length cr, .int .i64 y] 41))
    rw [World.size_alloc] at h
    exact h
  have e2 : EntsIs (oneW V ar r.length cr x y) (.slice (some ⟨V.heap.size + 1 + 1, 0, none⟩) 1 1) [(r, y)] := by
    have h := ents_one (hr.on b2) y
    rw [World.size_alloc, World.size_alloc] at h
    exact h
  refine (jnJoin [(0, 0)] [(r, x)] [(r, y)] _ _ _ eO _ (hO.on b3) (by simp) (by simp) (by simp) (eok_1 hx hl) (eok_1 hy hl) (isZ_1 r hx0) (isZ_1 r hy0) (on_one rfl rfl) p1 e1 e2).mono ?_
  rintro e w' ⟨v, rfl, h1, h2⟩
  rw [jn_1 r r x y hf] at h1 ⊢
  by_cases hi : inI (x * y) = true
  · obtain ⟨o1, o2⟩ := mkZ_1 (r ++ r) (x * y) hi (Int.mul_ne_zero hx0 hy0)
    rw [o2] at h1
    exact ⟨v, by rw [o1, hi], by rw [if_pos hi]; exact h1.ents, b3.trans (h2.mono b3.size)⟩
  · have hi' : inI (x * y) = false := by simpa using hi
    obtain ⟨o1, o2⟩ := mkZ_1over (r ++ r) (x * y) hi'
    rw [o2] at h1
    exact ⟨v, by rw [o1, hi'], by rw [if_neg hi]; exact h1.ents, b3.trans (h2.mono b3.size)⟩
theorem fit_5 : fitP [(0, 0)] [(1, 5, ⟨#[]⟩)] [(1, 5, ⟨#[]⟩)] = true := by rfl
theorem fit_null : fitP [(0, 0)] [nul] [nul] = false := by rfl
set_option maxHeartbeats 2000000 in
theorem lawFirst12 (eO : Addr) (w : World) (hO : OverAt eO w) : Calls Tryz.prog 4 #[] w fun e w' => e = .returned (.bool true) ∧ Below w.heap.size w w' := by
  have q1 := jnOne [(1, 5, ⟨#[]⟩)] (some ⟨w.heap.size, 0, none⟩) 1 2 3 eO _ (hO.on one_box) (row_new w 1 5 ⟨#[]⟩) (by simp) rfl rfl (by decide) (by decide) fit_5
  rw [World.size_alloc] at q1
  unfold oneW at q1
  have q2 : Hid (∀ V, Below w.heap.size w V → Calls Tryz.prog 9 #[.slice (some ⟨V.heap.size, 0, none⟩) 1 1, .slice (some ⟨V.heap.size + 1, 0, none⟩) 1 1, .slice (some ⟨V.heap.size + 1 + 1, 0, none⟩) 1 1] (((V.alloc (.cells #[.int .i64 0, .int .i64 0] 47)).alloc (.cells #[.int .i64 0, .int .i64 0, .string ⟨#[]⟩] 46)).alloc (.cells #[.int .i64 0, .int .i64 0, .string ⟨#[]⟩] 46)) fun e w' => e = .returned (.bool false) ∧ Below w.heap.size w w') := fun V hV => by
    have b3 : Below V.heap.size V (((V.alloc (.cells #[.int .i64 0, .int .i64 0] 47)).alloc (.cells #[.int .i64 0, .int .i64 0, .string ⟨#[]⟩] 46)).alloc (.cells #[.int .i64 0, .int .i64 0, .string ⟨#[]⟩] 46)) := (one_box.trans (one_box.mono (by simp))).trans (one_box.mono (by simp; omega))
    have r1 := row_new (V.alloc (.cells #[.int .i64 0, .int .i64 0] 47)) 0 0 ⟨#[]⟩
    have r2 := row_new ((V.alloc (.cells #[.int .i64 0, .int .i64 0] 47)).alloc (.cells #[.int .i64 0, .int .i64 0, .string ⟨#[]⟩] 46)) 0 0 ⟨#[]⟩
    rw [World.size_alloc] at r1
    rw [World.size_alloc, World.size_alloc] at r2
    have := jnFits [(0, 0)] [nul] [nul] _ _ _ _ (on_one rfl rfl) (((PairsIs.one V 0 0 47).on one_box).on one_box) (r1.on one_box) r2
    rw [fit_null] at this
    exact this.mono fun e w' ⟨h1, h2⟩ => ⟨h1, hV.trans ((b3.trans (h2.mono b3.size)).mono hV.size)⟩
  go_enter Tryz.func4, Tryz.ntmps4
  go_wp2_with fail
  refine q1.mono ?_
  rintro e w2 ⟨v2, rfl, h2, b2⟩
  have B2 : Below w.heap.size w w2 := one_box.trans (b2.mono (by simp))
  rw [show (if inI ((2 : Int) * 3) = true then [([((1 : Int), (5 : Int), (⟨#[]⟩ : ByteArray))] ++ [((1 : Int), (5 : Int), (⟨#[]⟩ : ByteArray))], (2 : Int) * 3)] else []) = [([(1, 5, ⟨#[]⟩), (1, 5, ⟨#[]⟩)], 6)] from rfl] at h2
  rw [show ovE eO (inI ((2 : Int) * 3)) = .nilIface from rfl]
  obtain ⟨a2, c2, rfl⟩ := h2.form
  obtain ⟨b, o, a3, c3, rfl, x1, x2, _⟩ := h2.at 0 (by simp)
  simp only [Nat.zero_mul, Nat.add_zero, List.getElem_cons_zero] at x1 x2
  have q3 := q2.out w2 B2
  clear q1 q2 h2 b2 x1 hO B2
  go_wp2_with fail
  refine q3.mono ?_
  rintro e w3 ⟨rfl, b3⟩
  have B3 : Hid (Below w.heap.size w w3) := b3
  clear q3 b3
  go_wp2_with fail
  go_ret
  exact ⟨rfl, B3.out⟩
end Go.Proofs.YtlafokjkpbhckaaGreatDoor
/- What the statements' maker of pairs answers: some pairs, and the maker some numbers on. -/
namespace Go.Proofs.YtlafokjkpbhckaaGreatDoor
open Go.RowKit Go.Sort
set_option maxRecDepth 100000
set_option linter.unusedVariables false

def pcs2 (on : List (Int × Int)) : List Value := on.flatMap fun p => [.int .i64 p.1, .int .i64 p.2]
theorem pcs2_len (on : List (Int × Int)) : (pcs2 on).length = on.length * 2 := by
  induction on with
  | nil => rfl
  | cons a l ih =>
    have e : pcs2 (a :: l) = [.int .i64 a.1, .int .i64 a.2] ++ pcs2 l := rfl
    rw [e, List.length_append, ih, List.length_cons]; simp; omega
theorem pcs2_snoc (l : List (Int × Int)) (p : Int × Int) : pcs2 (l ++ [p]) = pcs2 l ++ [.int .i64 p.1, .int .i64 p.2] := by simp [pcs2]
theorem pcs2_at : ∀ (l : List (Int × Int)) (i : Nat) (h : i < l.length), (pcs2 l)[i * 2]? = some (.int .i64 l[i].1) ∧ (pcs2 l)[i * 2 + 1]? = some (.int .i64 l[i].2)
  | a :: l, 0, _ => ⟨rfl, rfl⟩
  | a :: l, i + 1, h => by
    have ih := pcs2_at l i (by simpa using h)
    have e : pcs2 (a :: l) = [.int .i64 a.1, .int .i64 a.2] ++ pcs2 l := rfl
    rw [e, List.getElem?_append_right (by simp; omega), List.getElem?_append_right (by simp; omega)]
    rw [show (i + 1) * 2 - [Value.int .i64 a.1, Value.int .i64 a.2].length = i * 2 by simp; omega, show (i + 1) * 2 + 1 - [Value.int .i64 a.1, Value.int .i64 a.2].length = i * 2 + 1 by simp; omega]
    simpa using ih
theorem PairsIs.of_own {w : World} {base : Nat} {v : Value} {l : List (Int × Int)} (h : w.ownsRow base 47 2 v l.length (pcs2 l)) : PairsIs w v l := by
  have hlt := h.lt
  obtain ⟨h1, h2 | ⟨g, cap, cur, rfl, hg, hh, hc, hm, hs, ht⟩⟩ := h
  · exact .inl ⟨none, 0, h2.1, List.eq_nil_of_length_eq_zero h2.2⟩
  · have own : w.ownsRow base 47 2 (.slice (some ⟨g, 0, none⟩) l.length cap) l.length (pcs2 l) := ⟨h1, .inr ⟨g, cap, cur, rfl, hg, hh, hc, hm, hs, ht⟩⟩
    refine .inr ⟨g, 0, cap, rfl, hc, hm, (hlt g rfl).2, fun i hi => ?_⟩
    rw [Nat.zero_add, own.cellAt (i * 2) (by omega), own.cellAt (i * 2 + 1) (by omega)]
    exact pcs2_at l i hi
theorem info_two : (Tryz.prog.info? 47).map (fun i => (i.zero, i.size, i.bytes)) = some (some (.agg #[.int .i64 0, .int .i64 0]), 2, 16) := by kernel_rfl
/-- Some pairs so far. -/
def PrTo (S : Nat) (a : Option Addr) (len cap : Nat) (zs : List Int) (p : Nat) (w : World) (k : Nat) (v : Value) (wr : World) : Prop :=
  ∃ on p', on.length + k ≤ 2 ∧ OnOk on ∧ wr.ownsRow w.heap.size 47 2 v on.length (pcs2 on) ∧ p' ≤ p + 1 + 3 * on.length ∧ SeqAt S a len cap zs p' wr ∧ But S w wr
set_option maxHeartbeats 4000000 in
theorem makePairs (S : Nat) (a : Option Addr) (len cap : Nat) (zs : List Int) (p : Nat) (w : World) (h : SeqAt S a len cap zs p w) (hp : p ≤ 4000000) :
    Calls Tryz.prog 6 #[.pointer (some ⟨S, 0, none⟩)] w fun e w' => ∃ v, e = .returned v ∧ PrTo S a len cap zs p w 0 v w' := by
  obtain ⟨i0, hi, hz0, hz1, hz2⟩ := info_parts info_two
  have q0 := next S a len cap zs p 3 w h (by omega) (by decide) (by decide)
  have hSz : S < w.heap.size := h.2.2.2.1
  have hb := nm_bd (sq zs len p) 3 (by decide)
  generalize nm (sq zs len p) 3 = n at *
  obtain ⟨N, rfl⟩ : ∃ N : Nat, n = (N : Int) := ⟨n.toNat, by omega⟩
  have hN : N ≤ 2 := by omega
  clear h hb
  go_enter Tryz.func6, Tryz.ntmps6
  go_wp2_with fail
  refine q0.mono ?_
  rintro e w1 ⟨rfl, s1, b1⟩
  have F0 : Hid (PrTo S a len cap zs p w N (.slice none 0 0) w1) := ⟨[], p + 1, by simpa using hN, ⟨by simp, by simp⟩, World.ownsRow_nil _ _ _ _, by simp, s1, b1⟩
  clear q0 s1 b1
  go_wp2_with fail
  go_loopw [3, 4] (fun v i wr => ∃ k : Nat, i = .int .i64 k ∧ Hid (PrTo S a len cap zs p w k v wr)) (fun _ i _ => (intOf i).toNat)
  case atStart => exact ⟨N, rfl, F0.out⟩
  case round =>
    clear F0
    obtain ⟨k, rfl, hS⟩ := hrel
    by_cases k1 : 0 < k
    · have I1 : (0 : Int) < (k : Int) := by omega
      obtain ⟨on, p', s1, s2, s3, s4, s5, s6⟩ := hS.out
      have q1 := next S a len cap zs p' 4 wr s5 (by omega) (by decide) (by decide)
      have h1 := nm_bd (sq zs len p') 4 (by decide)
      generalize nm (sq zs len p') 4 = n1 at *
      have S2 : Hid (OnOk on) := s2
      have S3 : Hid (wr.ownsRow w.heap.size 47 2 u3 on.length (pcs2 on)) := s3
      have S6 : Hid (But S w wr) := s6
      clear hS s2 s3 s5 s6
      go_wp2_with fail
      refine q1.mono ?_
      rintro e w2 ⟨rfl, t2, c2⟩
      have C2 : Hid (But S wr w2) := c2
      have q2 := next S a len cap zs (p' + 1) 9 w2 t2 (by omega) (by decide) (by decide)
      have h2 := nm_bd (sq zs len (p' + 1)) 9 (by decide)
      generalize nm (sq zs len (p' + 1)) 9 = n2 at *
      clear q1 t2 c2
      go_wp2_with fail
      refine q2.mono ?_
      rintro e w3 ⟨rfl, t3, c3⟩
      have C3 : Hid (But S wr w3) := C2.out.trans c3
      have q3 := next S a len cap zs (p' + 1 + 1) 3 w3 t3 (by omega) (by decide) (by decide)
      have h3 := nm_bd (sq zs len (p' + 1 + 1)) 3 (by decide)
      generalize nm (sq zs len (p' + 1 + 1)) 3 = n3 at *
      clear q2 t3 c3 C2
      go_wp2_with fail
      refine q3.mono ?_
      rintro e w4 ⟨rfl, t4, c4⟩
      have C4 : Hid (But S wr w4) := C3.out.trans c4
      have O4 : Hid (w4.ownsRow w.heap.size 47 2 u3 on.length (pcs2 on)) := own_but S3.out C4.out hSz
      have T4 : Hid (SeqAt S a len cap zs (p' + 1 + 1 + 1) w4) := t4
      have B4 : Hid (But S w w4) := S6.out.trans C4.out
      have F : Hid (∀ v5 w5, w5.ownsRow w.heap.size 47 2 v5 (on.length + 1) (pcs2 on ++ [.int .i64 (n1 - n2 / 8), .int .i64 n3]) → (w4.alloc (.cells #[.int .i64 (n1 - n2 / 8), .int .i64 n3] 47)).grownBy w5 (Value.ownBlock u3) → PrTo S a len cap zs p w (k - 1) v5 w5) := by
        intro v5 w5 g1 g2
        have hlt := O4.out.lt
        refine ⟨on ++ [(n1 - n2 / 8, n3)], p' + 1 + 1 + 1, by rw [List.length_append, List.length_singleton]; omega, ⟨by rw [List.length_append, List.length_singleton]; omega, fun x hx => ?_⟩, ?_, by rw [List.length_append, List.length_singleton]; omega, ?_, ?_⟩
        · rcases List.mem_append.1 hx with hx | hx
          · exact S2.out.2 x hx
          · rw [List.mem_singleton.1 hx]
            constructor
            · show inI (n1 - n2 / 8) = true
              unfold inI; simp only [Bool.and_eq_true, decide_eq_true_eq]; omega
            · show inI n3 = true
              unfold inI; simp only [Bool.and_eq_true, decide_eq_true_eq]; omega
        · rw [List.length_append, pcs2_snoc]; exact g1
        · exact (T4.out.on one_box).grown g2 (fun g e => by have := (hlt g e).1; omega)
        · have hsz := B4.out.size
          have h4 : ∀ g, g < w4.heap.size → (w4.alloc (.cells #[.int .i64 (n1 - n2 / 8), .int .i64 n3] 47)).heap[g]? = w4.heap[g]? := fun g hg => heap_alloc_old _ _ hg
          refine ⟨g2.os.trans B4.out.1, g2.tape.trans B4.out.2.1, g2.output.trans B4.out.2.2.1, Nat.le_trans hsz (by have := g2.size; simp at this; omega), fun g h1 h2 => ?_⟩
          rw [g2.block g (by simp; omega) (fun e => by have := (hlt g e.symm).1; omega), h4 g (by omega)]
          exact B4.out.2.2.2.2 g h1 h2
      clear q3 t4 c4 C3 C4 S2 S3 S6 T4
      go_wp2_with (first | (at_builtin; refine wpList_append_own _ rfl _ _ 29 rfl w.heap.size 47 i0 (.agg #[.int .i64 0, .int .i64 0]) 2 16 Tryz.underlying29 hi hz0 hz1 hz2 rfl (by decide) _ on.length (pcs2 on) rfl (own_on O4.out one_box) ⟨w4.heap.size, 0, none⟩ 1 1 [.int .i64 (n1 - n2 / 8), .int .i64 n3] rfl rfl (cell_two_new _ _ _ _) (by simp [Value.oneCell']) (by unfold maxLen; omega) (by omega) (by have := B4.out.size; simp; omega) ?_; intro v5 w5 hown5 hg5 _; have hf : Hid _ := F.out _ _ hown5 hg5; clear hown5 hg5 F) | go_in)
      go_roundw
      case rel => exact ⟨k - 1, by go_num, hf.out⟩
      case measure => simp [intOf]; omega
    · obtain rfl : k = 0 := by omega
      have E : Hid (PrTo S a len cap zs p w 0 u3 wr) := hS.out
      clear hS
      go_wp2_with fail
      go_ret
      exact ⟨_, rfl, E.out⟩
end Go.Proofs.YtlafokjkpbhckaaGreatDoor
/- Joins of the statements' small sets. -/
namespace Go.Proofs.YtlafokjkpbhckaaGreatDoor
open Go.RowKit Go.Sort
set_option maxRecDepth 100000
set_option linter.unusedVariables false

/-- A join of small z-sets. -/
theorem jnSmall {B C m k n p : Nat} {a b : List Ent} (ha : S3 B m n a) (hb : S3 C k p b) (hB0 : B ≤ 1000000) (hC0 : C ≤ 1000000) (hBC : B * C ≤ 1000000) (hmk : m ≤ 65536 ∧ k ≤ 65536 ∧ m * k ≤ 65536) (hn : n ≤ 65536) (hp : p ≤ 65536) (on : List (Int × Int)) (hon : OnOk on) (ov va vb : Value) (eO : Addr) (V : World) (hO : OverAt eO V) (ho : PairsIs V ov on) (ea : EntsIs V va a) (eb : EntsIs V vb b) :
    Calls Tryz.prog 7 #[ov, va, vb] V fun e w' => ∃ v, e = .returned (.tuple #[v, .nilIface]) ∧ EntsIs w' v (mkZ (jnP on a b)) ∧ Below V.heap.size V w' :=
  (jnJoin on a b ov va vb eO V hO (Nat.le_trans ha.2.2.1 hmk.1) (Nat.le_trans hb.2.2.1 hmk.2.1) (Nat.le_trans (Nat.mul_le_mul ha.2.2.1 hb.2.2.1) hmk.2.2) (ha.ok hB0 hn) (hb.ok hC0 hp) ha.1 hb.1 hon ho ea eb).mono fun _ _ ⟨v, h1, h2, h3⟩ => ⟨v, by rw [h1, (ha.jn hb on hBC).1]; rfl, h2.ents, h3⟩
end Go.Proofs.YtlafokjkpbhckaaGreatDoor
