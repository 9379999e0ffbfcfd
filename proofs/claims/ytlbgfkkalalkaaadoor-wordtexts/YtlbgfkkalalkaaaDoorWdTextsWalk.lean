/- The walk of the law that values as they are written, with blanks between them, are read as they were. -/
import Derived.Test.YtlbgfkkalalkaaaDoorWdLaw
import Derived.Test.YtlbgfkkalalkaaaDoorRefShow
import Derived.Test.YtlbgfkkalalkaaaDoorMakeValue
import Derived.Lib.ItoaLen
import Derived.Test.YtlbgfkkalalkaaaDoorStepCall
namespace Go.Proofs.YtlbgfkkalalkaaaDoor
open Go.RowKit Go.Sort
set_option maxRecDepth 100000

theorem info_int9 : (Tryd.prog.info? 3).map (fun i => (i.zero, i.size, i.bytes)) = some (some (.int .i64 0), 1, 8) := by kernel_rfl
theorem info_int649 : (Tryd.prog.info? 2).map (fun i => (i.zero, i.size, i.bytes)) = some (some (.int .i64 0), 1, 8) := by kernel_rfl
theorem info_str9 : (Tryd.prog.info? 9).map (fun i => (i.zero, i.size, i.bytes)) = some (some (.string ⟨#[]⟩), 1, 16) := by kernel_rfl
/-- The four blanks. -/
def gapA (i : Nat) : List UInt8 := ([[32], [10], [32, 9], [13, 32]] : List (List UInt8)).getD i []
theorem gap_blank (i : Nat) (h : i < 4) : BlankP (gapA i) ∧ (gapA i).length ≤ 2 := by
  obtain rfl | rfl | rfl | rfl : i = 0 ∨ i = 1 ∨ i = 2 ∨ i = 3 := by omega
  all_goals exact ⟨⟨by decide, by decide⟩, by decide⟩
def gaps : Array Value := #[.string ⟨#[32]⟩, .string ⟨#[10]⟩, .string ⟨#[32, 9]⟩, .string ⟨#[13, 32]⟩]
theorem gaps_at (i : Nat) (h : i < 4) : gaps[i]? = some (.string ⟨(gapA i).toArray⟩) := by
  obtain rfl | rfl | rfl | rfl : i = 0 ∨ i = 1 ∨ i = 2 ∨ i = 3 := by omega
  all_goals rfl
theorem okT_of {kind k n : Int} {s : ByteArray} (h : OkV kind k n s) (hk : kind = 1 ∨ kind = 2) (h0 : k ≠ 0) : OkT (k, n, s) ∧ k = kind ∧ ckV k n s = true := by
  obtain ⟨ck, n0, n1, hs, hkk⟩ := h
  have e : k = kind := by omega
  refine ⟨?_, e, ck⟩
  rcases hk with rfl | rfl
  · exact .inl ⟨e, n0, n1⟩
  · exact .inr ⟨e, hs⟩
theorem shT_len (v : TV) (h : OkT v) : (shT v).length ≤ 130 := by
  obtain ⟨k, n, s⟩ := v
  rcases h with ⟨rfl, h0, h1⟩ | ⟨rfl, hs⟩
  · have := Lib.itoa_length_le n h0 h1
    show (Lib.itoa n).length ≤ 130
    omega
  · have := dq_len s.data.toList
    have e := Lib.size_eq s
    show (39 :: (dq s.data.toList ++ [39])).length ≤ 130
    simp only [List.length_cons, List.length_append, List.length_nil]
    have hs' : s.size ≤ 64 := hs
    omega
theorem txt_len (g : List UInt8) (hg : g.length ≤ 2) : ∀ l : List TV, (∀ v ∈ l, OkT v) → (txt g l).length ≤ 132 * l.length
  | [], _ => Nat.le_refl _
  | v :: l, h => by
    have h1 := shT_len v (h v (by simp))
    have h2 := txt_len g hg l (fun u hu => h u (by simp [hu]))
    have e : txt g (v :: l) = (g ++ shT v) ++ txt g l := by simp [txt]
    rw [e, List.length_append, List.length_append, List.length_cons]; omega
def kindsC (l : List TV) : List Value := l.map fun v => .int .i64 v.1
def textsC (l : List TV) : List Value := l.map fun v => .string v.2.2
def numsC (l : List TV) : List Value := l.map fun v => .int .i64 v.2.1
theorem cell_one_new9 (w : World) (v : Value) (t : TypeId) : ∀ (j : Nat) (u : Value), ([v] : List Value)[j]? = some u → (w.alloc (.cells #[v] t)).cell? ((⟨w.heap.size, 0, none⟩ : Addr).add j) = some u := by
  intro j u h
  rw [add_plain, World.cell?_alloc_at _ _ _ _ rfl, Nat.zero_add]
  simpa using h
theorem cell_one_new2 (w : World) (o : Obj) (v : Value) (t : TypeId) : ∀ (j : Nat) (u : Value), ([v] : List Value)[j]? = some u → ((w.alloc o).alloc (.cells #[v] t)).cell? ((⟨w.heap.size + 1, 0, none⟩ : Addr).add j) = some u := by
  intro j u h
  have e : w.heap.size + 1 = (w.alloc o).heap.size := by simp
  rw [add_plain, e, World.cell?_alloc_at _ _ _ _ rfl, Nat.zero_add]
  simpa using h
/-- How far the making of values has come: their kinds, texts and numbers. -/
def WtTo (S : Nat) (a : Option Addr) (len cap : Nat) (zs : List Int) (base : Nat) (w0 : World) (p : Nat) (l : List TV) (v9 v10 v11 : Value) (wr : World) : Prop :=
  (∀ v ∈ l, OkT v) ∧ wr.ownsRow base 3 1 v9 l.length (kindsC l) ∧ wr.ownsRow base 9 1 v10 l.length (textsC l) ∧ wr.ownsRow base 2 1 v11 l.length (numsC l) ∧ SeqAt S a len cap zs p wr ∧ But S w0 wr
theorem WtTo.but {S : Nat} {a : Option Addr} {len cap : Nat} {zs : List Int} {base : Nat} {w0 : World} {p p' : Nat} {l : List TV} {v9 v10 v11 : Value} {wr w' : World} (h : WtTo S a len cap zs base w0 p l v9 v10 v11 wr) (hb : But S wr w') (hS : SeqAt S a len cap zs p' w') (hlt : S < base) : WtTo S a len cap zs base w0 p' l v9 v10 v11 w' := by
  obtain ⟨h1, h2, h3, h4, _, h6⟩ := h
  exact ⟨h1, ownW_but h2 hb hlt, ownW_but h3 hb hlt, ownW_but h4 hb hlt, hS, h6.trans hb⟩
/-- Within a round: how many kinds, texts and numbers there are; and the value's box. -/
def WtMid (S : Nat) (a : Option Addr) (len cap : Nat) (zs : List Int) (base : Nat) (w0 : World) (p b : Nat) (cs : Array Value) (n9 : Nat) (x9 : List Value) (n10 : Nat) (x10 : List Value) (n11 : Nat) (x11 : List Value) (v9 v10 v11 : Value) (wr : World) : Prop :=
  S < base ∧ base ≤ w0.heap.size ∧ wr.ownsRow base 3 1 v9 n9 x9 ∧ wr.ownsRow base 9 1 v10 n10 x10 ∧ wr.ownsRow base 2 1 v11 n11 x11 ∧ SeqAt S a len cap zs p wr ∧ But S w0 wr ∧ wr.heap[b]? = some (.cells cs 31 (0, 0))
theorem box_grown {w w' : World} {b base : Nat} {cs : Array Value} {T e : TypeId} {s n : Nat} {v : Value} {xs : List Value} (hb : w.heap[b]? = some (.cells cs T (0, 0))) (ho : w.ownsRow base e s v n xs) (hne : T ≠ e) (hg : w.grownBy w' v.ownBlock) : w'.heap[b]? = some (.cells cs T (0, 0)) := by
  have hlt : b < w.heap.size := (Array.getElem?_eq_some_iff.1 hb).1
  rw [hg.block b hlt ?_]
  · exact hb
  · intro hv
    rcases ho.2 with ⟨rfl, _⟩ | ⟨g1, c1, u1, rfl, _, h1, _⟩
    · cases hv
    · simp only [Value.ownBlock, Option.some.injEq] at hv
      subst hv
      rw [hb] at h1
      simp only [Option.some.injEq, Obj.cells.injEq] at h1
      exact hne h1.2.1
theorem seq_grown {S base : Nat} {a : Option Addr} {len cap : Nat} {zs : List Int} {p : Nat} {w w' : World} {e : TypeId} {s n : Nat} {v : Value} {xs : List Value} (h : SeqAt S a len cap zs p w) (ho : w.ownsRow base e s v n xs) (hS : S < base) (hg : w.grownBy w' v.ownBlock) : SeqAt S a len cap zs p w' := by
  obtain ⟨h1, h2, h3, h4, h5, h6⟩ := h
  have hk : ∀ k, k ≤ S → w'.heap[k]? = w.heap[k]? := fun k hk => hg.block k (by omega) (fun e => by have := (ho.lt k e.symm).1; omega)
  refine ⟨by rw [World.cell?_of_block (w := w) (hk S (Nat.le_refl _))]; exact h1, by rw [World.cell?_of_block (w := w) (hk S (Nat.le_refl _))]; exact h2, by rw [World.frozen?_of_block (w := w) (hk S (Nat.le_refl _))]; exact h3, Nat.lt_of_lt_of_le h4 hg.size, h5, ?_⟩
  rcases h6 with h | ⟨x, hx, g1, g2, g3, g4, g5⟩
  · exact .inl h
  · refine .inr ⟨x, hx, g1, g2, g3, fun i hi => ?_, g5⟩
    have := h5 x hx (by omega)
    have e : (x.add i).block = x.block := by unfold Addr.add; split <;> rfl
    rw [World.cell?_of_block (w := w) (hk (x.add i).block (by omega))]
    exact g4 i hi
theorem but_grown {S base : Nat} {w0 w w' : World} {e : TypeId} {s n : Nat} {v : Value} {xs : List Value} (h : But S w0 w) (ho : w.ownsRow base e s v n xs) (hb : w0.heap.size ≤ base) (hg : w.grownBy w' v.ownBlock) : But S w0 w' :=
  ⟨hg.os.trans h.1, hg.tape.trans h.2.1, hg.output.trans h.2.2.1, Nat.le_trans h.size hg.size, fun k h1 h2 => (hg.block k (Nat.lt_of_lt_of_le h2 h.size) (fun e => by have := (ho.lt k e.symm).1; omega)).trans (h.2.2.2.2 k h1 h2)⟩
section
variable {S : Nat} {a : Option Addr} {len cap : Nat} {zs : List Int} {w0 : World} {p b : Nat} {cs : Array Value} {n9 : Nat} {x9 : List Value} {n10 : Nat} {x10 : List Value} {n11 : Nat} {x11 : List Value} {v9 v10 v11 : Value} {wr w' : World}
theorem WtMid.alloc (h : WtMid S a len cap zs w0.heap.size w0 p b cs n9 x9 n10 x10 n11 x11 v9 v10 v11 wr) (o : Obj) : WtMid S a len cap zs w0.heap.size w0 p b cs n9 x9 n10 x10 n11 x11 v9 v10 v11 (wr.alloc o) := by
  obtain ⟨h0, h1, h2, h3, h4, h5, h6, h7⟩ := h
  exact ⟨h0, h1, h2.alloc _, h3.alloc _, h4.alloc _, h5.on one_box, h6.trans (But.of_below one_box), by rw [one_box.block b (Array.getElem?_eq_some_iff.1 h7).1]; exact h7⟩
theorem WtMid.g9 (h : WtMid S a len cap zs w0.heap.size w0 p b cs n9 x9 n10 x10 n11 x11 v9 v10 v11 wr) (g : wr.grownBy w' v9.ownBlock) {n : Nat} {x : List Value} {v : Value} (o : w'.ownsRow w0.heap.size 3 1 v n x) : WtMid S a len cap zs w0.heap.size w0 p b cs n x n10 x10 n11 x11 v v10 v11 w' := by
  obtain ⟨h0, h1, h2, h3, h4, h5, h6, h7⟩ := h
  exact ⟨h0, h1, o, ownW_grown h3 h2 (by decide) g, ownW_grown h4 h2 (by decide) g, seq_grown h5 h2 h0 g, but_grown h6 h2 (Nat.le_refl _) g, box_grown h7 h2 (by decide) g⟩
theorem WtMid.g10 (h : WtMid S a len cap zs w0.heap.size w0 p b cs n9 x9 n10 x10 n11 x11 v9 v10 v11 wr) (g : wr.grownBy w' v10.ownBlock) {n : Nat} {x : List Value} {v : Value} (o : w'.ownsRow w0.heap.size 9 1 v n x) : WtMid S a len cap zs w0.heap.size w0 p b cs n9 x9 n x n11 x11 v9 v v11 w' := by
  obtain ⟨h0, h1, h2, h3, h4, h5, h6, h7⟩ := h
  exact ⟨h0, h1, ownW_grown h2 h3 (by decide) g, o, ownW_grown h4 h3 (by decide) g, seq_grown h5 h3 h0 g, but_grown h6 h3 (Nat.le_refl _) g, box_grown h7 h3 (by decide) g⟩
theorem WtMid.g11 (h : WtMid S a len cap zs w0.heap.size w0 p b cs n9 x9 n10 x10 n11 x11 v9 v10 v11 wr) (g : wr.grownBy w' v11.ownBlock) {n : Nat} {x : List Value} {v : Value} (o : w'.ownsRow w0.heap.size 2 1 v n x) : WtMid S a len cap zs w0.heap.size w0 p b cs n9 x9 n10 x10 n x v9 v10 v w' := by
  obtain ⟨h0, h1, h2, h3, h4, h5, h6, h7⟩ := h
  exact ⟨h0, h1, ownW_grown h2 h4 (by decide) g, ownW_grown h3 h4 (by decide) g, o, seq_grown h5 h4 h0 g, but_grown h6 h4 (Nat.le_refl _) g, box_grown h7 h4 (by decide) g⟩
theorem cell_heap {w : World} {b o : Nat} {cs : Array Value} {T : TypeId} (h : w.heap[b]? = some (.cells cs T (0, 0))) : w.cell? ⟨b, o, none⟩ = cs[o]? := by
  simp [World.cell?, h]
theorem WtMid.box3 {x y z : Value} (h : WtMid S a len cap zs w0.heap.size w0 p b #[x, y, z] n9 x9 n10 x10 n11 x11 v9 v10 v11 wr) : wr.cell? ⟨b, 0, none⟩ = some x ∧ wr.cell? ⟨b, 1, none⟩ = some y ∧ wr.cell? ⟨b, 2, none⟩ = some z := by
  have h7 := h.2.2.2.2.2.2.2
  exact ⟨by rw [cell_heap h7]; rfl, by rw [cell_heap h7]; rfl, by rw [cell_heap h7]; rfl⟩
theorem WtMid.done {l : List TV} {k n : Int} {s : ByteArray} (h : WtMid S a len cap zs w0.heap.size w0 p b cs (l.length + 1) (kindsC l ++ [.int .i64 k]) (l.length + 1) (textsC l ++ [.string s]) (l.length + 1) (numsC l ++ [.int .i64 n]) v9 v10 v11 wr) (hl : ∀ v ∈ l, OkT v) (hv : OkT (k, n, s)) (hb : Below wr.heap.size wr w') : WtTo S a len cap zs w0.heap.size w0 p (l ++ [(k, n, s)]) v9 v10 v11 w' := by
  obtain ⟨h0, h1, h2, h3, h4, h5, h6, h7⟩ := h
  have e1 : kindsC (l ++ [(k, n, s)]) = kindsC l ++ [.int .i64 k] := by simp [kindsC]
  have e2 : textsC (l ++ [(k, n, s)]) = textsC l ++ [.string s] := by simp [textsC]
  have e3 : numsC (l ++ [(k, n, s)]) = numsC l ++ [.int .i64 n] := by simp [numsC]
  have e4 : (l ++ [(k, n, s)]).length = l.length + 1 := by simp
  refine ⟨fun v hm => ?_, by rw [e1, e4]; exact ownW_on h2 hb, by rw [e2, e4]; exact ownW_on h3 hb, by rw [e3, e4]; exact ownW_on h4 hb, h5.on hb, h6.trans (But.of_below hb)⟩
  rcases List.mem_append.1 hm with h | h
  · exact hl v h
  · rw [List.mem_singleton] at h; rw [h]; exact hv
end
theorem join3 (X g Y : List UInt8) : (⟨X.toArray⟩ ++ ⟨g.toArray⟩ : ByteArray) ++ ⟨Y.toArray⟩ = ⟨(X ++ (g ++ Y)).toArray⟩ := by
  apply ByteArray.ext
  simp [ByteArray.data_append]
theorem wcs_at : ∀ (ws : List (Nat × Wd)) (j : Nat) (h : j < ws.length) (o : Nat) (_ : o < 4), (wcs ws)[j * 4 + o]? = (wc ws[j])[o]?
  | [], j, h, _, _ => by simp at h
  | x :: ws, 0, _, o, ho => by
    show (wc x ++ wcs ws)[0 * 4 + o]? = (wc x)[o]?
    rw [Nat.zero_mul, Nat.zero_add, List.getElem?_append_left (by show o < 4; exact ho)]
  | x :: ws, j + 1, h, o, ho => by
    have hj : j < ws.length := by simpa using h
    show (wc x ++ wcs ws)[(j + 1) * 4 + o]? = (wc (ws[j]'hj))[o]?
    have e : (wc x).length = 4 := rfl
    rw [List.getElem?_append_right (by rw [e]; omega), e, show (j + 1) * 4 + o - 4 = j * 4 + o by omega]
    exact wcs_at ws j hj o ho
theorem below_drewN {B n : Nat} {a w : World} (h : Below B a w) : Below B a (w.drewN n) := ⟨h.os, h.tape, h.output, h.size, h.block⟩
theorem own_some {w : World} {base : Nat} {e : TypeId} {s n : Nat} {a : Option Addr} {c : Nat} {xs : List Value} (h : w.ownsRow base e s (.slice a n c) n xs) (hn : 0 < n) : ∃ g, a = some ⟨g, 0, none⟩ := by
  rcases h.2 with ⟨_, h0⟩ | ⟨g, cap, cur, hv, _⟩
  · omega
  · simp only [Value.slice.injEq] at hv
    exact ⟨g, hv.1⟩
set_option maxHeartbeats 16000000 in
theorem wordTexts_walk (a : Option Addr) (len cap : Nat) (zs : List Int) (gap : Int) (_wf0 : (Lit.int .i64 gap).wf = true) (w : World) (hw : WdA w) (ha : IsRow .i64 w a len cap zs) :
    Calls Tryd.prog 3 #[.slice a len cap, .int .i64 gap] w fun e w' => e = .returned (.bool true) ∧ Below w.heap.size w w' := by
  have q0 := lawFirst9 w hw
  have HW : Hid (∀ w', Below w.heap.size w w' → WdA w') := fun w' h => hw.on h
  have HA : Hid (IsRow .i64 w a len cap zs) := ha
  obtain ⟨gi, hgi, hgi4⟩ : ∃ k : Nat, (IntKind.i64.wrap (gap.tmod 4 + 4)).tmod 4 = (k : Int) ∧ k < 4 := by
    have h2 := Int.tmod_lt_of_pos gap (show (0 : Int) < 4 by decide)
    have h1 : -4 < gap.tmod 4 := Int.neg_lt_of_neg_lt (by have := Int.tmod_lt_of_pos (-gap) (show (0 : Int) < 4 by decide); rw [Int.neg_tmod] at this; omega)
    have e : IntKind.i64.wrap (gap.tmod 4 + 4) = gap.tmod 4 + 4 := by rw [IntKind.wrap_i64]; omega
    rw [e, Int.tmod_eq_emod_of_nonneg (by omega)]
    exact ⟨((gap.tmod 4 + 4) % 4).toNat, by omega, by omega⟩
  have HG : Hid ((IntKind.i64.wrap (gap.tmod 4 + 4)).tmod 4 = (gi : Int) ∧ gi < 4) := ⟨hgi, hgi4⟩
  clear ha hw hgi hgi4
  go_enter Tryd.func3, Tryd.ntmps3
  go_wp2_with fail
  refine q0.mono ?_
  rintro e w1 ⟨rfl, hb1⟩
  have B1 : Hid (Below w.heap.size w w1) := hb1
  clear q0 hb1
  by_cases hl : 60 < len
  · have I1 : (60 : Int) < (len : Int) := by omega
    go_wp2_with fail
    go_ret
    exact ⟨rfl, B1.out⟩
  · have I1 : ¬ (60 : Int) < (len : Int) := by omega
    have q1 := next w1.heap.size a len cap zs 0 20 _ (SeqAt.make (HA.out.below B1.out) 26) (by omega) (by decide) (by decide)
    go_wp2_with fail
    refine q1.mono ?_
    rintro e w2 ⟨rfl, hS, hb⟩
    obtain ⟨h0, h20⟩ := nm_bd (sq zs len 0) 20 (by decide)
    obtain ⟨N, hN⟩ : ∃ N : Nat, nm (sq zs len 0) 20 = (N : Int) := ⟨(nm (sq zs len 0) 20).toNat, by omega⟩
    rw [hN] at h0 h20 ⊢
    clear hN q1 hl
    have HB : Hid (∀ w', But w1.heap.size w2 w' → Below w.heap.size w w') := fun w' h => (B1.out.trans (one_box.mono B1.out.size)).trans ((hb.trans h).below B1.out.size (by have := B1.out.size; simp; omega))
    have HS : Hid (w1.heap.size < w2.heap.size) := by have := hb.size; simp at this; show _ < _; omega
    have F0 : Hid (WtTo w1.heap.size a len cap zs w2.heap.size w2 1 [] (.slice none 0 0) (.slice none 0 0) (.slice none 0 0) w2) :=
      ⟨(fun v h => by cases h), World.ownsRow_nil _ _ _ _, World.ownsRow_nil _ _ _ _, World.ownsRow_nil _ _ _ _, hS, But.refl _ _⟩
    clear hS hb
    go_wp2_with fail
    go_loopw [7, 9, 10, 11, 12] (fun s7 v9 v10 v11 s12 wr => ∃ (i p : Nat) (l : List TV), s12 = .int .i64 i ∧ i ≤ N ∧ l.length ≤ i ∧ p ≤ 5 * i + 1 ∧ s7 = .string ⟨(txt (gapA gi) l).toArray⟩ ∧ Hid (WtTo w1.heap.size a len cap zs w2.heap.size w2 p l v9 v10 v11 wr)) (fun _ _ _ _ s12 _ => N - (intOf s12).toNat)
    case atStart => exact ⟨0, 1, [], rfl, Nat.zero_le _, Nat.le_refl _, by omega, rfl, F0⟩
    case round =>
      obtain ⟨i, p, l, rfl, h1, h2, h3, rfl, HT⟩ := hrel
      clear F0
      by_cases hlt : i < N
      · have I2 : (i : Int) < (N : Int) := by omega
        obtain ⟨hok, o9, o10, o11, hS, hB⟩ := HT.out
        have q1 : Hid (Calls Tryd.prog 5 #[.pointer (some ⟨w1.heap.size, 0, none⟩), .int .i64 2] wr fun e w' => e = .returned (.int .i64 (nm (sq zs len p) 2)) ∧ SeqAt w1.heap.size a len cap zs (p + 1) w' ∧ But w1.heap.size wr w') := next w1.heap.size a len cap zs p 2 wr hS (by omega) (by decide) (by decide)
        obtain ⟨m0, m1⟩ := nm_bd (sq zs len p) 2 (by decide)
        obtain ⟨kd, hkd, hkd2⟩ : ∃ kd : Int, 1 + nm (sq zs len p) 2 = kd ∧ (kd = 1 ∨ kd = 2) := ⟨_, rfl, by omega⟩
        generalize nm (sq zs len p) 2 = m at *
        clear hok o9 o10 o11 hS hB
        go_wp2_with fail
        refine q1.out.mono ?_
        rintro e w3 ⟨rfl, hS, hb⟩
        have B3 : Hid (But w1.heap.size wr w3) := hb
        have q2 : Hid (Calls Tryd.prog 6 #[.pointer (some ⟨w1.heap.size, 0, none⟩), .int .i64 kd] w3 (Made w1.heap.size a len cap zs (p + 1) kd w3)) := makeValue w1.heap.size a len cap zs (p + 1) kd (by omega) w3 hS (by omega)
        have KD : Hid (kd = 1 ∨ kd = 2) := hkd2
        clear q1 hb hS hkd2
        go_wp2_with fail
        refine q2.out.mono ?_
        rintro e w4 ⟨k, n, s, p', rfl, hov, hp', hS, hb, _⟩
        have B4 : Hid (But w1.heap.size wr w4) := B3.out.trans hb
        have S4 : Hid (SeqAt w1.heap.size a len cap zs p' w4) := hS
        have OV : Hid (OkV kd k n s) := hov
        clear q2 hb hS B3 hov
        have P3 : p' ≤ 5 * (i + 1) + 1 := by omega
        clear hp' h3 m0 m1 hkd
        by_cases hk : k = 0
        · subst hk
          go_wp2_with fail
          refine ⟨⟨i + 1, p', l, by go_num, by omega, by omega, P3, rfl, HT.out.but (B4.out.trans (But.of_below one_box)) (S4.out.on one_box) HS.out⟩, ?_⟩
          simp only [intOf]; omega
        · obtain ⟨okt, hkk, ck⟩ := okT_of OV.out KD.out hk
          subst hkk
          have hkb : (k == 0) = false := by simp; exact hk
          have OT : Hid (OkT (k, n, s)) := okt
          have CK : Hid (ckV k n s = true) := ck
          clear okt ck
          obtain ⟨i9, hi9, hz90, hz91, hz92⟩ := info_parts info_int9
          obtain ⟨iA, hiA, hzA0, hzA1, hzA2⟩ := info_parts info_str9
          obtain ⟨iB, hiB, hzB0, hzB1, hzB2⟩ := info_parts info_int649
          have HK : Hid (∀ v ∈ l, OkT v) := HT.out.1
          have M4 : Hid (WtMid w1.heap.size a len cap zs w2.heap.size w2 p' w4.heap.size #[.int .i64 k, .int .i64 n, .string s] l.length (kindsC l) l.length (textsC l) l.length (numsC l) u9 u10 u11 (w4.alloc (.cells #[.int .i64 k, .int .i64 n, .string s] 31))) := by
            obtain ⟨_, o9, o10, o11, hs, hb⟩ := HT.out.but (B4.out.trans (But.of_below one_box)) (S4.out.on (one_box (o := .cells #[.int .i64 k, .int .i64 n, .string s] 31))) HS.out
            exact ⟨HS.out, Nat.le_refl _, o9, o10, o11, hs, hb, alloc_new _ _⟩
          have hsz4 : w2.heap.size ≤ w4.heap.size := by have := M4.out.2.2.2.2.2.2.1.size; have h5 := B4.out.size; have h6 := HT.out.2.2.2.2.2.size; omega
          clear HT B4 S4
          go_wp2_with (first
            | (at_builtin; refine wpList_append_own _ rfl _ _ 29 rfl w2.heap.size 2 iB (.int .i64 0) 1 8 Tryd.underlying29 hiB hzB0 hzB1 hzB2 rfl (by decide) _ l.length (numsC l) rfl (M6.out.alloc _).2.2.2.2.1 ⟨w6.heap.size, 0, none⟩ 1 1 [.int .i64 n] rfl rfl (cell_one_new9 _ _ _) (by simp [Value.oneCell']) (by unfold maxLen; omega) (by omega) (by simp; omega) ?_; intro v7 w7 g7 k7 _; have M7 : Hid (WtMid w1.heap.size a len cap zs w2.heap.size w2 p' w4.heap.size #[.int .i64 k, .int .i64 n, .string s] (l.length + 1) (kindsC l ++ [.int .i64 k]) (l.length + 1) (textsC l ++ [.string s]) (l.length + 1) (numsC l ++ [.int .i64 n]) v5 v6 v7 w7) := (M6.out.alloc _).g11 k7 g7; have s7 : w2.heap.size ≤ w7.heap.size := Nat.le_trans s6 (Nat.le_trans (by simp) k7.size); obtain ⟨c1, c2, c3⟩ := M7.out.box3; clear g7 k7 M6 s6)
            | (at_builtin; refine wpList_append_own _ rfl _ _ 28 rfl w2.heap.size 9 iA (.string ⟨#[]⟩) 1 16 Tryd.underlying28 hiA hzA0 hzA1 hzA2 rfl (by decide) _ l.length (textsC l) rfl (M5.out.alloc _).2.2.2.1 ⟨w5.heap.size, 0, none⟩ 1 1 [.string s] rfl rfl (cell_one_new9 _ _ _) (by simp [Value.oneCell']) (by unfold maxLen; omega) (by omega) (by simp; omega) ?_; intro v6 w6 g6 k6 _; have M6 : Hid (WtMid w1.heap.size a len cap zs w2.heap.size w2 p' w4.heap.size #[.int .i64 k, .int .i64 n, .string s] (l.length + 1) (kindsC l ++ [.int .i64 k]) (l.length + 1) (textsC l ++ [.string s]) l.length (numsC l) v5 v6 u11 w6) := (M5.out.alloc _).g10 k6 g6; have s6 : w2.heap.size ≤ w6.heap.size := Nat.le_trans s5 (Nat.le_trans (by simp) k6.size); obtain ⟨b1, b2, b3⟩ := M6.out.box3; clear g6 k6 M5 s5)
            | (at_builtin; refine wpList_append_own _ rfl _ _ 22 rfl w2.heap.size 3 i9 (.int .i64 0) 1 8 Tryd.underlying22 hi9 hz90 hz91 hz92 rfl (by decide) _ l.length (kindsC l) rfl (M4.out.alloc _).2.2.1 ⟨w4.heap.size + 1, 0, none⟩ 1 1 [.int .i64 k] rfl rfl (cell_one_new2 _ _ _ _) (by simp [Value.oneCell']) (by unfold maxLen; omega) (by omega) (by simp; omega) ?_; intro v5 w5 g5 k5 _; have M5 : Hid (WtMid w1.heap.size a len cap zs w2.heap.size w2 p' w4.heap.size #[.int .i64 k, .int .i64 n, .string s] (l.length + 1) (kindsC l ++ [.int .i64 k]) l.length (textsC l) l.length (numsC l) v5 u10 u11 w5) := (M4.out.alloc _).g9 k5 g5; have s5 : w2.heap.size ≤ w5.heap.size := Nat.le_trans hsz4 (Nat.le_trans (by simp; omega) k5.size); obtain ⟨a1, a2, a3⟩ := M5.out.box3; clear g5 k5 M4 hsz4)
            | fail)
          have hlt7 : w4.heap.size < w7.heap.size := (Array.getElem?_eq_some_iff.1 M7.out.2.2.2.2.2.2.2).1
          have q5 : Hid (∀ W, Below w7.heap.size w7 W → Calls Tryd.prog 7 #[.agg #[.int .i64 k, .int .i64 n, .string s]] W fun e w' => e = .returned (.string ⟨(shV k n s).toArray⟩) ∧ Below W.heap.size W w') := fun W hW =>
            refShowValue k n s CK.out OV.out.2.1 OV.out.2.2.1 (by have := OV.out.2.2.2.1; omega) W (((HW.out _ (HB.out _ M7.out.2.2.2.2.2.2.1)).on hW).1.1)
          have HX : Hid ((txt (gapA gi) l).length ≤ 132 * l.length) := txt_len _ (gap_blank gi HG.out.2).2 l HK.out
          have HY : Hid ((shV k n s).length ≤ 130) := shT_len (k, n, s) OT.out
          have HJ : Hid ((txt (gapA gi) (l ++ [(k, n, s)])) = txt (gapA gi) l ++ (gapA gi ++ shV k n s)) := txt_snoc _ _ _
          have HD : Hid (∀ w', Below w7.heap.size w7 w' → WtTo w1.heap.size a len cap zs w2.heap.size w2 p' (l ++ [(k, n, s)]) v5 v6 v7 w') := fun w' hb => M7.out.done HK.out OT.out hb
          have x1 := HX.out
          have y1 := HY.out
          have HG1 : (IntKind.i64.wrap (gap.tmod 4 + 4)).tmod 4 = (gi : Int) := HG.out.1
          have HG2 := HG.out.2
          clear HX HY
          generalize txt (gapA gi) l = X at *
          generalize shV k n s = Y at *
          have L1 : ¬ 9223372036854775807 < X.length + 1 := by omega
          have L2 : ¬ 9223372036854775807 < X.length + 2 := by omega
          have L3 : ¬ 9223372036854775807 < X.length + 1 + Y.length := by omega
          have L4 : ¬ 9223372036854775807 < X.length + 2 + Y.length := by omega
          obtain rfl | rfl | rfl | rfl : gi = 0 ∨ gi = 1 ∨ gi = 2 ∨ gi = 3 := by omega
          all_goals
            clear HG2 HK h0 HG M7 OT CK OV KD HB HW HA
            first
              | have J1 : (IntKind.i64.wrap (gap.tmod 4 + 4)).tmod 4 = 0 := HG1
              | have J1 : (IntKind.i64.wrap (gap.tmod 4 + 4)).tmod 4 = 1 := HG1
              | have J1 : (IntKind.i64.wrap (gap.tmod 4 + 4)).tmod 4 = 2 := HG1
              | have J1 : (IntKind.i64.wrap (gap.tmod 4 + 4)).tmod 4 = 3 := HG1
            clear HG1
            go_region_law (refine step_call1 (by rfl) 7 (.tmp 66) 31 (by rfl) (enters_of Tryd.func7 (by kernel_rfl) rfl) (.agg #[.int .i64 k, .int .i64 n, .string s]) (by rfl) _ _ (q5.out _ (by first | exact (Below.refl _ _).drew | exact ((Below.refl _ _).drew).alloc (Nat.le_refl _) _)) ?_; intro w8 hb8; obtain ⟨f8, _⟩ := bcell hb8)
          all_goals
            have BE : Hid (Below w7.heap.size w7 w8 ∧ ∀ o, Below w7.heap.size w7 (w8.alloc o)) := by
              have h1 : Below w7.heap.size w7 w8 := by
                first
                  | exact ((Below.refl _ _).drew).trans hb8
                  | exact (((Below.refl _ _).drew).alloc (Nat.le_refl _) _).trans (hb8.mono (one_box (w := w7.drew)).size)
              exact ⟨h1, fun o => h1.alloc h1.size o⟩
            clear hb8 f8 x1 y1 L1 L2 L3 L4 J1 q5 c1 c2 c3 hlt7
          all_goals go_wp2_with fail
          all_goals
            refine ⟨⟨i + 1, p', l ++ [(k, n, s)], by go_num, by omega, by rw [List.length_append]; show l.length + 1 ≤ _; omega, P3, by rw [HJ.out]; first | exact congrArg Value.string (join3 X (gapA 0) Y) | exact congrArg Value.string (join3 X (gapA 1) Y) | exact congrArg Value.string (join3 X (gapA 2) Y) | exact congrArg Value.string (join3 X (gapA 3) Y), by first | exact HD.out _ BE.out.1 | exact HD.out _ (BE.out.2 _)⟩, ?_⟩
            simp only [intOf]; omega
      · obtain rfl : i = N := by omega
        have I0 : ¬ (i : Int) < (i : Int) := by omega
        obtain ⟨hok, o9, o10, o11, _, hB⟩ := HT.out
        obtain ⟨gb1, gb2⟩ := gap_blank gi HG.out.2
        have xl := txt_len _ gb2 l hok
        obtain ⟨ws, hws, hmap⟩ := spl_txt _ gb1 l hok 0
        have hwl : ws.length = l.length := by have := congrArg List.length hmap; simpa using this
        have BR : Hid (Below w.heap.size w wr) := HB.out wr hB
        have q3 : Hid (Calls Tryd.prog 8 #[.string ⟨(txt (gapA gi) l).toArray⟩] wr fun e w' => (∃ v, e = .returned (.tuple #[v, .nilIface]) ∧ w'.ownsRow wr.heap.size 40 4 v ws.length (wcs ws)) ∧ Below wr.heap.size wr w') :=
          wSplitOk _ (by show (txt (gapA gi) l).toArray.size ≤ 4000; rw [List.size_toArray]; omega) ws hws wr (HW.out wr BR.out)
        obtain ⟨a9, c9, rfl⟩ := ownW_form o9
        obtain ⟨aA, cA, rfl⟩ := ownW_form o10
        obtain ⟨aB, cB, rfl⟩ := ownW_form o11
        have O9 : Hid (wr.ownsRow w2.heap.size 3 1 (.slice a9 l.length c9) l.length (kindsC l)) := o9
        have OA : Hid (wr.ownsRow w2.heap.size 9 1 (.slice aA l.length cA) l.length (textsC l)) := o10
        have OB : Hid (wr.ownsRow w2.heap.size 2 1 (.slice aB l.length cB) l.length (numsC l)) := o11
        rw [hwl] at q3
        have HK : Hid (∀ v ∈ l, OkT v) := hok
        have HM : Hid (ws.map (·.2) = l.map wdT ∧ ws.length = l.length) := ⟨hmap, hwl⟩
        have HN : Hid (l.length ≤ 20) := by show _ ≤ _; omega
        clear hok o9 o10 o11 hB gb1 gb2 xl hws hmap hwl HT HB HW HA HG h3 HS
        obtain ⟨X, hX⟩ : ∃ X, X = txt (gapA gi) l := ⟨_, rfl⟩
        rw [← hX] at q3 ⊢
        clear hX
        obtain ⟨M, hM⟩ : ∃ M, M = l.length := ⟨_, rfl⟩
        rw [← hM] at q3 O9 OA OB HN ⊢
        have HMl : Hid (M = l.length) := hM
        clear hM h2
        have hN20 := HN.out
        go_wp2_with fail
        refine q3.out.mono ?_
        rintro e w5 ⟨⟨v, rfl, ho⟩, hb⟩
        obtain ⟨aW, cW, rfl⟩ := ownW_form ho
        have OW : Hid (w5.ownsRow wr.heap.size 40 4 (.slice aW M cW) M (wcs ws)) := ho
        have P9 : Hid (w5.ownsRow w2.heap.size 3 1 (.slice a9 M c9) M (kindsC l)) := ownW_on O9.out hb
        have PA : Hid (w5.ownsRow w2.heap.size 9 1 (.slice aA M cA) M (textsC l)) := ownW_on OA.out hb
        have PB : Hid (w5.ownsRow w2.heap.size 2 1 (.slice aB M cB) M (numsC l)) := ownW_on OB.out hb
        have B5 : Hid (Below w.heap.size w w5) := BR.out.trans (hb.mono BR.out.size)
        clear q3 ho hb O9 OA OB BR
        go_wp2_with fail
        go_loopw [16] (fun s16 wq => ∃ j : Nat, s16 = .int .i64 j ∧ j ≤ M ∧ Hid (Below w5.heap.size w5 wq)) (fun s16 _ => M - (intOf s16).toNat)
        case atStart => exact ⟨0, rfl, Nat.zero_le _, Below.refl _ _⟩
        case round =>
          obtain ⟨j, rfl, j1, BQ⟩ := hrel
          by_cases hj : j < M
          · have J2 : (j : Int) < (M : Int) := by omega
            obtain ⟨g9, rfl⟩ := own_some P9.out (by omega)
            obtain ⟨gA, rfl⟩ := own_some PA.out (by omega)
            obtain ⟨gB, rfl⟩ := own_some PB.out (by omega)
            obtain ⟨gW, rfl⟩ := own_some OW.out (by omega)
            have hjl : j < l.length := by rw [← HMl.out]; exact hj
            have hjw : j < ws.length := by rw [HM.out.2]; exact hjl
            have ew : ws[j].2 = wdT l[j] := by
              have h1 : (ws.map (·.2))[j]? = (l.map wdT)[j]? := by rw [HM.out.1]
              rw [List.getElem?_map, List.getElem?_map, List.getElem?_eq_getElem hjw, List.getElem?_eq_getElem hjl] at h1
              simpa using h1
            have d9 : wr.cell? ⟨g9, j, none⟩ = some (.int .i64 l[j].1) := by
              rw [BQ.out.cell (p := ⟨g9, j, none⟩) (P9.out.lt g9 rfl).2, P9.out.cellAt j (by omega)]
              simp [kindsC, hjl]
            have dA : wr.cell? ⟨gA, j, none⟩ = some (.string l[j].2.2) := by
              rw [BQ.out.cell (p := ⟨gA, j, none⟩) (PA.out.lt gA rfl).2, PA.out.cellAt j (by omega)]
              simp [textsC, hjl]
            have dB : wr.cell? ⟨gB, j, none⟩ = some (.int .i64 l[j].2.1) := by
              rw [BQ.out.cell (p := ⟨gB, j, none⟩) (PB.out.lt gB rfl).2, PB.out.cellAt j (by omega)]
              simp [numsC, hjl]
            have dW : ∀ o, o < 4 → wr.cell? ⟨gW, j * 4 + o, none⟩ = (wc ws[j])[o]? := fun o ho => by
              rw [BQ.out.cell (p := ⟨gW, j * 4 + o, none⟩) (OW.out.lt gW rfl).2, OW.out.cellAt (j * 4 + o) (by omega), wcs_at ws j hjw o ho]
            have w0c := dW 0 (by decide)
            have w2c := dW 2 (by decide)
            have w3c := dW 3 (by decide)
            have hv := HK.out l[j] (List.getElem_mem hjl)
            unfold wc at w0c w2c w3c
            rw [ew] at w0c w2c w3c
            clear ew dW
            generalize l[j] = v at *
            obtain ⟨k, n, s⟩ := v
            rcases hv with ⟨rfl, _, _⟩ | ⟨rfl, _⟩
            · have a9 : wr.cell? ⟨g9, j, none⟩ = some (.int .i64 1) := d9
              have aB : wr.cell? ⟨gB, j, none⟩ = some (.int .i64 n) := dB
              have aW0 : wr.cell? ⟨gW, j * 4, none⟩ = some (.int .i64 2) := w0c
              have aW3 : wr.cell? ⟨gW, j * 4 + 3, none⟩ = some (.int .i64 n) := w3c
              clear d9 dA dB w0c w2c w3c hjl hjw
              go_wp2_with fail
              go_quiet (fail)
              go_wp2_with fail
              go_roundw
              case rel => exact ⟨j + 1, by go_num, by omega, below_drewN BQ.out⟩
              case measure => simp only [intOf]; omega
            · have a9 : wr.cell? ⟨g9, j, none⟩ = some (.int .i64 2) := d9
              have aA : wr.cell? ⟨gA, j, none⟩ = some (.string s) := dA
              have aW0 : wr.cell? ⟨gW, j * 4, none⟩ = some (.int .i64 3) := w0c
              have aW2 : wr.cell? ⟨gW, j * 4 + 2, none⟩ = some (.string s) := by
                have h : wr.cell? ⟨gW, j * 4 + 2, none⟩ = some (.string ⟨s.data.toList.toArray⟩) := w2c
                rw [Lib.mk_data] at h; exact h
              clear d9 dA dB w0c w2c w3c hjl hjw
              go_wp2_with fail
              go_quiet (fail)
              go_wp2_with fail
              go_roundw
              case rel => exact ⟨j + 1, by go_num, by omega, below_drewN BQ.out⟩
              case measure => simp only [intOf]; omega
          · obtain rfl : j = M := by omega
            have J0 : ¬ (j : Int) < (j : Int) := by omega
            clear hj
            go_wp2_with fail
            go_ret
            exact ⟨rfl, B5.out.trans (BQ.out.mono B5.out.size)⟩
end Go.Proofs.YtlbgfkkalalkaaaDoor
