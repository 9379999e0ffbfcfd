/- What the statements' own maker of rows answers: a row of values that may be, of the columns' kinds, in new memory. -/
import Derived.Test.YtmpochhcokmaiaaRowMem
import Derived.Test.YtmpochhcokmaiaaMakeValue
namespace Go.Proofs.Ytmpochhcokmaiaa
open Go.RowKit
set_option maxRecDepth 100000

theorem own_but {S base : Nat} {w w' : World} {e : TypeId} {size : Nat} {v : Value} {n : Nat} {xs : List Value} (h : w.ownsRow base e size v n xs) (hb : But S w w') (hS : S < base) : w'.ownsRow base e size v n xs := by
  have hlt := h.lt
  obtain ⟨h1, h2 | ⟨g, cap, cur, hv, hg, hh, r⟩⟩ := h
  · exact ⟨h1, .inl h2⟩
  · refine ⟨h1, .inr ⟨g, cap, cur, hv, hg, ?_, r⟩⟩
    rw [hb.2.2.2.2 g (by omega) (hlt g (by rw [hv]; rfl)).2]; exact hh
theorem But.grown {S : Nat} {w w1 w2 : World} {row : Option Nat} (h : But S w w1) (hg : w1.grownBy w2 row) (hr : ∀ k, row = some k → w.heap.size ≤ k) : But S w w2 :=
  ⟨hg.os.trans h.1, hg.tape.trans h.2.1, hg.output.trans h.2.2.1, Nat.le_trans h.size hg.size, fun k h1 h2 => (hg.block k (Nat.lt_of_lt_of_le h2 h.size) (fun e => by have := hr k e.symm; omega)).trans (h.2.2.2.2 k h1 h2)⟩
theorem SeqAt.grown {S : Nat} {a : Option Addr} {len cap : Nat} {zs : List Int} {p : Nat} {w w' : World} {row : Option Nat} (h : SeqAt S a len cap zs p w) (hg : w.grownBy w' row) (hr : ∀ k, row = some k → S < k) : SeqAt S a len cap zs p w' := by
  obtain ⟨h1, h2, h3, h4, h5, h6⟩ := h
  have hbl : ∀ k, k ≤ S → k < w.heap.size → w'.heap[k]? = w.heap[k]? := fun k h1 h2 => hg.block k h2 (fun e => by have := hr k e.symm; omega)
  have e : ∀ q : Addr, q.block ≤ S → q.block < w.heap.size → w'.cell? q = w.cell? q := fun q hq hl => World.cell?_of_block (w := w) (hbl q.block hq hl)
  refine ⟨by rw [e _ (Nat.le_refl _) h4]; exact h1, by rw [e _ (Nat.le_refl _) h4]; exact h2, by rw [World.frozen?_of_block (w := w) (hbl S (Nat.le_refl _) h4)]; exact h3, Nat.lt_of_lt_of_le h4 hg.size, h5, ?_⟩
  rcases h6 with h | ⟨x, hx, g1, g2, g3, g4, g5⟩
  · exact .inl h
  · refine .inr ⟨x, hx, g1, g2, g3, fun i hi => ?_, g5⟩
    have hlt := h5 x hx (by omega)
    have hb : (x.add i).block = x.block := by unfold Addr.add; split <;> rfl
    rw [e _ (by rw [hb]; omega) (by rw [hb]; omega)]
    exact g4 i hi

/-- Columns' kinds in a block of their own. -/
def ColsAt (C : Nat) (ks : List Int) (w : World) : Prop := C < w.heap.size ∧ ∀ i (h : i < ks.length), w.cell? ⟨C, i, none⟩ = some (.int .i64 ks[i])
theorem ColsAt.on {C : Nat} {ks : List Int} {w w' : World} (h : ColsAt C ks w) (hb : Below w.heap.size w w') : ColsAt C ks w' :=
  ⟨Nat.lt_of_lt_of_le h.1 hb.size, fun i hi => by rw [hb.cell (p := ⟨C, i, none⟩) h.1]; exact h.2 i hi⟩
theorem ColsAt.but {S C : Nat} {ks : List Int} {w w' : World} (h : ColsAt C ks w) (hb : But S w w') (hC : C ≠ S) : ColsAt C ks w' :=
  ⟨Nat.lt_of_lt_of_le h.1 hb.size, fun i hi => by rw [hb.cell (p := ⟨C, i, none⟩) hC h.1]; exact h.2 i hi⟩
/-- A row's values may be, each of its column's kind. -/
def OkR (ks : List Int) (l : List Val) : Prop := ∀ i (h : i < l.length) (h' : i < ks.length), OkV ks[i] l[i].1 l[i].2.1 l[i].2.2

/-- The row that is made of the numbers from p on, for columns' kinds. -/
def mkR (f : Nat → Int) : Nat → List Int → List Val × Nat
  | p, [] => ([], p)
  | p, k :: ks => ((mkV f p k).1 :: (mkR f (mkV f p k).2 ks).1, (mkR f (mkV f p k).2 ks).2)
theorem mkR_snoc (f : Nat → Int) : ∀ (ks : List Int) (p : Nat) (k : Int), mkR f p (ks ++ [k]) = ((mkR f p ks).1 ++ [(mkV f (mkR f p ks).2 k).1], (mkV f (mkR f p ks).2 k).2)
  | [], p, k => rfl
  | k' :: ks, p, k => by simp only [List.cons_append, mkR]; rw [mkR_snoc f ks]
/-- How far a row has come. -/
def SoFar (S : Nat) (a : Option Addr) (len cap : Nat) (zs : List Int) (p : Nat) (ks : List Int) (w : World) (j : Nat) (v : Value) (wr : World) : Prop :=
  ∃ l p', l.length = j ∧ OkR ks l ∧ wr.ownsRow w.heap.size 39 3 v j (rc l) ∧ p' ≤ p + 4 * j ∧ SeqAt S a len cap zs p' wr ∧ But S w wr ∧ mkR (sq zs len) p (ks.take j) = (l, p')
theorem info_value : (Try.prog.info? 39).map (fun i => (i.zero, i.size, i.bytes)) = some (some (.agg #[.int .i64 0, .int .i64 0, .string ⟨#[]⟩]), 3, 32) := by kernel_rfl
theorem cell_three_new (w : World) (x y z : Value) (t : TypeId) : ∀ j u, [x, y, z][j]? = some u → (w.alloc (.cells #[x, y, z] t)).cell? ((⟨w.heap.size, 0, none⟩ : Addr).add j) = some u := by
  intro j u h
  rw [add_plain, World.cell?_alloc_at _ _ _ _ rfl]
  simpa using h
theorem okr_snoc {ks : List Int} {l : List Val} {v : Val} (h : OkR ks l) (hl : l.length < ks.length) (hv : OkV ks[l.length] v.1 v.2.1 v.2.2) : OkR ks (l ++ [v]) := by
  intro i h1 h2
  by_cases e : i < l.length
  · rw [List.getElem_append_left e]; exact h i e h2
  · have e' : i = l.length := by simp at h1; omega
    subst e'; simpa using hv

set_option maxHeartbeats 2000000 in
theorem makeRow (S : Nat) (a : Option Addr) (len cap : Nat) (zs : List Int) (p : Nat) (C n ccap : Nat) (ks : List Int) (w : World) (h : SeqAt S a len cap zs p w) (hp : p + 4 * n ≤ 4294967290)
    (hc : ColsAt C ks w) (hC : C ≠ S) (hn : n ≤ ks.length) (hk : ∀ i (h : i < ks.length), ks[i] = 0 ∨ ks[i] = 1 ∨ ks[i] = 2 ∨ ks[i] = 3) :
    Calls Try.prog 15 #[.pointer (some ⟨S, 0, none⟩), .slice (some ⟨C, 0, none⟩) n ccap] w fun e w' => ∃ v, e = .returned v ∧ SoFar S a len cap zs p ks w n v w' := by
  have HS : Hid (S < w.heap.size) := h.2.2.2.1
  have H0 : Hid (SoFar S a len cap zs p ks w 0 (.slice none 0 0) w) := ⟨[], p, rfl, fun i h => by simp at h, World.ownsRow_nil _ _ _ _, by omega, h, But.refl _ _, rfl⟩
  have HC : Hid (ColsAt C ks w) := hc
  obtain ⟨i0, hi, hz0, hz1, hz2⟩ := info_parts info_value
  clear h hc
  go_enter Try.func15, Try.ntmps15
  go_wp2_with fail
  go_loopw [5, 6] (fun v i wr => ∃ j : Nat, j ≤ n ∧ i = .int .i64 j ∧ SoFar S a len cap zs p ks w j v wr) (fun _ i _ => n - (intOf i).toNat)
  case atStart => exact ⟨0, by omega, rfl, H0.out⟩
  case round =>
    obtain ⟨j, hj, rfl, hso⟩ := hrel
    by_cases hlt : j < n
    · obtain ⟨l, p', hl, hok, hown, hpp, hseq, hbut, hmk⟩ := hso
      have hjk : j < ks.length := by omega
      have hkj := hk j hjk
      have hcc := (HC.out.but hbut hC).2 j hjk
      have K : Hid (l.length = j ∧ OkR ks l ∧ wr.ownsRow w.heap.size 39 3 u5 j (rc l) ∧ p' ≤ p + 4 * j ∧ But S w wr) := ⟨hl, hok, hown, hpp, hbut⟩
      have I1 : (j : Int) < (n : Int) := by omega
      have KM : Hid (∀ v q, mkV (sq zs len) p' ks[j] = (v, q) → mkR (sq zs len) p (ks.take (j + 1)) = (l ++ [v], q)) := fun v q h => by
        rw [List.take_succ_eq_append_getElem hjk, mkR_snoc, hmk]; simp only [h]
      have KV : Hid (∀ v, OkV ks[j] v.1 v.2.1 v.2.2 → OkR ks (l ++ [v])) := fun v hv => okr_snoc hok (by omega) (by subst hl; exact hv)
      generalize ks[j] = kd at *
      clear hl hok hown hmk
      go_wp2_with fail
      refine (makeValue S a len cap zs p' kd hkj _ hseq (by omega)).mono ?_
      rintro e w1 ⟨k, x, s, p2, rfl, ok, hp2, hseq1, hb1, hmv⟩
      clear hcc hseq hbut
      have KE : Hid (mkR (sq zs len) p (ks.take (j + 1)) = (l ++ [(k, x, s)], p2)) := KM.out _ _ hmv
      clear hmv KM
      have hown := own_but K.out.2.2.1 hb1 HS.out
      have hz := Nat.le_trans K.out.2.2.2.2.size hb1.size
      have hrow := fun g hg => (hown.lt g hg).1
      have F : Hid (∀ v2 w2, w2.ownsRow w.heap.size 39 3 v2 (j + 1) (rc l ++ vc (k, x, s)) → (w1.alloc (.cells #[.int .i64 k, .int .i64 x, .string s] 39)).grownBy w2 (Value.ownBlock u5) → SoFar S a len cap zs p ks w (j + 1) v2 w2) := by
        intro v2 w2 h1 h2
        refine ⟨l ++ [(k, x, s)], p2, by simp [K.out.1], KV.out _ ok, by rw [rc_snoc]; exact h1, by have := K.out.2.2.2.1; omega, ?_, ?_, KE.out⟩
        · exact (hseq1.on one_box).grown h2 (fun g hg => Nat.lt_of_lt_of_le HS.out (hrow g hg))
        · exact ((K.out.2.2.2.2.trans hb1).box _).grown h2 (fun g hg => hrow g hg)
      clear hseq1 hb1 hrow
      go_wp2_with (first | (at_builtin; refine wpList_append_own _ rfl _ _ 34 rfl w.heap.size 39 i0 (.agg #[.int .i64 0, .int .i64 0, .string ⟨#[]⟩]) 3 32 Try.underlying34 hi hz0 hz1 hz2 rfl (by decide) _ j (rc l) rfl (hown.alloc _) ⟨w1.heap.size, 0, none⟩ 1 1 (vc (k, x, s)) rfl rfl (cell_three_new _ _ _ _ _) (by simp [vc, Value.oneCell']) (by unfold maxLen; omega) (by omega) (by simp; omega) ?_; intro v2 w2 hown2 hg2 _; have hso2 := F.out _ _ hown2 hg2; clear hown2 hg2) | go_in)
      go_roundw
      case rel => exact ⟨j + 1, by omega, by go_num, hso2⟩
      case measure => simp [intOf]; omega
    · obtain rfl : j = n := by omega
      have I1 : ¬ (j : Int) < (j : Int) := by omega
      go_wp2_with fail
      go_ret
      exact ⟨_, rfl, hso⟩
end Go.Proofs.Ytmpochhcokmaiaa
