/- Texts of one claim, one behind the other. -/
import Derived.Test.YtaccinophamgmaaDoorRowMem
import Derived.Test.YtaccinophamgmaaDoorMakeValue
/- What the statements' own maker of rows answers: a row of values that may be, of the columns' kinds, in new memory. -/
namespace Go.Proofs.YtaccinophamgmaaDoor
open Go.RowKit
set_option maxRecDepth 100000

theorem own_but {S base : Nat} {w w' : World} {e : TypeId} {size : Nat} {v : Value} {n : Nat} {xs : List Value} (h : w.ownsRow base e size v n xs) (hb : But S w w') (hS : S < base) : w'.ownsRow base e size v n xs := by
  have hlt := h.lt
  obtain ⟨h1, h2 | ⟨g, cap, cur, hv, hg, hh, r⟩⟩ := h
  · exact ⟨h1, .inl h2⟩
  · refine ⟨h1, .inr ⟨g, cap, cur, hv, hg, ?_, r⟩⟩
    rw [hb.2.2.2.2 g (by omega) (hlt g (by rw [hv]; rfl)).2]; exact hh
theorem But.grown {S : Nat} {w w1 w2 : World} {row : Option Nat} (h : But S w w1) (hg : w1.grownBy w2 row) (hr : ∀ k, row = some k → w.heap.size ≤ k) : But S w w2 :=
  ⟨hg.os.trans h.1, hg.tape.trans h.2.1, hg.output.trans h.2.2.1, Nat.le_trans h.size hg.size, fun k h1 h2 => (hg.block k (Nat.lt_of_lt_of_le h2 h.size) (fun e => by have := hr k e.symm; omega)).trans (h.2.2.2.2 k h1 h2)⟩
theorem SeqAt.grown {S : Nat} {a : Option Addr} {len cap : Nat} {zs : List Int} {p : Nat} {w w' : World} {row : Option Nat} (h : SeqAt S a len cap zs p w) (hg : w.grownBy w' row) (hr : ∀ k, row = some k → S < k) : SeqAt S a len cap zs p w' := by
  obtain ⟨h1, h2, h3, h4, h5, h6⟩ := h
  have hbl : ∀ k, k ≤ S → k < w.heap.size → w'.heap[k]? = w.heap[k]? := fun k h1 h2 => hg.block k h2 (fun e => by have := hr k e.symm; omega)
  have e : ∀ q : Addr, q.block ≤ S → q.block < w.heap.size → w'.cell? q = w.cell? q := fun q hq hl => World.cell?_of_block (w := w) (hbl q.block hq hl)
  refine ⟨by rw [e _ (Nat.le_refl _) h4]; exact h1, by rw [e _ (Nat.le_refl _) h4]; exact h2, by rw [World.frozen?_of_block (w := w) (hbl S (Nat.le_refl _) h4)]; exact h3, Nat.lt_of_lt_of_le h4 hg.size, h5, ?_⟩
  rcases h6 with h | ⟨x, hx, g1, g2, g3, g4, g5⟩
  · exact .inl h
  · refine .inr ⟨x, hx, g1, g2, g3, fun i hi => ?_, g5⟩
    have hlt := h5 x hx (by omega)
    have hb : (x.add i).block = x.block := by unfold Addr.add; split <;> rfl
    rw [e _ (by rw [hb]; omega) (by rw [hb]; omega)]
    exact g4 i hi

/-- Columns' kinds in a block of their own. -/
def ColsAt (C : Nat) (ks : List Int) (w : World) : Prop := C < w.heap.size ∧ ∀ i (h : i < ks.length), w.cell? ⟨C, i, none⟩ = some (.int .i64 ks[i])
theorem ColsAt.on {C : Nat} {ks : List Int} {w w' : World} (h : ColsAt C ks w) (hb : Below w.heap.size w w') : ColsAt C ks w' :=
  ⟨Nat.lt_of_lt_of_le h.1 hb.size, fun i hi => by rw [hb.cell (p := ⟨C, i, none⟩) h.1]; exact h.2 i hi⟩
theorem ColsAt.but {S C : Nat} {ks : List Int} {w w' : World} (h : ColsAt C ks w) (hb : But S w w') (hC : C ≠ S) : ColsAt C ks w' :=
  ⟨Nat.lt_of_lt_of_le h.1 hb.size, fun i hi => by rw [hb.cell (p := ⟨C, i, none⟩) hC h.1]; exact h.2 i hi⟩
/-- A row's values may be, each of its column's kind. -/
def OkR (ks : List Int) (l : List Val) : Prop := ∀ i (h : i < l.length) (h' : i < ks.length), OkV ks[i] l[i].1 l[i].2.1 l[i].2.2

/-- The row that is made of the numbers from p on, for columns' kinds. -/
def mkR (f : Nat → Int) : Nat → List Int → List Val × Nat
  | p, [] => ([], p)
  | p, k :: ks => ((mkV f p k).1 :: (mkR f (mkV f p k).2 ks).1, (mkR f (mkV f p k).2 ks).2)
theorem mkR_snoc (f : Nat → Int) : ∀ (ks : List Int) (p : Nat) (k : Int), mkR f p (ks ++ [k]) = ((mkR f p ks).1 ++ [(mkV f (mkR f p ks).2 k).1], (mkV f (mkR f p ks).2 k).2)
  | [], p, k => rfl
  | k' :: ks, p, k => by simp only [List.cons_append, mkR]; rw [mkR_snoc f ks]
/-- How far a row has come. -/
def SoFar (S : Nat) (a : Option Addr) (len cap : Nat) (zs : List Int) (p : Nat) (ks : List Int) (w : World) (j : Nat) (v : Value) (wr : World) : Prop :=
  ∃ l p', l.length = j ∧ OkR ks l ∧ wr.ownsRow w.heap.size 30 3 v j (rc l) ∧ p' ≤ p + 4 * j ∧ SeqAt S a len cap zs p' wr ∧ But S w wr ∧ mkR (sq zs len) p (ks.take j) = (l, p')
theorem info_value : (Tryd.prog.info? 30).map (fun i => (i.zero, i.size, i.bytes)) = some (some (.agg #[.int .i64 0, .int .i64 0, .string ⟨#[]⟩]), 3, 32) := by kernel_rfl
theorem cell_three_new (w : World) (x y z : Value) (t : TypeId) : ∀ j u, [x, y, z][j]? = some u → (w.alloc (.cells #[x, y, z] t)).cell? ((⟨w.heap.size, 0, none⟩ : Addr).add j) = some u := by
  intro j u h
  rw [add_plain, World.cell?_alloc_at _ _ _ _ rfl]
  simpa using h
theorem okr_snoc {ks : List Int} {l : List Val} {v : Val} (h : OkR ks l) (hl : l.length < ks.length) (hv : OkV ks[l.length] v.1 v.2.1 v.2.2) : OkR ks (l ++ [v]) := by
  intro i h1 h2
  by_cases e : i < l.length
  · rw [List.getElem_append_left e]; exact h i e h2
  · have e' : i = l.length := by simp at h1; omega
    subst e'; simpa using hv

set_option maxHeartbeats 2000000 in
theorem makeRow (S : Nat) (a : Option Addr) (len cap : Nat) (zs : List Int) (p : Nat) (C n ccap : Nat) (ks : List Int) (w : World) (h : SeqAt S a len cap zs p w) (hp : p + 4 * n ≤ 4294967290)
    (hc : ColsAt C ks w) (hC : C ≠ S) (hn : n ≤ ks.length) (hk : ∀ i (h : i < ks.length), ks[i] = 0 ∨ ks[i] = 1 ∨ ks[i] = 2 ∨ ks[i] = 3) :
    Calls Tryd.prog 43 #[.pointer (some ⟨S, 0, none⟩), .slice (some ⟨C, 0, none⟩) n ccap] w fun e w' => ∃ v, e = .returned v ∧ SoFar S a len cap zs p ks w n v w' := by
  have HS : Hid (S < w.heap.size) := h.2.2.2.1
  have H0 : Hid (SoFar S a len cap zs p ks w 0 (.slice none 0 0) w) := ⟨[], p, rfl, fun i h => by simp at h, World.ownsRow_nil _ _ _ _, by omega, h, But.refl _ _, rfl⟩
  have HC : Hid (ColsAt C ks w) := hc
  obtain ⟨i0, hi, hz0, hz1, hz2⟩ := info_parts info_value
  clear h hc
  go_enter Tryd.func43, Tryd.ntmps43
  go_wp2_with fail
  go_loopw [5, 6] (fun v i wr => ∃ j : Nat, j ≤ n ∧ i = .int .i64 j ∧ SoFar S a len cap zs p ks w j v wr) (fun _ i _ => n - (intOf i).toNat)
  case atStart => exact ⟨0, by omega, rfl, H0.out⟩
  case round =>
    obtain ⟨j, hj, rfl, hso⟩ := hrel
    by_cases hlt : j < n
    · obtain ⟨l, p', hl, hok, hown, hpp, hseq, hbut, hmk⟩ := hso
      have hjk : j < ks.length := by omega
      have hkj := hk j hjk
      have hcc := (HC.out.but hbut hC).2 j hjk
      have K : Hid (l.length = j ∧ OkR ks l ∧ wr.ownsRow w.heap.size 30 3 u5 j (rc l) ∧ p' ≤ p + 4 * j ∧ But S w wr) := ⟨hl, hok, hown, hpp, hbut⟩
      have I1 : (j : Int) < (n : Int) := by omega
      have KM : Hid (∀ v q, mkV (sq zs len) p' ks[j] = (v, q) → mkR (sq zs len) p (ks.take (j + 1)) = (l ++ [v], q)) := fun v q h => by
        rw [List.take_succ_eq_append_getElem hjk, mkR_snoc, hmk]; simp only [h]
      have KV : Hid (∀ v, OkV ks[j] v.1 v.2.1 v.2.2 → OkR ks (l ++ [v])) := fun v hv => okr_snoc hok (by omega) (by subst hl; exact hv)
      generalize ks[j] = kd at *
      clear hl hok hown hmk
      go_wp2_with fail
      refine (makeValue S a len cap zs p' kd hkj _ hseq (by omega)).mono ?_
      rintro e w1 ⟨k, x, s, p2, rfl, ok, hp2, hseq1, hb1, hmv⟩
      clear hcc hseq hbut
      have KE : Hid (mkR (sq zs len) p (ks.take (j + 1)) = (l ++ [(k, x, s)], p2)) := KM.out _ _ hmv
      clear hmv KM
      have hown := own_but K.out.2.2.1 hb1 HS.out
      have hz := Nat.le_trans K.out.2.2.2.2.size hb1.size
      have hrow := fun g hg => (hown.lt g hg).1
      have F : Hid (∀ v2 w2, w2.ownsRow w.heap.size 30 3 v2 (j + 1) (rc l ++ vc (k, x, s)) → (w1.alloc (.cells #[.int .i64 k, .int .i64 x, .string s] 30)).grownBy w2 (Value.ownBlock u5) → SoFar S a len cap zs p ks w (j + 1) v2 w2) := by
        intro v2 w2 h1 h2
        refine ⟨l ++ [(k, x, s)], p2, by simp [K.out.1], KV.out _ ok, by rw [rc_snoc]; exact h1, by have := K.out.2.2.2.1; omega, ?_, ?_, KE.out⟩
        · exact (hseq1.on one_box).grown h2 (fun g hg => Nat.lt_of_lt_of_le HS.out (hrow g hg))
        · exact ((K.out.2.2.2.2.trans hb1).box _).grown h2 (fun g hg => hrow g hg)
      clear hseq1 hb1 hrow
      go_wp2_with (first | (at_builtin; refine wpList_append_own _ rfl _ _ 50 rfl w.heap.size 30 i0 (.agg #[.int .i64 0, .int .i64 0, .string ⟨#[]⟩]) 3 32 Tryd.underlying50 hi hz0 hz1 hz2 rfl (by decide) _ j (rc l) rfl (hown.alloc _) ⟨w1.heap.size, 0, none⟩ 1 1 (vc (k, x, s)) rfl rfl (cell_three_new _ _ _ _ _) (by simp [vc, Value.oneCell']) (by unfold maxLen; omega) (by omega) (by simp; omega) ?_; intro v2 w2 hown2 hg2 _; have hso2 := F.out _ _ hown2 hg2; clear hown2 hg2) | go_in)
      go_roundw
      case rel => exact ⟨j + 1, by omega, by go_num, hso2⟩
      case measure => simp [intOf]; omega
    · obtain rfl : j = n := by omega
      have I1 : ¬ (j : Int) < (j : Int) := by omega
      go_wp2_with fail
      go_ret
      exact ⟨_, rfl, hso⟩
end Go.Proofs.YtaccinophamgmaaDoor
/- What the document's own Pick answers of rows in memory. -/
namespace Go.Proofs.YtaccinophamgmaaDoor
open Go.RowKit
set_option maxRecDepth 100000

/-- A slice that reads as these integers. -/
def IntsIs (w : World) (v : Value) (ks : List Int) : Prop :=
  (∃ a cap, v = .slice a 0 cap ∧ ks = []) ∨
  ∃ b o cap, v = .slice (some ⟨b, o, none⟩) ks.length cap ∧ ks.length ≤ cap ∧ cap ≤ maxLen ∧ b < w.heap.size ∧ ∀ i (h : i < ks.length), w.cell? ⟨b, o + i, none⟩ = some (.int .i64 ks[i])
theorem IntsIs.form {w : World} {v : Value} {l : List Int} (h : IntsIs w v l) : ∃ a cap, v = .slice a l.length cap := by
  rcases h with ⟨a, cap, rfl, rfl⟩ | ⟨b, o, cap, rfl, _⟩
  · exact ⟨a, cap, rfl⟩
  · exact ⟨_, cap, rfl⟩
theorem IntsIs.addr {w : World} {v : Value} {l : List Int} (h : IntsIs w v l) (hl : l ≠ []) : ∃ b o cap, v = .slice (some ⟨b, o, none⟩) l.length cap := by
  rcases h with ⟨_, _, _, e⟩ | ⟨b, o, cap, e, _⟩
  · exact absurd e hl
  · exact ⟨b, o, cap, e⟩
theorem IntsIs.le {w : World} {v : Value} {l : List Int} (h : IntsIs w v l) : l.length ≤ maxLen := by
  rcases h with ⟨_, _, _, rfl⟩ | ⟨b, o, cap, rfl, h1, h2, _⟩
  · exact Nat.zero_le _
  · omega
theorem IntsIs.on {w w' : World} {v : Value} {l : List Int} (h : IntsIs w v l) (hb : Below w.heap.size w w') : IntsIs w' v l := by
  rcases h with h | ⟨b, o, cap, rfl, h1, h2, h3, h4⟩
  · exact .inl h
  · exact .inr ⟨b, o, cap, rfl, h1, h2, Nat.lt_of_lt_of_le h3 hb.size, fun i hi => by rw [hb.cell (p := ⟨b, o + i, none⟩) h3]; exact h4 i hi⟩
theorem IntsIs.at {w : World} {b o n cap : Nat} {l : List Int} (h : IntsIs w (.slice (some ⟨b, o, none⟩) n cap) l) (i : Nat) (hi : i < l.length) : w.cell? ⟨b, o + i, none⟩ = some (.int .i64 l[i]) := by
  rcases h with ⟨_, _, _, rfl⟩ | ⟨b', o', cap', e, _, _, h3, h4⟩
  · simp at hi
  · simp only [Value.slice.injEq, Option.some.injEq, Addr.mk.injEq, and_true] at e
    obtain ⟨⟨rfl, rfl⟩, _⟩ := e
    exact h4 i hi
theorem IntsIs.of_row {w : World} {a : Option Addr} {len cap : Nat} {zs : List Int} (h : IsRow .i64 w a len cap zs) : IntsIs w (.slice a len cap) (zs.take len) := by
  rcases h with ⟨rfl, rfl, rfl, rfl⟩ | ⟨x, rfl, h1, h2, h3, h4, h5⟩
  · exact .inl ⟨none, 0, rfl, rfl⟩
  · by_cases e : len = 0
    · subst e; exact .inl ⟨_, _, rfl, by simp⟩
    · obtain ⟨b, o, spot⟩ := x
      have hspot : spot = none := by simpa [Addr.add] using World.cell?_spot (h4 0 (by omega))
      subst hspot
      have hl : (zs.take len).length = len := by simp; omega
      refine .inr ⟨b, o, cap, by rw [hl], by omega, h2, World.block_lt_of_cell? _ _ (h4 0 (by omega)), fun i hi => ?_⟩
      have := h4 i (by omega)
      rw [add_plain] at this
      rw [this]; simp only [hl] at hi
      simp [List.getD, show i < zs.length by omega]

/-- Is each a column? The columns that are picked. -/
def inR (l : List Val) (k : Int) : Bool := decide (0 ≤ k) && decide (k < (l.length : Int))
def allIn (l : List Val) (ks : List Int) : Bool := ks.all (inR l)
def atV (l : List Val) (k : Int) : Val := l.getD k.toNat (0, 0, ⟨#[]⟩)
def pk (l : List Val) (ks : List Int) : List Val := if allIn l ks then ks.map (atV l) else []
/-- How far a pick has come. -/
def PickTo (l : List Val) (ks : List Int) (w : World) (j : Nat) (v : Value) (wr : World) : Prop :=
  allIn l (ks.take j) = true ∧ wr.ownsRow w.heap.size 30 3 v j (rc ((ks.take j).map (atV l))) ∧ Below w.heap.size w wr
theorem allIn_snoc {l : List Val} {ks : List Int} {j : Nat} (h : j < ks.length) : allIn l (ks.take (j + 1)) = (allIn l (ks.take j) && inR l ks[j]) := by
  unfold allIn; rw [List.take_succ_eq_append_getElem h, List.all_append]; simp
theorem allIn_not {l : List Val} {ks : List Int} {j : Nat} (h : j < ks.length) (h' : inR l ks[j] = false) : allIn l ks = false := by
  unfold allIn; rw [List.all_eq_false]; exact ⟨ks[j], List.getElem_mem h, by simp [h']⟩
theorem map_snoc {l : List Val} {ks : List Int} {j : Nat} (h : j < ks.length) : (ks.take (j + 1)).map (atV l) = (ks.take j).map (atV l) ++ [atV l ks[j]] := by
  rw [List.take_succ_eq_append_getElem h, List.map_append]; rfl
theorem atV_eq {l : List Val} {k : Int} (h : k.toNat < l.length) : atV l k = l[k.toNat] := by simp [atV, List.getD, h]

set_option maxHeartbeats 2000000 in
theorem refPick_some (l : List Val) (ks : List Int) (b1 o1 cap0 b o cap : Nat) (w : World) (hn : ks.length ≤ 4294967296) (ha : RowIs w (.slice (some ⟨b1, o1, none⟩) l.length cap0) l) (hb : IntsIs w (.slice (some ⟨b, o, none⟩) ks.length cap) ks) :
    Calls Tryd.prog 29 #[.slice (some ⟨b1, o1, none⟩) l.length cap0, .slice (some ⟨b, o, none⟩) ks.length cap] w fun e w' => ∃ v, e = .returned (.tuple #[v, .bool (allIn l ks)]) ∧ w'.ownsRow w.heap.size 30 3 v (pk l ks).length (rc (pk l ks)) ∧ Below w.heap.size w w' := by
  have la := ha.le
  unfold maxLen at la
  obtain ⟨i0, hi, hz0, hz1, hz2⟩ := info_parts info_value
  have Ha : Hid (RowIs w (.slice (some ⟨b1, o1, none⟩) l.length cap0) l) := ha
  have Hb : Hid (IntsIs w (.slice (some ⟨b, o, none⟩) ks.length cap) ks) := hb
  have H0 : Hid (PickTo l ks w 0 (.slice none 0 0) w) := ⟨by simp [allIn], World.ownsRow_nil _ _ _ _, Below.refl _ _⟩
  clear ha hb
  go_enter Tryd.func29, Tryd.ntmps29
  go_wp2_with fail
  go_loopw [6, 7] (fun v i wr => ∃ j : Nat, j ≤ ks.length ∧ i = .int .i64 j ∧ PickTo l ks w j v wr) (fun _ i _ => ks.length - (intOf i).toNat)
  case atStart => exact ⟨0, by omega, rfl, H0.out⟩
  case round =>
    obtain ⟨j, hj, rfl, hso⟩ := hrel
    by_cases hlt : j < ks.length
    · obtain ⟨h1, h2, h3⟩ := hso
      have I1 : (j : Int) < (ks.length : Int) := by omega
      have hk := (Hb.out.on h3).at j hlt
      have HN : Hid (inR l ks[j] = false → allIn l ks = false) := allIn_not hlt
      have HY : Hid (inR l ks[j] = true → allIn l (ks.take (j + 1)) = true) := fun h => by rw [allIn_snoc hlt, h1, h]; rfl
      have HM : Hid ((ks.take (j + 1)).map (atV l) = (ks.take j).map (atV l) ++ [atV l ks[j]]) := map_snoc hlt
      have HO : Hid (wr.ownsRow w.heap.size 30 3 u6 j (rc ((ks.take j).map (atV l)))) := h2
      generalize ks[j] = k at *
      clear h1 h2
      by_cases k0 : k < 0
      · have hi0 : inR l k = false := by unfold inR; simp <;> omega
        have e1 := HN.out hi0
        have RN : Hid (pk l ks = []) := by show _ = _; unfold pk; rw [e1]; rfl
        have E1 : Hid (allIn l ks = false) := e1
        clear e1 hi0
        go_wp2_with fail
        go_ret2
        refine ⟨.slice none 0 0, ?_, ?_, h3⟩
        · rw [E1.out]; rfl
        · rw [RN.out]; exact World.ownsRow_nil _ _ _ _
      · by_cases k1 : k < (l.length : Int)
        · have hkl : k.toNat < l.length := by omega
          have hi1 : inR l k = true := by unfold inR; simp <;> omega
          have X := (Ha.out.on h3).at' k.toNat hkl
          have X' : wr.cell? ⟨b1, o1 + k.toNat * 3, none⟩ = some (.int .i64 (atV l k).1) ∧ wr.cell? ⟨b1, o1 + k.toNat * 3 + 1, none⟩ = some (.int .i64 (atV l k).2.1) ∧ wr.cell? ⟨b1, o1 + k.toNat * 3 + 2, none⟩ = some (.string (atV l k).2.2) := by rw [atV_eq hkl]; exact X
          obtain ⟨x1, x2, x3⟩ := X'
          clear X
          have I4 : 0 ≤ k := by omega
          have hz := h3.size
          have hrow := fun g hg => (HO.out.lt g hg).1
          have F : Hid (∀ v2 w2, w2.ownsRow w.heap.size 30 3 v2 (j + 1) (rc ((ks.take j).map (atV l)) ++ vc (atV l k)) → (wr.alloc (.cells #[.int .i64 (atV l k).1, .int .i64 (atV l k).2.1, .string (atV l k).2.2] 30)).grownBy w2 (Value.ownBlock u6) → PickTo l ks w (j + 1) v2 w2) := by
            intro v2 w2 g1 g2
            refine ⟨HY.out hi1, ?_, ?_⟩
            · rw [HM.out, rc_snoc]; exact g1
            · exact (h3.alloc hz _).grown g2 (by simp; omega) hrow
          generalize atV l k = x at *
          clear hi1 hrow
          go_wp2_with (first | (at_builtin; refine wpList_append_own _ rfl _ _ 50 rfl w.heap.size 30 i0 (.agg #[.int .i64 0, .int .i64 0, .string ⟨#[]⟩]) 3 32 Tryd.underlying50 hi hz0 hz1 hz2 rfl (by decide) _ j (rc ((ks.take j).map (atV l))) rfl (HO.out.alloc _) ⟨wr.heap.size, 0, none⟩ 1 1 (vc x) rfl rfl (cell_three_new _ _ _ _ _) (by simp [vc, Value.oneCell']) (by unfold maxLen; omega) (by omega) (by simp; omega) ?_; intro v2 w2 hown2 hg2 _; have hso2 := F.out _ _ hown2 hg2; clear hown2 hg2) | go_in)
          go_roundw
          case rel => exact ⟨j + 1, by omega, by go_num, hso2⟩
          case measure => simp [intOf]; omega
        · have hi0 : inR l k = false := by unfold inR; simp <;> omega
          have e1 := HN.out hi0
          have RN : Hid (pk l ks = []) := by show _ = _; unfold pk; rw [e1]; rfl
          have E1 : Hid (allIn l ks = false) := e1
          have I3 : (l.length : Int) ≤ k := by omega
          clear e1 hi0
          go_wp2_with fail
          go_ret2
          refine ⟨.slice none 0 0, ?_, ?_, h3⟩
          · rw [E1.out]; rfl
          · rw [RN.out]; exact World.ownsRow_nil _ _ _ _
    · obtain rfl : j = ks.length := by omega
      obtain ⟨h1, h2, h3⟩ := hso
      rw [List.take_length] at h1 h2
      have E1 : Hid (allIn l ks = true) := h1
      have HR : Hid (wr.ownsRow w.heap.size 30 3 u6 (pk l ks).length (rc (pk l ks))) := by
        show wr.ownsRow _ _ _ _ _ _
        unfold pk; rw [h1]; simp only [if_true]
        simpa using h2
      clear h1 h2
      go_wp2_with fail
      go_ret2
      refine ⟨u6, ?_, HR.out, h3⟩
      rw [E1.out]; rfl

set_option maxHeartbeats 2000000 in
theorem refPick_empty (a0 : Option Addr) (cap0 : Nat) (ks : List Int) (b o cap : Nat) (w : World) (hn : ks.length ≤ 4294967296) (hb : IntsIs w (.slice (some ⟨b, o, none⟩) ks.length cap) ks) :
    Calls Tryd.prog 29 #[.slice a0 0 cap0, .slice (some ⟨b, o, none⟩) ks.length cap] w fun e w' => ∃ v, e = .returned (.tuple #[v, .bool (allIn ([] : List Val) ks)]) ∧ w'.ownsRow w.heap.size 30 3 v (pk ([] : List Val) ks).length (rc (pk ([] : List Val) ks)) ∧ Below w.heap.size w w' := by
  obtain ⟨i0, hi, hz0, hz1, hz2⟩ := info_parts info_value
  have Hb : Hid (IntsIs w (.slice (some ⟨b, o, none⟩) ks.length cap) ks) := hb
  have H0 : Hid (PickTo ([] : List Val) ks w 0 (.slice none 0 0) w) := ⟨by simp [allIn], World.ownsRow_nil _ _ _ _, Below.refl _ _⟩
  clear hb
  go_enter Tryd.func29, Tryd.ntmps29
  go_wp2_with fail
  go_loopw [6, 7] (fun v i wr => ∃ j : Nat, j ≤ ks.length ∧ i = .int .i64 j ∧ PickTo ([] : List Val) ks w j v wr) (fun _ i _ => ks.length - (intOf i).toNat)
  case atStart => exact ⟨0, by omega, rfl, H0.out⟩
  case round =>
    obtain ⟨j, hj, rfl, hso⟩ := hrel
    by_cases hlt : j < ks.length
    · obtain ⟨h1, h2, h3⟩ := hso
      have I1 : (j : Int) < (ks.length : Int) := by omega
      have hk := (Hb.out.on h3).at j hlt
      have HN : Hid (inR ([] : List Val) ks[j] = false → allIn ([] : List Val) ks = false) := allIn_not hlt
      have HY : Hid (inR ([] : List Val) ks[j] = true → allIn ([] : List Val) (ks.take (j + 1)) = true) := fun h => by rw [allIn_snoc hlt, h1, h]; rfl
      have HM : Hid ((ks.take (j + 1)).map (atV ([] : List Val)) = (ks.take j).map (atV ([] : List Val)) ++ [atV ([] : List Val) ks[j]]) := map_snoc hlt
      have HO : Hid (wr.ownsRow w.heap.size 30 3 u6 j (rc ((ks.take j).map (atV ([] : List Val))))) := h2
      generalize ks[j] = k at *
      clear h1 h2
      by_cases k0 : k < 0
      · have hi0 : inR ([] : List Val) k = false := by unfold inR; simp <;> omega
        have e1 := HN.out hi0
        have RN : Hid (pk ([] : List Val) ks = []) := by show _ = _; unfold pk; rw [e1]; rfl
        have E1 : Hid (allIn ([] : List Val) ks = false) := e1
        clear e1 hi0
        go_wp2_with fail
        go_ret2
        refine ⟨.slice none 0 0, ?_, ?_, h3⟩
        · rw [E1.out]; rfl
        · rw [RN.out]; exact World.ownsRow_nil _ _ _ _
      · by_cases k1 : k < 0
        · omega
        · have hi0 : inR ([] : List Val) k = false := by unfold inR; simp <;> omega
          have e1 := HN.out hi0
          have RN : Hid (pk ([] : List Val) ks = []) := by show _ = _; unfold pk; rw [e1]; rfl
          have E1 : Hid (allIn ([] : List Val) ks = false) := e1
          have I3 : 0 ≤ k := by omega
          clear e1 hi0
          go_wp2_with fail
          go_ret2
          refine ⟨.slice none 0 0, ?_, ?_, h3⟩
          · rw [E1.out]; rfl
          · rw [RN.out]; exact World.ownsRow_nil _ _ _ _
    · obtain rfl : j = ks.length := by omega
      obtain ⟨h1, h2, h3⟩ := hso
      rw [List.take_length] at h1 h2
      have E1 : Hid (allIn ([] : List Val) ks = true) := h1
      have HR : Hid (wr.ownsRow w.heap.size 30 3 u6 (pk ([] : List Val) ks).length (rc (pk ([] : List Val) ks))) := by
        show wr.ownsRow _ _ _ _ _ _
        unfold pk; rw [h1]; simp only [if_true]
        simpa using h2
      clear h1 h2
      go_wp2_with fail
      go_ret2
      refine ⟨u6, ?_, HR.out, h3⟩
      rw [E1.out]; rfl

set_option maxHeartbeats 1000000 in
theorem refPick_none (a0 : Option Addr) (n cap0 : Nat) (b0 : Option Addr) (cap : Nat) (w : World) :
    Calls Tryd.prog 29 #[.slice a0 n cap0, .slice b0 0 cap] w fun e w' => e = .returned (.tuple #[.slice none 0 0, .bool true]) ∧ w' = w := by
  go_enter Tryd.func29, Tryd.ntmps29
  go_wp2_with fail
  go_loopw [6, 7] (fun v i wr => v = .slice none 0 0 ∧ i = .int .i64 0 ∧ wr = w) (fun _ _ _ => 0)
  case atStart => exact ⟨rfl, rfl, rfl⟩
  case round =>
    obtain ⟨rfl, rfl, rfl⟩ := hrel
    go_wp2_with fail
    go_ret2
    exact ⟨rfl, rfl⟩

/-- The document's Pick; what it answers is the call's own. -/
theorem refPickO (l : List Val) (ks : List Int) (va vb : Value) (w : World) (hn : ks.length ≤ 4294967296) (ha : RowIs w va l) (hb : IntsIs w vb ks) :
    Calls Tryd.prog 29 #[va, vb] w fun e w' => ∃ v, e = .returned (.tuple #[v, .bool (allIn l ks)]) ∧ w'.ownsRow w.heap.size 30 3 v (pk l ks).length (rc (pk l ks)) ∧ Below w.heap.size w w' := by
  obtain ⟨a0, cap0, ea⟩ := ha.form
  by_cases hk : ks = []
  · subst hk
    obtain ⟨b0, cap, eb⟩ := hb.form
    subst ea eb
    refine (refPick_none a0 l.length cap0 b0 cap w).mono ?_
    rintro e w' ⟨rfl, rfl⟩
    exact ⟨_, rfl, World.ownsRow_nil _ _ _ _, Below.refl _ _⟩
  · obtain ⟨b, o, cap, rfl⟩ := hb.addr hk
    by_cases hl : l = []
    · subst hl; subst ea
      exact refPick_empty a0 cap0 ks b o cap w hn hb
    · obtain ⟨b1, o1, cap1, rfl⟩ := ha.addr hl
      exact refPick_some l ks b1 o1 cap1 b o cap w hn ha hb
/-- The document's Pick. -/
theorem refPick (l : List Val) (ks : List Int) (va vb : Value) (w : World) (hn : ks.length ≤ 4294967296) (ha : RowIs w va l) (hb : IntsIs w vb ks) :
    Calls Tryd.prog 29 #[va, vb] w fun e w' => ∃ v, e = .returned (.tuple #[v, .bool (allIn l ks)]) ∧ RowIs w' v (pk l ks) ∧ Below w.heap.size w w' := by
  refine (refPickO l ks va vb w hn ha hb).mono ?_
  rintro e w' ⟨v, rfl, h1, h2⟩
  exact ⟨v, rfl, RowIs.of_own h1, h2⟩
end Go.Proofs.YtaccinophamgmaaDoor
/- Columns' kinds in a block of their own. -/
namespace Go.Proofs.YtaccinophamgmaaDoor
open Go.RowKit
theorem ints_newP (w : World) (ks : List Int) (t : TypeId) (h : ks.length ≤ maxLen) (n : Nat) (hn : ks.length = n) : IntsIs (w.alloc (.cells (ks.map (Value.int .i64)).toArray t)) (.slice (some ⟨w.heap.size, 0, none⟩) n n) ks := by
  subst hn
  refine .inr ⟨w.heap.size, 0, _, rfl, Nat.le_refl _, h, by simp, fun i hi => ?_⟩
  rw [World.cell?_alloc_at _ _ _ _ (by simp)]
  simp [hi]
theorem cols_newP (w : World) (ks : List Int) (t : TypeId) : ColsAt w.heap.size ks (w.alloc (.cells (ks.map (Value.int .i64)).toArray t)) := by
  refine ⟨by simp, fun i hi => ?_⟩
  rw [World.cell?_alloc_at _ _ _ _ rfl]
  simp [hi]
theorem ColsAt.ints {C : Nat} {ks : List Int} {w : World} (h : ColsAt C ks w) (n : Nat) (hn : ks.length = n) (hm : n ≤ maxLen) : IntsIs w (.slice (some ⟨C, 0, none⟩) n n) ks := by
  subst hn
  exact .inr ⟨C, 0, _, rfl, Nat.le_refl _, hm, h.1, fun i hi => by rw [Nat.zero_add]; exact h.2 i hi⟩
end Go.Proofs.YtaccinophamgmaaDoor
