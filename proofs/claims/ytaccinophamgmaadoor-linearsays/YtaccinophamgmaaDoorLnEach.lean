/- What linear.eachOnce answers: columns each once, by where each is named first, and for each its place there. -/
import Derived.Test.YtaccinophamgmaaDoorPackLin
import Derived.Test.YtaccinophamgmaaDoorRowPick
import Derived.Test.YtaccinophamgmaaDoorPackSets
import Derived.Maps.OwnSet
import Derived.Maps.AppendAt
namespace Go.Proofs.YtaccinophamgmaaDoor
open Go.RowKit
set_option maxRecDepth 100000
set_option linter.unusedVariables false

def ivE (l : List Int) : List Value := l.map (Value.int .i64)
theorem IntsIs.of_ownE {w : World} {base n : Nat} {v : Value} {l : List Int} (h : w.ownsRow base 3 1 v n (ivE l)) : IntsIs w v l := by
  have hlt := h.lt
  have hl : l.length = n := by have := h.1; simp [ivE] at this; omega
  subst hl
  obtain ⟨h1, h2 | ⟨g, cap, cur, rfl, hg, hh, hc, hm, hs, ht⟩⟩ := h
  · exact .inl ⟨none, 0, h2.1, List.eq_nil_of_length_eq_zero h2.2⟩
  · have own : w.ownsRow base 3 1 (.slice (some ⟨g, 0, none⟩) l.length cap) l.length (ivE l) := ⟨h1, .inr ⟨g, cap, cur, rfl, hg, hh, hc, hm, hs, ht⟩⟩
    refine .inr ⟨g, 0, cap, rfl, hc, hm, (hlt g rfl).2, fun i hi => ?_⟩
    rw [Nat.zero_add, own.cellAt i (by omega)]
    simp [ivE, hi]
theorem info_intE : (Tryd.prog.info? 3).map (fun i => (i.zero, i.size, i.bytes)) = some (some (.int .i64 0), 1, 8) := by kernel_rfl
theorem keysE : Go.Maps.Keyed Tryd.prog 3 := Go.Maps.int_keyed Tryd.underlying3
theorem zeroE (w : World) : (zeroValue 3).run Tryd.prog w = .ok (.int .i64 0) w := by kernel_rfl
theorem wf_inI {c : Int} (h : inI c = true) : (Lit.int .i64 c).wf = true := by
  unfold inI at h
  simp only [Bool.and_eq_true, decide_eq_true_eq] at h
  simp only [Lit.wf, Bool.and_eq_true, decide_eq_true_eq]
  exact h
theorem inI_wf {c : Int} (h : (Lit.int .i64 c).wf = true) : inI c = true := by
  unfold inI
  simp only [Lit.wf, Bool.and_eq_true, decide_eq_true_eq] at h ⊢
  exact h
/-- A map that tells of each column whether it is there, and where it stands. -/
def MapOf (D : DataW Unit) (o : List Int) : Prop := ∀ c : Int, Go.Maps.has D (.int .i64 c) = decide (c ∈ o) ∧ (c ∈ o → ∀ z, D.atKey (.int .i64 c) z = .lit (.int .i64 ((o.idxOf c : Nat) : Int)))
theorem MapOf.none : MapOf (.map []) [] := fun c => ⟨rfl, fun h => by cases h⟩
theorem MapOf.new {D : DataW Unit} {o : List Int} (h : MapOf D o) (hm : Go.Maps.IsMap D) {c : Int} (hc : c ∉ o) : MapOf (D.put (.int .i64 c) (.lit (.int .i64 (o.length : Int)))) (o ++ [c]) := by
  have hk : WideAt.IsKeyLit (.int .i64 c) := trivial
  intro x
  by_cases hx : x = c
  · subst hx
    refine ⟨by rw [Go.Maps.has_put_same hm hk]; simp, fun _ z => ?_⟩
    rw [Go.Maps.atKey_put_same hm hk, List.idxOf_append, if_neg hc]; simp
  · have hne : Lit.int .i64 x ≠ Lit.int .i64 c := fun e => hx (by injection e)
    refine ⟨?_, fun h' z => ?_⟩
    · rw [Go.Maps.has_put_other hne, (h x).1]; simp [hx]
    · have h2 : x ∈ o := by simpa [hx] using h'
      rw [Go.Maps.atKey_put_other hne, (h x).2 h2, List.idxOf_append, if_pos h2]
/-- How far it has come. -/
def EachTo (ks : List Int) (w : World) (j : Nat) (vo vp : Value) (wr : World) : Prop :=
  ∃ D : DataW Unit, wr.ownsMap Tryd.prog 3 (plainElem Tryd.prog 3) w.heap.size j D ∧ MapOf D (onceL (ks.take j)) ∧
    wr.ownsRow (w.heap.size + 1) 3 1 vo (onceL (ks.take j)).length (ivE (onceL (ks.take j))) ∧ wr.ownsRow (w.heap.size + 1) 3 1 vp j (ivE (plcL (ks.take j))) ∧
    (∀ k, vo.ownBlock = some k → vp.ownBlock ≠ some k) ∧ Below w.heap.size w wr ∧ w.heap.size + 1 ≤ wr.heap.size
theorem apart_of {v u : Value} (h : ∀ k, v.ownBlock = some k → u.ownBlock ≠ some k) : u.ownBlock = Option.none ∨ u.ownBlock ≠ v.ownBlock := by
  cases e : u.ownBlock with
  | none => exact .inl rfl
  | some k => exact .inr fun e' => h k e'.symm e
theorem map_keep {w w' : World} {b n : Nat} {D : DataW Unit} {g : Option Nat} (h : w.ownsMap Tryd.prog 3 (plainElem Tryd.prog 3) b n D) (hg : w.grownBy w' g) (hne : ∀ k, g = some k → b < k) : w'.ownsMap Tryd.prog 3 (plainElem Tryd.prog 3) b n D :=
  h.kept hg (fun e => by have := hne b e.symm; omega)
/-- One column more, that was there. -/
theorem EachTo.old {ks : List Int} {w wr w2 : World} {j : Nat} {vo vp v2 : Value} (hj : j < ks.length) (h : EachTo ks w j vo vp wr) (hc : ks[j] ∈ onceL (ks.take j)) (c : Int) (hcc : c = (((onceL (ks.take j)).idxOf ks[j] : Nat) : Int))
    (ho : w2.ownsRow (w.heap.size + 1) 3 1 v2 (j + 1) (ivE (plcL (ks.take j)) ++ [.int .i64 c])) (hg : (wr.alloc (.cells #[.int .i64 c] 3)).grownBy w2 vp.ownBlock) (ha : v2.ownBlock = vp.ownBlock ∨ v2.ownBlock = some (wr.alloc (.cells #[.int .i64 c] 3)).heap.size) :
    EachTo ks w (j + 1) vo v2 w2 := by
  obtain ⟨D, h1, h2, h3, h4, h5, h6, h7⟩ := h
  have ht : ks.take (j + 1) = ks.take j ++ [ks[j]] := List.take_succ_eq_append_getElem hj
  have e1 : onceL (ks.take (j + 1)) = onceL (ks.take j) := by rw [ht, onceL_snoc]; unfold addO; rw [if_pos hc]
  have e2 : plcL (ks.take (j + 1)) = plcL (ks.take j) ++ [c] := by rw [ht, plcL_snoc, idx_addO hc, hcc]
  have e3 : ivE (plcL (ks.take (j + 1))) = ivE (plcL (ks.take j)) ++ [.int .i64 c] := by rw [e2]; unfold ivE; rw [List.map_append]; rfl
  have b4 := fun k e => (h4.lt k e)
  refine ⟨D, ?_, by rw [e1]; exact h2, ?_, by rw [e3]; exact ho, ?_, ?_, ?_⟩
  · exact (map_keep (h1.alloc _) hg (fun k e => by have := (b4 k e).1; omega)).mono (Nat.le_succ _)
  · rw [e1]
    refine (h3.alloc _).kept hg ?_
    cases e : vo.ownBlock with
    | none => exact .inl rfl
    | some k => exact .inr fun e' => h5 k e e'.symm
  · intro k e
    rcases ha with ha | ha
    · rw [ha]; exact h5 k e
    · rw [ha]
      have := (h3.lt k e).2
      intro e'
      simp at e'
      omega
  · exact (h6.alloc (by omega) _).grown hg (by simp; omega) (fun k e => by have := (b4 k e).1; omega)
  · have := hg.size; simp at this; omega
/-- One column more, that was not there. -/
theorem EachTo.new {ks : List Int} {w wr w1 w2 w3 : World} {j : Nat} {vo vp v2 v3 : Value} (hj : j < ks.length) (hw : inI ks[j] = true) (h : EachTo ks w j vo vp wr) (hc : ks[j] ∉ onceL (ks.take j)) {D' : DataW Unit} (hD : MapOf D' (onceL (ks.take j) ++ [ks[j]])) (hm : w1.ownsMap Tryd.prog 3 (plainElem Tryd.prog 3) w.heap.size (j + 1) D') (hg1 : wr.grownBy w1 (some w.heap.size))
    (ho : w2.ownsRow (w.heap.size + 1) 3 1 v2 ((onceL (ks.take j)).length + 1) (ivE (onceL (ks.take j)) ++ [.int .i64 ks[j]])) (hg2 : (w1.alloc (.cells #[.int .i64 ks[j]] 3)).grownBy w2 vo.ownBlock) (ha2 : v2.ownBlock = vo.ownBlock ∨ v2.ownBlock = some (w1.alloc (.cells #[.int .i64 ks[j]] 3)).heap.size)
    (hp : w3.ownsRow (w.heap.size + 1) 3 1 v3 (j + 1) (ivE (plcL (ks.take j)) ++ [.int .i64 ((onceL (ks.take j)).length : Int)])) (hg3 : (w2.alloc (.cells #[.int .i64 ((onceL (ks.take j)).length : Int)] 3)).grownBy w3 vp.ownBlock) (ha3 : v3.ownBlock = vp.ownBlock ∨ v3.ownBlock = some (w2.alloc (.cells #[.int .i64 ((onceL (ks.take j)).length : Int)] 3)).heap.size) :
    EachTo ks w (j + 1) v2 v3 w3 := by
  obtain ⟨D, h1, h2, h3, h4, h5, h6, h7⟩ := h
  have ht : ks.take (j + 1) = ks.take j ++ [ks[j]] := List.take_succ_eq_append_getElem hj
  have e0 : addO (onceL (ks.take j)) ks[j] = onceL (ks.take j) ++ [ks[j]] := by unfold addO; rw [if_neg hc]
  have e1 : onceL (ks.take (j + 1)) = onceL (ks.take j) ++ [ks[j]] := by rw [ht, onceL_snoc, e0]
  have e2 : plcL (ks.take (j + 1)) = plcL (ks.take j) ++ [((onceL (ks.take j)).length : Int)] := by rw [ht, plcL_snoc, idx_new hc]
  have e3 : ivE (plcL (ks.take (j + 1))) = ivE (plcL (ks.take j)) ++ [.int .i64 ((onceL (ks.take j)).length : Int)] := by rw [e2]; unfold ivE; rw [List.map_append]; rfl
  have e4 : ivE (onceL (ks.take (j + 1))) = ivE (onceL (ks.take j)) ++ [.int .i64 ks[j]] := by rw [e1]; unfold ivE; rw [List.map_append]; rfl
  have bo := fun k e => (h3.lt k e)
  have bp := fun k e => (h4.lt k e)
  have s1 := hg1.size
  have s2 := hg2.size
  have s3 := hg3.size
  simp at s2 s3
  have b2 := fun k e => (ho.lt k e)
  refine ⟨D', ?_, by rw [e1]; exact hD, ?_, by rw [e3]; exact hp, ?_, ?_, by omega⟩
  · refine map_keep (World.ownsMap.alloc (map_keep (hm.alloc _) hg2 (fun k e => ?_)) _) hg3 (fun k e => ?_)
    · have := (bo k e).1; omega
    · have := (bp k e).1; omega
  · rw [e4, e1, List.length_append, List.length_singleton]
    refine (ho.alloc _).kept hg3 ?_
    cases e : v2.ownBlock with
    | none => exact .inl rfl
    | some k =>
      refine .inr fun e' => ?_
      rcases ha2 with h' | h'
      · exact h5 k (by rw [← h']; exact e) e'.symm
      · have q := (bp k e'.symm).2
        rw [e] at h'
        simp at h'
        omega
  · intro k e
    have q2 := (b2 k e).2
    rcases ha3 with h' | h'
    · rw [h']
      rcases ha2 with h'' | h''
      · exact h5 k (by rw [← h'']; exact e)
      · intro e'
        have q := (bp k e').2
        rw [e] at h''
        simp at h''
        omega
    · rw [h']
      intro e'
      simp at e'
      omega
  · refine Below.grown (Below.alloc (Below.grown (Below.alloc (h6.grown hg1 (by omega) (fun k e => by cases e; exact Nat.le_refl _)) (by omega) _) hg2 (by simp; omega) (fun k e => by have := (bo k e).1; omega)) (by omega) _) hg3 (by simp; omega) (fun k e => by have := (bp k e).1; omega)
/-- 'v, ok := m[k]' where it is known whether it is there. -/
theorem look_known {P : Program} (w : World) {ops : Array Oper} {rest : List Oper} {o : Oper} {a : Act} {Q : Exit → Act → World → Prop} (hg : o.guard = Option.none) (m x : Operand) (t : TypeId) (hop : o.op = Op.lookup t m x true)
    (k e : TypeId) (q : IntKind) (K : Go.Maps.Keyed P k) (ht : P.underlying t = some (.map k e)) (he : P.underlying e = some (.int q)) (hz : (zeroValue e).run P w = .ok (.int q 0) w) (b n : Nat) (D : DataW Unit)
    (hm : a.eval m = .map (some b)) (hown : w.ownsMap P k (plainElem P e) b n D) (key : Value) (kl : Lit) (hx : a.eval x = key) (hkey : keyOf P k key = some kl) (ok : Bool) (hok : Go.Maps.has D kl = ok)
    (hK : ∀ c : Int, D.atKey kl (.lit (.int q 0)) = .lit (.int q c) → (Lit.int q c).wf = true → wpList P ops Q rest (a.put o.dst (.tuple #[.int q c, .bool ok])) w) :
    wpList P ops Q (o :: rest) a w :=
  wpList_lookup_own_ok_int w hg m x t hop k e q K ht he hz b n D hm hown key kl hx hkey (by rw [hok]; exact hK)
theorem int_oneE (n : Int) : ∀ u ∈ [Value.int .i64 n], u.oneCell' = true := by
  intro u hu
  rw [List.mem_singleton.1 hu]; rfl
set_option maxHeartbeats 4000000 in
theorem lnEach (ks : List Int) (va : Value) (w : World) (hn : ks.length ≤ 65536) (hk : ∀ c ∈ ks, inI c = true) (ha : IntsIs w va ks) :
    Calls Tryd.prog 26 #[va] w fun e w' => ∃ v1 v2, e = .returned (.tuple #[v1, v2]) ∧ IntsIs w' v1 (onceL ks) ∧ IntsIs w' v2 (plcL ks) ∧ Below w.heap.size w w' := by
  obtain ⟨i0, hi, hz0, hz1, hz2⟩ := info_parts info_intE
  have hmm := @run_makeMap Tryd.prog
  obtain ⟨a0, cap, rfl⟩ := ha.form
  have la := ha.le
  unfold maxLen at la
  have Ha : Hid (IntsIs w (.slice a0 ks.length cap) ks) := ha
  have Hk : Hid (∀ c ∈ ks, inI c = true) := hk
  have F0 : Hid (EachTo ks w 0 (.slice none 0 0) (.slice none 0 0) (w.alloc (.map #[] 0))) := ⟨.map [], World.ownsMap_made _ _ _ _, MapOf.none, World.ownsRow_nil _ _ _ _, World.ownsRow_nil _ _ _ _, (fun k e => by cases e), (Below.refl _ _).alloc (Nat.le_refl _) _, by simp⟩
  clear ha hk
  go_enter Tryd.func26, Tryd.ntmps26
  go_wp2_with fail
  go_loopw [2, 3, 12] (fun vo vp i wr => ∃ j : Nat, j ≤ ks.length ∧ i = .int .i64 j ∧ Hid (EachTo ks w j vo vp wr)) (fun _ _ i _ => ks.length - (intOf i).toNat)
  case atStart => exact ⟨0, by omega, rfl, F0.out⟩
  case round =>
    clear F0
    obtain ⟨j, hj, rfl, hS⟩ := hrel
    by_cases hlt : j < ks.length
    · have I1 : (j : Int) < (ks.length : Int) := by omega
      have hS0 := hS.out
      obtain ⟨D, h1, h2, h3, h4, h5, h6, h7⟩ := hS0
      obtain ⟨b, o, rfl, hcx⟩ := (Ha.out.on h6).at0 j hlt
      have hw := Hk.out _ (List.getElem_mem hlt)
      have hkey : keyOf Tryd.prog 3 (.int .i64 ks[j]) = some (.int .i64 ks[j]) := Go.Maps.keyOf_int_mk Tryd.underlying3 (wf_inI hw)
      have hol : (onceL (ks.take j)).length ≤ 65536 := by have := onceL_len (ks.take j); rw [List.length_take] at this; omega
      by_cases hc : ks[j] ∈ onceL (ks.take j)
      · have hh : Go.Maps.has D (.int .i64 ks[j]) = true := by rw [(h2 _).1]; simp [hc]
        have hat : ∀ c : Int, D.atKey (.int .i64 ks[j]) (.lit (.int .i64 0)) = .lit (.int .i64 c) → c = (((onceL (ks.take j)).idxOf ks[j] : Nat) : Int) := fun c e => by rw [(h2 _).2 hc] at e; injection e with e; injection e with _ e; exact e.symm
        have HF : Hid (∀ c v2 w2, c = (((onceL (ks.take j)).idxOf ks[j] : Nat) : Int) → w2.ownsRow (w.heap.size + 1) 3 1 v2 (j + 1) (ivE (plcL (ks.take j)) ++ [.int .i64 c]) → (wr.alloc (.cells #[.int .i64 c] 3)).grownBy w2 u3.ownBlock → (v2.ownBlock = u3.ownBlock ∨ v2.ownBlock = some (wr.alloc (.cells #[.int .i64 c] 3)).heap.size) → EachTo ks w (j + 1) u2 v2 w2) := fun c v2 w2 g1 g2 g3 g4 => EachTo.old hlt hS.out hc c g1 g2 g3 g4
        generalize ivE (plcL (ks.take j)) = xs at *
        generalize ((onceL (ks.take j)).idxOf ks[j] : Nat) = ix at *
        generalize ks[j] = k at *
        clear hS h2 h3 hc
        go_wp2_with (first
          | (at_lookup; refine look_known _ rfl _ _ 88 rfl 3 3 .i64 keysE Tryd.underlying88 Tryd.underlying3 (zeroE _) w.heap.size j D rfl h1 _ _ rfl hkey true hh ?_; intro c hat1 _; have hcc : Hid (c = (ix : Int)) := hat c hat1; clear hat1)
          | (at_builtin; refine wpList_append_own_at _ rfl _ _ 22 rfl (w.heap.size + 1) 3 i0 (.int .i64 0) 1 8 Tryd.underlying22 hi hz0 hz1 hz2 rfl (by decide) _ j xs rfl (h4.alloc _) ⟨wr.heap.size, 0, none⟩ 1 1 _ rfl rfl (cell_one_new _ _ _) (int_oneE _) (by unfold maxLen; omega) (by omega) (by simp; omega) ?_; intro v2 w2 hown2 hg2 _ ha2; have hf := HF.out _ _ _ hcc.out hown2 hg2 ha2; clear hown2 hg2 ha2)
          | go_in)
        go_roundw
        case rel => exact ⟨j + 1, by omega, by go_num, hf⟩
        case measure => simp [intOf]; omega
      · have hh : Go.Maps.has D (.int .i64 ks[j]) = false := by rw [(h2 _).1]; simp [hc]
        have hm0 := h1.isMap
        have hMN : Hid (MapOf (D.put (.int .i64 ks[j]) (.lit (.int .i64 ((onceL (ks.take j)).length : Int)))) (onceL (ks.take j) ++ [ks[j]])) := h2.new hm0 hc
        have hwl : (Lit.int .i64 ((onceL (ks.take j)).length : Int)).wf = true := wf_inI (by unfold inI; simp; omega)
        have HF : Hid (∀ w1 w2 w3 v2 v3, w1.ownsMap Tryd.prog 3 (plainElem Tryd.prog 3) w.heap.size (j + 1) (D.put (.int .i64 ks[j]) (.lit (.int .i64 ((onceL (ks.take j)).length : Int)))) → wr.grownBy w1 (some w.heap.size) →
            w2.ownsRow (w.heap.size + 1) 3 1 v2 ((onceL (ks.take j)).length + 1) (ivE (onceL (ks.take j)) ++ [.int .i64 ks[j]]) → (w1.alloc (.cells #[.int .i64 ks[j]] 3)).grownBy w2 u2.ownBlock → (v2.ownBlock = u2.ownBlock ∨ v2.ownBlock = some (w1.alloc (.cells #[.int .i64 ks[j]] 3)).heap.size) →
            w3.ownsRow (w.heap.size + 1) 3 1 v3 (j + 1) (ivE (plcL (ks.take j)) ++ [.int .i64 ((onceL (ks.take j)).length : Int)]) → (w2.alloc (.cells #[.int .i64 ((onceL (ks.take j)).length : Int)] 3)).grownBy w3 u3.ownBlock → (v3.ownBlock = u3.ownBlock ∨ v3.ownBlock = some (w2.alloc (.cells #[.int .i64 ((onceL (ks.take j)).length : Int)] 3)).heap.size) → EachTo ks w (j + 1) v2 v3 w3) :=
          fun w1 w2 w3 v2 v3 g1 g2 g3 g4 g5 g6 g7 g8 => EachTo.new hlt hw hS.out hc hMN.out g1 g2 g3 g4 g5 g6 g7 g8
        have HO : Hid (∀ w1, wr.grownBy w1 (some w.heap.size) → w1.ownsRow (w.heap.size + 1) 3 1 u2 (onceL (ks.take j)).length (ivE (onceL (ks.take j)))) := fun w1 g => own_keep h3 g (fun k e => by cases e; omega)
        have HP : Hid (∀ w1 w2, wr.grownBy w1 (some w.heap.size) → (w1.alloc (.cells #[.int .i64 ks[j]] 3)).grownBy w2 u2.ownBlock → w2.ownsRow (w.heap.size + 1) 3 1 u3 j (ivE (plcL (ks.take j)))) := fun w1 w2 g1 g2 => by
          refine ((own_keep h4 g1 (fun k e => by cases e; omega)).alloc _).kept g2 ?_
          cases e : u3.ownBlock with
          | none => exact .inl rfl
          | some k => exact .inr fun e' => h5 k e'.symm e
        obtain ⟨ao, co, rfl⟩ := own_form h3
        generalize ivE (plcL (ks.take j)) = xs at *
        generalize ivE (onceL (ks.take j)) = os at *
        generalize (onceL (ks.take j)).length = L at *
        generalize ks[j] = k at *
        clear hS h2 h5 hc hMN
        go_wp2_with (first
          | (at_lookup; refine look_known _ rfl _ _ 88 rfl 3 3 .i64 keysE Tryd.underlying88 Tryd.underlying3 (zeroE _) w.heap.size j D rfl h1 _ _ rfl hkey false hh ?_; intro c _ _)
          | (at_mapUpdate; refine wpList_mapUpdate_own _ rfl _ _ _ 88 rfl 3 3 keysE Tryd.underlying88 (plainElem (H := Unit) Tryd.prog 3) w.heap.size j D rfl h1 (by unfold maxLen; omega) _ _ _ rfl rfl hkey _ [] (plainElem_int Tryd.underlying3 hwl) ?_; intro w1 hown1 hg1; have ho1 := HO.out w1 hg1; have hs1 := hg1.size)
          | (at_builtin; refine wpList_append_own_at _ rfl _ _ 22 rfl (w.heap.size + 1) 3 i0 (.int .i64 0) 1 8 Tryd.underlying22 hi hz0 hz1 hz2 rfl (by decide) (.slice ao L co) L os rfl (ho1.alloc _) ⟨w1.heap.size, 0, none⟩ 1 1 _ rfl rfl (cell_one_new _ _ _) (int_oneE _) (by unfold maxLen; omega) (by omega) (by simp; omega) ?_; intro v2 w2 hown2 hg2 _ ha2; have hp2 := HP.out w1 w2 hg1 hg2; have hs2 := hg2.size; simp at hs2)
          | (at_builtin; refine wpList_append_own_at _ rfl _ _ 22 rfl (w.heap.size + 1) 3 i0 (.int .i64 0) 1 8 Tryd.underlying22 hi hz0 hz1 hz2 rfl (by decide) u3 j xs rfl (hp2.alloc _) ⟨w2.heap.size, 0, none⟩ 1 1 _ rfl rfl (cell_one_new _ _ _) (int_oneE _) (by unfold maxLen; omega) (by omega) (by simp; omega) ?_; intro v3 w3 hown3 hg3 _ ha3; have hf := HF.out _ _ _ _ _ hown1 hg1 hown2 hg2 ha2 hown3 hg3 ha3; clear hown1 hg1 hown2 hg2 ha2 hown3 hg3 ha3)
          | go_in)
        go_roundw
        case rel => exact ⟨j + 1, by omega, by go_num, hf⟩
        case measure => simp [intOf]; omega
    · obtain rfl : j = ks.length := by omega
      have hS0 := hS.out
      obtain ⟨D, h1, h2, h3, h4, h5, h6, h7⟩ := hS0
      rw [List.take_length] at h3 h4
      have E : Hid (IntsIs wr u2 (onceL ks) ∧ IntsIs wr u3 (plcL ks) ∧ Below w.heap.size w wr) := ⟨IntsIs.of_ownE h3, IntsIs.of_ownE h4, h6⟩
      clear hS h1 h2 h3 h4 h5 h6 h7
      go_wp2_with fail
      go_ret2
      exact ⟨_, _, rfl, E.out.1, E.out.2.1, E.out.2.2⟩
end Go.Proofs.YtaccinophamgmaaDoor
