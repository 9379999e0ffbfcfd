/- What the document's own Make answers of entries in memory: a z-set, or that a weight is beyond. -/
import Derived.Test.YtmpochhcokmaiaaZGather
namespace Go.Proofs.Ytmpochhcokmaiaa
open Go.RowKit Go.Sort
set_option maxRecDepth 100000

theorem wt_bound (r : List Val) : ∀ (l : List Ent), (∀ e ∈ l, inI e.2 = true) → -(9223372036854775808 * (l.length : Int)) ≤ wt r l ∧ wt r l ≤ 9223372036854775808 * (l.length : Int)
  | [], _ => by simp [wt]
  | e :: l, h => by
    have h1 := wt_bound r l (fun x hx => h x (by simp [hx]))
    have h2 := h e (by simp)
    unfold inI at h2
    simp only [Bool.and_eq_true, decide_eq_true_eq] at h2
    simp only [wt, List.length_cons]
    split <;> omega
theorem gat_bound {l : List Ent} (hn : l.length ≤ 65536) (hk : ∀ e ∈ l, inI e.2 = true) : ∀ e ∈ gat l, -604462909807314587353088 ≤ e.2 ∧ e.2 ≤ 604462909807314587353088 := by
  intro e he
  have h1 := wt_mem (gat_sorted l) he
  rw [wt_gat] at h1
  have h2 := wt_bound e.1 l hk
  rw [h1] at h2
  omega
theorem fits_snoc {z : List Ent} {i : Nat} (h : i < z.length) : fitsZ (z.take (i + 1)) = (fitsZ (z.take i) && inI z[i].2) := by
  unfold fitsZ; rw [List.take_succ_eq_append_getElem h, List.all_append]; simp
theorem fits_not {z : List Ent} {i : Nat} (h : i < z.length) (h' : inI z[i].2 = false) : fitsZ z = false := by
  unfold fitsZ; rw [List.all_eq_false]; exact ⟨z[i], List.getElem_mem h, by simp [h']⟩
theorem nz_snoc {z : List Ent} {i : Nat} (h : i < z.length) : nzZ (z.take (i + 1)) = nzZ (z.take i) ++ (if z[i].2 = 0 then [] else [z[i]]) := by
  unfold nzZ; rw [List.take_succ_eq_append_getElem h, List.filter_append]
  by_cases e : z[i].2 = 0 <;> simp [e]
theorem nz_len (z : List Ent) (i : Nat) : (nzZ (z.take i)).length ≤ z.length := by
  have h1 := List.length_filter_le (fun e : Ent => e.2 != 0) (z.take i)
  have h2 := List.length_take_le' i z
  unfold nzZ; omega
/-- A list of the call's own, its rows read in a world of their own. -/
def EntsN (base : Nat) (w0 : World) (l : List Ent) (v : Value) (w : World) : Prop := ∃ us, w.ownsRow base 36 2 v us.length (es us) ∧ Reads w0 us l
theorem own_mono0 {base base' : Nat} {w : World} {e : TypeId} {s : Nat} {v : Value} {n : Nat} {xs : List Value} (h : w.ownsRow base' e s v n xs) (hb : base ≤ base') : w.ownsRow base e s v n xs := by
  obtain ⟨h1, h2 | ⟨g, cap, cur, hv, hg, r⟩⟩ := h
  · exact ⟨h1, .inl h2⟩
  · exact ⟨h1, .inr ⟨g, cap, cur, hv, by omega, r⟩⟩
/-- How far the making has come. -/
def MakeTo (z : List Ent) (w W1 : World) (i : Nat) (v : Value) (wr : World) : Prop :=
  fitsZ (z.take i) = true ∧ ∃ us, wr.ownsRow W1.heap.size 36 2 v us.length (es us) ∧ Reads w us (nzZ (z.take i)) ∧ Below W1.heap.size W1 wr
set_option maxHeartbeats 4000000 in
theorem refMakeR (l : List Ent) (va : Value) (w w0 : World) (h0 : ∀ v r, RowIs w0 v r → RowIs w v r) (hn : l.length ≤ 65536) (hk : ∀ e ∈ l, inI e.2 = true) (ha : EntsR w w0 va l) (c : Int) (hc : c = if okZ l then 0 else 107) :
    Calls Try.prog 11 #[va] w fun e w' => ∃ v, e = .returned (.tuple #[v, .int .i64 c]) ∧ EntsN w.heap.size w0 (mkZ l) v w' ∧ Below w.heap.size w w' := by
  obtain ⟨a0, cap, rfl⟩ := ha.form
  have q := refGatherR l _ w w0 h0 hn hk ha
  have hgb := gat_bound hn hk
  have hgl := gat_len l
  obtain ⟨i0, hi, hz0, hz1, hz2⟩ := info_parts info_entry
  have HB0 : Hid (∀ e ∈ gat l, -604462909807314587353088 ≤ e.2 ∧ e.2 ≤ 604462909807314587353088) := hgb
  have HM : Hid (fitsZ (gat l) = true → c = 0 ∧ mkZ l = nzZ (gat l)) := fun h => by
    have : okZ l = true := h
    unfold mkZ; rw [this]; rw [this] at hc; exact ⟨hc, rfl⟩
  have HN : Hid (fitsZ (gat l) = false → c = 107 ∧ mkZ l = []) := fun h => by
    have : okZ l = false := h
    unfold mkZ; rw [this]; rw [this] at hc; exact ⟨hc, rfl⟩
  clear ha hk hgb hc h0
  go_enter Try.func11, Try.ntmps11
  go_wp2_with fail
  refine q.mono ?_
  rintro e W1 ⟨v1, rfl, vs, hO, hR, hB⟩
  rw [List.take_length] at hR
  obtain ⟨av, capv, rfl⟩ := hO.form
  have HO : Hid (OwnS w.heap.size W1 (.slice av vs.length capv) vs) := hO
  have HR : Hid (Reads w0 vs (gat l)) := hR
  have HB : Hid (Below w.heap.size w W1) := hB
  have hnz : (gat l).length = vs.length := hR.1.symm
  clear q hO hR hB
  generalize gat l = z at *
  have H0 : Hid (MakeTo z w0 W1 0 (.slice none 0 0) W1) := ⟨rfl, [], World.ownsRow_nil _ _ _ _, Reads.nil w0, Below.refl _ _⟩
  go_wp2_with fail
  go_loopw [5, 6] (fun v i wr => ∃ j : Nat, j ≤ vs.length ∧ i = .int .i64 j ∧ MakeTo z w0 W1 j v wr) (fun _ i _ => vs.length - (intOf i).toNat)
  case atStart => exact ⟨0, by omega, rfl, H0.out⟩
  case round =>
    obtain ⟨j, hj, rfl, hf, us, hU, hRu, hb⟩ := hrel
    have HU : Hid (wr.ownsRow W1.heap.size 36 2 u5 us.length (es us)) := hU
    have HRu : Hid (Reads w0 us (nzZ (z.take j))) := hRu
    have Hb : Hid (Below W1.heap.size W1 wr) := hb
    have HF : Hid (fitsZ (z.take j) = true) := hf
    have hul : us.length ≤ vs.length := by rw [hRu.1, ← hnz]; exact nz_len z j
    clear hU hRu hb hf
    by_cases k1 : j < vs.length
    · have k2 : j < z.length := by omega
      obtain ⟨g, rfl, hg1, hg2, y1, y2, y3, y4⟩ := (HO.out.on Hb.out).at j k1
      obtain ⟨r1, r2⟩ := HR.out.2 j k1 k2
      obtain ⟨am, cm, em⟩ := r1.form
      rw [em] at y1 r1
      rw [r2] at y2 y3 y4
      have hbd := HB0.out _ (List.getElem_mem k2)
      have I1 : (j : Int) < (vs.length : Int) := by omega
      have EF : Hid (fitsZ (z.take (j + 1)) = (fitsZ (z.take j) && inI z[j].2)) := fits_snoc k2
      have EN : Hid (inI z[j].2 = false → fitsZ z = false) := fits_not k2
      have EZ : Hid (nzZ (z.take (j + 1)) = nzZ (z.take j) ++ (if z[j].2 = 0 then [] else [z[j]])) := nz_snoc k2
      have HRow : Hid (RowIs w0 (.slice am z[j].1.length cm) z[j].1) := r1
      obtain ⟨zr, zn, hzz⟩ : ∃ zr zn, z[j] = (zr, zn) := ⟨_, _, rfl⟩
      rw [hzz] at y1 y2 y3 y4 hbd EF EN EZ HRow
      simp only at y1 y2 y3 y4 hbd EF EN EZ HRow
      clear r1 r2 em hzz
      by_cases hin : -9223372036854775808 ≤ zn ∧ zn ≤ 9223372036854775807
      · have hI : inI zn = true := by unfold inI; simp; exact hin
        have q1 : Hid (Calls Try.prog 18 #[wV zn] wr fun e w' => e = .returned (.tuple #[.int .i64 zn, .bool true]) ∧ Below wr.heap.size wr w') := refNarrow zn (by omega) (by omega) zn true (fun _ => ⟨rfl, rfl⟩) (fun h => absurd hin h) wr
        unfold wV at q1
        have EF1 : Hid (fitsZ (z.take (j + 1)) = true) := by show _ = _; rw [EF.out, HF.out, hI]; rfl
        clear EF EN HF hI
        generalize wHi zn = thi at *
        generalize wMid zn = tmid at *
        generalize wLo zn = tlo at *
        generalize hzl : zr.length = nm at *
        go_wp2_with fail
        refine q1.out.mono ?_
        rintro e w2 ⟨rfl, hb2⟩
        have y1' := cell_on y1 hb2
        have HU2 : Hid (w2.ownsRow W1.heap.size 36 2 u5 us.length (es us)) := own_on HU.out hb2
        have Hb2 : Hid (Below W1.heap.size W1 w2) := Hb.out.trans (hb2.mono Hb.out.size)
        clear hb2 q1 y1 y2 y3 y4
        by_cases h0 : zn = 0
        · subst h0
          have hf : MakeTo z w0 W1 (j + 1) u5 w2 := ⟨EF1.out, us, HU2.out, by rw [EZ.out]; simpa using HRu.out, Hb2.out⟩
          clear EZ
          go_wp2_with fail
          go_roundw
          case rel => exact ⟨j + 1, by omega, by go_num, hf⟩
          case measure => simp [intOf]; omega
        · have b0 : (zn == 0) = false := by simp [h0]
          have F : Hid (∀ v2 w3, w3.ownsRow W1.heap.size 36 2 v2 (us.length + 1) (es us ++ ec (.slice am nm cm, zn)) → (w2.alloc (.cells #[.slice am nm cm, .int .i64 zn] 36)).grownBy w3 (Value.ownBlock u5) → MakeTo z w0 W1 (j + 1) v2 w3) := by
            intro v2 w3 g1 g2
            refine ⟨EF1.out, us ++ [(.slice am nm cm, zn)], ?_, ?_, ?_⟩
            · rw [es_snoc, List.length_append]; exact g1
            · rw [EZ.out, if_neg h0]; exact HRu.out.snoc HRow.out zn
            · exact (Hb2.out.alloc Hb2.out.size _).grown g2 (by have := Hb2.out.size; simp; omega) (fun k e => (HU2.out.lt k e).1)
          have hsz := Hb2.out.size
          clear EZ EF1
          go_wp2_with (first | (at_builtin; refine wpList_append_own _ rfl _ _ 27 rfl W1.heap.size 36 i0 (.agg #[.slice none 0 0, .int .i64 0]) 2 32 Try.underlying27 hi hz0 hz1 hz2 rfl (by decide) _ us.length (es us) rfl (HU2.out.alloc _) ⟨w2.heap.size, 0, none⟩ 1 1 (ec (.slice am nm cm, zn)) rfl rfl (cell_two_new _ _ _ _) (by simp [ec, Value.oneCell']) (by unfold maxLen; omega) (by omega) (by simp; omega) ?_; intro v2 w3 hown3 hg3 _; have hf := F.out _ _ hown3 hg3; clear hown3 hg3 F) | fail)
          go_roundw
          case rel => exact ⟨j + 1, by omega, by go_num, hf⟩
          case measure => simp [intOf]; omega
      · have hI : inI zn = false := by unfold inI; simp; omega
        have q1 : Hid (Calls Try.prog 18 #[wV zn] wr fun e w' => e = .returned (.tuple #[.int .i64 0, .bool false]) ∧ Below wr.heap.size wr w') := refNarrow zn (by omega) (by omega) 0 false (fun h => absurd h hin) (fun _ => ⟨rfl, rfl⟩) wr
        unfold wV at q1
        have EM : Hid (c = 107 ∧ mkZ l = []) := HN.out (EN.out hI)
        clear EF EN HF hI EZ
        generalize wHi zn = thi at *
        generalize wMid zn = tmid at *
        generalize wLo zn = tlo at *
        go_wp2_with fail
        refine q1.out.mono ?_
        rintro e w2 ⟨rfl, hb2⟩
        have Hb2 : Hid (Below w.heap.size w w2) := HB.out.trans ((Hb.out.trans (hb2.mono Hb.out.size)).mono HB.out.size)
        clear hb2 q1 y1 y2 y3 y4
        go_wp2_with fail
        go_ret2
        refine ⟨.slice none 0 0, ?_, ?_, Hb2.out⟩
        · rw [EM.out.1]; rfl
        · rw [EM.out.2]; exact ⟨[], World.ownsRow_nil _ _ _ _, Reads.nil _⟩
    · have I1 : ¬ (j : Int) < (vs.length : Int) := by omega
      have e1 : z.take j = z := List.take_of_length_le (by omega)
      have EM : Hid (c = 0 ∧ mkZ l = nzZ z) := HM.out (by rw [← e1]; exact HF.out)
      have hBw : Hid (Below w.heap.size w wr) := HB.out.trans (Hb.out.mono HB.out.size)
      have HE : Hid (EntsN w.heap.size w0 (nzZ z) u5 wr) := ⟨us, own_mono0 HU.out HB.out.size, by rw [← e1]; exact HRu.out⟩
      clear e1
      go_wp2_with fail
      go_ret2
      refine ⟨u5, ?_, ?_, hBw.out⟩
      · rw [EM.out.1]; rfl
      · rw [EM.out.2]; exact HE.out
theorem refMake (l : List Ent) (va : Value) (w : World) (hn : l.length ≤ 65536) (hk : ∀ e ∈ l, inI e.2 = true) (ha : EntsIs w va l) (c : Int) (hc : c = if okZ l then 0 else 107) :
    Calls Try.prog 11 #[va] w fun e w' => ∃ v, e = .returned (.tuple #[v, .int .i64 c]) ∧ EntsIs w' v (mkZ l) ∧ Below w.heap.size w w' :=
  (refMakeR l va w w (fun _ _ h => h) hn hk ha c hc).mono fun _ _ ⟨v, h1, ⟨us, h2, h3⟩, h4⟩ => ⟨v, h1, ⟨us, EntsAt.of_own h2, h3.on h4⟩, h4⟩
end Go.Proofs.Ytmpochhcokmaiaa
