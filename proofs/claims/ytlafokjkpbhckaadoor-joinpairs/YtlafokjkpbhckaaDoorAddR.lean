/- What the document's own Add answers: its rows are rows that came in. -/
import Derived.Test.YtlafokjkpbhckaaDoorZAdd
namespace Go.Proofs.YtlafokjkpbhckaaDoor
open Go.RowKit Go.Sort
set_option maxRecDepth 100000
set_option maxHeartbeats 2000000 in
theorem refAddR (la lb : List Ent) (va vb : Value) (w w0 : World) (h0 : ∀ v r, RowIs w0 v r → RowIs w v r) (hn : la.length + lb.length ≤ 65536) (hka : ∀ e ∈ la, inI e.2 = true) (hkb : ∀ e ∈ lb, inI e.2 = true) (ha : EntsR w w0 va la) (hb : EntsR w w0 vb lb) (c : Int) (hc : c = if okZ (la ++ lb) then 0 else 107) :
    Calls Tryd.prog 14 #[va, vb] w fun e w' => ∃ v, e = .returned (.tuple #[v, .int .i64 c]) ∧ EntsN w.heap.size w0 (mkZ (la ++ lb)) v w' ∧ Below w.heap.size w w' := by
  obtain ⟨vs, ha1, ha2⟩ := ha
  obtain ⟨us, hb1, hb2⟩ := hb
  have hr : ∀ {vs : List VEnt} {l : List Ent}, Reads w0 vs l → Reads w vs l := fun h => ⟨h.1, fun i a b => ⟨h0 _ _ (h.2 i a b).1, (h.2 i a b).2⟩⟩
  have q1 := refEntries vs la va w (by omega) ha1 (hr ha2)
  have hvl : vs.length + us.length ≤ 65536 := by rw [ha2.1, hb2.1]; exact hn
  obtain ⟨i0, hi, hz0, hz1, hz2⟩ := info_parts info_entry
  obtain ⟨a0, cap, rfl⟩ := ha1.form
  have Hb1 : Hid (EntsAt w vb us) := hb1
  have Hb2 : Hid (Reads w0 us lb) := hb2
  have HB2 : Hid (Reads w us lb) := hr hb2
  have Ha2 : Hid (Reads w0 vs la) := ha2
  have q2 : Hid (∀ W v, Below w.heap.size w W → W.ownsRow w.heap.size 38 2 v (vs.length + us.length) (es vs ++ es us) → Calls Tryd.prog 19 #[v] W fun e w' => ∃ v', e = .returned (.tuple #[v', .int .i64 c]) ∧ EntsN w.heap.size w0 (mkZ (la ++ lb)) v' w' ∧ Below w.heap.size w w') := fun W v hW ho => by
    refine (refMakeR (la ++ lb) v W w0 (fun v r h => (h0 v r h).on hW) (by simpa using hn) (fun e he => by rcases List.mem_append.1 he with h | h; exact hka e h; exact hkb e h) ⟨vs ++ us, EntsAt.of_own (base := w.heap.size) ?_, Ha2.out.append Hb2.out⟩ c hc).mono ?_
    · have e : es (vs ++ us) = es vs ++ es us := by simp [es]
      rw [e, List.length_append]; exact ho
    · rintro e w' ⟨v', h1, h2, h3⟩
      obtain ⟨us', k1, k2⟩ := h2
      exact ⟨v', h1, ⟨us', own_mono0 k1 hW.size, k2⟩, hW.trans (h3.mono hW.size)⟩
  obtain ⟨b0, capb, eb⟩ := hb1.form
  subst eb
  clear ha1 ha2 hb1 hb2 hka hkb hc hr h0
  by_cases hu0 : us.length = 0
  · have hnil : us = [] := List.eq_nil_of_length_eq_zero hu0
    subst hnil
    go_enter Tryd.func14, Tryd.ntmps14
    go_wp2_with fail
    refine q1.mono ?_
    rintro e W1 ⟨v, rfl, ho, hB⟩
    rw [List.take_length] at ho
    have HO : Hid (W1.ownsRow w.heap.size 38 2 v vs.length (es vs)) := ho
    have q3 := q2.out W1 v hB (by simpa [es] using ho)
    clear q1 q2 ho
    go_wp2_with (first | (at_builtin; refine wpList_append_zero rfl _ _ 27 rfl w.heap.size 38 i0 2 Tryd.underlying27 hi v vs.length (es vs) rfl HO.out b0 capb rfl ?_) | fail)
    refine q3.mono ?_
    rintro e w2 ⟨v2, rfl, h1, h2⟩
    have H1 : Hid (EntsN w.heap.size w0 (mkZ (la ++ lb)) v2 w2) := h1
    clear h1 q3
    go_wp2_with fail
    go_ret2
    exact ⟨v2, rfl, H1.out, h2⟩
  · obtain ⟨b, o, rfl, _⟩ := Hb1.out.at 0 (by omega)
    have hne : us.length ≤ 65536 := by omega
    go_enter Tryd.func14, Tryd.ntmps14
    go_wp2_with fail
    refine q1.mono ?_
    rintro e W1 ⟨v, rfl, ho, hB⟩
    rw [List.take_length] at ho
    have HO : Hid (W1.ownsRow w.heap.size 38 2 v vs.length (es vs)) := ho
    have HC : Hid (∀ j u, (es us)[j]? = some u → W1.cell? ((⟨b, o, none⟩ : Addr).add j) = some u) := (Hb1.out.on hB).cells
    have H1 : Hid (∀ u ∈ es us, u.oneCell' = true) := HB2.out.one'
    have HE : Hid ((es us).length = us.length * 2) := es_len us
    have F : Hid (∀ v2 w2, w2.ownsRow w.heap.size 38 2 v2 (vs.length + us.length) (es vs ++ es us) → W1.grownBy w2 (Value.ownBlock v) → Calls Tryd.prog 19 #[v2] w2 fun e w' => ∃ v', e = .returned (.tuple #[v', .int .i64 c]) ∧ EntsN w.heap.size w0 (mkZ (la ++ lb)) v' w' ∧ Below w.heap.size w w') := fun v2 w2 g1 g2 =>
      q2.out w2 v2 (hB.grown g2 hB.size (fun k e => (HO.out.lt k e).1)) g1
    have hsz := hB.size
    clear q1 q2 ho hB
    go_wp2_with (first | (at_builtin; refine wpList_append_own _ rfl _ _ 27 rfl w.heap.size 38 i0 (.agg #[.slice none 0 0, .int .i64 0]) 2 32 Tryd.underlying27 hi hz0 hz1 hz2 rfl (by decide) _ vs.length (es vs) rfl HO.out ⟨b, o, none⟩ us.length capb (es us) rfl HE.out HC.out H1.out (by unfold maxLen; omega) (by omega) hsz ?_; intro v2 w2 hown2 hg2 _; have q3 := F.out _ _ hown2 hg2; clear hown2 hg2 F) | fail)
    refine q3.mono ?_
    rintro e w3 ⟨v3, rfl, h1, h2⟩
    have H3 : Hid (EntsN w.heap.size w0 (mkZ (la ++ lb)) v3 w3) := h1
    clear h1 q3
    go_wp2_with fail
    go_ret2
    exact ⟨v3, rfl, H3.out, h2⟩
end Go.Proofs.YtlafokjkpbhckaaDoor
