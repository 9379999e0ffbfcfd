/- Texts of one claim, one behind the other. -/
import Derived.Test.YtglbipnppldkmaaGreatDoorPackNegB
import Derived.Test.YtglbipnppldkmaaGreatDoorPackPutB
import Derived.Test.YtglbipnppldkmaaGreatDoorPackWorkB
import Derived.Test.YtglbipnppldkmaaGreatDoorPackHeldB
/- What the document's own Add answers: its rows are rows that came in. -/
namespace Go.Proofs.YtglbipnppldkmaaGreatDoor
open Go.RowKit Go.Sort
set_option maxRecDepth 100000
set_option maxHeartbeats 2000000 in
theorem refAddR (la lb : List Ent) (va vb : Value) (w w0 : World) (h0 : ∀ v r, RowIs w0 v r → RowIs w v r) (hn : la.length + lb.length ≤ 65536) (hka : ∀ e ∈ la, inI e.2 = true) (hkb : ∀ e ∈ lb, inI e.2 = true) (ha : EntsR w w0 va la) (hb : EntsR w w0 vb lb) (c : Int) (hc : c = if okZ (la ++ lb) then 0 else 107) :
    Calls Tryz.prog 12 #[va, vb] w fun e w' => ∃ v, e = .returned (.tuple #[v, .int .i64 c]) ∧ EntsN w.heap.size w0 (mkZ (la ++ lb)) v w' ∧ Below w.heap.size w w' := by
  obtain ⟨vs, ha1, ha2⟩ := ha
  obtain ⟨us, hb1, hb2⟩ := hb
  have hr : ∀ {vs : List VEnt} {l : List Ent}, Reads w0 vs l → Reads w vs l := fun h => ⟨h.1, fun i a b => ⟨h0 _ _ (h.2 i a b).1, (h.2 i a b).2⟩⟩
  have q1 := refEntries vs la va w (by omega) ha1 (hr ha2)
  have hvl : vs.length + us.length ≤ 65536 := by rw [ha2.1, hb2.1]; exact hn
  obtain ⟨i0, hi, hz0, hz1, hz2⟩ := info_parts info_entry
  obtain ⟨a0, cap, rfl⟩ := ha1.form
  have Hb1 : Hid (EntsAt w vb us) := hb1
  have Hb2 : Hid (Reads w0 us lb) := hb2
  have HB2 : Hid (Reads w us lb) := hr hb2
  have Ha2 : Hid (Reads w0 vs la) := ha2
  have q2 : Hid (∀ W v, Below w.heap.size w W → W.ownsRow w.heap.size 37 2 v (vs.length + us.length) (es vs ++ es us) → Calls Tryz.prog 24 #[v] W fun e w' => ∃ v', e = .returned (.tuple #[v', .int .i64 c]) ∧ EntsN w.heap.size w0 (mkZ (la ++ lb)) v' w' ∧ Below w.heap.size w w') := fun W v hW ho => by
    refine (refMakeR (la ++ lb) v W w0 (fun v r h => (h0 v r h).on hW) (by simpa using hn) (fun e he => by rcases List.mem_append.1 he with h | h; exact hka e h; exact hkb e h) ⟨vs ++ us, EntsAt.of_own (base := w.heap.size) ?_, Ha2.out.append Hb2.out⟩ c hc).mono ?_
    · have e : es (vs ++ us) = es vs ++ es us := by simp [es]
      rw [e, List.length_append]; exact ho
    · rintro e w' ⟨v', h1, h2, h3⟩
      obtain ⟨us', k1, k2⟩ := h2
      exact ⟨v', h1, ⟨us', own_mono0 k1 hW.size, k2⟩, hW.trans (h3.mono hW.size)⟩
  obtain ⟨b0, capb, eb⟩ := hb1.form
  subst eb
  clear ha1 ha2 hb1 hb2 hka hkb hc hr h0
  by_cases hu0 : us.length = 0
  · have hnil : us = [] := List.eq_nil_of_length_eq_zero hu0
    subst hnil
    go_enter Tryz.func12, Tryz.ntmps12
    go_wp2_with fail
    refine q1.mono ?_
    rintro e W1 ⟨v, rfl, ho, hB⟩
    rw [List.take_length] at ho
    have HO : Hid (W1.ownsRow w.heap.size 37 2 v vs.length (es vs)) := ho
    have q3 := q2.out W1 v hB (by simpa [es] using ho)
    clear q1 q2 ho
    go_wp2_with (first | (at_builtin; refine wpList_append_zero rfl _ _ 29 rfl w.heap.size 37 i0 2 Tryz.underlying29 hi v vs.length (es vs) rfl HO.out b0 capb rfl ?_) | fail)
    refine q3.mono ?_
    rintro e w2 ⟨v2, rfl, h1, h2⟩
    have H1 : Hid (EntsN w.heap.size w0 (mkZ (la ++ lb)) v2 w2) := h1
    clear h1 q3
    go_wp2_with fail
    go_ret2
    exact ⟨v2, rfl, H1.out, h2⟩
  · obtain ⟨b, o, rfl, _⟩ := Hb1.out.at 0 (by omega)
    have hne : us.length ≤ 65536 := by omega
    go_enter Tryz.func12, Tryz.ntmps12
    go_wp2_with fail
    refine q1.mono ?_
    rintro e W1 ⟨v, rfl, ho, hB⟩
    rw [List.take_length] at ho
    have HO : Hid (W1.ownsRow w.heap.size 37 2 v vs.length (es vs)) := ho
    have HC : Hid (∀ j u, (es us)[j]? = some u → W1.cell? ((⟨b, o, none⟩ : Addr).add j) = some u) := (Hb1.out.on hB).cells
    have H1 : Hid (∀ u ∈ es us, u.oneCell' = true) := HB2.out.one'
    have HE : Hid ((es us).length = us.length * 2) := es_len us
    have F : Hid (∀ v2 w2, w2.ownsRow w.heap.size 37 2 v2 (vs.length + us.length) (es vs ++ es us) → W1.grownBy w2 (Value.ownBlock v) → Calls Tryz.prog 24 #[v2] w2 fun e w' => ∃ v', e = .returned (.tuple #[v', .int .i64 c]) ∧ EntsN w.heap.size w0 (mkZ (la ++ lb)) v' w' ∧ Below w.heap.size w w') := fun v2 w2 g1 g2 =>
      q2.out w2 v2 (hB.grown g2 hB.size (fun k e => (HO.out.lt k e).1)) g1
    have hsz := hB.size
    clear q1 q2 ho hB
    go_wp2_with (first | (at_builtin; refine wpList_append_own _ rfl _ _ 29 rfl w.heap.size 37 i0 (.agg #[.slice none 0 0, .int .i64 0]) 2 32 Tryz.underlying29 hi hz0 hz1 hz2 rfl (by decide) _ vs.length (es vs) rfl HO.out ⟨b, o, none⟩ us.length capb (es us) rfl HE.out HC.out H1.out (by unfold maxLen; omega) (by omega) hsz ?_; intro v2 w2 hown2 hg2 _; have q3 := F.out _ _ hown2 hg2; clear hown2 hg2 F) | fail)
    refine q3.mono ?_
    rintro e w3 ⟨v3, rfl, h1, h2⟩
    have H3 : Hid (EntsN w.heap.size w0 (mkZ (la ++ lb)) v3 w3) := h1
    clear h1 q3
    go_wp2_with fail
    go_ret2
    exact ⟨v3, rfl, H3.out, h2⟩
end Go.Proofs.YtglbipnppldkmaaGreatDoor
/- The error of weights that are beyond, among all. -/
namespace Go.Proofs.YtglbipnppldkmaaGreatDoor
theorem ErrsAt.over {ad : Fin 11 → Addr} {w : World} (h : ErrsAt ad w) : OverAt (ad 6) w := by
  obtain ⟨_, _, c0, c1, c2, c3, c4, c5, c6, _⟩ := h; exact c6
end Go.Proofs.YtglbipnppldkmaaGreatDoor
/- A spine among what a law holds: what each call leaves. -/
namespace Go.Proofs.YtglbipnppldkmaaGreatDoor
open Go.RowKit Go.Sort
set_option maxRecDepth 100000
/-- What a law reads, beside what changes: its maker in block S, blocks F. -/
def LawW (S : Nat) (Rl : World) (F : Nat → Prop) (w0 w : World) : Prop := Sees Rl w ∧ Free Rl S ∧ (∀ k, F k → Free Rl k ∧ k ≠ S ∧ w0.heap.size ≤ k) ∧ w0.heap.size ≤ S ∧ S < w.heap.size ∧ Below w0.heap.size w0 w
theorem LawW.on {S : Nat} {Rl : World} {F : Nat → Prop} {w0 w w' : World} (h : LawW S Rl F w0 w) (hB : Below w.heap.size w w') : LawW S Rl F w0 w' :=
  ⟨h.1.on hB, h.2.1, h.2.2.1, h.2.2.2.1, Nat.lt_of_lt_of_le h.2.2.2.2.1 hB.size, h.2.2.2.2.2.trans (hB.mono (by have := h.2.2.2.2.2.size; omega))⟩
theorem LawW.but {S : Nat} {Rl : World} {F : Nat → Prop} {w0 w w' : World} (h : LawW S Rl F w0 w) (hb : But S w w') : LawW S Rl F w0 w' :=
  ⟨h.1.at hb.size (fun k hk hl => hb.2.2.2.2 k (fun e => hk (e ▸ h.2.1)) hl), h.2.1, h.2.2.1, h.2.2.2.1, Nat.lt_of_lt_of_le h.2.2.2.2.1 hb.size, h.2.2.2.2.2.trans (hb.below h.2.2.2.1 (by have := h.2.2.2.2.2.size; omega))⟩
theorem LawW.join {S base : Nat} {Rl : World} {F : Nat → Prop} {w0 w : World} (h : LawW S Rl F w0 w) (hS : S < base) (hF : ∀ k, F k → k < base) : LawW S (joinW Rl w fun k => decide (base ≤ k)) F w0 w :=
  ⟨joinW_sees h.1, joinW_free h.1 h.2.1 (by simp; omega), fun k e => ⟨joinW_free h.1 (h.2.2.1 k e).1 (by have := hF k e; simp; omega), (h.2.2.1 k e).2⟩, h.2.2.2⟩
theorem LawW.chg {S : Nat} {Rl : World} {F F1 : Nat → Prop} {w0 w w' : World} (h : LawW S Rl F w0 w) (hc : Chg F1 w w') (h1 : ∀ k, F1 k → F k) : LawW S Rl (fun k => F k ∨ (w.heap.size ≤ k ∧ k < w'.heap.size)) w0 w' := by
  refine ⟨h.1.at hc.size (fun k hk hl => hc.2.2.2.2 k (fun e => hk (h.2.2.1 k (h1 k e)).1) hl), h.2.1, fun k e => ?_, h.2.2.2.1, Nat.lt_of_lt_of_le h.2.2.2.2.1 hc.size, h.2.2.2.2.2.trans ⟨hc.1, hc.2.1, hc.2.2.1, hc.size, fun k hk => hc.2.2.2.2 k (fun e => ?_) ?_⟩⟩
  · rcases e with e | e
    · exact h.2.2.1 k e
    · have := h.2.2.2.2.1; have := h.2.2.2.2.2.size; exact ⟨free_le (Nat.le_trans h.1.1 e.1), by omega, by omega⟩
  · have := (h.2.2.1 k (h1 k e)).2.2; omega
  · have := h.2.2.2.2.2.size; omega
theorem SeqAt.same {S : Nat} {a : Option Addr} {len cap : Nat} {zs : List Int} {p : Nat} {w w' : World} (h : SeqAt S a len cap zs p w) (hs : w.heap.size ≤ w'.heap.size) (hS : w'.heap[S]? = w.heap[S]?) (hk : ∀ x, a = some x → 0 < cap → w'.heap[x.block]? = w.heap[x.block]?) : SeqAt S a len cap zs p w' := by
  obtain ⟨c1, c2, c3, c4, c5, c6⟩ := h
  refine ⟨by rw [World.cell?_of_block (w := w) hS]; exact c1, by rw [World.cell?_of_block (w := w) hS]; exact c2, by rw [World.frozen?_of_block (w := w) hS]; exact c3, Nat.lt_of_lt_of_le c4 hs, c5, ?_⟩
  rcases c6 with c6 | ⟨x, hx, d1, d2, d3, d4, d5⟩
  · exact .inl c6
  · refine .inr ⟨x, hx, d1, d2, d3, fun i hi => ?_, d5⟩
    have hbk : (x.add i).block = x.block := by unfold Addr.add; split <;> rfl
    rw [World.cell?_of_block (w := w) (by rw [hbk]; exact hk x hx (by omega))]
    exact d4 i hi
/-- A law's maker, over numbers that were there at the call. -/
def SeqW (S : Nat) (a : Option Addr) (len cap : Nat) (zs : List Int) (p : Nat) (w0 w : World) : Prop := SeqAt S a len cap zs p w ∧ ∀ x, a = some x → 0 < cap → x.block < w0.heap.size
/-- What holds of other blocks stays while these stay. -/
def Fr (P : (Nat → Prop) → World → Prop) : Prop := ∀ G w, P G w → (∀ k, G k → k < w.heap.size) ∧ ∀ w', w.heap.size ≤ w'.heap.size → (∀ k, G k → w'.heap[k]? = w.heap[k]?) → P G w'
def NoP (G : Nat → Prop) (_ : World) : Prop := ∀ k, ¬ G k
theorem fr_no : Fr NoP := fun _ _ h => ⟨fun k e => absurd e (h k), fun _ _ _ => h⟩
theorem fr_sp (sb : Sb) (A : List Ent) (n m : Nat) : Fr (fun G w => SpIs G sb A n m w) := fun _ _ h => ⟨h.lt, fun _ hs hk => h.keep hs hk⟩
/-- What a law holds: its maker, z-sets that are read, a spine, and what else there is. -/
def PS (P : (Nat → Prop) → World → Prop) (L : List QEnt) (S : Nat) (a : Option Addr) (len cap : Nat) (zs : List Int) (p : Nat) (sb : Sb) (A : List Ent) (n m : Nat) (w0 w : World) : Prop :=
  ∃ F G Rl, LawW S Rl (fun k => F k ∨ G k) w0 w ∧ (∀ k, F k → ¬ G k) ∧ SpIs F sb A n m w ∧ P G w ∧ (∀ x ∈ L, EntsIs Rl x.1 x.2) ∧ SeqW S a len cap zs p w0 w
section
variable {P : (Nat → Prop) → World → Prop} {L : List QEnt} {S : Nat} {a : Option Addr} {len cap : Nat} {zs : List Int} {p : Nat} {sb : Sb} {A : List Ent} {n m : Nat} {w0 w : World}
theorem PS.below (h : PS P L S a len cap zs p sb A n m w0 w) : Below w0.heap.size w0 w := by obtain ⟨F, G, Rl, h1, _⟩ := h; exact h1.2.2.2.2.2
theorem PS.seq (h : PS P L S a len cap zs p sb A n m w0 w) : SeqAt S a len cap zs p w := by obtain ⟨F, G, Rl, _, _, _, _, _, h6⟩ := h; exact h6.1
theorem PS.le (h : PS P L S a len cap zs p sb A n m w0 w) : n ≤ m ∧ (A ≠ [] → 0 < n) ∧ n ≤ 65536 ∧ IsZ A := by obtain ⟨F, G, Rl, _, _, h3, _⟩ := h; exact h3.le
theorem PS.inAll (h : PS P L S a len cap zs p sb A n m w0 w) (r : List Val) : inI (wt r A) = true := by obtain ⟨F, G, Rl, _, _, ⟨st, h3, _⟩, _⟩ := h; exact h3.inAll r
theorem PS.ents (h : PS P L S a len cap zs p sb A n m w0 w) {x : QEnt} (hx : x ∈ L) : EntsIs w x.1 x.2 := by obtain ⟨F, G, Rl, h1, _, _, _, h5, _⟩ := h; exact (h5 x hx).sees h1.1
theorem PS.on (hP : Fr P) (h : PS P L S a len cap zs p sb A n m w0 w) {w' : World} (hB : Below w.heap.size w w') : PS P L S a len cap zs p sb A n m w0 w' := by
  obtain ⟨F, G, Rl, h1, h2, h3, h4, h5, h6⟩ := h
  exact ⟨F, G, Rl, h1.on hB, h2, h3.on hB, (hP G w h4).2 w' hB.size (fun k e => hB.block k ((hP G w h4).1 k e)), h5, h6.1.on hB, h6.2⟩
theorem PS.sub (h : PS P L S a len cap zs p sb A n m w0 w) {L' : List QEnt} (hL : ∀ x ∈ L', x ∈ L) : PS P L' S a len cap zs p sb A n m w0 w := by
  obtain ⟨F, G, Rl, h1, h2, h3, h4, h5, h6⟩ := h
  exact ⟨F, G, Rl, h1, h2, h3, h4, fun x hx => h5 x (hL x hx), h6⟩
theorem EntsNew.join {base : Nat} {l : List Ent} {v : Value} {R w : World} (h : EntsNew base l v w) (hs : Sees R w) : EntsIs (joinW R w fun k => decide (base ≤ k)) v l := by
  obtain ⟨us, h1, h2, h3⟩ := h
  refine ⟨us, EntsAt.of_own (own_same h1 (fun k e => joinW_heap (by have := (h1.lt k e).1; simpa using this))), h2.1, fun i a b => ⟨?_, (h2.2 i a b).2⟩⟩
  have hr := (h2.2 i a b).1
  rcases h3 i a b with e | e
  · obtain ⟨a0, c0, ef⟩ := hr.form
    rw [ef, e]; exact .inl ⟨a0, c0, rfl, rfl⟩
  · rcases hr with hr | ⟨g, o, c, ev, g1, g2, g3, g4⟩
    · exact .inl hr
    · have hg : base ≤ g := (e g (by rw [ev]; rfl)).1
      have hc : ∀ {q : Nat} {u : Value}, w.cell? ⟨g, q, none⟩ = some u → (joinW R w fun k => decide (base ≤ k)).cell? ⟨g, q, none⟩ = some u := fun hq => joinW_at hs (by simpa using hg) hq
      exact .inr ⟨g, o, c, ev, g1, g2, by rw [joinW_size]; exact g3, fun j hj => ⟨hc (g4 j hj).1, hc (g4 j hj).2.1, hc (g4 j hj).2.2⟩⟩
theorem EntsN.join {base : Nat} {l : List Ent} {v : Value} {R w : World} (h : EntsN base R l v w) (hs : Sees R w) : EntsIs (joinW R w fun k => decide (base ≤ k)) v l := by
  obtain ⟨us, h1, h2⟩ := h
  exact ⟨us, EntsAt.of_own (own_same h1 (fun k e => joinW_heap (by have := (h1.lt k e).1; simpa using this))), h2.sees (joinW_up hs)⟩
/-- What a maker made is read, too. -/
theorem PS.made (hP : Fr P) (h : PS P L S a len cap zs p sb A n m w0 w) {W w' : World} {p' : Nat} {v : Value} {Z : List Ent} (hB : Below w.heap.size w W) (hb : But S W w') (hz : EntsNew W.heap.size Z v w') (hq : SeqAt S a len cap zs p' w') : PS P ((v, Z) :: L) S a len cap zs p' sb A n m w0 w' := by
  obtain ⟨F, G, Rl, h1, h2, h3, h4, h5, h6⟩ := h.on hP hB
  have hG := (hP G W h4).1
  have hF : ∀ k, F k ∨ G k → k < W.heap.size := fun k e => e.elim (h3.lt k) (hG k)
  have hne : ∀ k, F k ∨ G k → k ≠ S := fun k e => (h1.2.2.1 k e).2.1
  have l1 := h1.but hb
  refine ⟨F, G, _, l1.join (base := W.heap.size) h1.2.2.2.2.1 hF, h2, h3.keep hb.size (fun k e => hb.2.2.2.2 k (hne k (.inl e)) (h3.lt k e)), (hP G W h4).2 w' hb.size (fun k e => hb.2.2.2.2 k (hne k (.inr e)) (hG k e)), fun x hx => ?_, hq, h6.2⟩
  rcases List.mem_cons.1 hx with rfl | hx
  · exact hz.join l1.1
  · exact (h5 x hx).sees (joinW_up l1.1)
/-- What a call of the document handed out is read, too. -/
theorem PS.also (hP : Fr P) (h : PS P L S a len cap zs p sb A n m w0 w) {w' : World} {v : Value} {Z : List Ent} (hB : Below w.heap.size w w') (hz : EntsNew w.heap.size Z v w') : PS P ((v, Z) :: L) S a len cap zs p sb A n m w0 w' :=
  h.made hP (Below.refl _ _) (But.of_below hB) hz (h.seq.on hB)
theorem PS.step2 (hP : Fr P) (h : PS P L S a len cap zs p sb A n m w0 w) : ∃ F G, SpIs F sb A n m w ∧ P G w ∧ (∀ k, F k → ¬ G k) ∧ ∀ w' A' n' m', Chg F w w' → SpIs (Grow F w w') sb A' n' m' w' → PS P L S a len cap zs p sb A' n' m' w0 w' := by
  obtain ⟨F, G, Rl, h1, h2, h3, h4, h5, h6⟩ := h
  refine ⟨F, G, h3, h4, h2, fun w' A' n' m' hc hs => ⟨Grow F w w', G, Rl, ?_, fun k e g => ?_, hs, ?_, h5, ?_⟩⟩
  · have := h1.chg hc (fun k e => .inl e)
    exact ⟨this.1, this.2.1, fun k e => this.2.2.1 k (by rcases e with (e | e) | e; exact .inl (.inl e); exact .inr e; exact .inl (.inr e)), this.2.2.2⟩
  · rcases e with e | e
    · exact h2 k e g
    · have := (hP G w h4).1 k g; omega
  · exact (hP G w h4).2 w' hc.size (fun k e => hc.2.2.2.2 k (fun e' => h2 k e' e) ((hP G w h4).1 k e))
  · refine ⟨h6.1.same hc.size (hc.2.2.2.2 S (fun e => (h1.2.2.1 S (.inl e)).2.1 rfl) h1.2.2.2.2.1) (fun x hx h0 => hc.2.2.2.2 _ (fun e => ?_) ?_), h6.2⟩
    · have := (h1.2.2.1 _ (.inl e)).2.2; have := h6.2 x hx h0; omega
    · have := h6.2 x hx h0; have := h1.2.2.2.2.2.size; omega
theorem PS.step (hP : Fr P) (h : PS P L S a len cap zs p sb A n m w0 w) : ∃ F, SpIs F sb A n m w ∧ ∀ w' A' n' m', Chg F w w' → SpIs (Grow F w w') sb A' n' m' w' → PS P L S a len cap zs p sb A' n' m' w0 w' := by
  obtain ⟨F, G, h1, _, _, h2⟩ := h.step2 hP
  exact ⟨F, h1, h2⟩
end
/-- Where Insert ends, of what a law holds. -/
def PsIns (P : (Nat → Prop) → World → Prop) (L : List QEnt) (S : Nat) (a : Option Addr) (len cap : Nat) (zs : List Int) (p : Nat) (sb : Sb) (A : List Ent) (n m : Nat) (w0 : World) (Z : List Ent) (w' : World) : Prop :=
  (okZ (A ++ Z) = true → PS P L S a len cap zs p sb (mkZ (A ++ Z)) (n + if Z = [] then 0 else 1) (m + Z.length) w0 w') ∧ (okZ (A ++ Z) = false → PS P L S a len cap zs p sb A n m w0 w')
theorem psInsert {P : (Nat → Prop) → World → Prop} (hP : Fr P) (L : List QEnt) (S : Nat) (a : Option Addr) (len cap : Nat) (zs : List Int) (p : Nat) (sb : Sb) (A : List Ent) (n m : Nat) (w0 w : World) (ad : Addr) (h : PS P L S a len cap zs p sb A n m w0 w) (ho : OverAt ad w0) (v : Value) (Z : List Ent) (hz : IsZ Z) (he : EOk Z) (hv : EntsIs w v Z) (hm : m + Z.length ≤ 30000) :
    Calls Tryz.prog 33 #[.pointer (some ⟨sb.b, 1, none⟩), v] w fun e w' => e = .returned (ovE ad (okZ (A ++ Z))) ∧ PsIns P L S a len cap zs p sb A n m w0 Z w' := by
  have hB := h.below
  obtain ⟨F, h3, hst⟩ := h.step hP
  refine (spInsert F sb A n m Z v ad w h3 (ho.on hB) hz he hv hm).mono ?_
  rintro e w' ⟨h1, h2, h4, h5⟩
  exact ⟨h1, fun e => hst w' _ _ _ h2 (h4 e), fun e => hst w' _ _ _ h2 (h5 e)⟩
/-- Where Work ends, of what a law holds. -/
def PsWork (P : (Nat → Prop) → World → Prop) (L : List QEnt) (S : Nat) (a : Option Addr) (len cap : Nat) (zs : List Int) (p : Nat) (sb : Sb) (A : List Ent) (n m : Nat) (w0 : World) (f : Int) (e : Ending) (w' : World) : Prop :=
  ∃ (k : Int) (n' m' : Nat), e = .returned (.int .i64 k) ∧ PS P L S a len cap zs p sb A n' m' w0 w' ∧ 0 ≤ k ∧ (k = 0 ∨ k ≤ f) ∧ n' ≤ n ∧ m' ≤ m ∧ (f < 1 → n' = n) ∧ ((m : Int) ≤ f → n' ≤ 1)
theorem psWork {P : (Nat → Prop) → World → Prop} (hP : Fr P) (L : List QEnt) (S : Nat) (a : Option Addr) (len cap : Nat) (zs : List Int) (p : Nat) (sb : Sb) (A : List Ent) (n m : Nat) (w0 w : World) (h : PS P L S a len cap zs p sb A n m w0 w) (f : Int) (hm : m ≤ 30000) (hf : -1000000 ≤ f ∧ f ≤ 9223372036854775807) :
    Calls Tryz.prog 35 #[.pointer (some ⟨sb.b, 1, none⟩), .int .i64 f] w fun e w' => PsWork P L S a len cap zs p sb A n m w0 f e w' := by
  obtain ⟨F, h3, hst⟩ := h.step hP
  refine (spWork F sb A n m f w h3 hm hf).mono ?_
  rintro e w' ⟨k, rfl, n', m', g1, g2, g3, g4, g5, g6, g7, g8⟩
  exact ⟨k, n', m', rfl, hst w' _ _ _ g2 g1, g3, g4, g5, g6, g7, g8⟩
theorem psAll {P : (Nat → Prop) → World → Prop} (L : List QEnt) (S : Nat) (a : Option Addr) (len cap : Nat) (zs : List Int) (p : Nat) (sb : Sb) (A : List Ent) (n m : Nat) (w0 w : World) (ad : Addr) (h : PS P L S a len cap zs p sb A n m w0 w) (ho : OverAt ad w0) (hm : m ≤ 30000) :
    Calls Tryz.prog 39 #[.pointer (some ⟨sb.b, 1, none⟩)] w fun e w' => ∃ v, e = .returned v ∧ ZHas w.heap.size A v w' ∧ Below w.heap.size w w' := by
  have hB := h.below
  obtain ⟨F, G, Rl, _, _, ⟨st, h3, _⟩, _⟩ := h
  exact spAllX F sb A n m st ad w h3 (ho.on hB) (by omega)
theorem psBatches {P : (Nat → Prop) → World → Prop} (L : List QEnt) (S : Nat) (a : Option Addr) (len cap : Nat) (zs : List Int) (p : Nat) (sb : Sb) (A : List Ent) (n m : Nat) (w0 w : World) (h : PS P L S a len cap zs p sb A n m w0 w) :
    Calls Tryz.prog 34 #[.pointer (some ⟨sb.b, 1, none⟩)] w fun e w' => e = .returned (.int .i64 n) ∧ w' = w := by
  obtain ⟨F, G, Rl, _, _, ⟨st, h3, _⟩, _⟩ := h
  exact spBatchesX F sb A n m st w h3
theorem psGet {P : (Nat → Prop) → World → Prop} (L : List QEnt) (S : Nat) (a : Option Addr) (len cap : Nat) (zs : List Int) (p : Nat) (sb : Sb) (A : List Ent) (n m : Nat) (w0 w : World) (h : PS P L S a len cap zs p sb A n m w0 w) (r : List Val) (vr : Value) (hr : RowIs w vr r) :
    Calls Tryz.prog 81 #[.pointer (some ⟨sb.b, 1, none⟩), vr] w fun e w' => e = .returned (.int .i64 (wt r A)) ∧ Below w.heap.size w w' := by
  obtain ⟨F, G, Rl, _, _, ⟨st, h3, _⟩, _⟩ := h
  exact spGetX F sb A n m st r vr w h3 hr
theorem psAdd {P : (Nat → Prop) → World → Prop} (hP : Fr P) (L : List QEnt) (S : Nat) (a : Option Addr) (len cap : Nat) (zs : List Int) (p : Nat) (sb : Sb) (A : List Ent) (n m : Nat) (w0 w : World) (h : PS P L S a len cap zs p sb A n m w0 w) (va vb : Value) (la lb : List Ent) (ha : (va, la) ∈ L) (hb : (vb, lb) ∈ L) (hka : ∀ e ∈ la, inI e.2 = true) (hkb : ∀ e ∈ lb, inI e.2 = true) (hn : la.length + lb.length ≤ 65536) (c : Int) (hc : c = if okZ (la ++ lb) then 0 else 107) :
    Calls Tryz.prog 12 #[va, vb] w fun e w' => ∃ v, e = .returned (.tuple #[v, .int .i64 c]) ∧ PS P ((v, mkZ (la ++ lb)) :: L) S a len cap zs p sb A n m w0 w' := by
  obtain ⟨F, G, Rl, h1, h2, h3, h4, h5, h6⟩ := h
  have eR : ∀ x ∈ L, EntsR w Rl x.1 x.2 := fun x hx => by obtain ⟨vs, k1, k2⟩ := h5 x hx; exact ⟨vs, k1.sees h1.1, k2⟩
  refine (refAddR la lb va vb w Rl (fun v r hr => hr.sees h1.1) hn hka hkb (eR _ ha) (eR _ hb) c hc).mono ?_
  rintro e w' ⟨v, rfl, k1, k2⟩
  have hG := (hP G w h4).1
  have hF : ∀ k, F k ∨ G k → k < w.heap.size := fun k e => e.elim (h3.lt k) (hG k)
  have l1 := h1.on k2
  refine ⟨v, rfl, F, G, _, l1.join (base := w.heap.size) h1.2.2.2.2.1 hF, h2, h3.on k2, (hP G w h4).2 w' k2.size (fun k e => k2.block k (hG k e)), fun x hx => ?_, h6.1.on k2, h6.2⟩
  rcases List.mem_cons.1 hx with rfl | hx
  · exact k1.join l1.1
  · exact (h5 x hx).sees (joinW_up l1.1)
end Go.Proofs.YtglbipnppldkmaaGreatDoor
