/- What the law of all of linear holds at hand: answers that outlive the maker's next number. -/
import Derived.Test.YtaccinophamgmaaDoorLnCalls
import Derived.Test.YtaccinophamgmaaDoorAddR
import Derived.Test.YtaccinophamgmaaDoorPackPdE
import Derived.Test.YtaccinophamgmaaDoorPackRow
namespace Go.Proofs.YtaccinophamgmaaDoor
open Go.RowKit Go.Sort
set_option maxRecDepth 100000
set_option linter.unusedVariables false

/-- A row above a bound, in a block of values. -/
theorem row_up {base : Nat} {w : World} {v : Value} {r : List Val} (h : RowIs w v r) (hv : r = [] ∨ ∀ k, v.ownBlock = some k → base ≤ k ∧ ValB k w) : RowIs (above base w) v r := by
  rcases h with ⟨a, cap, rfl, rfl⟩ | ⟨b, o, cap, rfl, h1, h2, h3, h4⟩
  · exact .inl ⟨a, cap, rfl, rfl⟩
  · rcases hv with rfl | hv
    · exact .inl ⟨_, cap, rfl, rfl⟩
    · obtain ⟨hb, hB⟩ := hv b rfl
      refine .inr ⟨b, o, cap, rfl, h1, h2, by rw [above_size]; exact h3, fun i hi => ?_⟩
      rw [above_cell hb hB, above_cell hb hB, above_cell hb hB]
      exact h4 i hi
theorem EntsNew.up {base : Nat} {l : List Ent} {v : Value} {w : World} (h : EntsNew base l v w) : EntsR w (above base w) v l := by
  obtain ⟨us, h1, h2, h3⟩ := h
  exact ⟨us, EntsAt.of_own h1, h2.1, fun i a b => ⟨row_up (h2.2 i a b).1 (h3 i a b), (h2.2 i a b).2⟩⟩
/-- Lists that all lie above a bound. -/
def AllNew (B : Nat) (L : List (List Ent × Value)) (V : World) : Prop := ∀ x ∈ L, EntsNew B x.1 x.2 V
/-- What is at hand. -/
def LyAt (B X : Nat) (w : World) (P : Pd) (s : Value) (S : Nat) (L : List (List Ent × Value)) (V : World) : Prop :=
  AllNew B L V ∧ PdL (fun k => S < k) 2 V s P.l ∧ PdBox X P s V ∧ Below w.heap.size w V ∧ B ≤ V.heap.size
theorem LyAt.on {B X S : Nat} {w V V' : World} {P : Pd} {s : Value} {L : List (List Ent × Value)} (h : LyAt B X w P s S L V) (hb : Below V.heap.size V V') : LyAt B X w P s S L V' :=
  ⟨fun x hx => (h.1 x hx).on hb, h.2.1.on hb, h.2.2.1.on hb, h.2.2.2.1.trans (hb.mono h.2.2.2.1.size), Nat.le_trans h.2.2.2.2 hb.size⟩
theorem LyAt.but {B X S : Nat} {w V V' : World} {P : Pd} {s : Value} {L : List (List Ent × Value)} (h : LyAt B X w P s S L V) (hb : But S V V') (hB : S < B) (hX : S < X) (hw : w.heap.size ≤ S) : LyAt B X w P s S L V' :=
  ⟨fun x hx => (h.1 x hx).but hb hB, h.2.1.but hb (by omega), h.2.2.1.but hb (by omega), h.2.2.2.1.trans (hb.below hw h.2.2.2.1.size), Nat.le_trans h.2.2.2.2 hb.size⟩
theorem LyAt.add {B X S : Nat} {w V : World} {P : Pd} {s : Value} {L : List (List Ent × Value)} (h : LyAt B X w P s S L V) {l : List Ent} {v : Value} (he : EntsNew B l v V) : LyAt B X w P s S ((l, v) :: L) V :=
  ⟨fun x hx => by rcases List.mem_cons.1 hx with rfl | hx; (· exact he); (· exact h.1 x hx), h.2⟩
theorem LyAt.at {B X S : Nat} {w V : World} {P : Pd} {s : Value} {L : List (List Ent × Value)} (h : LyAt B X w P s S L V) (i : Nat) {l : List Ent} {v : Value} (hi : L[i]? = some (l, v)) : EntsNew B l v V := h.1 (l, v) (List.mem_of_getElem? hi)
/-- The maker, one number back. -/
theorem SeqAt.back {S : Nat} {a : Option Addr} {len cap : Nat} {zs : List Int} {p : Nat} {w : World} (h : SeqAt S a len cap zs (p + 1) w) : SeqAt S a len cap zs p (w.setCell ⟨S, 1, none⟩ (.int .i64 (p : Int))) := by
  obtain ⟨h1, h2, h3, h4, h5, h6⟩ := h
  refine ⟨by rw [World.cell?_setCell_other _ _ _ _ (fun e => by cases e)]; exact h1, World.cell?_setCell_same w _ _ h2, by simpa [go_sem] using h3, by simp [World.setCell]; exact h4, h5, h6.on h5 h4 (But.set 1 _)⟩
/-- A projection's error is told. -/
theorem seePrj (ad : Fin 11 → Addr) (ks : List Int) (l : List Ent) (w : World) (h : ErrsAt ad w) :
    Calls Tryd.prog 18 #[prjE (ad 5) (ad 6) ks l, .int .i64 (prjC ks l)] w fun e w' => e = .returned (.bool true) ∧ Below w.heap.size w w' := by
  unfold prjE prjC ovE
  by_cases h1 : prjOk ks l = true
  · rw [if_pos h1, if_pos h1]
    by_cases h2 : okZ (prjP ks l) = true
    · rw [if_pos h2, if_pos h2]; exact seeIs ad none 0 w h
    · rw [if_neg h2, if_neg h2]; exact seeIs ad (some 6) 107 w h
  · rw [if_neg h1, if_neg h1]; exact seeIs ad (some 5) 106 w h
theorem seeOver (ad : Fin 11 → Addr) (l : List Ent) (w : World) (h : ErrsAt ad w) :
    Calls Tryd.prog 18 #[ovE (ad 6) (okZ l), .int .i64 (if okZ l then 0 else 107)] w fun e w' => e = .returned (.bool true) ∧ Below w.heap.size w w' := by
  unfold ovE
  by_cases h2 : okZ l = true
  · rw [if_pos h2, if_pos h2]; exact seeIs ad none 0 w h
  · rw [if_neg h2, if_neg h2]; exact seeIs ad (some 6) 107 w h
theorem sameNew {B : Nat} {l : List Ent} {va vb : Value} {w : World} (ha : EntsNew B l va w) (hb : EntsNew B l vb w) :
    Calls Tryd.prog 15 #[va, vb] w fun e w' => e = .returned (.bool true) ∧ Below w.heap.size w w' := by
  have q := sameEntries l l va vb w ha.ents hb.ents
  have es : sEs l l = true := by unfold sEs; simp
  rw [es] at q
  exact q
end Go.Proofs.YtaccinophamgmaaDoor
