/- What the law of the picked columns calls. -/
import Derived.Test.YtaccinophamgmaaDoorLnCalls
import Derived.Test.YtaccinophamgmaaDoorLnPicks
import Derived.Test.YtaccinophamgmaaDoorLsWalk
namespace Go.Proofs.YtaccinophamgmaaDoor
open Go.RowKit Go.Sort
set_option maxRecDepth 100000
set_option linter.unusedVariables false

theorem ErrsAt.arov {ad : Fin 11 → Addr} {w : World} (h : ErrsAt ad w) : ArOvAt (ad 5) (ad 6) w := ⟨h.2.2.2.2.2.2.2.1, h.2.2.2.2.2.2.2.2.1⟩
theorem kinds123P : ∀ (i : Nat) (h : i < ([1, 2, 3] : List Int).length), ([1, 2, 3] : List Int)[i] = 0 ∨ ([1, 2, 3] : List Int)[i] = 1 ∨ ([1, 2, 3] : List Int)[i] = 2 ∨ ([1, 2, 3] : List Int)[i] = 3 := by
  intro i hi
  have : i = 0 ∨ i = 1 ∨ i = 2 := by simp at hi; omega
  rcases this with rfl | rfl | rfl <;> simp
/-- A projection onto columns that are there, their list laid first. -/
theorem lpProject {B m n : Nat} {z : List Ent} (hz : S3 B m n z) (ks : List Int) (hk : ∀ k ∈ ks, 0 ≤ k ∧ k < (n : Int)) (L : Nat) (hL : ks.length = L) (hl : L ≤ 65536) (hn : n ≤ 65536) (hB0 : B ≤ 1000000) (hB : B * m ≤ 1000000) (hm : m ≤ 65536) (va : Value) (eA eO : Addr) (V : World) (he : ArOvAt eA eO V) (ha : EntsIs V va z) :
    Calls Tryd.prog 10 #[.slice (some ⟨V.heap.size, 0, none⟩) L L, va] (V.alloc (.cells (ks.map (Value.int .i64)).toArray 3)) fun e w' => ∃ v, e = .returned (.tuple #[v, .nilIface]) ∧ EntsIs w' v (prjZ ks z) ∧ Below V.heap.size V w' :=
  (lnProject ks _ va z eA eO _ (he.1.on one_box) (he.2.on one_box) (Nat.le_trans hz.2.2.1 hm) (hz.ok hB0 hn) (by rw [hL]; exact hl) (fun k h => inI_iff.2 (by have := hk k h; omega)) ((cols_newP V ks 3).ints L hL (by unfold maxLen; omega)) (ha.on one_box)).mono fun _ _ ⟨v, h1, h2, h3⟩ => ⟨v, by rw [h1]; unfold prjE; rw [hz.cols hk, (hz.prj hk hB).1]; rfl, h2.ents, one_box.trans (h3.mono (by simp))⟩
/-- The answer of columns of which one is none. -/
def outE (eA : Addr) (z : List Ent) : Value := if z = [] then .nilIface else errV eA
theorem lpOut {B m : Nat} {z : List Ent} (hz : S3 B m 3 z) (o : Int) (ho : ¬ (0 ≤ o ∧ o < 3)) (hoI : inI o = true) (hB0 : B ≤ 1000000) (hm : m ≤ 65536) (va : Value) (eA eO : Addr) (V : World) (he : ArOvAt eA eO V) (ha : EntsIs V va z) :
    Calls Tryd.prog 10 #[.slice (some ⟨V.heap.size, 0, none⟩) 2 2, va] (V.alloc (.cells #[.int .i64 0, .int .i64 o] 3)) fun e w' => ∃ v, ∃ i, i = outE eA z ∧ e = .returned (.tuple #[v, i]) ∧ Below V.heap.size V w' :=
  (lnProject [0, o] _ va z eA eO _ (he.1.on one_box) (he.2.on one_box) (Nat.le_trans hz.2.2.1 hm) (hz.ok hB0 (by decide)) (by simp) (fun k h => by simp at h; rcases h with rfl | rfl; (· rfl); (· exact hoI)) ((cols_newP V [0, o] 3).ints 2 rfl (by simp [maxLen])) (ha.on one_box)).mono fun _ _ ⟨v, h1, h2, h3⟩ => ⟨v, _, rfl, by
    rw [h1]; unfold prjE outE
    by_cases hn : z = []
    · subst hn; rfl
    · rw [prj_out hz hn ho, if_neg hn]; rfl, one_box.trans (h3.mono (by simp))⟩
theorem lpNone {B m : Nat} {z : List Ent} (hz : S3 B m 3 z) (hB0 : B ≤ 1000000) (hB : B * m ≤ 1000000) (hm : m ≤ 65536) (va : Value) (eA eO : Addr) (V : World) (he : ArOvAt eA eO V) (ha : EntsIs V va z) :
    Calls Tryd.prog 10 #[.slice none 0 0, va] V fun e w' => ∃ v, e = .returned (.tuple #[v, .nilIface]) ∧ EntsIs w' v (if sumW z = 0 then [] else [([], sumW z)]) ∧ Below V.heap.size V w' :=
  (lnProject [] _ va z eA eO V he.1 he.2 (Nat.le_trans hz.2.2.1 hm) (hz.ok hB0 (by decide)) (by simp) (by simp) (.inl ⟨none, 0, rfl, rfl⟩) ha).mono fun _ _ ⟨v, h1, h2, h3⟩ => ⟨v, by rw [h1]; unfold prjE; rw [hz.cols (by simp), (hz.prj (ks := []) (by simp) hB).1]; rfl, by rw [← prj_no hz hB]; exact h2.ents, h3⟩
set_option maxHeartbeats 1000000 in
theorem lp_long (a : Option Addr) (len cap : Nat) (col out : Int) (ad : Fin 11 → Addr) (w : World) (he : ErrsAt ad w) (h : 120 < (len : Int)) :
    Calls Tryd.prog 5 #[.slice a len cap, .int .i64 col, .int .i64 out] w fun e w' => e = .returned (.bool true) ∧ Below w.heap.size w w' := by
  have q := lawFirst11 _ _ w he.arov.1 he.arov.2
  clear he
  go_enter Tryd.func5, Tryd.ntmps5
  go_wp2_with fail
  refine q.mono ?_
  rintro e w1 ⟨rfl, hb1⟩
  go_wp2_with fail
  go_ret
  exact ⟨rfl, hb1⟩
end Go.Proofs.YtaccinophamgmaaDoor
