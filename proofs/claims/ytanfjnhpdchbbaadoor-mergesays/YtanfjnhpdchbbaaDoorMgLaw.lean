/- What the walks of layer 5's laws lean on. -/
import Derived.Test.YtanfjnhpdchbbaaDoorMgFirst
import Derived.Test.YtanfjnhpdchbbaaDoorMgSets
import Derived.Test.YtanfjnhpdchbbaaDoorMgRef
import Derived.Test.YtanfjnhpdchbbaaDoorErrOver
namespace Go.Proofs.YtanfjnhpdchbbaaDoor
open Go.RowKit Go.Sort
set_option maxRecDepth 100000
theorem sameEnts (l : List Ent) (va vb : Value) (w : World) (ha : EntsIs w va l) (hb : EntsIs w vb l) :
    Calls Tryd.prog 15 #[va, vb] w fun e w' => e = .returned (.bool true) ∧ Below w.heap.size w w' := by
  have := sameEntries l l va vb w ha hb
  have e : sEs l l = true := by unfold sEs; simp
  rw [e] at this; exact this
/-- The code of an answer. -/
def ovC (ok : Bool) : Int := if ok then 0 else 107
theorem isOver (ad : Fin 11 → Addr) (b : Bool) (W : World) (h : ErrsAt ad W) :
    Calls Tryd.prog 23 #[ovE (ad 6) b, .int .i64 (ovC b)] W fun e w' => e = .returned (.bool true) ∧ Below W.heap.size W w' := by
  cases b
  · exact seeIs ad (some 6) 107 W h
  · exact seeIs ad none 0 W h
theorem EntsN.ents {base : Nat} {w0 w : World} {l : List Ent} {v : Value} (h : EntsN base w0 l v w) (hB : Below w0.heap.size w0 w) : EntsIs w v l := by
  obtain ⟨us, h1, h2⟩ := h; exact ⟨us, EntsAt.of_own h1, h2.on hB⟩
theorem LsIs.cap {w : World} {a : Option Addr} {n cap : Nat} {X : List QEnt} (h : LsIs w (.slice a n cap) X) : X.length ≤ cap := by
  rcases h.1 with ⟨_, _, _, e⟩ | ⟨b, o, cap', e, h1, _⟩
  · have := congrArg List.length e; simp at this; rw [this]; simp
  · simp only [Value.slice.injEq] at e
    rw [List.length_map] at h1; omega
/-- The first ones of z-sets that were handed in. -/
theorem LsIs.take {w : World} {b o n cap : Nat} {X : List QEnt} (h : LsIs w (.slice (some ⟨b, o, none⟩) n cap) X) (k : Nat) (hk : k ≤ X.length) : LsIs w (.slice (some ⟨b, o, none⟩) k cap) (X.take k) := by
  have hl : (X.take k).length = k := by rw [List.length_take]; omega
  refine ⟨?_, fun x hx => h.2.1 x (List.mem_of_mem_take hx), by have := h.2.2; omega⟩
  rcases h.1 with ⟨_, _, _, e⟩ | ⟨b', o', cap', e, h1, h2, h3, h4⟩
  · have := congrArg List.length e; simp at this
    subst this
    exact .inl ⟨_, cap, by simp at hk; rw [hk], by simp⟩
  · simp only [Value.slice.injEq, Option.some.injEq, Addr.mk.injEq, and_true] at e
    obtain ⟨⟨rfl, rfl⟩, _, rfl⟩ := e
    rw [List.length_map] at h1
    refine .inr ⟨b, o, cap, by rw [List.length_map, hl], by rw [List.length_map]; omega, h2, h3, fun i hi => ?_⟩
    rw [List.length_map] at hi
    have := h4 i (by rw [List.length_map]; omega)
    simpa using this
end Go.Proofs.YtanfjnhpdchbbaaDoor
