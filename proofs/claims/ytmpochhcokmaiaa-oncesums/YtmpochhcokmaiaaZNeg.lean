/- What the document's own Neg answers of entries in memory. -/
import Derived.Test.YtmpochhcokmaiaaZAdd
namespace Go.Proofs.Ytmpochhcokmaiaa
open Go.RowKit Go.Sort
set_option maxRecDepth 100000

/-- Opposites; may they be? -/
def ngE (e : Ent) : Ent := (e.1, -e.2)
def ngV (e : VEnt) : VEnt := (e.1, -e.2)
def ngOk (l : List Ent) : Bool := l.all fun e => inI (-e.2)
def ngZ (l : List Ent) : List Ent := if ngOk l then l.map ngE else []
theorem wt_ng (r : List Val) : ∀ l : List Ent, wt r (l.map ngE) = - wt r l
  | [] => rfl
  | e :: l => by
    have ih := wt_ng r l
    simp only [List.map_cons, wt, ngE]
    rw [ih]; split <;> omega
theorem ng_snoc {l : List Ent} {j : Nat} (h : j < l.length) : ngOk (l.take (j + 1)) = (ngOk (l.take j) && inI (-l[j].2)) := by
  unfold ngOk; rw [List.take_succ_eq_append_getElem h, List.all_append]; simp
theorem ng_not {l : List Ent} {j : Nat} (h : j < l.length) (h' : inI (-l[j].2) = false) : ngOk l = false := by
  unfold ngOk; rw [List.all_eq_false]; exact ⟨l[j], List.getElem_mem h, by simp [h']⟩
theorem es_ng {vs : List VEnt} {j : Nat} (h : j < vs.length) : es ((vs.take (j + 1)).map ngV) = es ((vs.take j).map ngV) ++ ec (ngV vs[j]) := by
  rw [List.take_succ_eq_append_getElem h, List.map_append]; exact es_snoc _ _
theorem Reads.neg {w : World} {vs : List VEnt} {l : List Ent} (h : Reads w vs l) : Reads w (vs.map ngV) (l.map ngE) := by
  refine ⟨by simp [h.1], fun i h1 h2 => ?_⟩
  simp only [List.length_map] at h1 h2
  simp only [List.getElem_map, ngV, ngE]
  exact ⟨(h.2 i h1 h2).1, by rw [(h.2 i h1 h2).2]⟩
def NegTo (vs : List VEnt) (l : List Ent) (w : World) (j : Nat) (v : Value) (wr : World) : Prop := ngOk (l.take j) = true ∧ wr.ownsRow w.heap.size 36 2 v j (es ((vs.take j).map ngV)) ∧ Below w.heap.size w wr
end Go.Proofs.Ytmpochhcokmaiaa
