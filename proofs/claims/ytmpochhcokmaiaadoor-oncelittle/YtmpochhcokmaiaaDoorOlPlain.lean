/- A change of one row, plainly. -/
import Derived.Test.YtmpochhcokmaiaaDoorOncePlain
import Derived.Test.YtmpochhcokmaiaaDoorNewRows
import Derived.Test.YtmpochhcokmaiaaDoorOwns
namespace Go.Proofs.YtmpochhcokmaiaaDoor
open Go.RowKit Go.Sort
set_option maxRecDepth 100000
set_option linter.unusedVariables false

def wantL (m k : Int) : Int := if m ≤ 0 ∧ 0 < m + k then 1 else if 0 < m ∧ m + k ≤ 0 then -1 else 0
def chL (r : List Val) (m k : Int) : List Ent := if wantL m k = 0 then [] else [(r, wantL m k)]
theorem tmod_bd (x : Int) : -100 < x.tmod 100 ∧ x.tmod 100 < 100 := by
  have h : (x.tmod 100).natAbs = x.natAbs % 100 := Int.natAbs_tmod x 100
  omega
theorem ok_lone (r : List Val) {m : Int} (h : -100 < m ∧ m < 100) : okZ [(r, m)] = true := (okZ_iff _).2 fun q => by
  simp only [wt]
  exact inI_small (by split <;> omega)
theorem wt_lone (r q : List Val) {m : Int} (h : -100 < m ∧ m < 100) : wt q (mkZ [(r, m)]) = if r = q then m else 0 := by
  rw [wt_mkZ (ok_lone r h)]
  simp only [wt]; omega
theorem lone_ok (r : List Val) {m : Int} (h : r.length ≤ 65536) : EOk (mkZ [(r, m)]) := mkZ_ok fun e he => by rw [List.mem_singleton.1 he]; exact h
theorem lone_len (r : List Val) (m : Int) : (mkZ [(r, m)]).length ≤ 1 := mkZ_len _
theorem ch_little (r : List Val) {m k : Int} (hm : -100 < m ∧ m < 100) (hk : -100 < k ∧ k < 100) :
    okZ (mkZ [(r, m)] ++ mkZ [(r, k)]) = true ∧ chZ (mkZ [(r, m)]) (mkZ [(r, k)]) = chL r m k := by
  have ok : okZ (mkZ [(r, m)] ++ mkZ [(r, k)]) = true := (okZ_iff _).2 fun q => by
    rw [wt_append, wt_lone r q hm, wt_lone r q hk]
    exact inI_small (by split <;> omega)
  refine ⟨ok, ?_⟩
  unfold chZ
  rw [if_pos ok]
  have hz : SortedZ (mkZ [(r, m)]) := (mkZ_isZ _).1
  refine mkZ_of (ch_ok _ _ hz) ?_ fun q => ?_
  · unfold chL
    split
    · exact ⟨List.Pairwise.nil, fun e h => by cases h⟩
    · rename_i h; exact isZ_one r _ h
  · rw [wt_ch _ _ hz, wt_mkZ ok, wt_append, wt_lone r q hm, wt_lone r q hk]
    unfold chL
    by_cases hq : r = q
    · unfold wantL
      simp only [hq, if_true]
      split
      · split at * <;> simp_all [wt] <;> (repeat (first | omega | split))
      · split at * <;> simp_all [wt] <;> (repeat (first | omega | split))
    · generalize wantL m k = c
      simp only [hq, if_false]
      split <;> simp [wt, hq]
theorem gt_lone (r : List Val) (k : Int) : gt r [(r, k)] = k := by
  rw [gt_wt (List.pairwise_singleton _ _)]
  simp [wt]
end Go.Proofs.YtmpochhcokmaiaaDoor
