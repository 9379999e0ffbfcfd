/- Filters, projections and sums of small z-sets, plainly: what the law that each is linear speaks of. -/
import Derived.Test.YtaccinophamgmaaDoorPackLin
import Derived.Test.YtaccinophamgmaaDoorPackSets
namespace Go.Proofs.YtaccinophamgmaaDoor
open Go.RowKit Go.Sort
set_option maxRecDepth 100000

/-- A z-set whose weights lie within B, of at most m rows of three columns. -/
def S3 (B m n : Nat) (z : List Ent) : Prop := IsZ z ∧ (∀ r, -(B : Int) ≤ wt r z ∧ wt r z ≤ B) ∧ z.length ≤ m ∧ ∀ e ∈ z, e.1.length = n
theorem S3.small {B m n : Nat} {z : List Ent} (h : S3 B m n z) : ∀ e ∈ z, -(B : Int) ≤ e.2 ∧ e.2 ≤ B := fun e he => by
  have := h.2.1 e.1
  rwa [wt_mem h.1.1 he] at this
theorem inI_small {k : Int} (h : -(1000000 : Int) ≤ k ∧ k ≤ 1000000) : inI k = true := by unfold inI; simp; omega
theorem S3.ok {B m n : Nat} {z : List Ent} (h : S3 B m n z) (hB : B ≤ 1000000) (hn : n ≤ 65536) : EOk z := fun e he => by
  have := h.small e he
  exact ⟨inI_small (by omega), by rw [h.2.2.2 e he]; exact hn⟩
theorem wt_within (r : List Val) (B : Nat) : ∀ l : List Ent, (∀ e ∈ l, -(B : Int) ≤ e.2 ∧ e.2 ≤ B) → -((B * l.length : Nat) : Int) ≤ wt r l ∧ wt r l ≤ ((B * l.length : Nat) : Int)
  | [], _ => by simp [wt]
  | e :: l, h => by
    have ih := wt_within r B l (fun x hx => h x (by simp [hx]))
    have he := h e (by simp)
    have hm : B * (e :: l).length = B * l.length + B := by rw [List.length_cons, Nat.mul_succ]
    rw [hm]
    simp only [wt]
    split <;> omega
theorem S3.flt {B m n : Nat} {z : List Ent} (h : S3 B m n z) (p : Pd) : S3 B m n (fltP p z) := by
  refine ⟨flt_isZ h.1, fun r => ?_, Nat.le_trans (flt_len p z) h.2.2.1, fun e he => h.2.2.2 e (flt_mem he).1⟩
  rw [wt_flt]
  have := h.2.1 r
  split <;> omega
theorem S3.add {B C m k n : Nat} {x y : List Ent} (hx : S3 B m n x) (hy : S3 C k n y) (hB : B + C ≤ 1000000) : okZ (x ++ y) = true ∧ S3 (B + C) (m + k) n (mkZ (x ++ y)) ∧ ∀ r, wt r (mkZ (x ++ y)) = wt r x + wt r y := by
  have ok : okZ (x ++ y) = true := (okZ_iff _).2 (fun r => by
    rw [wt_append]
    have := hx.2.1 r; have := hy.2.1 r
    exact inI_small (by omega))
  have hw : ∀ r, wt r (mkZ (x ++ y)) = wt r x + wt r y := fun r => by rw [wt_mkZ ok, wt_append]
  refine ⟨ok, ⟨mkZ_isZ _, fun r => ?_, ?_, fun e he => ?_⟩, hw⟩
  · rw [hw]; have := hx.2.1 r; have := hy.2.1 r; omega
  · have := mkZ_len (x ++ y); rw [List.length_append] at this; have := hx.2.2.1; have := hy.2.2.1; omega
  · obtain ⟨e', he', h1⟩ := mkZ_rows _ e he
    rw [← h1]
    rcases List.mem_append.1 he' with h | h
    · exact hx.2.2.2 _ h
    · exact hy.2.2.2 _ h
/-- All columns are there. -/
theorem S3.col {B m n : Nat} {z : List Ent} (h : S3 B m n z) {ks : List Int} (hk : ∀ k ∈ ks, 0 ≤ k ∧ k < (n : Int)) : ∀ e ∈ z, allIn e.1 ks = true := by
  intro e he
  unfold allIn
  rw [List.all_eq_true]
  intro k hk'
  have := hk k hk'
  have hl := h.2.2.2 e he
  unfold inR
  simp; omega
theorem S3.cols {B m n : Nat} {z : List Ent} (h : S3 B m n z) {ks : List Int} (hk : ∀ k ∈ ks, 0 ≤ k ∧ k < (n : Int)) : prjOk ks z = true := by
  unfold prjOk
  rw [List.all_eq_true]
  exact h.col hk
theorem S3.prj {B m n : Nat} {z : List Ent} (h : S3 B m n z) {ks : List Int} (hk : ∀ k ∈ ks, 0 ≤ k ∧ k < (n : Int)) (hB : B * m ≤ 1000000) : okZ (prjP ks z) = true ∧ prjZ ks z = mkZ (prjP ks z) ∧ S3 (B * m) m ks.length (prjZ ks z) ∧ ∀ r, wt r (prjZ ks z) = wt r (prjP ks z) := by
  have hw : ∀ r, -((B * m : Nat) : Int) ≤ wt r (prjP ks z) ∧ wt r (prjP ks z) ≤ ((B * m : Nat) : Int) := fun r => by
    have h1 := wt_within r B (prjP ks z) (fun e he => by
      obtain ⟨x, hx, rfl⟩ := List.mem_map.1 he
      exact h.small x hx)
    rw [prj_len] at h1
    have h2 : B * z.length ≤ B * m := Nat.mul_le_mul_left B h.2.2.1
    omega
  have ok : okZ (prjP ks z) = true := (okZ_iff _).2 (fun r => by have := hw r; exact inI_small (by omega))
  have e : prjZ ks z = mkZ (prjP ks z) := by unfold prjZ; rw [h.cols hk]; rfl
  refine ⟨ok, e, ?_, fun r => by rw [e, wt_mkZ ok]⟩
  rw [e]
  refine ⟨mkZ_isZ _, fun r => by rw [wt_mkZ ok]; exact hw r, ?_, fun e' he => ?_⟩
  · have := mkZ_len (prjP ks z); rw [prj_len] at this; have := h.2.2.1; omega
  · obtain ⟨x, hx, h1⟩ := mkZ_rows _ e' he
    obtain ⟨y, hy, rfl⟩ := List.mem_map.1 hx
    rw [← h1]
    have := h.col hk y hy
    simp [pk, this]
theorem s3_eq {A B m k n n' : Nat} {x y : List Ent} (hx : S3 A m n x) (hy : S3 B k n' y) (h : ∀ r, wt r x = wt r y) : x = y := z_uniq hx.1.1 hy.1.1 hx.1.2 hy.1.2 h
/-- A filter of a sum is the sum of the filters. -/
theorem flt_sum {B m n : Nat} {x y : List Ent} (hx : S3 B m n x) (hy : S3 B m n y) (hB : B + B ≤ 1000000) (p : Pd) : fltP p (mkZ (x ++ y)) = mkZ (fltP p x ++ fltP p y) := by
  have h1 := hx.add hy hB
  have h2 := (hx.flt p).add (hy.flt p) hB
  refine s3_eq (h1.2.1.flt p) h2.2.1 (fun r => ?_)
  rw [wt_flt, h1.2.2, h2.2.2, wt_flt, wt_flt]
  split <;> omega
/-- A filter and its contrary are all. -/
theorem flt_not {B m n : Nat} {x : List Ent} (hx : S3 B m n x) (hB : B + B ≤ 1000000) (p : Pd) : mkZ (fltP p x ++ fltP ⟨6, 0, 0, 0, nul, [p]⟩ x) = x := by
  have h2 := (hx.flt p).add (hx.flt ⟨6, 0, 0, 0, nul, [p]⟩) hB
  refine s3_eq h2.2.1 hx (fun r => ?_)
  rw [h2.2.2, wt_flt, wt_flt, hd_not]
  cases hd p r <;> simp
/-- A projection of a sum is the sum of the projections. -/
theorem prj_sum {B m n : Nat} {x y : List Ent} (hx : S3 B m n x) (hy : S3 B m n y) {ks : List Int} (hk : ∀ k ∈ ks, 0 ≤ k ∧ k < (n : Int)) (h1 : (B + B) * (m + m) ≤ 1000000) (h2 : B + B ≤ 1000000) (h3 : B * m + B * m ≤ 1000000) :
    okZ (prjZ ks x ++ prjZ ks y) = true ∧ prjZ ks (mkZ (x ++ y)) = mkZ (prjZ ks x ++ prjZ ks y) := by
  have a := hx.add hy h2
  have b := a.2.1.prj hk h1
  have c := hx.prj hk (by omega)
  have d := hy.prj hk (by omega)
  have f := c.2.2.1.add d.2.2.1 h3
  refine ⟨f.1, s3_eq b.2.2.1 f.2.1 (fun r => ?_)⟩
  rw [b.2.2.2, f.2.2, c.2.2.2, d.2.2.2, wt_prj_same ks (m := x ++ y) (fun r => by rw [a.2.2, wt_append]), prj_append, wt_append]
end Go.Proofs.YtaccinophamgmaaDoor
