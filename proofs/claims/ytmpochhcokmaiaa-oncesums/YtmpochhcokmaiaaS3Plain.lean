/- Small z-sets, plainly. -/
import Derived.Test.YtmpochhcokmaiaaOwns
namespace Go.Proofs.Ytmpochhcokmaiaa
open Go.RowKit Go.Sort
set_option maxRecDepth 100000

/-- A z-set whose weights lie within B, of at most m rows of three columns. -/
def S3 (B m n : Nat) (z : List Ent) : Prop := IsZ z ∧ (∀ r, -(B : Int) ≤ wt r z ∧ wt r z ≤ B) ∧ z.length ≤ m ∧ ∀ e ∈ z, e.1.length = n
theorem S3.small {B m n : Nat} {z : List Ent} (h : S3 B m n z) : ∀ e ∈ z, -(B : Int) ≤ e.2 ∧ e.2 ≤ B := fun e he => by
  have := h.2.1 e.1
  rwa [wt_mem h.1.1 he] at this
theorem inI_small {k : Int} (h : -(1000000 : Int) ≤ k ∧ k ≤ 1000000) : inI k = true := by unfold inI; simp; omega
theorem S3.ok {B m n : Nat} {z : List Ent} (h : S3 B m n z) (hB : B ≤ 1000000) (hn : n ≤ 65536) : EOk z := fun e he => by
  have := h.small e he
  exact ⟨inI_small (by omega), by rw [h.2.2.2 e he]; exact hn⟩
theorem wt_within (r : List Val) (B : Nat) : ∀ l : List Ent, (∀ e ∈ l, -(B : Int) ≤ e.2 ∧ e.2 ≤ B) → -((B * l.length : Nat) : Int) ≤ wt r l ∧ wt r l ≤ ((B * l.length : Nat) : Int)
  | [], _ => by simp [wt]
  | e :: l, h => by
    have ih := wt_within r B l (fun x hx => h x (by simp [hx]))
    have he := h e (by simp)
    have hm : B * (e :: l).length = B * l.length + B := by rw [List.length_cons, Nat.mul_succ]
    rw [hm]
    simp only [wt]
    split <;> omega
theorem S3.add {B C m k n : Nat} {x y : List Ent} (hx : S3 B m n x) (hy : S3 C k n y) (hB : B + C ≤ 1000000) : okZ (x ++ y) = true ∧ S3 (B + C) (m + k) n (mkZ (x ++ y)) ∧ ∀ r, wt r (mkZ (x ++ y)) = wt r x + wt r y := by
  have ok : okZ (x ++ y) = true := (okZ_iff _).2 (fun r => by
    rw [wt_append]
    have := hx.2.1 r; have := hy.2.1 r
    exact inI_small (by omega))
  have hw : ∀ r, wt r (mkZ (x ++ y)) = wt r x + wt r y := fun r => by rw [wt_mkZ ok, wt_append]
  refine ⟨ok, ⟨mkZ_isZ _, fun r => ?_, ?_, fun e he => ?_⟩, hw⟩
  · rw [hw]; have := hx.2.1 r; have := hy.2.1 r; omega
  · have := mkZ_len (x ++ y); rw [List.length_append] at this; have := hx.2.2.1; have := hy.2.2.1; omega
  · obtain ⟨e', he', h1⟩ := mkZ_rows _ e he
    rw [← h1]
    rcases List.mem_append.1 he' with h | h
    · exact hx.2.2.2 _ h
    · exact hy.2.2.2 _ h
end Go.Proofs.Ytmpochhcokmaiaa
