/- How the program writes predicates of whatever depth. -/
import Derived.Test.YtiphnbpkliglcaaDoorPdWrite1
namespace Go.Proofs.YtiphnbpkliglcaaDoor
open Go.RowKit Go.Sort
set_option maxRecDepth 100000
set_option linter.unusedVariables false

/-- Parts so far, in brackets, with what stands between them. -/
def jn (b : List UInt8) : List (List UInt8) → List UInt8
  | [] => []
  | t :: ts => brk t ++ restP b ts
theorem joinP_jn {b : List UInt8} {ts : List (List UInt8)} (h : ts ≠ []) : joinP b ts = jn b ts := by
  cases ts with
  | nil => exact absurd rfl h
  | cons t ts => rfl
theorem jn_one (b t : List UInt8) : jn b [t] = brk t := by simp [jn, restP]
theorem jn_snoc {b : List UInt8} {ts : List (List UInt8)} (h : ts ≠ []) (t : List UInt8) : jn b (ts ++ [t]) = jn b ts ++ b ++ brk t := by
  cases ts with
  | nil => exact absurd rfl h
  | cons u ts => simp [jn, restP]
theorem restP_len {b : List UInt8} {M : Nat} (hb : b.length ≤ 5) : ∀ {ts : List (List UInt8)}, (∀ t ∈ ts, t.length ≤ M) → (restP b ts).length ≤ ts.length * (M + 7)
  | [], _ => by simp [restP]
  | t :: ts, h => by
    have h1 := restP_len hb (ts := ts) fun u hu => h u (by simp [hu])
    have h2 := h t (by simp)
    have e : restP b (t :: ts) = b ++ brk t ++ restP b ts := by simp [restP]
    rw [e]
    simp only [List.length_append, brk, List.length_cons, List.length_nil, Nat.succ_mul]
    omega
theorem jn_len {b : List UInt8} {M : Nat} (hb : b.length ≤ 5) {ts : List (List UInt8)} (h : ∀ t ∈ ts, t.length ≤ M) : (jn b ts).length ≤ ts.length * (M + 7) := by
  cases ts with
  | nil => simp [jn]
  | cons t ts =>
    have h1 := restP_len hb (ts := ts) fun u hu => h u (by simp [hu])
    have h2 := h t (by simp)
    simp only [jn, List.length_append, brk, List.length_cons, List.length_nil, Nat.succ_mul]
    omega
theorem leaf_len {ks : List Int} (hk : ks.length ≤ 16) {p : Pd} (h : LeafP ks p) (h' : p.k = 1 → okM p.v) : (shP p).length ≤ 160 := by
  rcases h with ⟨c, o, v, hc, _, _, _, _, rfl⟩ | ⟨a, b, o, ha, hb, _, _, _, rfl⟩ | ⟨c, hc, rfl⟩
  · have h1 := nmC_len (c := (c : Int)) (by omega) (by omega)
    have h2 := sgn_len o
    have h3 := shV_len (h' rfl)
    simp only at h3
    rw [shP_eq]; simp [shVal]; omega
  · have h1 := nmC_len (c := (a : Int)) (by omega) (by omega)
    have h4 := nmC_len (c := (b : Int)) (by omega) (by omega)
    have h2 := sgn_len o
    rw [shP_eq]; simp; omega
  · have h1 := nmC_len (c := (c : Int)) (by omega) (by omega)
    rw [shP_eq]; simp; omega
theorem shP_len {ks : List Int} (hk : ks.length ≤ 16) : ∀ {n : Nat} {p : Pd}, MkP okM ks n p → (shP p).length ≤ 160 * 4 ^ n := by
  intro n
  induction n with
  | zero => intro p h; simpa using leaf_len hk h.1 h.2
  | succ n ih =>
    intro p h
    have hp := pow_pos4 n
    rw [Nat.pow_succ]
    rcases h with h | ⟨q, rfl, hq⟩ | ⟨k, l, rfl, hk4, h2, h3, hl⟩
    · have := leaf_len hk h.1 h.2; omega
    · have := ih hq
      rw [shP_not]; simp; omega
    · have hb : ∀ t ∈ l.map (fun q => shP q), t.length ≤ 160 * 4 ^ n := fun t ht => by
        obtain ⟨q, hq, rfl⟩ := List.mem_map.1 ht
        exact ih (hl q hq)
      have hne : l.map (fun q => shP q) ≠ [] := by cases l with
        | nil => simp at h2
        | cons => simp
      have hm : ∀ b : List UInt8, b.length ≤ 5 → (joinP b (l.map fun q => shP q)).length ≤ 160 * (4 ^ n * 4) := fun b hb5 => by
        have h := jn_len hb5 hb
        rw [joinP_jn hne]
        rw [List.length_map] at h
        have : l.length * (160 * 4 ^ n + 7) ≤ 3 * (160 * 4 ^ n + 7) := Nat.mul_le_mul_right _ h3
        omega
      rcases hk4 with rfl | rfl
      · rw [shP_eq]; simpa using hm andB (by decide)
      · rw [shP_eq]; simpa using hm orB (by decide)
/-- Predicates no deeper than n are written as they are. -/
def WriteAt (ks : List Int) (n : Nat) : Prop := ∀ (P : Pd) (s : Value) (bs : List UInt8) (w w1 : World), MkP okM ks n P → PdL (fun k => k < w.heap.size) n w1 s P.l → Ready w → Tryd.BldHas bs w w1 → bs.length + 160 * 4 ^ n ≤ 1000000000000 →
  Calls Tryd.prog 25 #[.pointer (some ⟨w.heap.size, 0, none⟩), pv P s] w1 (WrEnd (bs ++ shP P) w w1)
end Go.Proofs.YtiphnbpkliglcaaDoor
