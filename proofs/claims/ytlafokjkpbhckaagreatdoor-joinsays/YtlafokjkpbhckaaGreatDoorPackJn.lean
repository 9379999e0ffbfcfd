/- Texts of one claim, one behind the other. -/
import Derived.Test.YtlafokjkpbhckaaGreatDoorPackSets
import Derived.Test.YtlafokjkpbhckaaGreatDoorPackPlain
/- Small z-sets, plainly. -/
namespace Go.Proofs.YtlafokjkpbhckaaGreatDoor
open Go.RowKit Go.Sort
set_option maxRecDepth 100000

/-- A z-set whose weights lie within B, of at most m rows of three columns. -/
def S3 (B m n : Nat) (z : List Ent) : Prop := IsZ z ∧ (∀ r, -(B : Int) ≤ wt r z ∧ wt r z ≤ B) ∧ z.length ≤ m ∧ ∀ e ∈ z, e.1.length = n
theorem S3.small {B m n : Nat} {z : List Ent} (h : S3 B m n z) : ∀ e ∈ z, -(B : Int) ≤ e.2 ∧ e.2 ≤ B := fun e he => by
  have := h.2.1 e.1
  rwa [wt_mem h.1.1 he] at this
theorem inI_small {k : Int} (h : -(1000000 : Int) ≤ k ∧ k ≤ 1000000) : inI k = true := by unfold inI; simp; omega
theorem S3.ok {B m n : Nat} {z : List Ent} (h : S3 B m n z) (hB : B ≤ 1000000) (hn : n ≤ 65536) : EOk z := fun e he => by
  have := h.small e he
  exact ⟨inI_small (by omega), by rw [h.2.2.2 e he]; exact hn⟩
theorem wt_within (r : List Val) (B : Nat) : ∀ l : List Ent, (∀ e ∈ l, -(B : Int) ≤ e.2 ∧ e.2 ≤ B) → -((B * l.length : Nat) : Int) ≤ wt r l ∧ wt r l ≤ ((B * l.length : Nat) : Int)
  | [], _ => by simp [wt]
  | e :: l, h => by
    have ih := wt_within r B l (fun x hx => h x (by simp [hx]))
    have he := h e (by simp)
    have hm : B * (e :: l).length = B * l.length + B := by rw [List.length_cons, Nat.mul_succ]
    rw [hm]
    simp only [wt]
    split <;> omega
theorem S3.add {B C m k n : Nat} {x y : List Ent} (hx : S3 B m n x) (hy : S3 C k n y) (hB : B + C ≤ 1000000) : okZ (x ++ y) = true ∧ S3 (B + C) (m + k) n (mkZ (x ++ y)) ∧ ∀ r, wt r (mkZ (x ++ y)) = wt r x + wt r y := by
  have ok : okZ (x ++ y) = true := (okZ_iff _).2 (fun r => by
    rw [wt_append]
    have := hx.2.1 r; have := hy.2.1 r
    exact inI_small (by omega))
  have hw : ∀ r, wt r (mkZ (x ++ y)) = wt r x + wt r y := fun r => by rw [wt_mkZ ok, wt_append]
  refine ⟨ok, ⟨mkZ_isZ _, fun r => ?_, ?_, fun e he => ?_⟩, hw⟩
  · rw [hw]; have := hx.2.1 r; have := hy.2.1 r; omega
  · have := mkZ_len (x ++ y); rw [List.length_append] at this; have := hx.2.2.1; have := hy.2.2.1; omega
  · obtain ⟨e', he', h1⟩ := mkZ_rows _ e he
    rw [← h1]
    rcases List.mem_append.1 he' with h | h
    · exact hx.2.2.2 _ h
    · exact hy.2.2.2 _ h
end Go.Proofs.YtlafokjkpbhckaaGreatDoor
/- Rows that fit together, plainly. -/
namespace Go.Proofs.YtlafokjkpbhckaaGreatDoor
open Go.RowKit Go.Sort
set_option maxRecDepth 100000
set_option linter.unusedVariables false

/-- Alike by all pairs of columns, none Null. -/
def fitP (on : List (Int × Int)) (a b : List Val) : Bool := on.all fun p => (colR a p.1).1 != 0 && decide (colR a p.1 = colR b p.2)
/-- One row with all that fit. -/
def jnR (on : List (Int × Int)) (x : Ent) (b : List Ent) : List Ent := (b.filter fun y => fitP on x.1 y.1).map fun y => (x.1 ++ y.1, x.2 * y.2)
/-- Each with each that fits. -/
def jnP (on : List (Int × Int)) (a b : List Ent) : List Ent := a.flatMap fun x => jnR on x b
theorem jnP_cons (on : List (Int × Int)) (x : Ent) (a b : List Ent) : jnP on (x :: a) b = jnR on x b ++ jnP on a b := by unfold jnP; rw [List.flatMap_cons]
theorem jnP_take (on : List (Int × Int)) {a : List Ent} (b : List Ent) {i : Nat} (h : i < a.length) : jnP on (a.take (i + 1)) b = jnP on (a.take i) b ++ jnR on a[i] b := by
  unfold jnP; rw [List.take_succ_eq_append_getElem h, List.flatMap_append]; simp
theorem jnR_take (on : List (Int × Int)) (x : Ent) {b : List Ent} {k : Nat} (h : k < b.length) : jnR on x (b.take (k + 1)) = jnR on x (b.take k) ++ (if fitP on x.1 b[k].1 = true then [(x.1 ++ b[k].1, x.2 * b[k].2)] else []) := by
  unfold jnR
  rw [List.take_succ_eq_append_getElem h, List.filter_append, List.map_append, List.filter_cons, List.filter_nil]
  split <;> simp
theorem jnR_len (on : List (Int × Int)) (x : Ent) (b : List Ent) : (jnR on x b).length ≤ b.length := by
  unfold jnR; rw [List.length_map]; exact List.length_filter_le _ _
theorem jnP_len (on : List (Int × Int)) (b : List Ent) : ∀ a : List Ent, (jnP on a b).length ≤ a.length * b.length
  | [] => by simp [jnP]
  | x :: a => by
    have h1 := jnP_len on b a
    have h2 := jnR_len on x b
    rw [jnP_cons, List.length_append, List.length_cons, Nat.succ_mul]; omega
theorem jnP_mem {on : List (Int × Int)} {a b : List Ent} {e : Ent} (h : e ∈ jnP on a b) : ∃ x ∈ a, ∃ y ∈ b, fitP on x.1 y.1 = true ∧ e = (x.1 ++ y.1, x.2 * y.2) := by
  obtain ⟨x, hx, h⟩ := List.mem_flatMap.1 h
  obtain ⟨y, hy, rfl⟩ := List.mem_map.1 h
  obtain ⟨hy1, hy2⟩ := List.mem_filter.1 hy
  exact ⟨x, hx, y, hy1, hy2, rfl⟩
/-- A row's weight in what is joined: rows of one length on the left. -/
theorem app_iff {s t r : List Val} {n : Nat} (h : s.length = n) : s ++ t = r ↔ s = r.take n ∧ t = r.drop n := by
  subst h
  constructor
  · rintro rfl; simp
  · rintro ⟨h1, h2⟩
    have := List.take_append_drop s.length r
    rw [← h1, ← h2] at this; exact this
theorem wt_jr (on : List (Int × Int)) (x : Ent) {n : Nat} (hx : x.1.length = n) (r : List Val) : ∀ b : List Ent, wt r (jnR on x b) = if x.1 = r.take n ∧ fitP on (r.take n) (r.drop n) = true then x.2 * wt (r.drop n) b else 0
  | [] => by simp [jnR, wt]
  | y :: b => by
    have ih := wt_jr on x hx r b
    have hA := app_iff (s := x.1) (t := y.1) (r := r) hx
    by_cases hf : fitP on x.1 y.1 = true
    · have e : jnR on x (y :: b) = (x.1 ++ y.1, x.2 * y.2) :: jnR on x b := by unfold jnR; rw [List.filter_cons_of_pos (by exact hf)]; rfl
      rw [e]
      simp only [wt]
      rw [ih]
      by_cases h1 : x.1 = r.take n
      · by_cases h2 : y.1 = r.drop n
        · rw [if_pos (hA.2 ⟨h1, h2⟩), if_pos h2]
          rw [h1, h2] at hf
          rw [if_pos ⟨h1, hf⟩, if_pos ⟨h1, hf⟩, Int.mul_add]
        · rw [if_neg (fun h => h2 (hA.1 h).2), if_neg h2, Int.zero_add, Int.zero_add]
      · rw [if_neg (fun h => h1 (hA.1 h).1), if_neg (fun h => h1 h.1), if_neg (fun h => h1 h.1)]; rfl
    · have e : jnR on x (y :: b) = jnR on x b := by unfold jnR; rw [List.filter_cons_of_neg (by exact hf)]
      rw [e, ih]
      simp only [wt]
      by_cases h1 : x.1 = r.take n ∧ fitP on (r.take n) (r.drop n) = true
      · have h2 : y.1 ≠ r.drop n := fun h => hf (by rw [h1.1, h]; exact h1.2)
        rw [if_pos h1, if_pos h1, if_neg h2, Int.zero_add]
      · rw [if_neg h1, if_neg h1]
theorem wt_jn (on : List (Int × Int)) (b : List Ent) {n : Nat} (r : List Val) : ∀ {a : List Ent}, (∀ e ∈ a, e.1.length = n) → wt r (jnP on a b) = if fitP on (r.take n) (r.drop n) = true then wt (r.take n) a * wt (r.drop n) b else 0
  | [], _ => by simp [jnP, wt]
  | x :: a, h => by
    have ih := wt_jn on b r (a := a) (fun e he => h e (by simp [he]))
    rw [jnP_cons, wt_append, ih, wt_jr on x (h x (by simp)) r b]
    simp only [wt]
    by_cases hf : fitP on (r.take n) (r.drop n) = true
    · rw [if_pos hf, if_pos hf, Int.add_mul]
      by_cases h1 : x.1 = r.take n
      · rw [if_pos ⟨h1, hf⟩, if_pos h1]
      · rw [if_neg (fun h => h1 h.1), if_neg h1, Int.zero_mul]
    · rw [if_neg hf, if_neg hf, if_neg (fun h => hf h.2)]; rfl
theorem mul_in {u v : Int} {B C : Nat} (hu : -(B : Int) ≤ u ∧ u ≤ B) (hv : -(C : Int) ≤ v ∧ v ≤ C) : -((B * C : Nat) : Int) ≤ u * v ∧ u * v ≤ ((B * C : Nat) : Int) := by
  have h1 : u.natAbs ≤ B := by omega
  have h2 : v.natAbs ≤ C := by omega
  have h3 := Nat.mul_le_mul h1 h2
  rw [← Int.natAbs_mul] at h3
  omega
/-- Small z-sets joined. -/
theorem S3.jn {B C m k n p : Nat} {a b : List Ent} (ha : S3 B m n a) (hb : S3 C k p b) (on : List (Int × Int)) (hB : B * C ≤ 1000000) :
    okZ (jnP on a b) = true ∧ S3 (B * C) (m * k) (n + p) (mkZ (jnP on a b)) ∧ ∀ r, wt r (mkZ (jnP on a b)) = wt r (jnP on a b) := by
  have hbd : ∀ r, -((B * C : Nat) : Int) ≤ wt r (jnP on a b) ∧ wt r (jnP on a b) ≤ ((B * C : Nat) : Int) := fun r => by
    rw [wt_jn on b r ha.2.2.2]
    split
    · exact mul_in (ha.2.1 _) (hb.2.1 _)
    · omega
  have ok : okZ (jnP on a b) = true := (okZ_iff _).2 (fun r => by have := hbd r; exact inI_small (by omega))
  have hw : ∀ r, wt r (mkZ (jnP on a b)) = wt r (jnP on a b) := fun r => wt_mkZ ok r
  refine ⟨ok, ⟨mkZ_isZ _, fun r => by rw [hw]; exact hbd r, ?_, fun e he => ?_⟩, hw⟩
  · exact Nat.le_trans (mkZ_len _) (Nat.le_trans (jnP_len on b a) (Nat.mul_le_mul ha.2.2.1 hb.2.2.1))
  · obtain ⟨e', he', h1⟩ := mkZ_rows _ e he
    obtain ⟨x, hx, y, hy, _, rfl⟩ := jnP_mem he'
    rw [← h1, List.length_append, ha.2.2.2 x hx, hb.2.2.2 y hy]
/-- Rows that are all unlike: as many as there are. -/
theorem ins_perm {r : List Val} {k : Int} : ∀ {z : List Ent}, (∀ f ∈ z, f.1 ≠ r) → (ins r k z).Perm ((r, k) :: z)
  | [], _ => by simp [ins]
  | e :: z, h => by
    have hne := h e (by simp)
    unfold ins
    split
    · exact ((ins_perm (fun f hf => h f (by simp [hf]))).cons e).trans (List.Perm.swap _ _ _)
    · rw [if_neg (fun h0 => hne ((cR_zero _ _).1 h0))]
theorem fold_perm : ∀ (l z : List Ent), (∀ e ∈ l, ∀ f ∈ z, f.1 ≠ e.1) → l.Pairwise (fun x y => x.1 ≠ y.1) → (l.foldl (fun z e => ins e.1 e.2 z) z).Perm (z ++ l)
  | [], z, _, _ => by simp
  | e :: l, z, h, hp => by
    obtain ⟨h1, h2⟩ := List.pairwise_cons.1 hp
    rw [List.foldl_cons]
    have hi := ins_perm (k := e.2) (h e (by simp))
    refine (fold_perm l _ (fun x hx f hf => ?_) h2).trans ?_
    · rcases List.mem_cons.1 (hi.mem_iff.1 hf) with rfl | hf
      · exact h1 x hx
      · exact h x (by simp [hx]) f hf
    · refine (hi.append_right l).trans ?_
      rw [List.cons_append]
      exact List.perm_middle.symm
theorem mkZ_all {l : List Ent} (hp : l.Pairwise (fun x y => x.1 ≠ y.1)) (hz : ∀ e ∈ l, e.2 ≠ 0) (hok : okZ l = true) : (mkZ l).Perm l := by
  have h1 : (gat l).Perm l := by have := fold_perm l [] (fun _ _ f hf => by cases hf) hp; simpa [gat] using this
  unfold mkZ
  rw [if_pos hok]
  have : nzZ (gat l) = gat l := by
    unfold nzZ
    rw [List.filter_eq_self]
    intro e he
    simpa using hz e (h1.mem_iff.1 he)
  rw [this]; exact h1
theorem sorted_ne {z : List Ent} (h : SortedZ z) : z.Pairwise (fun x y => x.1 ≠ y.1) := h.imp (fun {a b} hlt he => by rw [he, cR_self] at hlt; omega)
theorem jn_ne {on : List (Int × Int)} {a b : List Ent} {n : Nat} (ha : SortedZ a) (hb : SortedZ b) (hn : ∀ e ∈ a, e.1.length = n) : (jnP on a b).Pairwise (fun x y => x.1 ≠ y.1) := by
  unfold jnP
  rw [List.pairwise_flatMap]
  refine ⟨fun x hx => ?_, ?_⟩
  · unfold jnR
    rw [List.pairwise_map]
    refine (List.Pairwise.sublist List.filter_sublist (sorted_ne hb)).imp (fun {y z} h e => h ?_)
    exact List.append_cancel_left e
  · refine (sorted_ne ha).imp_of_mem (fun {x y} hx hy h e he f hf hef => h ?_)
    obtain ⟨u, _, rfl⟩ := List.mem_map.1 he
    obtain ⟨v, _, rfl⟩ := List.mem_map.1 hf
    exact (List.append_inj hef (by rw [hn x hx, hn y hy])).1
theorem jn_nz {on : List (Int × Int)} {a b : List Ent} (ha : ∀ e ∈ a, e.2 ≠ 0) (hb : ∀ e ∈ b, e.2 ≠ 0) : ∀ e ∈ jnP on a b, e.2 ≠ 0 := by
  intro e he
  obtain ⟨x, hx, y, hy, _, rfl⟩ := jnP_mem he
  exact Int.mul_ne_zero (ha x hx) (hb y hy)
theorem S3.jn_len {B C m k n p : Nat} {a b : List Ent} (ha : S3 B m n a) (hb : S3 C k p b) (on : List (Int × Int)) (hB : B * C ≤ 1000000) : (mkZ (jnP on a b)).length = (jnP on a b).length :=
  (mkZ_all (jn_ne ha.1.1 hb.1.1 ha.2.2.2) (jn_nz ha.1.2 hb.1.2) (ha.jn hb on hB).1).length_eq
/-- Without pairs each with each. -/
theorem jn_all (b : List Ent) : ∀ a : List Ent, (jnP [] a b).length = a.length * b.length
  | [] => by simp [jnP]
  | x :: a => by
    have e : jnR [] x b = b.map fun y => (x.1 ++ y.1, x.2 * y.2) := by unfold jnR; rw [show (b.filter fun y => fitP [] x.1 y.1) = b from List.filter_eq_self.2 (fun _ _ => rfl)]
    rw [jnP_cons, List.length_append, jn_all b a, e, List.length_map, List.length_cons, Nat.succ_mul]; omega
theorem wt_filter (g : List Val → Bool) (r : List Val) : ∀ z : List Ent, wt r (z.filter fun e => g e.1) = if g r = true then wt r z else 0
  | [] => by simp [wt]
  | e :: z => by
    have ih := wt_filter g r z
    rw [List.filter_cons]
    by_cases he : g e.1 = true
    · rw [if_pos he]
      simp only [wt]
      rw [ih]
      by_cases hr : e.1 = r
      · subst hr; rw [if_pos he, if_pos he]
      · rw [if_neg hr]; split <;> omega
    · rw [if_neg he, ih]
      simp only [wt]
      by_cases hr : e.1 = r
      · subst hr; rw [if_neg he, if_neg he]
      · rw [if_neg hr]; split <;> omega
theorem fit_app (on om : List (Int × Int)) (a b : List Val) : fitP (on ++ om) a b = (fitP on a b && fitP om a b) := by unfold fitP; rw [List.all_append]
/-- By more pairs: those of the join by fewer of which the others fit, too. -/
theorem jn_more {B C m k n p : Nat} {a b : List Ent} (ha : S3 B m n a) (hb : S3 C k p b) (on om : List (Int × Int)) (hB : B * C ≤ 1000000) :
    mkZ (jnP (on ++ om) a b) = (mkZ (jnP on a b)).filter fun e => fitP om (e.1.take n) (e.1.drop n) := by
  have h1 := ha.jn hb (on ++ om) hB
  have h2 := ha.jn hb on hB
  refine z_uniq (mkZ_isZ _).1 (List.Pairwise.sublist List.filter_sublist (mkZ_isZ _).1) (mkZ_isZ _).2 (fun e he => (mkZ_isZ _).2 e (List.mem_filter.1 he).1) (fun r => ?_)
  rw [wt_filter (fun r => fitP om (r.take n) (r.drop n)), h1.2.2, h2.2.2, wt_jn _ b r ha.2.2.2, wt_jn _ b r ha.2.2.2, fit_app]
  cases fitP on (r.take n) (r.drop n) <;> cases fitP om (r.take n) (r.drop n) <;> simp
/-- Of two together with a third: both's, together. -/
theorem jn_left {B C D m k l n p : Nat} {a b c : List Ent} (ha : S3 B m n a) (hb : S3 C k n b) (hc : S3 D l p c) (on : List (Int × Int)) (h1 : B + C ≤ 1000000) (h2 : (B + C) * D ≤ 1000000) :
    mkZ (jnP on (mkZ (a ++ b)) c) = mkZ (mkZ (jnP on a c) ++ mkZ (jnP on b c)) := by
  have hs := ha.add hb h1
  have e : (B + C) * D = B * D + C * D := Nat.add_mul _ _ _
  have ja := ha.jn hc on (by omega)
  have jb := hb.jn hc on (by omega)
  have hj := hs.2.1.jn hc on h2
  have ht := ja.2.1.add jb.2.1 (by omega)
  refine z_uniq (mkZ_isZ _).1 (mkZ_isZ _).1 (mkZ_isZ _).2 (mkZ_isZ _).2 (fun r => ?_)
  rw [hj.2.2, ht.2.2, ja.2.2, jb.2.2, wt_jn on c r hs.2.1.2.2.2, wt_jn on c r ha.2.2.2, wt_jn on c r hb.2.2.2]
  split
  · rw [hs.2.2, Int.add_mul]
  · rfl
theorem jn_right {B C D m k l n p : Nat} {a b c : List Ent} (ha : S3 B m n a) (hb : S3 C k n b) (hc : S3 D l p c) (on : List (Int × Int)) (h1 : B + C ≤ 1000000) (h2 : D * (B + C) ≤ 1000000) :
    mkZ (jnP on c (mkZ (a ++ b))) = mkZ (mkZ (jnP on c a) ++ mkZ (jnP on c b)) := by
  have hs := ha.add hb h1
  have e : D * (B + C) = D * B + D * C := Nat.mul_add _ _ _
  have ja := hc.jn ha on (by omega)
  have jb := hc.jn hb on (by omega)
  have hj := hc.jn hs.2.1 on h2
  have ht := ja.2.1.add jb.2.1 (by omega)
  refine z_uniq (mkZ_isZ _).1 (mkZ_isZ _).1 (mkZ_isZ _).2 (mkZ_isZ _).2 (fun r => ?_)
  rw [hj.2.2, ht.2.2, ja.2.2, jb.2.2, wt_jn on _ r hc.2.2.2, wt_jn on a r hc.2.2.2, wt_jn on b r hc.2.2.2]
  split
  · rw [hs.2.2, Int.mul_add]
  · rfl
/-- From the other side: as many. -/
theorem jn_step (on : List (Int × Int)) (y : Ent) (b : List Ent) : ∀ a : List Ent, (jnP on a (y :: b)).length = (jnP on a b).length + (a.filter fun x => fitP on x.1 y.1).length
  | [] => by simp [jnP]
  | x :: a => by
    have ih := jn_step on y b a
    rw [jnP_cons, jnP_cons, List.length_append, List.length_append, ih, List.filter_cons]
    have e : (jnR on x (y :: b)).length = (jnR on x b).length + if fitP on x.1 y.1 = true then 1 else 0 := by
      unfold jnR
      rw [List.length_map, List.length_map, List.filter_cons]
      split <;> simp
    rw [e]
    split
    · simp; omega
    · simp; omega
theorem jn_swap {on om : List (Int × Int)} (h : ∀ s t, fitP on s t = fitP om t s) (a : List Ent) : ∀ b : List Ent, (jnP on a b).length = (jnP om b a).length
  | [] => by
    have : jnP on a [] = [] := by unfold jnP jnR; simp
    rw [this]; simp [jnP]
  | y :: b => by
    rw [jn_step, jn_swap h a b, jnP_cons, List.length_append]
    have e : (jnR om y a).length = (a.filter fun x => fitP on x.1 y.1).length := by
      unfold jnR
      rw [List.length_map]
      congr 1
      exact List.filter_congr (fun x _ => (h x.1 y.1).symm)
    rw [e, Nat.add_comm]
theorem fit_turn (i j : Int) (s t : List Val) : fitP [(i, j)] s t = fitP [(j, i)] t s := by
  unfold fitP
  simp only [List.all_cons, List.all_nil, Bool.and_true]
  by_cases h : colR s i = colR t j
  · rw [h]
  · have h' : colR t j ≠ colR s i := fun e => h e.symm
    simp [h, h']
end Go.Proofs.YtlafokjkpbhckaaGreatDoor
/- What join keeps, plainly: the pairs' columns as a key, those that fit a row, lines of what is to come. -/
namespace Go.Proofs.YtlafokjkpbhckaaGreatDoor
open Go.RowKit Go.Sort
set_option maxRecDepth 100000
set_option linter.unusedVariables false

/-- A pair's column of one side. -/
def sideC (s : Bool) (p : Int × Int) : Int := if s then p.2 else p.1
def keyJ (on : List (Int × Int)) (s : Bool) (r : List Val) : List Val := on.map fun p => colR r (sideC s p)
def hasK (on : List (Int × Int)) (s : Bool) (r : List Val) : Bool := on.all fun p => (colR r (sideC s p)).1 != 0
theorem keyJ_len (on : List (Int × Int)) (s : Bool) (r : List Val) : (keyJ on s r).length = on.length := by simp [keyJ]
theorem fit_key : ∀ (on : List (Int × Int)) (a b : List Val), fitP on a b = (hasK on false a && decide (keyJ on false a = keyJ on true b))
  | [], a, b => rfl
  | p :: on, a, b => by
    have ih := fit_key on a b
    unfold fitP at ih ⊢
    unfold hasK keyJ at ih ⊢
    rw [List.all_cons, ih, List.all_cons, List.map_cons, List.map_cons]
    have e1 : sideC false p = p.1 := rfl
    have e2 : sideC true p = p.2 := rfl
    rw [e1, e2]
    by_cases h1 : (colR a p.1).1 = 0
    · simp [h1]
    · by_cases h2 : colR a p.1 = colR b p.2
      · have e3 : ∀ (c : Val) (l m : List Val), decide (c :: l = c :: m) = decide (l = m) := fun c l m => decide_eq_decide.2 ⟨fun h => (List.cons.inj h).2, fun h => by rw [h]⟩
        rw [h2, e3]
        simp only [decide_true, Bool.and_true]
        rw [Bool.and_assoc]
      · simp [h2]
theorem fit_hasB {on : List (Int × Int)} {a b : List Val} (h : fitP on a b = true) : hasK on true b = true := by
  unfold fitP at h
  unfold hasK
  rw [List.all_eq_true] at h ⊢
  intro p hp
  have := h p hp
  simp only [Bool.and_eq_true, bne_iff_ne, ne_eq, decide_eq_true_eq] at this
  show ((colR b p.2).1 != 0) = true
  rw [← this.2]; simpa using this.1
theorem fit_of {on : List (Int × Int)} {a b : List Val} (h : hasK on false a = true) : fitP on a b = decide (keyJ on false a = keyJ on true b) := by rw [fit_key, h]; rfl
/-- Rows behind rows of one length. -/
theorem cR_app : ∀ (a b c d : List Val), a.length = b.length → cR (a ++ c) (b ++ d) = if cR a b = 0 then cR c d else cR a b
  | [], [], c, d, _ => by simp [cR]
  | [], _ :: _, c, d, h => by simp at h
  | _ :: _, [], c, d, h => by simp at h
  | x :: a, y :: b, c, d, h => by
    have ih := cR_app a b c d (by simpa using h)
    have k1 : cR (x :: a ++ c) (y :: b ++ d) = if cVal x y = 0 then cR (a ++ c) (b ++ d) else cVal x y := rfl
    have k2 : cR (x :: a) (y :: b) = if cVal x y = 0 then cR a b else cVal x y := rfl
    by_cases e : cVal x y = 0
    · rw [if_pos e] at k1 k2
      rw [k1, ih]; simp only [k2]
    · rw [if_neg e] at k1 k2
      have k3 : ¬ cR (x :: a) (y :: b) = 0 := by rw [k2]; exact e
      rw [k1, if_neg k3, k2]
theorem cR_same (a c d : List Val) : cR (a ++ c) (a ++ d) = cR c d := by rw [cR_app a a c d rfl, if_pos (cR_self a)]
theorem cR_flip {a b : List Val} : cR a b = 0 ↔ cR b a = 0 := by have := cR_anti a b; omega
/-- A row by its key first. -/
def keyed (on : List (Int × Int)) (r : List Val) : List Val := keyJ on true r ++ r
theorem keyed_c (on : List (Int × Int)) (x y : List Val) : cR (keyed on x) (keyed on y) = if cR (keyJ on true x) (keyJ on true y) = 0 then cR x y else cR (keyJ on true x) (keyJ on true y) :=
  cR_app _ _ _ _ (by rw [keyJ_len, keyJ_len])
/-- Three parts of a list. -/
theorem mid_filter {l : List Ent} {P : Ent → Bool} {i j : Nat} (hij : i ≤ j) (hj : j ≤ l.length) (h1 : ∀ t (h : t < l.length), t < i → P l[t] = false) (h2 : ∀ t (h : t < l.length), i ≤ t → t < j → P l[t] = true) (h3 : ∀ t (h : t < l.length), j ≤ t → P l[t] = false) :
    l.filter P = (l.drop i).take (j - i) := by
  have e : l = l.take i ++ ((l.drop i).take (j - i) ++ l.drop j) := by
    have : l.drop j = (l.drop i).drop (j - i) := by rw [List.drop_drop]; congr 1; omega
    rw [this, List.take_append_drop, List.take_append_drop]
  have a1 : (l.take i).filter P = [] := List.filter_eq_nil_iff.2 (fun x hx => by
    obtain ⟨t, ht, rfl⟩ := List.getElem_of_mem hx
    rw [List.length_take] at ht
    rw [List.getElem_take, h1 t (by omega) (by omega)]; decide)
  have a2 : ((l.drop i).take (j - i)).filter P = (l.drop i).take (j - i) := List.filter_eq_self.2 (fun x hx => by
    obtain ⟨t, ht, rfl⟩ := List.getElem_of_mem hx
    rw [List.length_take, List.length_drop] at ht
    rw [List.getElem_take, List.getElem_drop]; exact h2 _ (by omega) (by omega) (by omega))
  have a3 : (l.drop j).filter P = [] := List.filter_eq_nil_iff.2 (fun x hx => by
    obtain ⟨t, ht, rfl⟩ := List.getElem_of_mem hx
    rw [List.length_drop] at ht
    rw [List.getElem_drop, h3 _ (by omega) (by omega)]; decide)
  conv => lhs; rw [e]
  rw [List.filter_append, List.filter_append, a1, a2, a3, List.append_nil, List.nil_append]
/-- Sorted by key, then by row. -/
def ByKey (on : List (Int × Int)) (b S : List Ent) : Prop := S.Perm (b.filter fun e => hasK on true e.1) ∧ S.Pairwise fun x y => cR (keyed on x.1) (keyed on y.1) ≤ 0
theorem key_le {on : List (Int × Int)} {x y : List Val} (h : cR (keyed on x) (keyed on y) ≤ 0) : cR (keyJ on true x) (keyJ on true y) ≤ 0 := by
  rw [keyed_c] at h; split at h <;> omega
theorem ByKey.key {on : List (Int × Int)} {b S : List Ent} (h : ByKey on b S) {i j : Nat} (hij : i ≤ j) (hj : j < S.length) : cR (keyJ on true (S[i]'(by omega)).1) (keyJ on true S[j].1) ≤ 0 := by
  rcases Nat.lt_or_eq_of_le hij with hlt | rfl
  · exact key_le (List.pairwise_iff_getElem.1 h.2 i j (by omega) hj hlt)
  · rw [cR_self]; omega
/-- Those of b that fit. -/
def Fitting (on : List (Int × Int)) (r : List Val) (b F : List Ent) : Prop := F.Perm (b.filter fun y => fitP on r y.1) ∧ SortedZ F
theorem ByKey.fit {on : List (Int × Int)} {b S : List Ent} {r : List Val} (h : ByKey on b S) (hb : SortedZ b) (hr : hasK on false r = true) {i j : Nat} (hij : i ≤ j) (hj : j ≤ S.length)
    (h1 : ∀ t (h : t < S.length), t < i → cR (keyJ on true S[t].1) (keyJ on false r) < 0) (h2 : ∀ t (h : t < S.length), i ≤ t → t < j → cR (keyJ on true S[t].1) (keyJ on false r) = 0) (h3 : ∀ t (h : t < S.length), j ≤ t → 0 < cR (keyJ on true S[t].1) (keyJ on false r)) :
    Fitting on r b ((S.drop i).take (j - i)) := by
  have e : S.filter (fun y => fitP on r y.1) = (S.drop i).take (j - i) := by
    refine mid_filter hij hj (fun t h ht => ?_) (fun t h ht ht' => ?_) (fun t h ht => ?_)
    · rw [fit_of hr, decide_eq_false_iff_not]
      intro e; have := h1 t h ht; rw [← e, cR_self] at this; omega
    · rw [fit_of hr, decide_eq_true_iff]
      exact ((cR_zero _ _).1 (h2 t h ht ht')).symm
    · rw [fit_of hr, decide_eq_false_iff_not]
      intro e; have := h3 t h ht; rw [← e, cR_self] at this; omega
  have hp : ((S.drop i).take (j - i)).Perm (b.filter fun y => fitP on r y.1) := by
    rw [← e]
    refine (h.1.filter _).trans ?_
    rw [List.filter_filter]
    rw [List.filter_congr (q := fun y => fitP on r y.1) (fun x _ => ?_)]
    cases hx : fitP on r x.1 with
    | false => rfl
    | true => rw [fit_hasB hx]; rfl
  refine ⟨hp, ?_⟩
  have hn : ((S.drop i).take (j - i)).Pairwise (fun x y => x.1 ≠ y.1) := hp.symm.pairwise (List.Pairwise.sublist List.filter_sublist (sorted_ne hb)) (fun {x y} h e => h e.symm)
  have hk : ((S.drop i).take (j - i)).Pairwise (fun x y => cR (keyed on x.1) (keyed on y.1) ≤ 0) := h.2.sublist ((List.take_sublist _ _).trans (List.drop_sublist _ _))
  refine (hn.and hk).imp_of_mem (fun {x y} hx hy ⟨h1, h2⟩ => ?_)
  rw [← e] at hx hy
  have f1 := (List.mem_filter.1 hx).2
  have f2 := (List.mem_filter.1 hy).2
  rw [fit_of hr, decide_eq_true_iff] at f1 f2
  rw [keyed_c, ← f1, ← f2, if_pos (cR_self _)] at h2
  rcases Int.lt_or_eq_of_le h2 with h3 | h3
  · exact h3
  · exact absurd ((cR_zero _ _).1 h3) h1
/-- A line: an entry of a with those that fit it. -/
def lnL (x : Ent) (F : List Ent) : List Ent := F.map fun y => (x.1 ++ y.1, x.2 * y.2)
theorem lnL_sorted (x : Ent) {F : List Ent} (h : SortedZ F) : SortedZ (lnL x F) := by
  unfold lnL SortedZ
  rw [List.pairwise_map]
  exact h.imp (fun {y z} h => by show cR (x.1 ++ y.1) (x.1 ++ z.1) < 0; rw [cR_same]; exact h)
theorem lnL_perm {on : List (Int × Int)} {x : Ent} {b F : List Ent} (h : Fitting on x.1 b F) : (lnL x F).Perm (jnR on x b) := h.1.map _
theorem wt_perm {r : List Val} {l m : List Ent} (h : l.Perm m) : wt r l = wt r m := by
  induction h with
  | nil => rfl
  | cons x _ ih => simp only [wt]; rw [ih]
  | swap x y l => simp only [wt]; omega
  | trans _ _ ih1 ih2 => rw [ih1, ih2]
/-- What is left behind a row's entries. -/
theorem wt_gone {r : List Val} {l : List Ent} (h : ∀ e ∈ l, e.1 ≠ r) : wt r l = 0 := by
  induction l with
  | nil => rfl
  | cons e l ih =>
    simp only [wt]
    rw [if_neg (h e (by simp)), ih (fun f hf => h f (by simp [hf]))]; rfl
theorem lnL_cons (x y : Ent) (F : List Ent) : lnL x (y :: F) = (x.1 ++ y.1, x.2 * y.2) :: lnL x F := rfl
theorem head_leE {l : List Ent} (hs : SortedZ l) {e : Ent} (he : e ∈ l) : cR (hdE l) e.1 ≤ 0 := by
  cases l with
  | nil => cases he
  | cons x l =>
    rcases List.mem_cons.1 he with rfl | he
    · show cR e.1 e.1 ≤ 0; rw [cR_self]; omega
    · exact Int.le_of_lt ((List.pairwise_cons.1 hs).1 e he)
/-- The first of all is the least of all. -/
theorem root_le {X : List QEnt} (hu : Heap (kf X) X.length) (hs : ∀ x ∈ X, SortedZ x.2) {e : Ent} (he : e ∈ flat X) : cR (kf X 0) e.1 ≤ 0 := by
  obtain ⟨x, hx, he⟩ := mem_flat.1 he
  obtain ⟨i, hi, rfl⟩ := List.getElem_of_mem hx
  have h1 := heap_root hu i hi
  have e1 : kf X i = hdE X[i].2 := by unfold kf; rw [List.getD_eq_getElem?_getD, List.getElem?_eq_getElem hi]; rfl
  rw [e1] at h1
  exact cR_trans _ _ _ h1 (head_leE (hs _ hx) he)
/-- A heap from a place on. -/
def HeapK (f : Nat → List Val) (n k : Nat) : Prop := ∀ i, 0 < i → i < n → k ≤ par i → cR (f (par i)) (f i) ≤ 0
/-- All but one against those below it, from a place on. -/
def HeapDownK (f : Nat → List Val) (n k j : Nat) : Prop := k ≤ j ∧ (∀ i, 0 < i → i < n → k ≤ par i → par i ≠ j → cR (f (par i)) (f i) ≤ 0) ∧ (0 < j → k ≤ par j → ∀ i, 0 < i → i < n → par i = j → cR (f (par j)) (f i) ≤ 0)
theorem heapK_zero {f : Nat → List Val} {n : Nat} : HeapK f n 0 ↔ Heap f n := ⟨fun h i h1 h2 => h i h1 h2 (Nat.zero_le _), fun h i h1 h2 _ => h i h1 h2⟩
theorem heapK_half (f : Nat → List Val) (n : Nat) : HeapK f n (n / 2) := fun i h1 h2 h3 => by unfold par at h3; omega
theorem heapK_next {f : Nat → List Val} {n k : Nat} (h : HeapK f n (k + 1)) : HeapDownK f n k k :=
  ⟨Nat.le_refl _, fun i h1 h2 h3 h4 => h i h1 h2 (by omega), fun h0 h1 => by have := par_lt h0; omega⟩
theorem heapDK_zero {f : Nat → List Val} {n j : Nat} (h : HeapDown f n j) : HeapDownK f n 0 j := ⟨Nat.zero_le _, fun i h1 h2 _ h4 => h.1 i h1 h2 h4, fun h0 _ => h.2 h0⟩
theorem hdownK_end {f : Nat → List Val} {n k j : Nat} (h : HeapDownK f n k j) (hj : ∀ i, 0 < i → i < n → par i = j → cR (f j) (f i) ≤ 0) : HeapK f n k := by
  intro i h1 h2 h3
  by_cases e : par i = j
  · rw [e]; exact hj i h1 h2 e
  · exact h.2.1 i h1 h2 h3 e
theorem hdownK_step {f : Nat → List Val} {n k i j : Nat} (h : HeapDownK f n k i) (h0 : 0 < j) (hj : j < n) (hp : par j = i) (hm : ∀ m, 0 < m → m < n → par m = i → cR (f j) (f m) ≤ 0) (hl : cR (f j) (f i) < 0) : HeapDownK (swF f i j) n k j := by
  have hp' := par_lt h0
  refine ⟨by have := h.1; omega, fun m h1 h2 h3 h4 => ?_, fun g0 g1 m h1 h2 h3 => ?_⟩
  · have hk := par_lt h1
    by_cases e : m = j
    · subst e; rw [hp, swF_l, swF_r]; omega
    · by_cases e1 : par m = i
      · rw [e1, swF_l, swF_o f (by omega) e]; exact hm m h1 h2 e1
      · rw [swF_o f e1 h4]
        by_cases e2 : m = i
        · subst e2; rw [swF_l]; exact h.2.2 h1 h3 j h0 hj hp
        · rw [swF_o f e2 e]; exact h.2.1 m h1 h2 h3 e1
  · have hk := par_lt h1
    rw [hp, swF_l, swF_o f (by omega) (by omega)]
    have := h.2.1 m h1 h2 (by rw [h3]; have := h.1; omega) (by omega)
    rw [h3] at this; exact this
end Go.Proofs.YtlafokjkpbhckaaGreatDoor
