/- Entries and z-sets, plainly: rows in order, each once, with the sum of its weights. -/
import Derived.Test.YtmpochhcokmaiaaRowPlain
namespace Go.Proofs.Ytmpochhcokmaiaa
set_option maxRecDepth 100000

abbrev Ent := List Val × Int
/-- A row's weights together. -/
def wt (r : List Val) : List Ent → Int
  | [] => 0
  | e :: l => (if e.1 = r then e.2 else 0) + wt r l
/-- One more entry into a list in order. -/
def ins (r : List Val) (k : Int) : List Ent → List Ent
  | [] => [(r, k)]
  | e :: z => if cR e.1 r < 0 then e :: ins r k z else if cR e.1 r = 0 then (e.1, e.2 + k) :: z else (r, k) :: e :: z
def gat (l : List Ent) : List Ent := l.foldl (fun z e => ins e.1 e.2 z) []
def SortedZ (z : List Ent) : Prop := z.Pairwise fun a b => cR a.1 b.1 < 0
theorem cR_lt_trans {a b c : List Val} (h : cR a b < 0) (g : cR b c < 0) : cR a c < 0 := by
  have h1 := cR_trans a b c (by omega) (by omega)
  rcases Int.lt_or_eq_of_le h1 with h2 | h2
  · exact h2
  · have e := (cR_zero a c).1 h2
    subst e
    have := cR_anti a b
    omega
theorem cR_pos {a b : List Val} : 0 < cR a b ↔ cR b a < 0 := by have := cR_anti a b; omega
theorem mem_ins {r : List Val} {k : Int} {e : Ent} : ∀ {z : List Ent}, e ∈ ins r k z → e.1 = r ∨ ∃ e' ∈ z, e'.1 = e.1
  | [], h => by simp [ins] at h; exact .inl (by rw [h])
  | x :: z, h => by
    unfold ins at h
    split at h
    · rcases List.mem_cons.1 h with rfl | h
      · exact .inr ⟨e, by simp, rfl⟩
      · rcases mem_ins h with h | ⟨e', h1, h2⟩
        · exact .inl h
        · exact .inr ⟨e', by simp [h1], h2⟩
    · split at h
      · rcases List.mem_cons.1 h with rfl | h
        · exact .inr ⟨x, by simp, rfl⟩
        · exact .inr ⟨e, by simp [h], rfl⟩
      · rcases List.mem_cons.1 h with rfl | h
        · exact .inl rfl
        · exact .inr ⟨e, h, rfl⟩
theorem ins_sorted {r : List Val} {k : Int} : ∀ {z : List Ent}, SortedZ z → SortedZ (ins r k z)
  | [], _ => by simp [ins, SortedZ]
  | x :: z, h => by
    obtain ⟨h1, h2⟩ := List.pairwise_cons.1 h
    unfold ins
    split
    · rename_i hlt
      refine List.pairwise_cons.2 ⟨fun e he => ?_, ins_sorted h2⟩
      rcases mem_ins he with h' | ⟨e', g1, g2⟩
      · rw [h']; exact hlt
      · rw [← g2]; exact h1 e' g1
    · split
      · exact List.pairwise_cons.2 ⟨h1, h2⟩
      · rename_i n1 n2
        have hlt : cR r x.1 < 0 := by have := cR_anti x.1 r; omega
        refine List.pairwise_cons.2 ⟨fun e he => ?_, h⟩
        rcases List.mem_cons.1 he with rfl | he
        · exact hlt
        · exact cR_lt_trans hlt (h1 e he)
theorem wt_ins {r : List Val} {k : Int} (s : List Val) : ∀ z : List Ent, wt s (ins r k z) = wt s z + (if r = s then k else 0)
  | [] => by simp [ins, wt]
  | x :: z => by
    unfold ins
    split
    · simp only [wt]; rw [wt_ins s z]; omega
    · split
      · rename_i h0
        have e := (cR_zero x.1 r).1 h0
        simp only [wt]
        by_cases h : x.1 = s
        · rw [if_pos h, if_pos h, if_pos (e ▸ h)]; omega
        · rw [if_neg h, if_neg h, if_neg (e ▸ h)]; omega
      · simp only [wt]; omega
theorem foldl_ins (s : List Val) : ∀ (l z : List Ent), SortedZ z → SortedZ (l.foldl (fun z e => ins e.1 e.2 z) z) ∧ wt s (l.foldl (fun z e => ins e.1 e.2 z) z) = wt s z + wt s l
  | [], z, h => ⟨h, by simp [wt]⟩
  | e :: l, z, h => by
    have := foldl_ins s l (ins e.1 e.2 z) (ins_sorted h)
    refine ⟨this.1, ?_⟩
    rw [List.foldl_cons, this.2, wt_ins]; simp only [wt]; omega
theorem gat_sorted (l : List Ent) : SortedZ (gat l) := (foldl_ins [] l [] List.Pairwise.nil).1
theorem wt_gat (s : List Val) (l : List Ent) : wt s (gat l) = wt s l := by
  have := (foldl_ins s l [] List.Pairwise.nil).2
  unfold gat; rw [this]; simp [wt]
theorem gat_snoc (l : List Ent) (e : Ent) : gat (l ++ [e]) = ins e.1 e.2 (gat l) := by unfold gat; rw [List.foldl_append]; rfl
/-- In order: a row that is less than the first is none. -/
theorem wt_less {r : List Val} : ∀ {z : List Ent}, (∀ e ∈ z, cR r e.1 < 0) → wt r z = 0
  | [], _ => rfl
  | e :: z, h => by
    have h0 := h e (by simp)
    have hne : e.1 ≠ r := fun h' => by rw [h', cR_self] at h0; omega
    simp only [wt]; rw [if_neg hne, wt_less (fun x hx => h x (by simp [hx]))]; rfl
theorem wt_head {e : Ent} {z : List Ent} (h : SortedZ (e :: z)) : wt e.1 (e :: z) = e.2 := by
  simp only [wt, if_true]; rw [wt_less (List.pairwise_cons.1 h).1]; omega
/-- A z-set is what its rows' weights say. -/
theorem z_uniq : ∀ {y z : List Ent}, SortedZ y → SortedZ z → (∀ e ∈ y, e.2 ≠ 0) → (∀ e ∈ z, e.2 ≠ 0) → (∀ r, wt r y = wt r z) → y = z
  | [], [], _, _, _, _, _ => rfl
  | [], e :: z, _, hz, _, nz, h => by
    have := h e.1
    rw [wt_head hz] at this
    exact absurd this.symm (nz e (by simp))
  | e :: y, [], hy, _, ny, _, h => by
    have := h e.1
    rw [wt_head hy] at this
    exact absurd this (ny e (by simp))
  | e :: y, f :: z, hy, hz, ny, nz, h => by
    obtain ⟨y1, y2⟩ := List.pairwise_cons.1 hy
    obtain ⟨z1, z2⟩ := List.pairwise_cons.1 hz
    have hef : e.1 = f.1 := by
      have sq := cR_sq e.1 f.1
      rcases Int.lt_trichotomy (cR e.1 f.1) 0 with hlt | h0 | hgt
      · have := h e.1
        rw [wt_head hy, wt_less (r := e.1) (z := f :: z) (fun x hx => by
          rcases List.mem_cons.1 hx with rfl | hx
          · exact hlt
          · exact cR_lt_trans hlt (z1 x hx))] at this
        exact absurd this (ny e (by simp))
      · exact (cR_zero _ _).1 h0
      · have hlt := cR_pos.1 hgt
        have := h f.1
        rw [wt_head hz, wt_less (r := f.1) (z := e :: y) (fun x hx => by
          rcases List.mem_cons.1 hx with rfl | hx
          · exact hlt
          · exact cR_lt_trans hlt (y1 x hx))] at this
        exact absurd this.symm (nz f (by simp))
    have h2 : e.2 = f.2 := by
      have := h e.1
      rw [wt_head hy, hef, wt_head hz] at this
      exact this
    have ee : e = f := Prod.ext hef h2
    subst ee
    rw [z_uniq y2 z2 (fun x hx => ny x (by simp [hx])) (fun x hx => nz x (by simp [hx])) (fun r => by
      have := h r
      simp only [wt] at this
      omega)]
/-- A number is an int64's; all are; those that are not 0. -/
def inI (n : Int) : Bool := decide (-9223372036854775808 ≤ n) && decide (n ≤ 9223372036854775807)
theorem inI_iff {k : Int} : inI k = true ↔ -9223372036854775808 ≤ k ∧ k ≤ 9223372036854775807 := by unfold inI; simp
def fitsZ (z : List Ent) : Bool := z.all fun e => inI e.2
def nzZ (z : List Ent) : List Ent := z.filter fun e => e.2 != 0
/-- Entries as a z-set; may it be? -/
def okZ (l : List Ent) : Bool := fitsZ (gat l)
def mkZ (l : List Ent) : List Ent := if okZ l then nzZ (gat l) else []
theorem nzZ_sorted {z : List Ent} (h : SortedZ z) : SortedZ (nzZ z) := List.Pairwise.sublist List.filter_sublist h
theorem nzZ_nz {z : List Ent} : ∀ e ∈ nzZ z, e.2 ≠ 0 := fun e he => by simpa using (List.mem_filter.1 he).2
theorem wt_nzZ (r : List Val) : ∀ z : List Ent, wt r (nzZ z) = wt r z
  | [] => rfl
  | e :: z => by
    have ih := wt_nzZ r z
    unfold nzZ at ih ⊢
    by_cases h : e.2 = 0
    · rw [List.filter_cons_of_neg (by simp [h])]; simp only [wt]; rw [ih, h]; split <;> omega
    · rw [List.filter_cons_of_pos (by simp [h])]; simp only [wt]; rw [ih]
/-- A z-set: in order, no weight 0. -/
def IsZ (z : List Ent) : Prop := SortedZ z ∧ ∀ e ∈ z, e.2 ≠ 0
theorem mkZ_isZ (l : List Ent) : IsZ (mkZ l) := by
  unfold mkZ
  split
  · exact ⟨nzZ_sorted (gat_sorted l), nzZ_nz⟩
  · exact ⟨List.Pairwise.nil, fun e h => by cases h⟩
theorem wt_mkZ {l : List Ent} (h : okZ l = true) (r : List Val) : wt r (mkZ l) = wt r l := by
  unfold mkZ; rw [if_pos h, wt_nzZ, wt_gat]
theorem mkZ_of {l z : List Ent} (h : okZ l = true) (hz : IsZ z) (hw : ∀ r, wt r z = wt r l) : mkZ l = z :=
  z_uniq (mkZ_isZ l).1 hz.1 (mkZ_isZ l).2 hz.2 (fun r => by rw [wt_mkZ h, hw])
theorem wt_mem {z : List Ent} (h : SortedZ z) : ∀ {e : Ent}, e ∈ z → wt e.1 z = e.2 := by
  induction z with
  | nil => intro e he; cases he
  | cons x z ih =>
    intro e he
    obtain ⟨h1, h2⟩ := List.pairwise_cons.1 h
    rcases List.mem_cons.1 he with rfl | he
    · exact wt_head h
    · have hne : x.1 ≠ e.1 := fun h' => by have := h1 e he; rw [h', cR_self] at this; omega
      simp only [wt]; rw [if_neg hne, ih h2 he]; omega
/-- May it be: each row's sum is an int64's. -/
theorem mem_of_wt {r : List Val} : ∀ {z : List Ent}, wt r z ≠ 0 → ∃ e ∈ z, e.1 = r
  | [], h => absurd rfl h
  | e :: z, h => by
    by_cases hr : e.1 = r
    · exact ⟨e, by simp, hr⟩
    · simp only [wt] at h; rw [if_neg hr, Int.zero_add] at h
      obtain ⟨x, hx, hx'⟩ := mem_of_wt h
      exact ⟨x, by simp [hx], hx'⟩
theorem okZ_iff (l : List Ent) : okZ l = true ↔ ∀ r, inI (wt r l) = true := by
  unfold okZ fitsZ
  rw [List.all_eq_true]
  constructor
  · intro h r
    by_cases h0 : wt r l = 0
    · rw [h0]; rfl
    · rw [← wt_gat] at h0 ⊢
      obtain ⟨e, he, rfl⟩ := mem_of_wt h0
      rw [wt_mem (gat_sorted l) he]; exact h e he
  · intro h e he
    have := h e.1
    rw [← wt_gat, wt_mem (gat_sorted l) he] at this
    exact this
theorem wt_append (r : List Val) : ∀ (l m : List Ent), wt r (l ++ m) = wt r l + wt r m
  | [], m => by simp [wt]
  | e :: l, m => by simp only [List.cons_append, wt]; rw [wt_append r l m]; omega
end Go.Proofs.Ytmpochhcokmaiaa
