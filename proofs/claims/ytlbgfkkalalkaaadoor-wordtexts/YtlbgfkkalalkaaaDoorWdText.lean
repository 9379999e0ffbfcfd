/- Plainly: values as they are written are words, and with blanks between them many are read as they were. -/
import Derived.Test.YtlbgfkkalalkaaaDoorInj
import Derived.Test.YtlbgfkkalalkaaaDoorWdStr
import Derived.Lib.ParseIntBCases
namespace Go.Proofs.YtlbgfkkalalkaaaDoor
open Go.Lib

/-- Digits alone. -/
theorem dec_all (u : Nat) : ∀ c ∈ decDigits u, 48 ≤ c.toNat ∧ c.toNat ≤ 57 := by
  induction u using Nat.strongRecOn with
  | _ u ih =>
    rw [decDigits]
    split
    · rename_i h
      intro c hc
      rw [List.mem_singleton] at hc
      rw [hc, of_small u h]; omega
    · rename_i h
      intro c hc
      rcases List.mem_append.1 hc with h1 | h1
      · exact ih (u / 10) (by omega) c h1
      · rw [List.mem_singleton] at h1
        rw [h1, of_small _ (by omega)]; omega
theorem wDig_iff (c : UInt8) : wDig c = true ↔ 48 ≤ c.toNat ∧ c.toNat ≤ 57 := by simp [wDig]
/-- What digits come to, from a number on. -/
def dfold (acc : Nat) (l : List UInt8) : Nat := l.foldl (fun a c => a * 10 + (c.toNat - 48)) acc
theorem dfold_ge : ∀ (l : List UInt8) (acc : Nat), acc ≤ dfold acc l
  | [], acc => Nat.le_refl _
  | c :: l, acc => by
    have := dfold_ge l (acc * 10 + (c.toNat - 48))
    show acc ≤ dfold (acc * 10 + (c.toNat - 48)) l
    omega
theorem parseM_ok : ∀ (l : List UInt8) (acc : Nat), (∀ c ∈ l, 48 ≤ c.toNat ∧ c.toNat ≤ 57) → dfold acc l ≤ 18446744073709551615 → parseUintM 18446744073709551615 acc l = .ok (dfold acc l)
  | [], acc, _, _ => rfl
  | c :: l, acc, hd, hm => by
    have h1 := hd c (by simp)
    have h2 := dfold_ge l (acc * 10 + (c.toNat - 48))
    have h3 : dfold (acc * 10 + (c.toNat - 48)) l ≤ 18446744073709551615 := hm
    rw [parseUintM, if_pos h1, if_neg (by omega), if_neg (by omega), parseM_ok l _ (fun d h => hd d (by simp [h])) h3]
    rfl
theorem parse_dec (u : Nat) (h : u ≤ 18446744073709551615) : parseUintB 64 (decDigits u) = .ok u := by
  obtain ⟨c, l, e, _, _⟩ := dec_head u
  have hd : dfold 0 (decDigits u) = u := dval_dec u
  unfold parseUintB
  rw [if_neg (by rw [e]; simp)]
  have := parseM_ok (decDigits u) 0 (dec_all u) (by rw [hd]; exact h)
  rw [hd] at this; exact this
theorem parse_itoa (n : Int) (h0 : -9223372036854775808 ≤ n) (h1 : n ≤ 9223372036854775807) : parseIntB 64 (itoa n) = .ok n := by
  unfold itoa
  split
  · rename_i hn
    rw [parseIntB_minus, parse_dec n.natAbs (by omega)]
    show (if 2 ^ (64 - 1) < n.natAbs then (NumEnd.range : NumEnd Int) else .ok (-(n.natAbs : Int))) = _
    rw [if_neg (by omega)]
    congr 1; omega
  · rename_i hn
    obtain ⟨c, l, e, c0, c1⟩ := dec_head n.toNat
    have hp := parse_dec n.toNat (by omega)
    rw [e] at hp ⊢
    rw [parseIntB_plain _ _ _ (by omega) (by omega), hp]
    show (if 2 ^ (64 - 1) ≤ n.toNat then (NumEnd.range : NumEnd Int) else .ok (n.toNat : Int)) = _
    rw [if_neg (by omega)]
    congr 1; omega

theorem pre2 (c : UInt8) (hc : c ≠ 39) (l : List UInt8) : List.isPrefixOf [39, 39] (c :: l) = false := by
  simp [List.isPrefixOf]; exact fun e => absurd e.symm hc
theorem ix2_other (c : UInt8) (hc : c ≠ 39) (l : List UInt8) : index (c :: l) [39, 39] = if index l [39, 39] == -1 then -1 else index l [39, 39] + 1 := by rw [index, pre2 c hc l]; simp
theorem ix2_sign (l : List UInt8) : index (39 :: 39 :: l) [39, 39] = ((0 : Nat) : Int) := by rw [index]; simp [List.isPrefixOf]
theorem rk2_other (N : List UInt8) (c : UInt8) (hc : c ≠ 39) (k : Nat) (l : List UInt8) : replaceK [39, 39] N k (c :: l) = c :: replaceK [39, 39] N k l := by
  cases k with
  | zero => rfl
  | succ k =>
    have hix := ix2_other c hc l
    have hg := index_ge l [39, 39]
    by_cases hm : index l [39, 39] = -1
    · simp [replaceK, hix, hm]
    · obtain ⟨j, hj⟩ : ∃ j : Nat, index l [39, 39] = j := ⟨(index l [39, 39]).toNat, by omega⟩
      have hix' : index (c :: l) [39, 39] = ((j + 1 : Nat) : Int) := by rw [hix, if_neg (fun e => hm (beq_iff_eq.1 e)), hj]; omega
      rw [replaceK_hit _ _ _ _ (j + 1) hix', replaceK_hit _ _ _ _ j hj]
      simp
theorem rk2_sign (N : List UInt8) (k : Nat) (l : List UInt8) : replaceK [39, 39] N (k + 1) (39 :: 39 :: l) = N ++ replaceK [39, 39] N k l := by
  rw [replaceK_hit _ _ _ _ 0 (ix2_sign l)]; simp
theorem ct2_other (c : UInt8) (hc : c ≠ 39) (l : List UInt8) : count (c :: l) [39, 39] = count l [39, 39] := by
  have hix := ix2_other c hc l
  have hg := index_ge l [39, 39]
  by_cases hm : index l [39, 39] = -1
  · rw [count_miss hm, count_miss (by rw [hix, hm]; rfl)]
  · obtain ⟨j, hj⟩ : ∃ j : Nat, index l [39, 39] = j := ⟨(index l [39, 39]).toNat, by omega⟩
    have hix' : index (c :: l) [39, 39] = ((j + 1 : Nat) : Int) := by rw [hix, if_neg (fun e => hm (beq_iff_eq.1 e)), hj]; omega
    rw [count_hit (by simp) hix', count_hit (by simp) hj]
    congr 2
theorem ct2_sign (l : List UInt8) : count (39 :: 39 :: l) [39, 39] = 1 + count l [39, 39] := by
  rw [count_hit (by simp) (ix2_sign l)]; rfl
theorem rk2_dq : ∀ t : List UInt8, replaceK [39, 39] [39] (count (dq t) [39, 39]) (dq t) = t
  | [] => by rw [show dq [] = [] from rfl, count_miss (by simp [index])]; rfl
  | c :: t => by
    by_cases h : c = 39
    · subst h
      have e : dq (39 :: t) = 39 :: 39 :: dq t := by simp [dq]
      rw [e, ct2_sign, Nat.add_comm, rk2_sign, rk2_dq t]; rfl
    · have e : dq (c :: t) = c :: dq t := by simp [dq, h]
      rw [e, ct2_other c h, rk2_other _ c h, rk2_dq t]
theorem replaceAll_back (t : List UInt8) : replaceAll (dq t) [39, 39] [39] = t := by
  unfold replaceAll replace replaceNum
  rw [if_neg (by decide), if_pos (Or.inl (by decide)), rk2_dq]
theorem clN_dq (r : List UInt8) (hr : ∀ c, r.head? = some c → c ≠ 39) : ∀ t : List UInt8, clN (dq t ++ 39 :: r) = (dq t).length
  | [] => by
    show clN (39 :: r) = 0
    cases r with
    | nil => rfl
    | cons d r => exact clN_stop (hr d rfl) r
  | c :: t => by
    by_cases h : c = 39
    · subst h
      have e : dq (39 :: t) = 39 :: 39 :: dq t := by simp [dq]
      rw [e, List.cons_append, List.cons_append, clN_two, clN_dq r hr t, List.length_cons, List.length_cons]; omega
    · have e : dq (c :: t) = c :: dq t := by simp [dq, h]
      rw [e, List.cons_append, clN_other h, clN_dq r hr t, List.length_cons]; omega
/-- A text as it is written is a String. -/
theorem fst_text (t r : List UInt8) (ht : t.length ≤ 64) (hr : ∀ c, r.head? = some c → c ≠ 39) : fstW ((39 :: (dq t ++ [39])) ++ r) = some ⟨3, t, 0, (39 :: (dq t ++ [39])).length⟩ := by
  have e : (39 :: (dq t ++ [39])) ++ r = 39 :: (dq t ++ 39 :: r) := by simp
  rw [e]
  have h1 : fstW (39 :: (dq t ++ 39 :: r)) = fstStr (39 :: (dq t ++ 39 :: r)) := rfl
  rw [h1]
  unfold fstStr
  rw [show List.drop 1 (39 :: (dq t ++ 39 :: r)) = dq t ++ 39 :: r from rfl, clN_dq r hr t, if_neg (by simp), List.take_left, replaceAll_back, if_neg (by omega)]
  simp
/-- A number as it is written is a Number. -/
theorem fst_num (n : Int) (h0 : -9223372036854775808 ≤ n) (h1 : n ≤ 9223372036854775807) (r : List UInt8) (hr : ∀ c, r.head? = some c → wDig c = false) : fstW (itoa n ++ r) = some ⟨2, itoa n, n, (itoa n).length⟩ := by
  have hp := parse_itoa n h0 h1
  have key : ∀ c l, itoa n = c :: l → (∀ d ∈ l, 48 ≤ d.toNat ∧ d.toNat ≤ 57) → fstNum (itoa n ++ r) = some ⟨2, itoa n, n, (itoa n).length⟩ := by
    intro c l e hl
    have e2 : rn wDig ((itoa n ++ r).drop 1) = l.length := by
      rw [e]; exact rn_app wDig l r (fun d hd => (wDig_iff d).2 (hl d hd)) hr
    unfold fstNum
    rw [e2]
    have e3 : (itoa n ++ r).take (1 + l.length) = itoa n := by
      rw [show 1 + l.length = (itoa n).length by rw [e, List.length_cons]; omega, List.take_left]
    rw [e3, hp, e, List.length_cons, Nat.add_comm]
  by_cases hn : n < 0
  · have e : itoa n = 45 :: decDigits n.natAbs := by unfold itoa; rw [if_pos hn]
    have hk := key 45 _ e (dec_all _)
    obtain ⟨c, l, e4, c0, c1⟩ := dec_head n.natAbs
    rw [← hk]
    unfold fstW
    rw [e]
    have hpos : 0 < rn wDig (((45 : UInt8) :: decDigits n.natAbs ++ r).drop 1) := by
      show 0 < rn wDig (decDigits n.natAbs ++ r)
      rw [e4, List.cons_append, rn_cons, (wDig_iff c).2 ⟨c0, c1⟩]; simp
    rw [if_neg (by show ¬ wLow 45 = true; decide), if_pos (by rw [Bool.or_eq_true]; right; rw [Bool.and_eq_true]; exact ⟨rfl, decide_eq_true hpos⟩)]
  · have e : itoa n = decDigits n.toNat := by unfold itoa; rw [if_neg hn]
    obtain ⟨c, l, e4, c0, c1⟩ := dec_head n.toNat
    have hall := dec_all n.toNat
    rw [e4] at hall
    have hk := key c l (e.trans e4) (fun d hd => hall d (by simp [hd]))
    rw [← hk]
    unfold fstW
    rw [e, e4]
    have hlow : wLow c = false := by unfold wLow; rw [decide_eq_false (by omega)]; rfl
    rw [if_neg (by show ¬ wLow c = true; rw [hlow]; decide), if_pos (by show (wDig c || _) = true; rw [(wDig_iff c).2 ⟨c0, c1⟩]; rfl)]

/-- A value that is written: a number, or a text. -/
abbrev TV := Int × Int × ByteArray
def OkT (v : TV) : Prop := (v.1 = 1 ∧ -9223372036854775808 ≤ v.2.1 ∧ v.2.1 ≤ 9223372036854775807) ∨ (v.1 = 2 ∧ v.2.2.size ≤ 64)
def shT (v : TV) : List UInt8 := shV v.1 v.2.1 v.2.2
def wdT (v : TV) : Wd := if v.1 = 1 then ⟨2, Lib.itoa v.2.1, v.2.1, (shT v).length⟩ else ⟨3, v.2.2.data.toList, 0, (shT v).length⟩
/-- Values behind one another, blanks ahead of each. -/
def txt (g : List UInt8) (l : List TV) : List UInt8 := l.flatMap fun v => g ++ shT v
theorem txt_snoc (g : List UInt8) (l : List TV) (v : TV) : txt g (l ++ [v]) = txt g l ++ (g ++ shT v) := by simp [txt]
def BlankP (g : List UInt8) : Prop := g ≠ [] ∧ ∀ c ∈ g, wBlank c = true
theorem blank_vals {c : UInt8} (h : wBlank c = true) : c = 32 ∨ c = 9 ∨ c = 10 ∨ c = 13 := by
  simp [wBlank] at h
  rcases h with ((h | h) | h) | h <;> simp [h]
theorem txt_head (g : List UInt8) (hg : BlankP g) (l : List TV) : ∀ c, (txt g l).head? = some c → c = 32 ∨ c = 9 ∨ c = 10 ∨ c = 13 := by
  intro c h
  cases l with
  | nil => simp [txt] at h
  | cons v l =>
    obtain ⟨b, g', rfl⟩ := List.exists_cons_of_ne_nil hg.1
    simp [txt] at h
    subst h
    exact blank_vals (hg.2 _ (by simp))
theorem fst_val (v : TV) (hv : OkT v) (r : List UInt8) (hr : ∀ c, r.head? = some c → c = 32 ∨ c = 9 ∨ c = 10 ∨ c = 13) : fstW (shT v ++ r) = some (wdT v) := by
  obtain ⟨k, n, s⟩ := v
  rcases hv with ⟨rfl, h0, h1⟩ | ⟨rfl, hs⟩
  · exact fst_num n h0 h1 r (fun c hc => by rcases hr c hc with rfl | rfl | rfl | rfl <;> decide)
  · have e := Lib.size_eq s
    exact fst_text s.data.toList r (by rw [← e]; exact hs) (fun c hc => by rcases hr c hc with rfl | rfl | rfl | rfl <;> decide)
theorem sh_head (v : TV) (hv : OkT v) : ∃ c l, shT v = c :: l ∧ wBlank c = false := by
  obtain ⟨k, n, s⟩ := v
  rcases hv with ⟨rfl, h0, h1⟩ | ⟨rfl, hs⟩
  · have hd : ∀ c : UInt8, 45 ≤ c.toNat → wBlank c = false := fun c hc => by
      cases hb : wBlank c with
      | false => rfl
      | true => rcases blank_vals hb with rfl | rfl | rfl | rfl <;> simp at hc
    show ∃ c l, Lib.itoa n = c :: l ∧ _
    unfold Lib.itoa
    split
    · exact ⟨45, _, rfl, by decide⟩
    · obtain ⟨c, l, e, c0, _⟩ := dec_head n.toNat
      exact ⟨c, l, e, hd c (by omega)⟩
  · exact ⟨39, _, rfl, by decide⟩
/-- Many values are read as they were. -/
theorem spl_txt (g : List UInt8) (hg : BlankP g) : ∀ (l : List TV) (_ : ∀ v ∈ l, OkT v) (p : Nat), ∃ ws, spl p (txt g l) = .inl ws ∧ ws.map (·.2) = l.map wdT
  | [], _, p => ⟨[], spl_end p _ rfl, rfl⟩
  | v :: l, hl, p => by
    have hv := hl v (by simp)
    obtain ⟨c, m, e, hc⟩ := sh_head v hv
    have et : txt g (v :: l) = g ++ (shT v ++ txt g l) := by simp [txt]
    have hb : rn wBlank (txt g (v :: l)) = g.length := by
      rw [et]; exact rn_app wBlank g _ hg.2 (fun d hd => by rw [e] at hd; simp at hd; subst hd; exact hc)
    have hd : (txt g (v :: l)).drop (rn wBlank (txt g (v :: l))) = shT v ++ txt g l := by rw [hb, et, List.drop_left]
    have hf := fst_val v hv (txt g l) (txt_head g hg l)
    have hz : (wdT v).z = (shT v).length := by unfold wdT; split <;> rfl
    obtain ⟨ws, h1, h2⟩ := spl_txt g hg l (fun u hu => hl u (by simp [hu])) (p + rn wBlank (txt g (v :: l)) + (wdT v).z)
    refine ⟨(p + rn wBlank (txt g (v :: l)), wdT v) :: ws, ?_, by simp [h2]⟩
    rw [spl_one p _ (wdT v) (by rw [hd, e]; simp) (by rw [hd]; exact hf) (by rw [hz, e]; simp), hd, hz, List.drop_left]
    rw [hz] at h1
    rw [h1]; rfl
end Go.Proofs.YtlbgfkkalalkaaaDoor
