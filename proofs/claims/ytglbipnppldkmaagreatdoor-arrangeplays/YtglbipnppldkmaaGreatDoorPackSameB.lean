/- Texts of one claim, one behind the other. -/
import Derived.Test.YtglbipnppldkmaaGreatDoorPackInsB
import Derived.Test.YtglbipnppldkmaaGreatDoorPackSliceB
/- What the statements' own list of keys is, and that an arrange tells the same. -/
namespace Go.Proofs.YtglbipnppldkmaaGreatDoor
open Go.RowKit Go.Sort
set_option maxRecDepth 100000
theorem LsAt.cut {w : World} {a : Option Addr} {n cap t : Nat} {us : List Value} (h : LsAt w (.slice a n cap) us) (ht : t ≤ us.length) : LsAt w (.slice a t cap) (us.take t) := by
  by_cases h0 : t = 0
  · subst h0; exact .inl ⟨a, cap, rfl, by simp⟩
  · rcases h with ⟨_, _, e, rfl⟩ | ⟨b, o, cap', e, h1, h2, h3, h4⟩
    · simp at ht; omega
    · simp only [Value.slice.injEq] at e
      obtain ⟨rfl, _, rfl⟩ := e
      have hl : (us.take t).length = t := by simp; omega
      refine .inr ⟨b, o, cap, by rw [hl], by omega, h2, h3, fun i hi => ?_⟩
      rw [List.getElem_take]; exact h4 i (by omega)
theorem LsAt.rest {w : World} {b o n cap t : Nat} {us : List Value} (h : LsAt w (.slice (some ⟨b, o, none⟩) n cap) us) (ht : t ≤ us.length) : LsAt w (.slice (if cap = t then some ⟨b, o, none⟩ else some ⟨b, o + t, none⟩) (n - t) (cap - t)) (us.drop t) := by
  have hn : n = us.length := by
    obtain ⟨_, _, e⟩ := h.form
    simp only [Value.slice.injEq] at e; exact e.2.1
  by_cases h0 : t = us.length
  · subst h0
    exact .inl ⟨_, _, by rw [hn, Nat.sub_self], by simp⟩
  · rcases h with ⟨_, _, e, rfl⟩ | ⟨b', o', cap', e, h1, h2, h3, h4⟩
    · simp at ht h0; omega
    · simp only [Value.slice.injEq, Option.some.injEq, Addr.mk.injEq] at e
      obtain ⟨⟨rfl, rfl, _⟩, _, rfl⟩ := e
      rw [if_neg (by omega)]
      have hl : (us.drop t).length = us.length - t := by simp
      refine .inr ⟨b, o + t, cap - t, by rw [hl, hn], by omega, by omega, h3, fun i hi => ?_⟩
      rw [List.getElem_drop, Nat.add_assoc]; exact h4 (t + i) (by rw [hl] at hi; omega)
theorem grown_self (w : World) (g : Option Nat) : w.grownBy w g := ⟨rfl, rfl, rfl, Nat.le_refl _, fun _ _ _ => rfl⟩
theorem LsAt.cells {w : World} {b o n cap : Nat} {us : List Value} (h : LsAt w (.slice (some ⟨b, o, none⟩) n cap) us) : ∀ j u, us[j]? = some u → w.cell? ((⟨b, o, none⟩ : Addr).add j) = some u := fun j u hu => by
  obtain ⟨hj, rfl⟩ := List.getElem?_eq_some_iff.1 hu
  rcases h with ⟨_, _, _, rfl⟩ | ⟨b', o', cap', e, _, _, _, h4⟩
  · simp at hj
  · simp only [Value.slice.injEq, Option.some.injEq, Addr.mk.injEq] at e
    obtain ⟨⟨rfl, rfl, _⟩, _⟩ := e
    rw [add_plain]; exact h4 j hj
/-- A list behind what the call owns. -/
theorem wpList_append_rows {ops : Array Oper} {rest : List Oper} {op : Oper} {a : Act} {W : World} {Q : Exit → Act → World → Prop} (hgd : op.guard = none) (s x : Operand)
    (ho : op.op = .call { callee := .builtin .append, args := #[s, x], argTypes := #[51, 51] }) {base : Nat} {v : Value} {n : Nat} {xs : List Value} (hs : a.eval s = v) (hown : W.ownsRow base 33 1 v n xs) {vx : Value} {news : List Value} (hx : a.eval x = vx) (hl : LsAt W vx news) (h1 : ∀ u ∈ news, u.oneCell' = true) (hn : n + news.length ≤ 65536) (hbase : base ≤ W.heap.size)
    (h : ∀ v' w', w'.ownsRow base 33 1 v' (n + news.length) (xs ++ news) → W.grownBy w' v.ownBlock → wpList Tryz.prog ops Q rest (a.put op.dst v') w') : wpList Tryz.prog ops Q (op :: rest) a W := by
  obtain ⟨i0, hi0, hz0, hz1, hz2⟩ := info_parts info_rows
  rcases hl with ⟨a0, cap, rfl, rfl⟩ | ⟨b, o, cap, rfl, g1, g2, g3, g4⟩
  · exact wpList_append_zero hgd s x 51 ho base 33 i0 1 Tryz.underlying51 hi0 v n xs hs hown a0 cap hx (h v W (by simpa using hown) (grown_self _ _))
  · refine wpList_append_own _ hgd s x 51 ho base 33 i0 (.slice none 0 0) 1 24 Tryz.underlying51 hi0 hz0 hz1 hz2 rfl (by decide) v n xs hs hown ⟨b, o, none⟩ news.length cap news hx (by omega) (LsAt.cells (.inr ⟨b, o, cap, rfl, g1, g2, g3, g4⟩)) h1 (by unfold maxLen; omega) (by omega) hbase ?_
    intro v' w' k1 k2 _
    exact h v' w' k1 k2
/-- The same, as one step of a region that draws its order. -/
theorem step_append_rows {ops : Array Oper} {o : Oper} {a : Act} {W : World} {K : Act → World → Prop} {Q : Exit → Act → World → Prop} {E : Prop} (hw : Region.wanted o (yielded ops a.tmps) = true) (s x : Operand)
    (ho : o.op = .call { callee := .builtin .append, args := #[s, x], argTypes := #[51, 51] }) (base : Nat) (v : Value) (n : Nat) (xs : List Value) (hs : a.eval s = v) (hown : W.ownsRow base 33 1 v n xs) (vx : Value) (news : List Value) (hx : a.eval x = vx) (hl : LsAt W vx news) (h1 : ∀ u ∈ news, u.oneCell' = true) (hn : n + news.length ≤ 65536) (hbase : base ≤ W.heap.size)
    (h : ∀ v' w', w'.ownsRow base 33 1 v' (n + news.length) (xs ++ news) → W.grownBy w' v.ownBlock → (v'.ownBlock = v.ownBlock ∨ v'.ownBlock = some W.heap.size) → K (a.put o.dst v') w') :
    if Region.wanted o (yielded ops a.tmps) = true then Oper.wp Tryz.prog o a W K Q else E := by
  obtain ⟨i0, hi0, hz0, hz1, hz2⟩ := info_parts info_rows
  rcases hl with ⟨a0, cap, rfl, rfl⟩ | ⟨b, o', cap, rfl, g1, g2, g3, g4⟩
  · rw [if_pos hw]
    have hrun := run_append_zero W base 51 o.type 33 i0 1 Tryz.underlying51 hi0 v n xs hown a0 cap
    unfold Oper.wp execOp
    simp only [ho, resolve, invoke, builtin, Sem.run_bind, Sem.run_pure, Result.andThen_ok, List.map_toArray, List.map_cons, List.map_nil, hs, hx, hrun]
    exact h v W (by simpa using hown) (grown_self _ _) (.inl rfl)
  · exact step_append_at W hw s x 51 ho base 33 i0 (.slice none 0 0) 1 24 Tryz.underlying51 hi0 hz0 hz1 hz2 rfl (by decide) v n xs hs hown ⟨b, o', none⟩ news.length cap news hx (by omega) (LsAt.cells (.inr ⟨b, o', cap, rfl, g1, g2, g3, g4⟩)) h1 (by unfold maxLen; omega) (by omega) hbase h
theorem ls_one (W : World) (y : Value) : LsAt (W.alloc (.cells #[y] 33)) (.slice (some ⟨W.heap.size, 0, none⟩) 1 1) [y] := by
  refine .inr ⟨W.heap.size, 0, 1, rfl, by simp, by unfold maxLen; omega, by simp, fun i hi => ?_⟩
  obtain rfl : i = 0 := by simp at hi; exact hi
  rw [World.cell?_alloc_at _ _ _ _ rfl]; rfl
/-- The statements' list of keys. -/
def KsIs (K : List (List Val)) (v : Value) (w : World) : Prop := (K = [] ∧ v = .slice none 0 0) ∨ (K ≠ [] ∧ ∃ b o cap, v = .slice (some ⟨b, o, none⟩) K.length cap ∧ RowsIs w v K)
theorem KsIs.rows {K : List (List Val)} {v : Value} {w : World} (h : KsIs K v w) : RowsIs w v K := by
  rcases h with ⟨rfl, rfl⟩ | ⟨_, b, o, cap, rfl, h⟩
  · exact RowsIs.nil _ _ _
  · exact h
theorem KsIs.on {K : List (List Val)} {v : Value} {w w' : World} (h : KsIs K v w) (hb : Below w.heap.size w w') : KsIs K v w' := by
  rcases h with h | ⟨h0, b, o, cap, e, h⟩
  · exact .inl h
  · exact .inr ⟨h0, b, o, cap, e, h.on hb⟩
/-- A list with one row more, of what the call owns. -/
theorem KsIs.ins {K : List (List Val)} {ps : List PRow} {t : Nat} {y v' : Value} {r : List Val} {W w' : World} {base : Nat} (hr : ∀ x ∈ ps, RowIs W x.1 x.2) (hp : ps.map (·.2) = K) (hy : RowIs W y r) (hB : Below W.heap.size W w') (ht : t ≤ K.length) (ho : w'.ownsRow base 33 1 v' (K.length + 1) ((ps.map (·.1)).take t ++ [y] ++ (ps.map (·.1)).drop t)) : KsIs (K.take t ++ [r] ++ K.drop t) v' w' := by
  have hl : (K.take t ++ [r] ++ K.drop t).length = K.length + 1 := by simp; omega
  have hrows : RowsIs w' v' (K.take t ++ [r] ++ K.drop t) := by
    refine ⟨ps.take t ++ [(y, r)] ++ ps.drop t, ?_, fun x hx => ?_, ?_⟩
    · have e1 : (ps.take t ++ [(y, r)] ++ ps.drop t).map (·.1) = (ps.map (·.1)).take t ++ [y] ++ (ps.map (·.1)).drop t := by simp
      rw [e1]
      refine LsAt.of_row (base := base) (e := 33) ?_
      have e2 : ((ps.map (·.1)).take t ++ [y] ++ (ps.map (·.1)).drop t).length = K.length + 1 := by
        have := congrArg List.length hp; simp at this ⊢; omega
      rw [e2]; exact ho
    · rcases List.mem_append.1 hx with hx | hx
      · rcases List.mem_append.1 hx with hx | hx
        · exact (hr x (List.mem_of_mem_take hx)).on hB
        · rw [List.mem_singleton.1 hx]; exact hy.on hB
      · exact (hr x (List.mem_of_mem_drop hx)).on hB
    · simp [hp, List.map_take, List.map_drop]
  have hlt := ho.lt
  rcases ho.2 with ⟨_, e⟩ | ⟨g, cap, cur, rfl, _⟩
  · omega
  · exact .inr ⟨by intro e; rw [e] at hl; simp at hl, g, 0, cap, by rw [hl], hrows⟩
end Go.Proofs.YtglbipnppldkmaaGreatDoor
/- The walk of the statements' own comparison: keys, and what stands under them. -/
namespace Go.Proofs.YtglbipnppldkmaaGreatDoor
open Go.RowKit Go.Sort
set_option maxRecDepth 100000
/-- How far the list of keys has come. -/
def KsTo (ks : List Int) (A : List Ent) (w : World) (i : Nat) (v : Value) (wr : World) : Prop := ∃ K, KeysOf ks (A.take i) K ∧ KsIs K v wr ∧ Below w.heap.size w wr
theorem KsTo.form {ks : List Int} {A : List Ent} {w : World} {i : Nat} {v : Value} {wr : World} (h : KsTo ks A w i v wr) : ∃ a n cap, v = .slice a n cap := by
  obtain ⟨K, _, h1, _⟩ := h
  obtain ⟨a, cap, e⟩ := h1.rows.form
  exact ⟨a, _, cap, e⟩
theorem step_take {ks : List Int} {A : List Ent} {i : Nat} {K : List (List Val)} (hi : i < A.length) (h : KeysOf ks (A.take i ++ [A[i]]) K) : KeysOf ks (A.take (i + 1)) K := by
  rw [List.take_succ_eq_append_getElem hi]; exact h
/-- Nobody's row. -/
def nob : List Val := [(2, 0, ⟨#[110, 111, 98, 111, 100, 121, 39, 115]⟩), (0, 0, ⟨#[]⟩), (0, 0, ⟨#[]⟩), (0, 0, ⟨#[]⟩)]
theorem row_nob (w : World) : RowIs (w.alloc (.cells #[.int .i64 2, .int .i64 0, .string ⟨#[110, 111, 98, 111, 100, 121, 39, 115]⟩, .int .i64 0, .int .i64 0, .string ⟨#[]⟩, .int .i64 0, .int .i64 0, .string ⟨#[]⟩, .int .i64 0, .int .i64 0, .string ⟨#[]⟩] 56)) (.slice (some ⟨w.heap.size, 0, none⟩) 4 4) nob := by
  refine .inr ⟨w.heap.size, 0, 4, rfl, by simp [nob], by unfold maxLen; omega, by simp, fun i hi => ?_⟩
  obtain rfl | rfl | rfl | rfl : i = 0 ∨ i = 1 ∨ i = 2 ∨ i = 3 := by simp [nob] at hi; omega
  all_goals exact ⟨by rw [World.cell?_alloc_at _ _ _ _ rfl]; rfl, by rw [World.cell?_alloc_at _ _ _ _ rfl]; rfl, by rw [World.cell?_alloc_at _ _ _ _ rfl]; rfl⟩
theorem under_nob {ks : List Int} {A : List Ent} (hk : ks.length ≤ 3) (hA : ∀ e ∈ A, allIn e.1 ks = true) : under ks nob A = [] := by
  unfold under
  rw [List.filter_eq_nil_iff]
  intro e he h
  have h1 := kP_iff.1 h
  have h2 : (pk e.1 ks).length = ks.length := by unfold pk; rw [hA e he]; simp
  rw [h1] at h2
  simp [nob] at h2; omega
set_option maxHeartbeats 8000000 in
theorem lawSame7 (F G : Nat → Prop) (sb : Sb) (ks : List Int) (A : List Ent) (n m : Nat) (ad : Addr) (w : World) (h : ArIs F G sb ks A n m w) (ho : OverAt ad w) (hm : m ≤ 30000) (va vb : Value) (ha : EntsIs w va A) (hb : IntsIs w vb ks) (hk : ks.length ≤ 3) :
    Calls Tryz.prog 15 #[.pointer (some ⟨sb.b, 0, none⟩), va, vb] w fun e w' => e = .returned (.bool true) ∧ Below w.heap.size w w' := by
  obtain ⟨a0, c0, rfl⟩ := ha.form
  obtain ⟨b0, cb, rfl⟩ := hb.form
  obtain ⟨y1, y2, y3⟩ := h.1.all
  obtain ⟨i0, hi0, hz0, hz1, hz2⟩ := info_parts info_rows
  have hAl : A.length ≤ 30000 := by omega
  have HA : Hid (ArIs F G sb ks A n m w) := h
  have HO : Hid (OverAt ad w) := ho
  have HV0 : Hid (EntsIs w (.slice a0 A.length c0) A) := ha
  have HB0 : Hid (IntsIs w (.slice b0 ks.length cb) ks) := hb
  have K0 : Hid (KsTo ks A w 0 (.slice none 0 0) w) := ⟨[], by rw [List.take_zero]; exact KeysOf.nil ks, .inl ⟨rfl, rfl⟩, Below.refl _ _⟩
  clear h ho ha hb y1 y2 y3
  go_enter Tryz.func15, Tryz.ntmps15
  go_wp2_with fail
  go_loopw [7, 8] (fun s7 s8 wr => ∃ i : Nat, i ≤ A.length ∧ s8 = .int .i64 i ∧ Hid (KsTo ks A w i s7 wr)) (fun _ s8 _ => A.length - (intOf s8).toNat)
  case atStart => exact ⟨0, by omega, rfl, K0⟩
  case round =>
    clear K0
    obtain ⟨i, hi, rfl, hT⟩ := hrel
    by_cases k1 : i < A.length
    · have I1 : (i : Int) < (A.length : Int) := by omega
      obtain ⟨K, hK, hKI, hBr⟩ := hT.out
      obtain ⟨ba, oa, a1, c1, rfl, x1, x2, x3⟩ := (HV0.out.on hBr).at i k1
      have q1 := refPickO A[i].1 ks _ _ wr (by omega) x3 (HB0.out.on hBr)
      have hal : allIn A[i].1 ks = true := HA.out.2.2.2.1 _ (List.getElem_mem k1)
      rw [hal] at q1
      have hKl : K.length ≤ i := by have := hK.len.1; rw [List.length_take] at this; omega
      have HK : Hid (KeysOf ks (A.take i) K) := hK
      have HKI : Hid (KsIs K u7 wr) := hKI
      have HBr : Hid (Below w.heap.size w wr) := hBr
      obtain ⟨ak, ck, ek⟩ := hKI.rows.form
      subst ek
      have HST : Hid (∀ K', KeysOf ks (A.take i ++ [A[i]]) K' → KeysOf ks (A.take (i + 1)) K') := fun K' h => step_take k1 h
      have HHAS : Hid (pk A[i].1 ks ∈ K → KeysOf ks (A.take (i + 1)) K) := fun h => step_take k1 (hK.has A[i] h)
      have HINS : Hid (∀ t, (∀ x (hx : x < K.length), x < t → cR K[x] (pk A[i].1 ks) < 0) → (∀ x (hx : x < K.length), t ≤ x → 0 < cR K[x] (pk A[i].1 ks)) → KeysOf ks (A.take (i + 1)) (K.take t ++ [pk A[i].1 ks] ++ K.drop t)) := fun t h1 h2 => step_take k1 (hK.ins A[i] t h1 h2)
      have HSRT : Hid (K.Pairwise (fun a b => cR a b < 0)) := hK.1
      clear hK hKI hBr x2 x3 hal hT
      generalize A[i].1.length = nl at *
      generalize pk A[i].1 ks = kk at *
      go_wp2_with fail
      refine q1.mono ?_
      rintro e w2 ⟨y, rfl, o2, b2⟩
      obtain ⟨ay, cy, ey⟩ := own_form o2
      have HY : Hid (RowIs w2 y kk) := RowIs.of_own o2
      have B2 : Hid (Below wr.heap.size wr w2) := b2
      clear q1 o2 b2 x1
      subst ey
      go_wp2_with fail
      go_loopw [11] (fun s11 wr2 => ∃ t : Nat, t ≤ K.length ∧ s11 = .int .i64 t ∧ Hid ((∀ x (hx : x < K.length), x < t → cR K[x] kk < 0) ∧ Below w2.heap.size w2 wr2)) (fun s _ => K.length - (intOf s).toNat)
      case atStart => exact ⟨0, by omega, rfl, fun x _ h => by omega, Below.refl _ _⟩
      case round =>
        obtain ⟨t, ht, rfl, hQ⟩ := hrel
        have hBQ : Below w.heap.size w wr := (HBr.out.trans (B2.out.mono HBr.out.size)).trans (hQ.out.2.mono (Nat.le_trans HBr.out.size B2.out.size))
        by_cases k2 : t < K.length
        · have J1 : (t : Int) < (K.length : Int) := by omega
          have hJ0 : ((t : Int) == (K.length : Int)) = false := by rw [beq_eq_false_iff_ne]; omega
          have hKI := (HKI.out.on B2.out).on hQ.out.2
          rcases hKI with ⟨hK0, hv⟩ | ⟨hK0, bk, ok, cap, hv, hrows⟩
          · rw [hK0] at k2; simp at k2
          · simp only [Value.slice.injEq] at hv
            obtain ⟨rfl, _, rfl⟩ := hv
            have hcc : K.length ≤ ck := by
              obtain ⟨ps, l1, _, l3⟩ := hrows
              rcases l1 with ⟨_, _, e, _⟩ | ⟨_, _, _, e, g1, _⟩
              · simp only [Value.slice.injEq] at e
                exact absurd (List.eq_nil_of_length_eq_zero e.2.1) hK0
              · simp only [Value.slice.injEq] at e
                rw [e.2.2]; rw [← l3, List.length_map]; simpa using g1
            have hct : t ≤ ck := by omega
            obtain ⟨bk', ok', at_, ct, eb, z1, z2⟩ := hrows.at t k2
            simp only [Option.some.injEq, Addr.mk.injEq, and_true] at eb
            obtain ⟨rfl, rfl⟩ := eb
            have HZ2 : Hid (RowIs wr (.slice at_ K[t].length ct) K[t]) := z2
            have HYW : Hid (RowIs wr (.slice ay kk.length cy) kk) := HY.out.on hQ.out.2
            have HRW : Hid (RowsIs wr (.slice (some ⟨bk, ok, none⟩) K.length ck) K) := hrows
            have HBW : Hid (Below w.heap.size w wr) := hBQ
            have q4 := refCompareRows K[t] kk _ _ wr z2 HYW.out
            have HC4 : Hid (∀ W, Below wr.heap.size wr W → Calls Tryz.prog 36 #[.slice at_ K[t].length ct, .slice ay kk.length cy] W fun e w' => e = .returned (.int .i64 (cR K[t] kk)) ∧ Below wr.heap.size wr w') := fun W hB => by
              refine (refCompareRows K[t] kk _ _ W (HZ2.out.on hB) (HYW.out.on hB)).mono ?_
              rintro e w' ⟨rfl, k⟩
              exact ⟨rfl, hB.trans (k.mono hB.size)⟩
            have HL : Hid (cR K[t] kk < 0 → ∀ x (hx : x < K.length), x < t + 1 → cR K[x] kk < 0) := fun h x hx hlt => by
              by_cases e : x = t
              · subst e; exact h
              · exact hQ.out.1 x hx (by omega)
            have HM : Hid (cR K[t] kk = 0 → kk ∈ K) := fun h => by rw [← (cR_zero _ _).1 h]; exact List.getElem_mem k2
            have HGT : Hid (0 < cR K[t] kk → ∀ x (hx : x < K.length), t ≤ x → 0 < cR K[x] kk) := fun h => sorted_from HSRT.out k2 h
            have HP1 : Hid (∀ x (hx : x < K.length), x < t → cR K[x] kk < 0) := hQ.out.1
            have HQ2 : Hid (Below w2.heap.size w2 wr) := hQ.out.2
            clear z2 hrows hBQ hQ hK0
            generalize cR K[t] kk = c at *
            generalize K[t].length = tl at *
            by_cases hc : c < 0
            · go_wp2_with fail
              refine q4.mono ?_
              rintro e w4 ⟨rfl, hb4⟩
              have R4 : Hid ((∀ x (hx : x < K.length), x < t + 1 → cR K[x] kk < 0) ∧ Below w2.heap.size w2 w4) := ⟨HL.out hc, HQ2.out.trans (hb4.mono HQ2.out.size)⟩
              clear q4 hb4 HC4 z1
              go_wp2_with fail
              go_roundw
              case rel => exact ⟨t + 1, by omega, by go_num, R4⟩
              case measure => simp [intOf]; omega
            · by_cases h0 : c = 0
              · have HMM : Hid (kk ∈ K) := HM.out h0
                subst h0
                clear HM HL HGT
                go_wp2_with fail
                refine q4.mono ?_
                rintro e w4 ⟨rfl, hb4⟩
                have q5 := HC4.out w4 hb4
                have z1' := cell_on z1 hb4
                clear q4 HC4 z1 hb4
                go_wp2_with fail
                refine q5.mono ?_
                rintro e w5 ⟨rfl, hb5⟩
                have R5 : Hid (KsTo ks A w (i + 1) (.slice (some ⟨bk, ok, none⟩) K.length ck) w5) := ⟨K, HHAS.out HMM.out, .inr ⟨fun e => by rw [e] at k2; simp at k2, bk, ok, ck, rfl, HRW.out.on hb5⟩, HBW.out.trans (hb5.mono HBW.out.size)⟩
                clear q5 hb5 z1'
                go_wp2_with fail
                go_roundw
                case rel => exact ⟨i + 1, by omega, by go_num, R5⟩
                case measure => simp [intOf]; omega
              · have hcn : (c != 0) = true := by simpa using h0
                have hcp : 0 < c := by omega
                have hcl : decide (c < 0) = false := decide_eq_false hc
                go_wp2_with fail
                refine q4.mono ?_
                rintro e w4 ⟨rfl, hb4⟩
                have q5 := HC4.out w4 hb4
                have z1' := cell_on z1 hb4
                clear q4 HC4 z1 hb4
                go_wp2_with fail
                refine q5.mono ?_
                rintro e w5 ⟨rfl, hb5⟩
                have HROWS : Hid (RowsIs w5 (.slice (some ⟨bk, ok, none⟩) K.length ck) K) := HRW.out.on hb5
                have HYQ : Hid (RowIs w5 (.slice ay kk.length cy) kk) := HYW.out.on hb5
                have HBQ : Hid (Below w.heap.size w w5) := HBW.out.trans (hb5.mono HBW.out.size)
                have HP2 : Hid (∀ x (hx : x < K.length), t ≤ x → 0 < cR K[x] kk) := HGT.out hcp
                clear q5 hb5 z1' HGT HL HM
                obtain ⟨ps, l1, l2, l3⟩ := HROWS.out
                have hus : (ps.map (·.1)).length = K.length := by rw [← l3, List.length_map, List.length_map]
                obtain ⟨us, hUS⟩ : ∃ us, us = ps.map (·.1) := ⟨_, rfl⟩
                rw [← hUS] at l1 hus
                have HU1 : Hid (∀ u ∈ us, u.oneCell' = true) := fun u hu => by
                  rw [hUS] at hu
                  obtain ⟨x, hx, rfl⟩ := List.mem_map.1 hu
                  obtain ⟨ax, cx, ex⟩ := (l2 x hx).form
                  rw [ex]; rfl
                have LC : Hid (∀ W, Below w5.heap.size w5 W → LsAt W (.slice (some ⟨bk, ok, none⟩) t ck) (us.take t)) := fun W hB => (l1.on hB).cut (by omega)
                have LR : Hid (∀ W, Below w5.heap.size w5 W → LsAt W (.slice (if ck = t then some ⟨bk, ok, none⟩ else some ⟨bk, ok + t, none⟩) (K.length - t) (ck - t)) (us.drop t)) := fun W hB => (l1.on hB).rest (by omega)
                have HT1 : Hid ((us.take t).length = t) := by show _ = _; rw [List.length_take]; omega
                have HT2 : Hid ((us.drop t).length = K.length - t) := by show _ = _; rw [List.length_drop]; omega
                have HN1 : Hid (t + 1 + (K.length - t) = K.length + 1) := by show _ = _; omega
                have HU2 : Hid ((∀ u ∈ us.take t, u.oneCell' = true) ∧ ∀ u ∈ us.drop t, u.oneCell' = true) := ⟨fun u hu => HU1.out u (List.mem_of_mem_take hu), fun u hu => HU1.out u (List.mem_of_mem_drop hu)⟩
                have HFIN : Hid (∀ v' w' base, w'.ownsRow base 33 1 v' (K.length + 1) (us.take t ++ [.slice ay kk.length cy] ++ us.drop t) → Below w5.heap.size w5 w' → KsTo ks A w (i + 1) v' w') := fun v' w' base ho hB => by
                  rw [hUS] at ho
                  exact ⟨_, HINS.out t HP1.out HP2.out, KsIs.ins l2 l3 HYQ.out hB ht ho, HBQ.out.trans (hB.mono HBQ.out.size)⟩
                have O0 : Hid ((w5.alloc (.cells #[] 33)).ownsRow w5.heap.size 33 1 (.slice (some ⟨w5.heap.size, 0, none⟩) 0 0) 0 []) := World.ownsRow_made (e := 33) w5 #[] 0 (base := w5.heap.size) (size := 1) (Nat.le_refl _) (Nat.zero_le _) (by simp)
                clear l1 l2 l3 hUS hus HINS HROWS HHAS
                have hKb : K.length ≤ 30000 := by omega
                go_wp2_with (first | (at_builtin; refine wpList_append_rows rfl _ _ rfl rfl O0.out rfl (LC.out _ one_box) HU2.out.1 (by rw [HT1.out]; omega) (by simp) ?_; intro v3 w3 ho3 hg3; rw [HT1.out, Nat.zero_add, List.nil_append] at ho3; have O3 : Hid (w3.ownsRow w5.heap.size 33 1 v3 t (us.take t)) := ho3; have B3 : Hid (Below w5.heap.size w5 w3) := one_box.grown hg3 (by simp) (fun k e => (O0.out.lt k e).1); clear ho3 hg3) | fail)
                obtain ⟨a3, c3, e3⟩ := own_form O3.out
                subst e3
                have HO4 : Hid (∀ W, Below w3.heap.size w3 W → W.ownsRow w5.heap.size 33 1 (.slice a3 t c3) t (us.take t)) := fun W hB => own_on O3.out hB
                have HG : Hid (∀ W w7, Below w3.heap.size w3 W → W.grownBy w7 (Value.ownBlock (.slice a3 t c3)) → Below w5.heap.size w5 w7) := fun W w7 hB hg => by
                  have b := B3.out.trans (hB.mono B3.out.size)
                  exact b.grown hg b.size (fun k e => (O3.out.lt k e).1)
                have hs3 := B3.out.size
                clear O0 LC O3
                go_region_law (first
                  | (refine step_append_rows (by rfl) (.tmp 70) (.tmp 73) (by rfl) w5.heap.size _ (t + 1) (us.take t ++ [.slice ay kk.length cy]) (by rfl) O5.out _ (us.drop t) (by rfl) (LR.out _ B5.out) HU2.out.2 (by rw [HT2.out]; omega) B5.out.size ?_; intro v6 w6 ho6 hg6 _; have B6 : Below w5.heap.size w5 w6 := B5.out.grown hg6 B5.out.size (fun k e => (O5.out.lt k e).1); rw [HT2.out, HN1.out] at ho6; obtain ⟨a6, c6, e6⟩ := own_form ho6; subst e6; have R6 : Hid (KsTo ks A w (i + 1) (.slice a6 (K.length + 1) c6) w6) := HFIN.out _ _ _ ho6 B6; clear ho6 hg6 B6)
                  | (refine step_append_rows (by rfl) (.tmp 67) (.tmp 69) (by rfl) w5.heap.size _ t (us.take t) (by rfl) (HO4.out _ (((Below.refl _ _).drew).alloc (Nat.le_refl _) _)) _ [.slice ay kk.length cy] (by rfl) (ls_one _ _) (by intro u hu; rw [List.mem_singleton.1 hu]; rfl) (by simp; omega) (by simp; omega) ?_; intro v5 w7 ho5 hg5 _; have B5 : Hid (Below w5.heap.size w5 w7) := HG.out _ _ (((Below.refl _ _).drew).alloc (Nat.le_refl _) _) hg5; obtain ⟨a5, c5, e5⟩ := own_form ho5; have e5' : v5 = .slice a5 (t + 1) c5 := e5; clear e5; subst e5'; have O5 : Hid (w7.ownsRow w5.heap.size 33 1 (.slice a5 (t + 1) c5) (t + 1) (us.take t ++ [.slice ay kk.length cy])) := ho5; clear ho5 hg5))
                all_goals (
                  go_wp2_with fail
                  go_roundw
                  case rel => exact ⟨i + 1, by omega, by go_num, R6⟩
                  case measure => simp [intOf]; omega)
        · have J1 : ¬ (t : Int) < (K.length : Int) := by omega
          have hJ0 : ((t : Int) == (K.length : Int)) = true := by rw [beq_iff_eq]; omega
          have HYQ : Hid (RowIs wr (.slice ay kk.length cy) kk) := HY.out.on hQ.out.2
          have HBQ : Hid (Below w.heap.size w wr) := hBQ
          have HP1 : Hid (∀ x (hx : x < K.length), x < t → cR K[x] kk < 0) := hQ.out.1
          have HP2 : Hid (∀ x (hx : x < K.length), t ≤ x → 0 < cR K[x] kk) := fun x h1 h2 => by omega
          have hKI := (HKI.out.on B2.out).on hQ.out.2
          rcases hKI with ⟨hK0, hv⟩ | ⟨hK0, bk, ok, cap, hv, hrows⟩
          · subst hK0
            simp only [Value.slice.injEq] at hv
            obtain ⟨rfl, _, rfl⟩ := hv
            obtain rfl : t = 0 := by simpa using ht
            have HROWS : Hid (RowsIs wr (.slice none 0 0) []) := RowsIs.nil _ _ _
            clear hBQ hQ
            obtain ⟨ps, l1, l2, l3⟩ := HROWS.out
            have hus : (ps.map (·.1)).length = 0 := by have := congrArg List.length l3; simpa using this
            obtain ⟨us, hUS⟩ : ∃ us, us = ps.map (·.1) := ⟨_, rfl⟩
            rw [← hUS] at l1 hus
            have HU1 : Hid (∀ u ∈ us, u.oneCell' = true) := fun u hu => by
              rw [hUS] at hu
              obtain ⟨x, hx, rfl⟩ := List.mem_map.1 hu
              obtain ⟨ax, cx, ex⟩ := (l2 x hx).form
              rw [ex]; rfl
            have LC : Hid (∀ W, Below wr.heap.size wr W → LsAt W (.slice none 0 0) (us.take 0)) := fun W hB => by have := (l1.on hB).cut (t := 0) (by omega); simpa using this
            have LR : Hid (∀ W, Below wr.heap.size wr W → LsAt W (.slice none 0 0) (us.drop 0)) := fun W hB => by have h := l1.on hB; have e : us.drop 0 = us := List.drop_zero; rw [e]; exact h
            have HT1 : Hid ((us.take 0).length = 0) := by show _ = _; rw [List.length_take]; omega
            have HT2 : Hid ((us.drop 0).length = 0 - 0) := by show _ = _; rw [List.length_drop]; omega
            have HU2 : Hid ((∀ u ∈ us.take 0, u.oneCell' = true) ∧ ∀ u ∈ us.drop 0, u.oneCell' = true) := ⟨fun u hu => HU1.out u (List.mem_of_mem_take hu), fun u hu => HU1.out u (List.mem_of_mem_drop hu)⟩
            have HFIN : Hid (∀ v' w' base, w'.ownsRow base 33 1 v' 1 (us.take 0 ++ [.slice ay kk.length cy] ++ us.drop 0) → Below wr.heap.size wr w' → KsTo ks A w (i + 1) v' w') := fun v' w' base ho hB => by
              rw [hUS] at ho
              exact ⟨_, HINS.out 0 HP1.out HP2.out, KsIs.ins l2 l3 HYQ.out hB ht ho, HBQ.out.trans (hB.mono HBQ.out.size)⟩
            have O0 : Hid ((wr.alloc (.cells #[] 33)).ownsRow wr.heap.size 33 1 (.slice (some ⟨wr.heap.size, 0, none⟩) 0 0) 0 []) := World.ownsRow_made (e := 33) wr #[] 0 (base := wr.heap.size) (size := 1) (Nat.le_refl _) (Nat.zero_le _) (by simp)
            clear l1 l2 l3 hUS hus HINS HROWS HHAS
            have hKb : 0 ≤ 30000 := by omega
            go_wp2_with (first | (at_builtin; refine wpList_append_rows rfl _ _ rfl rfl O0.out rfl (LC.out _ one_box) HU2.out.1 (by rw [HT1.out]; omega) (by simp) ?_; intro v3 w3 ho3 hg3; rw [HT1.out, Nat.zero_add, List.nil_append] at ho3; have O3 : Hid (w3.ownsRow wr.heap.size 33 1 v3 0 (us.take 0)) := ho3; have B3 : Hid (Below wr.heap.size wr w3) := one_box.grown hg3 (by simp) (fun k e => (O0.out.lt k e).1); clear ho3 hg3) | fail)
            obtain ⟨a3, c3, e3⟩ := own_form O3.out
            subst e3
            have HO4 : Hid (∀ W, Below w3.heap.size w3 W → W.ownsRow wr.heap.size 33 1 (.slice a3 0 c3) 0 (us.take 0)) := fun W hB => own_on O3.out hB
            have HG : Hid (∀ W w5, Below w3.heap.size w3 W → W.grownBy w5 (Value.ownBlock (.slice a3 0 c3)) → Below wr.heap.size wr w5) := fun W w5 hB hg => by
              have b := B3.out.trans (hB.mono B3.out.size)
              exact b.grown hg b.size (fun k e => (O3.out.lt k e).1)
            have hs3 := B3.out.size
            clear O0 LC O3
            go_region_law (first
              | (refine step_append_rows (by rfl) (.tmp 70) (.tmp 73) (by rfl) wr.heap.size _ 1 (us.take 0 ++ [.slice ay kk.length cy]) (by rfl) O5.out _ (us.drop 0) (by rfl) (LR.out _ B5.out) HU2.out.2 (by rw [HT2.out]; omega) B5.out.size ?_; intro v6 w6 ho6 hg6 _; have B6 : Below wr.heap.size wr w6 := B5.out.grown hg6 B5.out.size (fun k e => (O5.out.lt k e).1); rw [HT2.out] at ho6; replace ho6 : w6.ownsRow wr.heap.size 33 1 v6 1 (us.take 0 ++ [.slice ay kk.length cy] ++ us.drop 0) := ho6; obtain ⟨a6, c6, e6⟩ := own_form ho6; subst e6; have R6 : Hid (KsTo ks A w (i + 1) (.slice a6 1 c6) w6) := HFIN.out _ _ _ ho6 B6; clear ho6 hg6 B6)
              | (refine step_append_rows (by rfl) (.tmp 67) (.tmp 69) (by rfl) wr.heap.size _ 0 (us.take 0) (by rfl) (HO4.out _ (((Below.refl _ _).drew).alloc (Nat.le_refl _) _)) _ [.slice ay kk.length cy] (by rfl) (ls_one _ _) (by intro u hu; rw [List.mem_singleton.1 hu]; rfl) (by simp) (by simp; omega) ?_; intro v5 w5 ho5 hg5 _; have B5 : Hid (Below wr.heap.size wr w5) := HG.out _ _ (((Below.refl _ _).drew).alloc (Nat.le_refl _) _) hg5; obtain ⟨a5, c5, e5⟩ := own_form ho5; have e5' : v5 = .slice a5 1 c5 := e5; clear e5; subst e5'; have O5 : Hid (w5.ownsRow wr.heap.size 33 1 (.slice a5 1 c5) 1 (us.take 0 ++ [.slice ay kk.length cy])) := ho5; clear ho5 hg5))
            all_goals (
              go_wp2_with fail
              go_roundw
              case rel => exact ⟨i + 1, by omega, by go_num, R6⟩
              case measure => simp [intOf]; omega)
          · simp only [Value.slice.injEq] at hv
            obtain ⟨rfl, _, rfl⟩ := hv
            have hcc : K.length ≤ ck := by
              obtain ⟨ps, l1, _, l3⟩ := hrows
              rcases l1 with ⟨_, _, e, _⟩ | ⟨_, _, _, e, g1, _⟩
              · simp only [Value.slice.injEq] at e
                exact absurd (List.eq_nil_of_length_eq_zero e.2.1) hK0
              · simp only [Value.slice.injEq] at e
                rw [e.2.2]; rw [← l3, List.length_map]; simpa using g1
            have hct : t ≤ ck := by omega
            have HROWS : Hid (RowsIs wr (.slice (some ⟨bk, ok, none⟩) K.length ck) K) := hrows
            clear hrows hBQ hQ hK0
            obtain ⟨ps, l1, l2, l3⟩ := HROWS.out
            have hus : (ps.map (·.1)).length = K.length := by rw [← l3, List.length_map, List.length_map]
            obtain ⟨us, hUS⟩ : ∃ us, us = ps.map (·.1) := ⟨_, rfl⟩
            rw [← hUS] at l1 hus
            have HU1 : Hid (∀ u ∈ us, u.oneCell' = true) := fun u hu => by
              rw [hUS] at hu
              obtain ⟨x, hx, rfl⟩ := List.mem_map.1 hu
              obtain ⟨ax, cx, ex⟩ := (l2 x hx).form
              rw [ex]; rfl
            have LC : Hid (∀ W, Below wr.heap.size wr W → LsAt W (.slice (some ⟨bk, ok, none⟩) t ck) (us.take t)) := fun W hB => (l1.on hB).cut (by omega)
            have LR : Hid (∀ W, Below wr.heap.size wr W → LsAt W (.slice (if ck = t then some ⟨bk, ok, none⟩ else some ⟨bk, ok + t, none⟩) (K.length - t) (ck - t)) (us.drop t)) := fun W hB => (l1.on hB).rest (by omega)
            have HT1 : Hid ((us.take t).length = t) := by show _ = _; rw [List.length_take]; omega
            have HT2 : Hid ((us.drop t).length = K.length - t) := by show _ = _; rw [List.length_drop]; omega
            have HN1 : Hid (t + 1 + (K.length - t) = K.length + 1) := by show _ = _; omega
            have HU2 : Hid ((∀ u ∈ us.take t, u.oneCell' = true) ∧ ∀ u ∈ us.drop t, u.oneCell' = true) := ⟨fun u hu => HU1.out u (List.mem_of_mem_take hu), fun u hu => HU1.out u (List.mem_of_mem_drop hu)⟩
            have HFIN : Hid (∀ v' w' base, w'.ownsRow base 33 1 v' (K.length + 1) (us.take t ++ [.slice ay kk.length cy] ++ us.drop t) → Below wr.heap.size wr w' → KsTo ks A w (i + 1) v' w') := fun v' w' base ho hB => by
              rw [hUS] at ho
              exact ⟨_, HINS.out t HP1.out HP2.out, KsIs.ins l2 l3 HYQ.out hB ht ho, HBQ.out.trans (hB.mono HBQ.out.size)⟩
            have O0 : Hid ((wr.alloc (.cells #[] 33)).ownsRow wr.heap.size 33 1 (.slice (some ⟨wr.heap.size, 0, none⟩) 0 0) 0 []) := World.ownsRow_made (e := 33) wr #[] 0 (base := wr.heap.size) (size := 1) (Nat.le_refl _) (Nat.zero_le _) (by simp)
            clear l1 l2 l3 hUS hus HINS HROWS HHAS
            have hKb : K.length ≤ 30000 := by omega
            go_wp2_with (first | (at_builtin; refine wpList_append_rows rfl _ _ rfl rfl O0.out rfl (LC.out _ one_box) HU2.out.1 (by rw [HT1.out]; omega) (by simp) ?_; intro v3 w3 ho3 hg3; rw [HT1.out, Nat.zero_add, List.nil_append] at ho3; have O3 : Hid (w3.ownsRow wr.heap.size 33 1 v3 t (us.take t)) := ho3; have B3 : Hid (Below wr.heap.size wr w3) := one_box.grown hg3 (by simp) (fun k e => (O0.out.lt k e).1); clear ho3 hg3) | fail)
            obtain ⟨a3, c3, e3⟩ := own_form O3.out
            subst e3
            have HO4 : Hid (∀ W, Below w3.heap.size w3 W → W.ownsRow wr.heap.size 33 1 (.slice a3 t c3) t (us.take t)) := fun W hB => own_on O3.out hB
            have HG : Hid (∀ W w5, Below w3.heap.size w3 W → W.grownBy w5 (Value.ownBlock (.slice a3 t c3)) → Below wr.heap.size wr w5) := fun W w5 hB hg => by
              have b := B3.out.trans (hB.mono B3.out.size)
              exact b.grown hg b.size (fun k e => (O3.out.lt k e).1)
            have hs3 := B3.out.size
            clear O0 LC O3
            go_region_law (first
              | (refine step_append_rows (by rfl) (.tmp 70) (.tmp 73) (by rfl) wr.heap.size _ (t + 1) (us.take t ++ [.slice ay kk.length cy]) (by rfl) O5.out _ (us.drop t) (by rfl) (LR.out _ B5.out) HU2.out.2 (by rw [HT2.out]; omega) B5.out.size ?_; intro v6 w6 ho6 hg6 _; have B6 : Below wr.heap.size wr w6 := B5.out.grown hg6 B5.out.size (fun k e => (O5.out.lt k e).1); rw [HT2.out, HN1.out] at ho6; obtain ⟨a6, c6, e6⟩ := own_form ho6; subst e6; have R6 : Hid (KsTo ks A w (i + 1) (.slice a6 (K.length + 1) c6) w6) := HFIN.out _ _ _ ho6 B6; clear ho6 hg6 B6)
              | (refine step_append_rows (by rfl) (.tmp 67) (.tmp 69) (by rfl) wr.heap.size _ t (us.take t) (by rfl) (HO4.out _ (((Below.refl _ _).drew).alloc (Nat.le_refl _) _)) _ [.slice ay kk.length cy] (by rfl) (ls_one _ _) (by intro u hu; rw [List.mem_singleton.1 hu]; rfl) (by simp; omega) (by simp; omega) ?_; intro v5 w5 ho5 hg5 _; have B5 : Hid (Below wr.heap.size wr w5) := HG.out _ _ (((Below.refl _ _).drew).alloc (Nat.le_refl _) _) hg5; obtain ⟨a5, c5, e5⟩ := own_form ho5; have e5' : v5 = .slice a5 (t + 1) c5 := e5; clear e5; subst e5'; have O5 : Hid (w5.ownsRow wr.heap.size 33 1 (.slice a5 (t + 1) c5) (t + 1) (us.take t ++ [.slice ay kk.length cy])) := ho5; clear ho5 hg5))
            all_goals (
              go_wp2_with fail
              go_roundw
              case rel => exact ⟨i + 1, by omega, by go_num, R6⟩
              case measure => simp [intOf]; omega)
    · have I1 : ¬ (i : Int) < (A.length : Int) := by omega
      obtain ⟨K, hK, hKI, hBr⟩ := hT.out
      rw [List.take_of_length_le (by omega)] at hK
      obtain ⟨ak, ck, ek⟩ := hKI.rows.form
      subst ek
      have q5 := arKeys F G sb ks A n m ad wr (HA.out.on hBr) (HO.out.on hBr) (by omega)
      have HK : Hid (KeysOf ks A K) := hK
      have HR : Hid (RowsIs wr (.slice ak K.length ck) K) := hKI.rows
      have HBr : Hid (Below w.heap.size w wr) := hBr
      have hKl := hK.len.1
      clear hK hKI hBr hT
      go_wp2_with fail
      refine q5.mono ?_
      intro e w5 hE
      obtain ⟨a5, c5, rfl, r5', b5⟩ := hE.len HK.out
      have q6 := sameRows K _ _ w5 r5' (HR.out.on b5)
      have B5 : Hid (Below wr.heap.size wr w5) := b5
      clear q5 hE r5' b5
      go_wp2_with fail
      refine q6.mono ?_
      rintro e w6 ⟨rfl, b6⟩
      have HR6 : Hid (RowsIs w6 (.slice ak K.length ck) K) := (HR.out.on B5.out).on b6
      have B6 : Hid (Below w.heap.size w w6) := (HBr.out.trans (B5.out.mono HBr.out.size)).trans (b6.mono (Nat.le_trans HBr.out.size B5.out.size))
      clear q6 b6 HR B5 HBr
      go_wp2_with fail
      go_loopw [13] (fun s13 wr => ∃ i : Nat, i ≤ K.length ∧ s13 = .int .i64 i ∧ Hid (Below w6.heap.size w6 wr)) (fun s _ => K.length - (intOf s).toNat)
      case atStart => exact ⟨0, by omega, rfl, Below.refl _ _⟩
      case round =>
        obtain ⟨x, hx, rfl, hB⟩ := hrel
        obtain ⟨wq, rfl⟩ : ∃ wq, wq = wr := ⟨_, rfl⟩
        have hBw : Below w.heap.size w wq := B6.out.trans (hB.out.mono B6.out.size)
        by_cases k1 : x < K.length
        · have J1 : (x : Int) < (K.length : Int) := by omega
          obtain ⟨bk, ok, at_, ct, ek, z1, z2⟩ := (HR6.out.on hB.out).at x k1
          subst ek
          obtain ⟨vs, ha1, hr1⟩ := HV0.out.on hBw
          have hvl : vs.length = A.length := hr1.1
          have HVL : Hid (vs.length = A.length) := hvl
          have Ha : Hid (EntsAt wq (.slice a0 A.length c0) vs) := ha1
          have Hr : Hid (Reads wq vs A) := hr1
          have HBw : Hid (Below w.heap.size w wq) := hBw
          have HZ2 : Hid (RowIs wq (.slice at_ K[x].length ct) K[x]) := z2
          have HZ1 : Hid (∀ W, Below wq.heap.size wq W → W.cell? ⟨bk, ok + x, none⟩ = some (.slice at_ K[x].length ct)) := fun W h => cell_on z1 h
          have HIN : Hid (Below w6.heap.size w6 wq) := hB
          have S0 : Hid (SelBy (kP ks K[x]) A wq 0 (.slice none 0 0) wq) := SelTo.nil wq
          clear hvl ha1 hr1 hBw z1 z2 hB
          have hAl' : A.length ≤ 65536 := by omega
          generalize K[x] = kx at *
          go_wp2_with fail
          go_loopw [14, 15] (fun s14 s15 W => ∃ j : Nat, j ≤ A.length ∧ s15 = .int .i64 j ∧ Hid (SelBy (kP ks kx) A wq j s14 W)) (fun _ s _ => A.length - (intOf s).toNat)
          case atStart => exact ⟨0, by omega, rfl, S0⟩
          case round =>
            clear S0
            obtain ⟨j, hj, rfl, hS⟩ := hrel
            obtain ⟨av, cv, ev⟩ := SelTo.form hS.out
            subst ev
            have hfl := filter_len (kP ks kx) A j hAl'
            have HS : Hid (SelTo wq ((A.take j).filter (kP ks kx)) (.slice av ((A.take j).filter (kP ks kx)).length cv) wr) := hS.out
            clear hS
            by_cases k2 : j < A.length
            · have J2 : (j : Int) < (A.length : Int) := by omega
              have k3 : j < vs.length := by rw [HVL.out]; exact k2
              obtain ⟨b, o, ea, x1, x2, _⟩ := (Ha.out.on HS.out.2).at j k3
              subst ea
              obtain ⟨r1, r2⟩ := Hr.out.2 j k3 k2
              obtain ⟨am, cm, em⟩ := r1.form
              rw [em] at x1 r1
              rw [r2] at x2
              have HRJ : Hid (RowIs wq (.slice am A[j].1.length cm) A[j].1) := r1
              have HF : Hid ((A.take (j + 1)).filter (kP ks kx) = (A.take j).filter (kP ks kx) ++ (if kP ks kx A[j] then [A[j]] else [])) := filter_snoc k2
              have HG : Hid (kP ks kx A[j] = true → SelTo wq ((A.take j).filter (kP ks kx) ++ [(A[j].1, A[j].2)]) = SelBy (kP ks kx) A wq (j + 1)) := fun h => by
                unfold SelBy
                rw [HF.out, if_pos h]
              have HN : Hid (kP ks kx A[j] = false → SelTo wq ((A.take j).filter (kP ks kx)) = SelBy (kP ks kx) A wq (j + 1)) := fun h => by
                unfold SelBy
                rw [HF.out, if_neg (by rw [h]; decide), List.append_nil]
              have q7 := refPickO A[j].1 ks _ _ wr (by omega) (r1.on HS.out.2) ((HB0.out.on HBw.out).on HS.out.2)
              have hal : allIn A[j].1 ks = true := HA.out.2.2.2.1 _ (List.getElem_mem k2)
              rw [hal] at q7
              have HC : Hid (∀ W v, Below wr.heap.size wr W → RowIs W v (pk A[j].1 ks) → Calls Tryz.prog 36 #[v, .slice at_ kx.length ct] W fun e w' => e = .returned (.int .i64 (cR (pk A[j].1 ks) kx)) ∧ Below wr.heap.size wr w') := fun W v hW hv => by
                refine (refCompareRows _ kx v _ W hv ((HZ2.out.on HS.out.2).on hW)).mono ?_
                rintro e w' ⟨rfl, y2⟩
                exact ⟨rfl, hW.trans (y2.mono hW.size)⟩
              have HP : Hid (kP ks kx A[j] = decide (cR (pk A[j].1 ks) kx = 0)) := rfl
              have HZW : Hid (∀ W, Below wr.heap.size wr W → W.cell? ⟨bk, ok + x, none⟩ = some (.slice at_ kx.length ct)) := fun W h => HZ1.out W (HS.out.2.trans (h.mono HS.out.2.size))
              generalize kP ks kx A[j] = pj at *
              generalize (A.take j).filter (kP ks kx) = mm at *
              generalize cR (pk A[j].1 ks) kx = c at *
              generalize pk A[j].1 ks = kk at *
              generalize A[j].1 = rj at *
              generalize A[j].2 = kj at *
              generalize hnl : rj.length = nl at *
              clear r1 r2 em HF hal
              go_wp2_with fail
              refine q7.mono ?_
              rintro e w7 ⟨y, rfl, o7, b7⟩
              obtain ⟨ay, cy, ey⟩ := own_form o7
              have q8 := HC.out w7 y b7 (RowIs.of_own o7)
              have z7 := HZW.out w7 b7
              clear q7 o7 HC
              subst ey
              by_cases hc : c = 0
              · have HB2 : Hid (SelTo wq (mm ++ [(rj, kj)]) = SelBy (kP ks kx) A wq (j + 1)) := HG.out (by rw [HP.out, hc]; rfl)
                clear HG HN HP
                subst hc
                go_wp2_with fail
                refine q8.mono ?_
                rintro e w8 ⟨rfl, b8⟩
                have y1 := cell_on x1 b8
                have y2 := cell_on x2 b8
                have HS2 : Hid (SelTo wq mm (.slice av mm.length cv) w8) := HS.out.on b8
                clear b7 b8 q8 x1 x2 z7 HZW
                go_wp2_with (first | (at_builtin; refine wpList_append_sel rfl _ _ rfl rfl HS2.out hfl HRJ.out kj rfl ?_; intro v9 w9 hs9; rw [HB2.out] at hs9; have H9 : Hid (SelBy (kP ks kx) A wq (j + 1) v9 w9) := hs9; clear hs9) | fail)
                go_roundw
                case rel => exact ⟨j + 1, by omega, by go_num, H9⟩
                case measure => simp [intOf]; omega
              · have HB2 : Hid (SelTo wq mm = SelBy (kP ks kx) A wq (j + 1)) := HN.out (by rw [HP.out]; simp [hc])
                have hc' : (c == 0) = false := by simp [hc]
                clear HG HN HP
                go_wp2_with fail
                refine q8.mono ?_
                rintro e w8 ⟨rfl, b8⟩
                have HS2 : Hid (SelBy (kP ks kx) A wq (j + 1) (.slice av mm.length cv) w8) := by
                  have := HS.out.on b8
                  rw [HB2.out] at this; exact this
                clear b7 b8 q8 x1 x2 z7 HZW
                go_wp2_with fail
                go_roundw
                case rel => exact ⟨j + 1, by omega, by go_num, HS2⟩
                case measure => simp [intOf]; omega
            · have J2 : ¬ (j : Int) < (A.length : Int) := by omega
              have hun : (A.take j).filter (kP ks kx) = under ks kx A := by rw [List.take_of_length_le (by omega)]; rfl
              rw [hun] at HS
              rw [hun]
              have hBr : Below w.heap.size w wr := HBw.out.trans (HS.out.2.mono HBw.out.size)
              have q7 := arLookup F G sb ks A n m ad wr (HA.out.on hBr) (HO.out.on hBr) (by omega) kx _ (HZ2.out.on HS.out.2)
              have z7 := HZ1.out wr HS.out.2
              have HS7 : Hid (EntsIs wr (.slice av (under ks kx A).length cv) (under ks kx A)) := HS.out.ents
              have HIN2 : Hid (Below w6.heap.size w6 wr) := HIN.out.trans (HS.out.2.mono HIN.out.size)
              clear hun HS hBr hfl
              go_wp2_with fail
              refine q7.mono ?_
              rintro e w7 ⟨v7, rfl, e7, b7⟩
              have q8 := sameEnts7 (under ks kx A) v7 (.slice av (under ks kx A).length cv) w7 e7.ents (HS7.out.on b7)
              obtain ⟨a7, c7, f7⟩ := e7.ents.form
              have B7 : Hid (Below w6.heap.size w6 w7) := HIN2.out.trans (b7.mono HIN2.out.size)
              clear q7 e7 b7 z7 HS7 HIN2
              generalize (under ks kx A).length = ul at *
              subst f7
              go_wp2_with fail
              refine q8.mono ?_
              rintro e w8 ⟨rfl, b8⟩
              have B8 : Hid (Below w6.heap.size w6 w8) := B7.out.trans (b8.mono B7.out.size)
              clear q8 b8
              go_wp2_with fail
              go_roundw
              case rel => exact ⟨x + 1, by omega, by go_num, B8⟩
              case measure => simp [intOf]; omega
        · have J1 : ¬ (x : Int) < (K.length : Int) := by omega
          obtain ⟨W, hW⟩ : ∃ W, W = wq.alloc (.cells #[.int .i64 2, .int .i64 0, .string ⟨#[110, 111, 98, 111, 100, 121, 39, 115]⟩, .int .i64 0, .int .i64 0, .string ⟨#[]⟩, .int .i64 0, .int .i64 0, .string ⟨#[]⟩, .int .i64 0, .int .i64 0, .string ⟨#[]⟩] 56) := ⟨_, rfl⟩
          have bW : Below wq.heap.size wq W := by rw [hW]; exact one_box
          have hrn : RowIs W (.slice (some ⟨wq.heap.size, 0, none⟩) 4 4) nob := by rw [hW]; exact row_nob wq
          have bW2 : Below w.heap.size w W := hBw.trans (bW.mono hBw.size)
          have q9 := arLookup F G sb ks A n m ad W (HA.out.on bW2) (HO.out.on bW2) (by omega) nob _ hrn
          rw [under_nob hk HA.out.2.2.2.1] at q9
          have HW : Hid (wq.alloc (.cells #[.int .i64 2, .int .i64 0, .string ⟨#[110, 111, 98, 111, 100, 121, 39, 115]⟩, .int .i64 0, .int .i64 0, .string ⟨#[]⟩, .int .i64 0, .int .i64 0, .string ⟨#[]⟩, .int .i64 0, .int .i64 0, .string ⟨#[]⟩] 56) = W) := hW.symm
          have BW2 : Hid (Below w.heap.size w W) := bW2
          clear hW bW hrn bW2 hBw hB
          go_wp2_with fail
          rw [HW.out]
          refine q9.mono ?_
          rintro e w9 ⟨v9, rfl, e9, b9⟩
          obtain ⟨a9, c9, f9⟩ := e9.ents.form
          have el : ([] : List Ent).length = 0 := rfl
          rw [el] at f9
          have B9 : Hid (Below w.heap.size w w9) := BW2.out.trans (b9.mono BW2.out.size)
          clear q9 e9 b9 el
          subst f9
          go_wp2_with fail
          go_ret
          exact ⟨rfl, B9.out⟩
end Go.Proofs.YtglbipnppldkmaaGreatDoor
