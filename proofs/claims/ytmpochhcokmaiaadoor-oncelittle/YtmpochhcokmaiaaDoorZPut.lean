/- What zset.put, firstRow and compareFirst answer. -/
import Derived.Test.YtmpochhcokmaiaaDoorZTot
import Derived.Test.YtmpochhcokmaiaaDoorZNeg
import Derived.Test.YtmpochhcokmaiaaDoorOwns
import Derived.Test.YtmpochhcokmaiaaDoorRowCmp
import Derived.Test.YtmpochhcokmaiaaDoorRowCopy
import Derived.Test.YtmpochhcokmaiaaDoorOverAt
namespace Go.Proofs.YtmpochhcokmaiaaDoor
open Go.RowKit Go.Sort
set_option maxRecDepth 100000

/-- Where put ends. -/
def PutAt (base : Nat) (l : List Ent) (r : List Val) (n : Int) (k : Nat) (w : World) (v : Value) (w' : World) : Prop := (∃ us', us'.length ≤ k + 1 ∧ ZOwn base us' (l ++ nzZ [(r, n)]) v w') ∧ Below base w w'
theorem tot_new (n : Int) (w : World) : TotAt w.heap.size n (w.alloc (.cells #[.int .i64 (tHi n), .int .u64 (wLo n)] 88)) :=
  ⟨by rw [World.cell?_alloc_at _ _ _ _ rfl]; rfl, by rw [World.cell?_alloc_at _ _ _ _ rfl]; rfl, by simp [go_sem], by simp [go_sem], by simp⟩
set_option maxHeartbeats 2000000 in
theorem zPut_ok (base : Nat) (us : List VEnt) (l : List Ent) (r : List Val) (n : Int) (vz vr : Value) (w : World) (hbase : base ≤ w.heap.size) (hn : inI n = true)
    (hz : ZOwn base us l vz w) (hr : RowIs w vr r) (hl : r.length ≤ 65536) (hus : us.length ≤ 65536) :
    Calls Tryd.prog 51 #[vz, vr, .agg #[.int .i64 (tHi n), .int .u64 (wLo n)]] w fun e w' => ∃ v, e = .returned (.tuple #[v, .nilIface]) ∧ PutAt base l r n us.length w v w' := by
  obtain ⟨i0, hi, hz0, hz1, hz2⟩ := info_parts info_entry
  obtain ⟨az, cz, rfl⟩ := own_form hz.1
  obtain ⟨ar, cr, rfl⟩ := hr.form
  have HZ : Hid (ZOwn base us l (.slice az us.length cz) w) := hz
  have HR : Hid (RowIs w (.slice ar r.length cr) r) := hr
  have T0 := tot_new n w
  have hin' : -9223372036854775808 ≤ n ∧ n ≤ 9223372036854775807 := by unfold inI at hn; simpa using hn
  have q1 := totWeight w.heap.size n (by omega) n true (fun _ => ⟨rfl, rfl⟩) (fun h => absurd hin' h) _ T0
  clear T0 hn hz hr
  generalize tHi n = hi' at *
  generalize wLo n = lo' at *
  by_cases h0 : n = 0
  · subst h0
    go_enter Tryd.func51, Tryd.ntmps51
    go_wp2_with fail
    refine q1.mono ?_
    rintro e w1 ⟨rfl, hb1⟩
    have B1 : Hid (Below w.heap.size w w1) := one_box.trans (hb1.mono (by simp))
    clear hb1 q1
    go_wp2_with fail
    go_ret2
    refine ⟨.slice az us.length cz, rfl, ⟨us, by omega, ?_⟩, B1.out.mono hbase⟩
    have : nzZ [(r, 0)] = [] := rfl
    rw [this, List.append_nil]
    exact HZ.out.on B1.out
  · have b0 : (n == 0) = false := by simp [h0]
    go_enter Tryd.func51, Tryd.ntmps51
    go_wp2_with fail
    refine q1.mono ?_
    rintro e w1 ⟨rfl, hb1⟩
    have B1 : Hid (Below w.heap.size w w1) := one_box.trans (hb1.mono (by simp))
    clear hb1 q1
    have q2 : Hid (Calls Tryd.prog 29 #[.slice ar r.length cr] w1 fun e w' => ∃ v, e = .returned v ∧ w'.ownsRow w1.heap.size 44 3 v r.length (rc r) ∧ Below w1.heap.size w1 w') := rowCopy r _ w1 hl (HR.out.on B1.out)
    go_wp2_with fail
    refine q2.out.mono ?_
    rintro e w2 ⟨v2, rfl, hown2, hb2⟩
    have B2 : Hid (Below w.heap.size w w2) := B1.out.trans (hb2.mono B1.out.size)
    have Z2 : Hid (ZOwn base us l (.slice az us.length cz) w2) := HZ.out.on B2.out
    have R2 : Hid (w2.ownsRow base 44 3 v2 r.length (rc r)) := own_mono hown2 (by have := B1.out.size; omega)
    have hsz := B2.out.size
    obtain ⟨a2, c2, rfl⟩ := own_form hown2
    have F : Hid (∀ v4 w4, w4.ownsRow base 42 2 v4 (us.length + 1) (es us ++ ec (.slice a2 r.length c2, n)) → (w2.alloc (.cells #[.slice a2 r.length c2, .int .i64 n] 42)).grownBy w4 (Value.ownBlock (.slice az us.length cz)) → PutAt base l r n us.length w v4 w4) := by
      intro v4 w4 g1 g2
      refine ⟨⟨us ++ [(.slice a2 r.length c2, n)], by simp, ?_, ?_⟩, ?_⟩
      · rw [List.length_append, es_snoc]; exact g1
      · have : nzZ [(r, n)] = [(r, n)] := by simp [nzZ, h0]
        rw [this]
        refine OwnRows.grown (w := w2.alloc (.cells #[.slice a2 r.length c2, .int .i64 n] 42)) (OwnRows.snoc (Z2.out.2.on one_box) (own_on R2.out one_box) n) (own_on Z2.out.1 one_box) g2
      · exact ((B2.out.mono hbase).alloc (by omega) _).grown g2 (by simp; omega) (fun k e => (Z2.out.1.lt k e).1)
    clear hb2 hown2 q2 hin'
    go_wp2_with (first | (at_builtin; refine wpList_append_own _ rfl _ _ 27 rfl base 42 i0 (.agg #[.slice none 0 0, .int .i64 0]) 2 32 Tryd.underlying27 hi hz0 hz1 hz2 rfl (by decide) _ us.length (es us) rfl (own_on Z2.out.1 one_box) ⟨w2.heap.size, 0, none⟩ 1 1 (ec (.slice a2 r.length c2, n)) rfl rfl (cell_two_new _ _ _ _) (by simp [ec, Value.oneCell']) (by unfold maxLen; omega) (by omega) (by simp; omega) ?_; intro v4 w4 hown4 hg4 _; have hs4 := F.out _ _ hown4 hg4; clear hown4 hg4 F) | fail)
    go_ret2
    exact ⟨v4, rfl, hs4⟩
set_option maxHeartbeats 2000000 in
theorem zPut_over (n : Int) (az ar : Option Addr) (nz cz nr cr : Nat) (a : Addr) (w : World) (ho : OverAt a w) (hn : -604462909807314587353088 ≤ n ∧ n ≤ 604462909807314587353088) (hin : inI n = false) :
    Calls Tryd.prog 51 #[.slice az nz cz, .slice ar nr cr, .agg #[.int .i64 (tHi n), .int .u64 (wLo n)]] w fun e w' => e = .returned (.tuple #[.slice none 0 0, errV a]) ∧ Below w.heap.size w w' := by
  have HO : Hid (OverAt a w) := ho
  have T0 := tot_new n w
  have hin' : ¬ (-9223372036854775808 ≤ n ∧ n ≤ 9223372036854775807) := by unfold inI at hin; intro h; simp at hin; omega
  have q1 := totWeight w.heap.size n hn 0 false (fun h => absurd h hin') (fun _ => ⟨rfl, rfl⟩) _ T0
  clear T0 hin hin' ho
  generalize tHi n = hi' at *
  generalize wLo n = lo' at *
  go_enter Tryd.func51, Tryd.ntmps51
  go_wp2_with fail
  refine q1.mono ?_
  rintro e w1 ⟨rfl, hb1⟩
  have B1 : Hid (Below w.heap.size w w1) := one_box.trans (hb1.mono (by simp))
  have c1 := HO.out.on B1.out
  unfold OverAt at c1
  clear hb1 q1
  go_wp2_with fail
  go_quiet (fail)
  go_wp2_with fail
  go_ret2
  exact ⟨rfl, B1.out.os, B1.out.tape, B1.out.output, B1.out.size, B1.out.block⟩
/-- Which of two lists begins with the lesser row. -/
def cF : List Ent → List Ent → Int
  | [], _ => 1
  | _ :: _, [] => -1
  | x :: _, y :: _ => cR x.1 y.1
set_option maxHeartbeats 1000000 in
theorem zCompareFirst (l m : List Ent) (va vb : Value) (w : World) (ha : EntsIs w va l) (hb : EntsIs w vb m) :
    Calls Tryd.prog 50 #[va, vb] w fun e w' => e = .returned (.int .i64 (cF l m)) ∧ Below w.heap.size w w' := by
  obtain ⟨a0, cap, rfl⟩ := ha.form
  obtain ⟨b0, cap', rfl⟩ := hb.form
  cases l with
  | nil =>
    clear ha hb
    have e : cF [] m = 1 := rfl
    rw [e]
    go_enter Tryd.func50, Tryd.ntmps50
    go_wp2_with fail
    go_ret
    exact ⟨rfl, Below.refl _ _⟩
  | cons x l =>
    cases m with
    | nil =>
      clear ha hb
      have e : cF (x :: l) [] = -1 := rfl
      rw [e]
      generalize hL : (x :: l).length = n
      have b1 : ((n : Int) == 0) = false := by rw [← hL]; simp; omega
      clear hL
      go_enter Tryd.func50, Tryd.ntmps50
      go_wp2_with fail
      go_ret
      exact ⟨rfl, Below.refl _ _⟩
    | cons y m =>
      obtain ⟨b, o, a1, c1, rfl, x1, x2, x3⟩ := ha.at 0 (by simp)
      obtain ⟨b', o', a2, c2, rfl, y1, y2, y3⟩ := hb.at 0 (by simp)
      have q : Hid (∀ d os, Calls Tryd.prog 49 #[.slice a1 x.1.length c1, .slice a2 y.1.length c2] (grow (redrawn w d) os) fun e w'' => e = .returned (.int .i64 (cR x.1 y.1)) ∧ ∃ p : Regrown, w'' = grow (redrawn w p.d) p.os) :=
        fun d os => Calls.regrown_of (rowCompare x.1 y.1 _ _ _ (x3.on (below_regrown w d os)) (y3.on (below_regrown w d os)))
      simp only [List.getElem_cons_zero, Nat.zero_mul, Nat.add_zero] at x1 y1
      have g1 := fun d os => cell_regrown x1 d os
      have g3 := fun d os => cell_regrown y1 d os
      have e : cF (x :: l) (y :: m) = cR x.1 y.1 := rfl
      rw [e]
      generalize hL : (x :: l).length = n
      generalize hM : (y :: m).length = k
      have i1 : 0 < n := by rw [← hL]; simp
      have i2 : 0 < k := by rw [← hM]; simp
      have b1 : ((n : Int) == 0) = false := by simp; omega
      have b2 : ((k : Int) == 0) = false := by simp; omega
      clear hL hM ha hb x1 x2 x3 y1 y2 y3
      generalize cR x.1 y.1 = c at *
      generalize x.1.length = n1 at *
      generalize y.1.length = n2 at *
      go_enter Tryd.func50, Tryd.ntmps50
      go_wp2_with fail
      refine wp_region_quiet_below (by kernel_rfl) (by kernel_rfl) ?_
      iterate 10 (quiet_step (exact q.out _ _))
      refine wpQuiet_nil ?_
      intro w6 hw6
      obtain ⟨p6, hw6⟩ := hw6
      have hb6 : Hid (Below w.heap.size w w6) := by rw [hw6]; exact below_regrown w _ _
      clear hw6 g1 g3 q
      go_wp2_with fail
      go_ret
      exact ⟨rfl, hb6.out⟩
end Go.Proofs.YtmpochhcokmaiaaDoor
