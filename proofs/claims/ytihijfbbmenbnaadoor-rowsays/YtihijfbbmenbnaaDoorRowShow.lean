/- What row.Show answers of rows in memory whose values may be: it writes them into a builder of its own. -/
import Derived.Test.YtihijfbbmenbnaaDoorRefRowText
import Derived.Test.YtihijfbbmenbnaaDoorBld
namespace Go.Proofs.YtihijfbbmenbnaaDoor
open Go.RowKit
set_option maxRecDepth 100000
/-- The text so far, in the call's own builder. -/
def BldTo (l : List Val) (j : Nat) (w wr : World) : Prop := Tryd.BldHas (40 :: shB (l.take j)) w wr
theorem BldTo.one {l : List Val} {w wr : World} (hl : 0 < l.length) (h : Tryd.BldHas (40 :: shB (l.take 0) ++ shv l[0]) w wr) : BldTo l 1 w wr := by
  unfold BldTo; rw [shB_one hl]; exact h
theorem BldTo.more {l : List Val} {j : Nat} {w wr : World} (hl : j < l.length) (h0 : j ≠ 0) (h : Tryd.BldHas ((40 :: shB (l.take j) ++ [44, 32]) ++ shv l[j]) w wr) : BldTo l (j + 1) w wr := by
  unfold BldTo; rw [shB_take hl h0]; simpa using h
theorem BldTo.all {l : List Val} {w wr : World} (h : Tryd.BldHas (40 :: shB (l.take l.length) ++ [41]) w wr) : Tryd.BldHas (shR l) w wr := by
  rw [List.take_length] at h; exact h
set_option maxHeartbeats 2000000 in
theorem rowShow_at (l : List Val) (a0 : Option Addr) (cap : Nat) (w : World) (hr : Ready w) (hn : l.length ≤ 65536) (hok : ∀ v ∈ l, okv v) (ha : RowIs w (.slice a0 l.length cap) l) :
    Calls Tryd.prog 17 #[.slice a0 l.length cap] w fun e w' => e = .returned (.string ⟨(shR l).toArray⟩) ∧ Below w.heap.size w w' := by
  have Ha : Hid (RowIs w (.slice a0 l.length cap) l) := ha
  have Hok : Hid (∀ v ∈ l, okv v) := hok
  have q1 := Tryd.writeByte [] 40 w _ (Tryd.BldHas.new w) (by simp)
  clear ha hok
  go_enter Tryd.func17, Tryd.ntmps17
  go_wp2_with fail
  refine q1.mono ?_
  rintro e w1 ⟨rfl, hb1⟩
  clear q1
  go_wp2_with fail
  go_loopw [9] (fun i wr => ∃ j : Nat, j ≤ l.length ∧ i = .int .i64 j ∧ BldTo l j w wr) (fun i _ => l.length - (intOf i).toNat)
  case atStart => exact ⟨0, by omega, rfl, hb1⟩
  case round =>
    obtain ⟨j, hj, rfl, hT⟩ := hrel
    have HT : Hid (BldTo l j w wr) := hT
    have hB := hT.2
    have hTl := okv_take Hok.out j
    clear hT hb1
    by_cases hlt : j < l.length
    · obtain ⟨b, o, rfl, x1, x2, x3, hbl⟩ := (Ha.out.on hB).at j hlt
      have I1 : (j : Int) < (l.length : Int) := by omega
      have hv := Hok.out l[j] (List.getElem_mem hlt)
      have hz := hB.size
      have hvl := shv_len hv
      have qS : Hid (∀ W, Below w.heap.size w W → Calls Tryd.prog 31 #[.agg #[.int .i64 l[j].1, .int .i64 l[j].2.1, .string l[j].2.2]] W fun e w'' => e = .returned (.string ⟨(shv l[j]).toArray⟩) ∧ Below W.heap.size W w'') :=
        fun W hW => valueShow l[j].1 l[j].2.1 l[j].2.2 hv.2.1 hv.2.2.1 (by have := hv.2.2.2; omega) W (hr.on hW)
      have HL : Hid ((40 :: shB (l.take j)).length ≤ 132 * l.length + 1) := by show _ ≤ _; rw [List.length_cons]; omega
      have HL2 : Hid ((40 :: shB (l.take j) ++ [44, 32]).length ≤ 132 * l.length + 3) := by show _ ≤ _; rw [List.length_append, List.length_cons]; simp; omega
      have HV : Hid ((⟨(shv l[j]).toArray⟩ : ByteArray).size ≤ 130) := by show _ ≤ _; rw [size_mk]; exact hvl
      clear hTl hv hvl
      by_cases h0 : j = 0
      · subst h0
        have HE : Hid (∀ W, Tryd.BldHas (40 :: shB (l.take 0) ++ shv l[0]) w W → BldTo l 1 w W) := fun W h => BldTo.one hlt h
        have F0 : Hid (∀ o, Tryd.BldHas (40 :: shB (l.take 0)) w (wr.alloc o)) := fun o => HT.out.on one_box
        generalize shv l[0] = Y at *
        generalize l[0] = x at *
        generalize shB (l.take 0) = t0 at *
        simp only [Nat.zero_mul, Nat.add_zero] at x1 x2 x3
        clear HT
        go_wp2_with fail
        refine (qS.out _ (F0.out _).2).mono ?_
        rintro e w3 ⟨rfl, hb3⟩
        have q := Tryd.writeString _ ⟨Y.toArray⟩ w w3 ((F0.out _).on hb3) (by have := HL.out; have := HV.out; omega)
        clear qS F0 hb3 x1 x2 x3
        go_wp2_with fail
        refine q.mono ?_
        rintro e w4 ⟨rfl, hb4, _⟩
        have hE := HE.out _ hb4
        clear q hb4
        go_wp2_with fail
        go_roundw
        case rel => exact ⟨1, by omega, rfl, hE⟩
        case measure => simp [intOf]; omega
      · have HE : Hid (∀ W, Tryd.BldHas ((40 :: shB (l.take j) ++ [44, 32]) ++ shv l[j]) w W → BldTo l (j + 1) w W) := fun W h => BldTo.more hlt h0 h
        have F0 : Hid (∀ o, Tryd.BldHas (40 :: shB (l.take j)) w (wr.alloc o)) := fun o => HT.out.on one_box
        have I0 : (0 : Int) < (j : Int) := by omega
        have hne : wr.heap.size ≠ w.heap.size := by
          have := HT.out.1.elim (fun h => h.lt) (fun h => h.lt)
          omega
        have hnew : Hid (∀ o : Obj, (wr.alloc o).heap[wr.heap.size]? = some o) := fun o => heap_alloc_new wr o
        generalize shv l[j] = Y at *
        generalize l[j] = x at *
        generalize shB (l.take j) = t0 at *
        have q0 := Tryd.writeString _ ⟨#[44, 32]⟩ w _ (F0.out (.cells #[.int .i64 x.1, .int .i64 x.2.1, .string x.2.2] 31)) (by have := HL.out; have e : (⟨#[44, 32]⟩ : ByteArray).size = 2 := rfl; omega)
        clear HT
        go_wp2_with fail
        refine q0.mono ?_
        rintro e w2 ⟨rfl, hb2, hk2⟩
        have hk := hk2 _ hne _ _ (hnew.out _) (by decide)
        have c1 : w2.cell? ⟨wr.heap.size, 0, none⟩ = some (.int .i64 x.1) := by rw [Lib.cell_of_heap hk]; rfl
        have c2 : w2.cell? ⟨wr.heap.size, 1, none⟩ = some (.int .i64 x.2.1) := by rw [Lib.cell_of_heap hk]; rfl
        have c3 : w2.cell? ⟨wr.heap.size, 2, none⟩ = some (.string x.2.2) := by rw [Lib.cell_of_heap hk]; rfl
        have H2 : Hid (Tryd.BldHas (40 :: t0 ++ [44, 32]) w w2) := hb2
        clear q0 hb2 hk2 hk hnew F0 x1 x2 x3
        go_wp2_with fail
        refine (qS.out _ H2.out.2).mono ?_
        rintro e w3 ⟨rfl, hb3⟩
        have q := Tryd.writeString _ ⟨Y.toArray⟩ w w3 (H2.out.on hb3) (by have := HL2.out; have := HV.out; omega)
        clear qS H2 hb3 c1 c2 c3
        go_wp2_with fail
        refine q.mono ?_
        rintro e w4 ⟨rfl, hb4, _⟩
        have hE := HE.out _ hb4
        clear q hb4
        go_wp2_with fail
        go_roundw
        case rel => exact ⟨j + 1, by omega, by go_num, hE⟩
        case measure => simp [intOf]; omega
    · obtain rfl : j = l.length := by omega
      have I1 : ¬ (l.length : Int) < (l.length : Int) := by omega
      have q2 := Tryd.writeByte _ 41 w _ HT.out (by show (40 :: shB (l.take l.length)).length ≤ _; rw [List.length_cons]; omega)
      go_wp2_with fail
      refine q2.mono ?_
      rintro e w2 ⟨rfl, hb2⟩
      have q3 := Tryd.builderString _ w _ (BldTo.all hb2)
      clear q2 hb2
      go_wp2_with fail
      refine q3.mono ?_
      rintro e w3 ⟨rfl, hb3⟩
      go_wp2_with fail
      go_ret
      exact ⟨rfl, hb3⟩
/-- How the program writes a row. -/
theorem rowShow (l : List Val) (va : Value) (w : World) (hr : Ready w) (hn : l.length ≤ 65536) (hok : ∀ v ∈ l, okv v) (ha : RowIs w va l) :
    Calls Tryd.prog 17 #[va] w fun e w' => e = .returned (.string ⟨(shR l).toArray⟩) ∧ Below w.heap.size w w' := by
  obtain ⟨a0, cap, rfl⟩ := ha.form
  exact rowShow_at l a0 cap w hr hn hok ha
end Go.Proofs.YtihijfbbmenbnaaDoor
