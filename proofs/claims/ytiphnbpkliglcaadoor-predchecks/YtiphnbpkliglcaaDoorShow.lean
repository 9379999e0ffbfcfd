/- What value.Show and what it calls answer, in a world that holds the library's tables. -/
import Derived.Test.YtiphnbpkliglcaaDoorSmall
import Derived.Test.YtiphnbpkliglcaaDoorShelf
import Derived.Test.YtiphnbpkliglcaaDoorDq
import Derived.Lib.AppendIntMem
import Derived.Lib.SplitLaws
namespace Go.Proofs.YtiphnbpkliglcaaDoor
open Go.RowKit

/-- What the library wants of the world: its table of powers, its variable MaxLen. -/
def Ready (w : World) : Prop := Lib.TabIs Tryd.prog w "internal/strconv.uint64pow10" .u64 Lib.pow10Tab ∧ ∃ m, w.cell? ⟨14, 0, none⟩ = some (.int .i64 m)
theorem cell_lt {w : World} {a : Addr} {v : Value} (h : w.cell? a = some v) : a.block < w.heap.size := World.block_lt_of_cell? _ _ h
theorem Ready.on {w w' : World} (h : Ready w) (hb : Below w.heap.size w w') : Ready w' := by
  obtain ⟨ht, m, hm⟩ := h
  exact ⟨Lib.tabBelow_of_tabIs ht w' hb, m, by rw [hb.cell (p := ⟨14, 0, none⟩) (cell_lt hm)]; exact hm⟩

theorem formatInt (n : Int) (h0 : -9223372036854775808 ≤ n) (h1 : n ≤ 9223372036854775807) (w : World) (hr : Ready w) :
    Calls Tryd.prog 46 #[.int .i64 n, .int .i64 10] w fun e w' => e = .returned (.string ⟨(Lib.itoa n).toArray⟩) ∧ Below w.heap.size w w' := by
  refine (Tryd.strconv_FormatInt_10 n h0 h1 w hr.1).mono ?_
  rintro e w' ⟨rfl, k, os, rfl⟩
  exact ⟨rfl, Lib.below_grow _ _ (Nat.le_refl _) _ _⟩

theorem qjoin (l : List UInt8) : (⟨#[39]⟩ : ByteArray) ++ ⟨l.toArray⟩ ++ ⟨#[39]⟩ = ⟨(39 :: (l ++ [39])).toArray⟩ := by
  apply ByteArray.ext
  simp [ByteArray.data_append]
set_option maxHeartbeats 1000000 in
theorem valueQuote (s : ByteArray) (hs : s.size ≤ 4096) (w : World) (hr : Ready w) :
    Calls Tryd.prog 47 #[.string s] w fun e w' => e = .returned (.string ⟨(39 :: (dq s.data.toList ++ [39])).toArray⟩) ∧ Below w.heap.size w w' := by
  obtain ⟨_, m, hm⟩ := hr
  have hc := Lib.countB_le ⟨#[39]⟩ (by decide) s.size s (Nat.le_refl _)
  have hl : (dq s.data.toList).length ≤ 8192 := by
    have := dq_len s.data.toList; have e := Lib.size_eq s; omega
  have hrep : Calls Tryd.prog 58 #[.string s, .string ⟨#[39]⟩, .string ⟨#[39, 39]⟩] w fun e w' => e = .returned (.string ⟨(dq s.data.toList).toArray⟩) ∧ Below w.heap.size w w' := by
    have h := Tryd.strings_ReplaceAll s ⟨#[39]⟩ ⟨#[39, 39]⟩ m w (by omega) hm (by decide) (by show s.size + Lib.countB s ⟨#[39]⟩ * 2 ≤ _; omega)
    have e : Lib.replaceAll s.data.toList (#[39] : Array UInt8).toList (#[39, 39] : Array UInt8).toList = dq s.data.toList := replaceAll_dq _
    rw [e] at h
    exact h
  generalize dq s.data.toList = l at *
  go_enter Tryd.func47, Tryd.ntmps47
  go_wp2_with (go_at_call 58; refine hrep.mono ?_; rintro e w' ⟨rfl, hb⟩)
  rw [qjoin]
  go_ret
  exact ⟨rfl, hb⟩
/-- How a value is written; of a kind that is none nothing. -/
def shV (k n : Int) (s : ByteArray) : List UInt8 :=
  if k = 0 then [110, 117, 108, 108] else if k = 1 then Lib.itoa n else if k = 2 then 39 :: (dq s.data.toList ++ [39]) else if k = 3 then Lib.formatBool (n != 0) else []

set_option maxHeartbeats 1000000 in
theorem valueShow (k n : Int) (s : ByteArray) (h0 : -9223372036854775808 ≤ n) (h1 : n ≤ 9223372036854775807) (hs : s.size ≤ 4096) (w : World) (hr : Ready w) :
    Calls Tryd.prog 36 #[.agg #[.int .i64 k, .int .i64 n, .string s]] w fun e w' => e = .returned (.string ⟨(shV k n s).toArray⟩) ∧ Below w.heap.size w w' := by
  have hr1 : ∀ o, Ready (w.alloc o) := fun o => hr.on one_box
  unfold shV
  by_cases h0 : k = 0
  · subst h0
    go_enter Tryd.func36, Tryd.ntmps36
    go_wp2
    go_ret
    exact ⟨rfl, one_box⟩
  by_cases h1 : k = 1
  · subst h1
    have hf := fun o => formatInt n ‹_› ‹_› (w.alloc o) (hr1 o)
    go_enter Tryd.func36, Tryd.ntmps36
    go_wp2_with (go_at_call 46; refine (hf _).mono ?_; rintro e w' ⟨rfl, hb⟩)
    go_ret
    exact ⟨rfl, one_box.trans (hb.mono (by simp))⟩
  by_cases h2 : k = 2
  · subst h2
    have hf := fun o => valueQuote s hs (w.alloc o) (hr1 o)
    go_enter Tryd.func36, Tryd.ntmps36
    go_wp2_with (go_at_call 47; refine (hf _).mono ?_; rintro e w' ⟨rfl, hb⟩)
    go_ret
    exact ⟨rfl, one_box.trans (hb.mono (by simp))⟩
  by_cases h3 : k = 3
  · subst h3
    go_enter Tryd.func36, Tryd.ntmps36
    go_wp2_with (go_at_call 48; refine (Tryd.strconv_FormatBool _ _).mono ?_; rintro e w' ⟨rfl, rfl⟩)
    go_ret
    exact ⟨rfl, one_box⟩
  · have b0 : (k == 0) = false := by simp [h0]
    have b1 : (k == 1) = false := by simp [h1]
    have b2 : (k == 2) = false := by simp [h2]
    have b3 : (k == 3) = false := by simp [h3]
    go_enter Tryd.func36, Tryd.ntmps36
    go_wp2
    go_ret
    exact ⟨rfl, one_box⟩
end Go.Proofs.YtiphnbpkliglcaaDoor
