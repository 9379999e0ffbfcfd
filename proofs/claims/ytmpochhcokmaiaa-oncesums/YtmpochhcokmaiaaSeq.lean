/- What the statements' own maker of numbers answers: Number, Next, Value, in whatever world. -/
import Derived.Test.YtmpochhcokmaiaaSmall
import Derived.BigQuiet
import Derived.Deep.QuietTactic
import Derived.OpenShut
namespace Go.Proofs.Ytmpochhcokmaiaa
open Go.RowKit

/-- A slice of integers that came in: nil, or a row of cap cells. -/
def IsRow (k : IntKind) (w : World) (a : Option Addr) (len cap : Nat) (zs : List Int) : Prop :=
  (a = none ∧ len = 0 ∧ cap = 0 ∧ zs = []) ∨
  ∃ x, a = some x ∧ len ≤ cap ∧ cap ≤ maxLen ∧ zs.length = cap ∧ (∀ i, i < zs.length → w.cell? (x.add i) = some (.int k (zs.getD i 0))) ∧ ∀ n ∈ zs, (Lit.int k n).wf = true

/-- But for block S the world w' is as w was. -/
def But (S : Nat) (w w' : World) : Prop :=
  w'.os = w.os ∧ w'.tape = w.tape ∧ w'.output = w.output ∧ w.heap.size ≤ w'.heap.size ∧ ∀ k, k ≠ S → k < w.heap.size → w'.heap[k]? = w.heap[k]?
theorem But.refl (S : Nat) (w : World) : But S w w := ⟨rfl, rfl, rfl, Nat.le_refl _, fun _ _ _ => rfl⟩
theorem But.trans {S : Nat} {a b c : World} (h : But S a b) (k : But S b c) : But S a c :=
  ⟨k.1.trans h.1, k.2.1.trans h.2.1, k.2.2.1.trans h.2.2.1, Nat.le_trans h.2.2.2.1 k.2.2.2.1, fun i h1 h2 => (k.2.2.2.2 i h1 (Nat.lt_of_lt_of_le h2 h.2.2.2.1)).trans (h.2.2.2.2 i h1 h2)⟩
theorem But.of_below {S : Nat} {w w' : World} (h : Below w.heap.size w w') : But S w w' := ⟨h.os, h.tape, h.output, h.size, fun i _ h2 => h.block i h2⟩
theorem But.below {S B : Nat} {w w' : World} (h : But S w w') (hB : B ≤ S) (hS : B ≤ w.heap.size) : Below B w w' := ⟨h.1, h.2.1, h.2.2.1, h.2.2.2.1, fun k hk => h.2.2.2.2 k (by omega) (by omega)⟩
theorem But.size {S : Nat} {w w' : World} (h : But S w w') : w.heap.size ≤ w'.heap.size := h.2.2.2.1
theorem But.drewN {S : Nat} {w : World} (n : Nat) : But S w (w.drewN n) := ⟨rfl, rfl, rfl, Nat.le_refl _, fun _ _ _ => rfl⟩
theorem But.set {S : Nat} {w : World} (o : Nat) (v : Value) : But S w (w.setCell ⟨S, o, none⟩ v) :=
  ⟨rfl, rfl, rfl, by simp [World.setCell], fun k h1 _ => Below.heap_setCell _ _ _ _ h1⟩
theorem But.cell {S : Nat} {w w' : World} (h : But S w w') {p : Addr} (h1 : p.block ≠ S) (h2 : p.block < w.heap.size) : w'.cell? p = w.cell? p := World.cell?_of_block (w := w) (h.2.2.2.2 p.block h1 h2)
theorem But.frozen {S : Nat} {w w' : World} (h : But S w w') {p : Addr} (h1 : p.block ≠ S) (h2 : p.block < w.heap.size) : w'.frozen? p = w.frozen? p := World.frozen?_of_block (w := w) (h.2.2.2.2 p.block h1 h2)

/-- The maker in block S has p numbers behind it. -/
def SeqAt (S : Nat) (a : Option Addr) (len cap : Nat) (zs : List Int) (p : Nat) (w : World) : Prop :=
  w.cell? ⟨S, 0, none⟩ = some (.slice a len cap) ∧ w.cell? ⟨S, 1, none⟩ = some (.int .i64 p) ∧ w.frozen? ⟨S, 1, none⟩ = false ∧ S < w.heap.size ∧ (∀ x, a = some x → 0 < cap → x.block < S) ∧ IsRow .i64 w a len cap zs

/-- A number from 0 to below a bound. -/
def nm (n b : Int) : Int := if n.tmod b < 0 then n.tmod b + b else n.tmod b
theorem nm_bd (n b : Int) (hb0 : 0 < b) : 0 ≤ nm n b ∧ nm n b < b := by
  have h2 := Int.tmod_lt_of_pos n hb0
  have h1 : -b < n.tmod b := Int.neg_lt_of_neg_lt (by have := Int.tmod_lt_of_pos (-n) hb0; rw [Int.neg_tmod] at this; omega)
  unfold nm; split <;> omega
/-- The numbers that a maker has: zeros behind the last. -/
def sq (zs : List Int) (len p : Nat) : Int := if p < len then zs.getD p 0 else 0
set_option maxHeartbeats 400000 in
theorem number (n b : Int) (hb0 : 0 < b) (hb1 : b ≤ 4294967296) (w : World) :
    Calls Try.prog 20 #[.int .i64 n, .int .i64 b] w fun e w' => e = .returned (.int .i64 (nm n b)) ∧ w' = w := by
  have hid : Hid (nm n b = if n.tmod b < 0 then n.tmod b + b else n.tmod b) := rfl
  have h2 := Int.tmod_lt_of_pos n hb0
  have h1 : -b < n.tmod b := Int.neg_lt_of_neg_lt (by have := Int.tmod_lt_of_pos (-n) hb0; rw [Int.neg_tmod] at this; omega)
  have hbz : (b == 0) = false := by simp; omega
  have hbm : (b == -1) = false := by simp; omega
  by_cases hr : n.tmod b < 0
  · go_enter Try.func20, Try.ntmps20
    go_wp2
    go_ret
    exact ⟨retI (by rw [hid.out, if_pos hr]), rfl⟩
  · go_enter Try.func20, Try.ntmps20
    go_wp2
    go_ret
    exact ⟨retI (by rw [hid.out, if_neg (by omega)]), rfl⟩

theorem IsRow.on {S : Nat} {w w' : World} {a : Option Addr} {len cap : Nat} {zs : List Int} (h : IsRow .i64 w a len cap zs) (hS : ∀ x, a = some x → 0 < cap → x.block < S) (hs : S < w.heap.size) (hb : But S w w') : IsRow .i64 w' a len cap zs := by
  rcases h with h | ⟨x, hx, h1, h2, h3, h4, h5⟩
  · exact .inl h
  · refine .inr ⟨x, hx, h1, h2, h3, fun i hi => ?_, h5⟩
    have hlt := hS x hx (by omega)
    rw [hb.cell (p := x.add i) (by rw [show (x.add i).block = x.block from by unfold Addr.add; split <;> rfl]; omega) (by rw [show (x.add i).block = x.block from by unfold Addr.add; split <;> rfl]; omega)]
    exact h4 i hi
theorem IsRow.below {w w' : World} {a : Option Addr} {len cap : Nat} {zs : List Int} (h : IsRow .i64 w a len cap zs) (hb : Below w.heap.size w w') : IsRow .i64 w' a len cap zs := by
  rcases h with h | ⟨x, hx, h1, h2, h3, h4, h5⟩
  · exact .inl h
  · exact .inr ⟨x, hx, h1, h2, h3, fun i hi => by rw [hb.cell (World.block_lt_of_cell? _ _ (h4 i hi))]; exact h4 i hi, h5⟩
theorem IsRow.lt {w : World} {a : Option Addr} {len cap : Nat} {zs : List Int} (h : IsRow .i64 w a len cap zs) : ∀ x, a = some x → 0 < cap → x.block < w.heap.size := by
  intro x hx hc
  rcases h with ⟨h, _⟩ | ⟨y, hy, h1, h2, h3, h4, h5⟩
  · rw [h] at hx; cases hx
  · rw [hx] at hy; cases hy
    have := World.block_lt_of_cell? _ _ (h4 0 (by omega))
    rw [show (x.add 0).block = x.block from by unfold Addr.add; split <;> rfl] at this
    exact this
/-- A new maker over a row. -/
theorem SeqAt.make {w : World} {a : Option Addr} {len cap : Nat} {zs : List Int} (h : IsRow .i64 w a len cap zs) (t : TypeId) : SeqAt w.heap.size a len cap zs 0 (w.alloc (.cells #[.slice a len cap, .int .i64 0] t)) :=
  ⟨by rw [World.cell?_alloc_at _ _ _ _ rfl]; rfl, by rw [World.cell?_alloc_at _ _ _ _ rfl]; rfl, by simp [go_sem], by simp, h.lt, h.below one_box⟩
theorem add_plain (b o j : Nat) : (⟨b, o, none⟩ : Addr).add j = ⟨b, o + j, none⟩ := by unfold Addr.add; split <;> simp_all
theorem SeqAt.step {S : Nat} {a : Option Addr} {len cap : Nat} {zs : List Int} {p : Nat} {w : World} (h : SeqAt S a len cap zs p w) (n : Nat) : SeqAt S a len cap zs (p + 1) ((w.drewN n).setCell ⟨S, 1, none⟩ (.int .i64 (p + 1))) := by
  obtain ⟨h1, h2, h3, h4, h5, h6⟩ := h
  have hb : But S w ((w.drewN n).setCell ⟨S, 1, none⟩ (.int .i64 (p + 1))) := (But.drewN n).trans (But.set 1 _)
  refine ⟨?_, ?_, ?_, ?_, h5, h6.on h5 h4 hb⟩
  · rw [World.cell?_setCell_other _ _ _ _ (fun e => by have := congrArg Addr.off e; simp at this)]; exact h1
  · have := World.cell?_setCell_same (w.drewN n) ⟨S, 1, none⟩ (.int .i64 (p + 1)) (u := .int .i64 p) h2
    rw [this]; rfl
  · rw [World.frozen?_setCell]; exact h3
  · exact Nat.lt_of_lt_of_le h4 hb.size
theorem SeqAt.on {S : Nat} {a : Option Addr} {len cap : Nat} {zs : List Int} {p : Nat} {w w' : World} (h : SeqAt S a len cap zs p w) (hb : Below w.heap.size w w') : SeqAt S a len cap zs p w' := by
  obtain ⟨h1, h2, h3, h4, h5, h6⟩ := h
  exact ⟨by rw [hb.cell (p := ⟨S, 0, none⟩) h4]; exact h1, by rw [hb.cell (p := ⟨S, 1, none⟩) h4]; exact h2, by rw [hb.frozen (p := ⟨S, 1, none⟩) h4]; exact h3, Nat.lt_of_lt_of_le h4 hb.size, h5, h6.on h5 h4 (But.of_below hb)⟩

set_option maxHeartbeats 1000000 in
theorem next (S : Nat) (a : Option Addr) (len cap : Nat) (zs : List Int) (p : Nat) (b : Int) (w : World) (h : SeqAt S a len cap zs p w) (hp : p ≤ 4294967296) (hb0 : 0 < b) (hb1 : b ≤ 4294967296) :
    Calls Try.prog 14 #[.pointer (some ⟨S, 0, none⟩), .int .i64 b] w fun e w' => e = .returned (.int .i64 (nm (sq zs len p) b)) ∧ SeqAt S a len cap zs (p + 1) w' ∧ But S w w' := by
  have H : Hid (SeqAt S a len cap zs p w) := h
  obtain ⟨h1, h2, h3, h4, h5, h6⟩ := h
  have hnum : ∀ n w, Calls Try.prog 20 #[.int .i64 n, .int .i64 b] w fun e w' => e = .returned (.int .i64 (nm n b)) ∧ w' = w := fun n w => number n b hb0 hb1 w
  have HN : Hid (∀ n w, Calls Try.prog 20 #[.int .i64 n, .int .i64 b] w fun e w' => e = .returned (.int .i64 (nm n b)) ∧ w' = w) := hnum
  clear hnum
  by_cases hlt : p < len
  · have hI : (p : Int) < (len : Int) := by omega
    rcases h6 with ⟨_, rfl, _, _⟩ | ⟨x, rfl, hl, hm, hz, hc, _⟩
    · omega
    · obtain ⟨bk, off, spot⟩ := x
      have hcp := hc p (by omega)
      have hspot : spot = none := by simpa [Addr.add] using World.cell?_spot (hc 0 (by omega))
      subst hspot
      rw [add_plain] at hcp
      have HQ : Hid (sq zs len p = zs.getD p 0) := by show _ = _; unfold sq; rw [if_pos hlt]
      clear hc h5
      generalize zs.getD p 0 = z at *
      go_enter Try.func14, Try.ntmps14
      go_wp2_with fail
      go_quiet (fail)
      go_wp2_with fail
      go_quiet (fail)
      go_wp2_with fail
      refine (HN.out _ _).mono ?_
      rintro e w1 ⟨rfl, rfl⟩
      go_wp2_with fail
      go_ret
      exact ⟨retI (by rw [HQ.out]), H.out.step _, (But.drewN _).trans (But.set 1 _)⟩
  · have hI : (len : Int) ≤ (p : Int) := by omega
    have hd : decide ((p : Int) < (len : Int)) = false := by simp; omega
    have HQ : Hid (sq zs len p = 0) := by show _ = _; unfold sq; rw [if_neg hlt]
    clear h5 h6
    go_enter Try.func14, Try.ntmps14
    go_wp2_with fail
    go_quiet (fail)
    go_wp2_with fail
    refine (HN.out _ _).mono ?_
    rintro e w1 ⟨rfl, rfl⟩
    go_wp2_with fail
    go_ret
    exact ⟨retI (by rw [HQ.out]), H.out.step _, (But.drewN _).trans (But.set 1 _)⟩
end Go.Proofs.Ytmpochhcokmaiaa
