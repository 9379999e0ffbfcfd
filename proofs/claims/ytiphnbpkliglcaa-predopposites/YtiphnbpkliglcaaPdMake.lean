/- What the statements' own maker of predicates answers: a predicate that may be, for the columns' kinds, no deeper than told, in new memory. -/
import Derived.Test.YtiphnbpkliglcaaPdMkA
import Derived.Test.YtiphnbpkliglcaaPdMkL
import Derived.Test.YtiphnbpkliglcaaPdMkB
import Derived.Test.YtiphnbpkliglcaaPdMkC
import Derived.Test.YtiphnbpkliglcaaPdMkE5
import Derived.Test.YtiphnbpkliglcaaPdMkE6
import Derived.Test.YtiphnbpkliglcaaPdMkE7
namespace Go.Proofs.Ytiphnbpkliglcaa
open Go.RowKit
set_option maxRecDepth 100000
theorem makeAt (S : Nat) (a : Option Addr) (len cap : Nat) (zs : List Int) (b o ccap : Nat) (ks : List Int) (hb : b ≠ S) (hn : 0 < ks.length) (hn1 : ks.length ≤ 16) (hk : ∀ k ∈ ks, k = 1 ∨ k = 2 ∨ k = 3) : ∀ d : Nat, d ≤ 100 → IHp S a len cap zs b o ccap ks (d : Int) d := by
  intro d
  induction d with
  | zero =>
    intro _ p w h hp hc
    have hp' : p + 20 ≤ 4294967290 := by simpa using hp
    obtain ⟨h0, h1⟩ := nm_bd (sq zs len p) 8 (by decide)
    obtain ⟨r, hr⟩ : ∃ r, nm (sq zs len p) 8 = r := ⟨_, rfl⟩
    rw [hr] at h0 h1
    have hm : r % 4 = 0 ∨ r % 4 = 1 ∨ r % 4 = 2 ∨ r % 4 = 3 := by omega
    rcases hm with hm | hm | hm | hm
    · exact mkL0 S a len cap zs p b o ccap ks _ 0 w h hp' hc hb hn hn1 hk (by decide) r h0 h1 hm hr
    · exact mkL1 S a len cap zs p b o ccap ks _ 0 w h hp' hc hb hn hn1 hk (by decide) r h0 h1 hm hr
    · exact mkL2 S a len cap zs p b o ccap ks _ 0 w h hp' hc hb hn hn1 hk (by decide) r h0 h1 hm hr
    · exact mkL3 S a len cap zs p b o ccap ks _ 0 w h hp' hc hb hn hn1 hk (by decide) r h0 h1 hm hr
  | succ d ih =>
    intro hd p w h hp hc
    have h4 := pow_pos4 d
    rw [Nat.pow_succ] at hp
    have hp' : p + 20 ≤ 4294967290 := by omega
    have ih' : IHp S a len cap zs b o ccap ks ((((d + 1 : Nat) : Int)) - 1) d := by
      rw [show (((d + 1 : Nat) : Int)) - 1 = (d : Int) by omega]; exact ih (by omega)
    have hD : (1 : Int) ≤ ((d + 1 : Nat) : Int) := by omega
    have hD2 : ((d + 1 : Nat) : Int) ≤ 100 := by omega
    obtain ⟨h0, h1⟩ := nm_bd (sq zs len p) 8 (by decide)
    have hr : nm (sq zs len p) 8 = 0 ∨ nm (sq zs len p) 8 = 1 ∨ nm (sq zs len p) 8 = 2 ∨ nm (sq zs len p) 8 = 3 ∨ nm (sq zs len p) 8 = 4 ∨ nm (sq zs len p) 8 = 5 ∨ nm (sq zs len p) 8 = 6 ∨ nm (sq zs len p) 8 = 7 := by omega
    rcases hr with hr | hr | hr | hr | hr | hr | hr | hr
    · exact mkA0 S a len cap zs p b o ccap ks _ (d + 1) w h hp' hc hb hn hn1 hk hD hr
    · exact mkA1 S a len cap zs p b o ccap ks _ (d + 1) w h hp' hc hb hn hn1 hk hD hr
    · exact mkB2 S a len cap zs p b o ccap ks _ (d + 1) w h hp' hc hb hn hn1 hk hD hr
    · exact mkC3 S a len cap zs p b o ccap ks _ (d + 1) w h hp' hc hb hn hn1 hk hD hr
    · exact mkN4 S a len cap zs p b o ccap ks _ d w h hp' hc hb hn hn1 hk hD hr hD2 (by omega) ih'
    · exact mkD5 S a len cap zs p b o ccap ks _ d w h hp' hc hb hn hn1 hk hD hr hD2 (by omega) ih'
    · exact mkD6 S a len cap zs p b o ccap ks _ d w h hp' hc hb hn hn1 hk hD hr hD2 (by omega) ih'
    · exact mkD7 S a len cap zs p b o ccap ks _ d w h hp' hc hb hn hn1 hk hD hr hD2 (by omega) ih'
/-- The maker's call. -/
theorem makePred (S : Nat) (a : Option Addr) (len cap : Nat) (zs : List Int) (p b o ccap : Nat) (ks : List Int) (d : Nat) (hd : d ≤ 100) (w : World) (h : SeqAt S a len cap zs p w) (hp : p + 20 * 4 ^ d ≤ 4294967290) (hc : IntsIs w (.slice (some ⟨b, o, none⟩) ks.length ccap) ks) (hb : b ≠ S) (hn : 0 < ks.length) (hn1 : ks.length ≤ 16) (hk : ∀ k ∈ ks, k = 1 ∨ k = 2 ∨ k = 3) :
    Calls Try.prog 6 #[.pointer (some ⟨S, 0, none⟩), .slice (some ⟨b, o, none⟩) ks.length ccap, .int .i64 d] w (PdMade S a len cap zs ks d p w) := makeAt S a len cap zs b o ccap ks hb hn hn1 hk d hd p w h hp hc
end Go.Proofs.Ytiphnbpkliglcaa
