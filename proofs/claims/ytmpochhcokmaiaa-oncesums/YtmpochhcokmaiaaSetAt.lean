/- The statements' sets, their columns' list laid first; lists that are read. -/
import Derived.Test.YtmpochhcokmaiaaNewAll
import Derived.Test.YtmpochhcokmaiaaS3Plain
import Derived.Test.YtmpochhcokmaiaaZAdd
namespace Go.Proofs.Ytmpochhcokmaiaa
open Go.RowKit Go.Sort
set_option maxRecDepth 100000
set_option linter.unusedVariables false

theorem cols_newJ (w : World) (ks : List Int) (t : TypeId) : ColsAt w.heap.size ks (w.alloc (.cells (ks.map (Value.int .i64)).toArray t)) := by
  refine ⟨by simp, fun i hi => ?_⟩
  rw [World.cell?_alloc_at _ _ _ _ rfl]
  simp [hi]
/-- What a set's maker leaves. -/
def SetEnd (S : Nat) (a : Option Addr) (len cap : Nat) (zs : List Int) (p T most : Nat) (V : World) (G : List Ent → Prop) (e : Ending) (w' : World) : Prop :=
  ∃ v z p', e = .returned v ∧ G z ∧ EntsNew V.heap.size z v w' ∧ p' ≤ p + 1 + T * most ∧ SeqAt S a len cap zs p' w' ∧ But S V w'
theorem kindsJ {ks : List Int} (h : ∀ k ∈ ks, k = 0 ∨ k = 1 ∨ k = 2 ∨ k = 3) : ∀ i (h : i < ks.length), ks[i] = 0 ∨ ks[i] = 1 ∨ ks[i] = 2 ∨ ks[i] = 3 := fun i hi => h _ (List.getElem_mem hi)
theorem setAt (S : Nat) (a : Option Addr) (len cap : Nat) (zs : List Int) (p : Nat) (ks : List Int) (n most : Nat) (hL : ks.length = n) (hk : ∀ k ∈ ks, k = 0 ∨ k = 1 ∨ k = 2 ∨ k = 3) (V : World) (h : SeqAt S a len cap zs p V) (hp : p + 1 + (4 * n + 2) * most ≤ 4294967280) (hmost : most ≤ 65535) (hn : n ≤ 65536) :
    Calls Try.prog 6 #[.pointer (some ⟨S, 0, none⟩), .slice (some ⟨V.heap.size, 0, none⟩) n n, .int .i64 most] (V.alloc (.cells (ks.map (Value.int .i64)).toArray 3))
      (SetEnd S a len cap zs p (4 * n + 2) most V fun z => S3 (100 * most) most n z ∧ ∀ e ∈ z, OkR ks e.1) := by
  have hS := h.2.2.2.1
  refine (makeSet S a len cap zs p V.heap.size n n ks most _ (h.on one_box) hp hmost (cols_newJ V ks 3) (by omega) hn (by omega) (kindsJ hk)).mono ?_
  rintro e w' ⟨v, z, rfl, ⟨p', iz, ez, lz, nz, hp', seq', but'⟩, bz, kz⟩
  exact ⟨v, z, p', rfl, ⟨⟨iz, fun r => by have := bz r; omega, lz, fun e he => (kz e he).1⟩, fun e he => (kz e he).2⟩, nz.mono (by simp), hp', seq', (But.of_below one_box).trans but'⟩
/-- Lists that are read. -/
def AllIs (L : List (List Ent × Value)) (V : World) : Prop := ∀ x ∈ L, EntsIs V x.2 x.1
theorem AllIs.on {L : List (List Ent × Value)} {V V' : World} (h : AllIs L V) (hb : Below V.heap.size V V') : AllIs L V' := fun x hx => (h x hx).on hb
theorem AllIs.add {L : List (List Ent × Value)} {V : World} (h : AllIs L V) {l : List Ent} {v : Value} (he : EntsIs V v l) : AllIs ((l, v) :: L) V := fun x hx => by
  rcases List.mem_cons.1 hx with rfl | hx
  · exact he
  · exact h x hx
theorem AllIs.at {L : List (List Ent × Value)} {V : World} (h : AllIs L V) (i : Nat) {l : List Ent} {v : Value} (hi : L[i]? = some (l, v)) : EntsIs V v l := h (l, v) (List.mem_of_getElem? hi)
theorem AllNew.is {B : Nat} {L : List (List Ent × Value)} {V : World} (h : AllNew B L V) : AllIs L V := fun x hx => (h x hx).ents
theorem addSmall {B C m k n : Nat} {a b : List Ent} (ha : S3 B m n a) (hb : S3 C k n b) (hBC : B + C ≤ 1000000) (hmk : m + k ≤ 65536) (va vb : Value) (V : World) (ea : EntsIs V va a) (eb : EntsIs V vb b) :
    Calls Try.prog 7 #[va, vb] V fun e w' => ∃ v, e = .returned (.tuple #[v, .int .i64 0]) ∧ EntsIs w' v (mkZ (a ++ b)) ∧ Below V.heap.size V w' :=
  refAdd a b va vb V (Nat.le_trans (Nat.add_le_add ha.2.2.1 hb.2.2.1) hmk) (fun e he => inI_small (by have := ha.small e he; omega)) (fun e he => inI_small (by have := hb.small e he; omega)) ea eb 0 (by rw [(ha.add hb hBC).1]; rfl)
end Go.Proofs.Ytmpochhcokmaiaa
