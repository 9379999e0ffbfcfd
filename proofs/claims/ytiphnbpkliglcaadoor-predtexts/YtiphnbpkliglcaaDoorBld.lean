/- The library's strings.Builder at this program's numbers, and a call's own builder that holds bytes: WriteByte, WriteString, String. -/
import Derived.Shelf.Strings.BuilderK
import Derived.Test.YtiphnbpkliglcaaDoorProg
namespace Go.Proofs
open Go.Shelf Go.RowKit
def Tryd.bld_ren : Go.Shelf.Ren := ⟨fun | 166 => 34 | 167 => 49 | 169 => 26 | 240 => 44 | 276 => 55 | n => n, fun | 0 => 0 | 3 => 3 | 4 => 4 | 5 => 5 | 9 => 9 | 20 => 20 | 37 => 59 | 70 => 58 | 72 => 61 | 75 => 30 | 80 => 63 | 127 => 77 | 164 => 96 | n => n, fun | n => n⟩
theorem Tryd.bld167 : Go.Proofs.Lays.n167 Tryd.prog Tryd.bld_ren := {
  mixed := by kernel_rfl
  f167 := Tryd.func49.trans (congrArg some (by kernel_rfl))
  f240 := Tryd.func44.trans (congrArg some (by kernel_rfl))
  f276 := Tryd.func55.trans (congrArg some (by kernel_rfl))
  t0 := Tryd.underlying0
  a0 := Tryd.isAgg0
  z0 := Tryd.sizeOf0
  v0 := Tryd.zeroValue0
  t4 := Tryd.underlying4
  a4 := Tryd.isAgg4
  z4 := Tryd.sizeOf4
  v4 := Tryd.zeroValue4
  t5 := Tryd.underlying5
  a5 := Tryd.isAgg5
  z5 := Tryd.sizeOf5
  v5 := Tryd.zeroValue5
  t9 := Tryd.underlying9
  a9 := Tryd.isAgg9
  z9 := Tryd.sizeOf9
  v9 := Tryd.zeroValue9
  t20 := Tryd.underlying20
  a20 := Tryd.isAgg20
  z20 := Tryd.sizeOf20
  v20 := Tryd.zeroValue20
  t37 := Tryd.underlying59
  a37 := Tryd.isAgg59
  z37 := Tryd.sizeOf59
  v37 := Tryd.zeroValue59
  t70 := Tryd.underlying58
  a70 := Tryd.isAgg58
  z70 := Tryd.sizeOf58
  v70 := Tryd.zeroValue58
  t72 := Tryd.underlying61
  a72 := Tryd.isAgg61
  z72 := Tryd.sizeOf61
  v72 := Tryd.zeroValue61
  t75 := Tryd.underlying30
  a75 := Tryd.isAgg30
  z75 := Tryd.sizeOf30
  v75 := Tryd.zeroValue30
  t164 := Tryd.underlying96
  a164 := Tryd.isAgg96
  z164 := Tryd.sizeOf96
  v164 := Tryd.zeroValue96 }
theorem Tryd.bld166 : Go.Proofs.Lays.n166 Tryd.prog Tryd.bld_ren := {
  mixed := by kernel_rfl
  f166 := Tryd.func34.trans (congrArg some (by kernel_rfl))
  f240 := Tryd.func44.trans (congrArg some (by kernel_rfl))
  f276 := Tryd.func55.trans (congrArg some (by kernel_rfl))
  t0 := Tryd.underlying0
  a0 := Tryd.isAgg0
  z0 := Tryd.sizeOf0
  v0 := Tryd.zeroValue0
  t3 := Tryd.underlying3
  a3 := Tryd.isAgg3
  z3 := Tryd.sizeOf3
  v3 := Tryd.zeroValue3
  t4 := Tryd.underlying4
  a4 := Tryd.isAgg4
  z4 := Tryd.sizeOf4
  v4 := Tryd.zeroValue4
  t9 := Tryd.underlying9
  a9 := Tryd.isAgg9
  z9 := Tryd.sizeOf9
  v9 := Tryd.zeroValue9
  t20 := Tryd.underlying20
  a20 := Tryd.isAgg20
  z20 := Tryd.sizeOf20
  v20 := Tryd.zeroValue20
  t37 := Tryd.underlying59
  a37 := Tryd.isAgg59
  z37 := Tryd.sizeOf59
  v37 := Tryd.zeroValue59
  t70 := Tryd.underlying58
  a70 := Tryd.isAgg58
  z70 := Tryd.sizeOf58
  v70 := Tryd.zeroValue58
  t72 := Tryd.underlying61
  a72 := Tryd.isAgg61
  z72 := Tryd.sizeOf61
  v72 := Tryd.zeroValue61
  t75 := Tryd.underlying30
  a75 := Tryd.isAgg30
  z75 := Tryd.sizeOf30
  v75 := Tryd.zeroValue30
  t164 := Tryd.underlying96
  a164 := Tryd.isAgg96
  z164 := Tryd.sizeOf96
  v164 := Tryd.zeroValue96 }
theorem Tryd.bld169 : Go.Proofs.Lays.n169 Tryd.prog Tryd.bld_ren := {
  mixed := by kernel_rfl
  f169 := Tryd.func26.trans (congrArg some (by kernel_rfl))
  t0 := Tryd.underlying0
  a0 := Tryd.isAgg0
  z0 := Tryd.sizeOf0
  v0 := Tryd.zeroValue0
  t3 := Tryd.underlying3
  a3 := Tryd.isAgg3
  z3 := Tryd.sizeOf3
  v3 := Tryd.zeroValue3
  t9 := Tryd.underlying9
  a9 := Tryd.isAgg9
  z9 := Tryd.sizeOf9
  v9 := Tryd.zeroValue9
  t37 := Tryd.underlying59
  a37 := Tryd.isAgg59
  z37 := Tryd.sizeOf59
  v37 := Tryd.zeroValue59
  t70 := Tryd.underlying58
  a70 := Tryd.isAgg58
  z70 := Tryd.sizeOf58
  v70 := Tryd.zeroValue58
  t72 := Tryd.underlying61
  a72 := Tryd.isAgg61
  z72 := Tryd.sizeOf61
  v72 := Tryd.zeroValue61
  t127 := Tryd.underlying77
  a127 := Tryd.isAgg77
  z127 := Tryd.sizeOf77
  v127 := Tryd.zeroValue77 }
theorem Tryd.bldX : Builder.Extra Tryd.prog Tryd.bld_ren := {
  sizeBuilder := by kernel_rfl
  liesBuilder := by kernel_rfl
  t5 := Tryd.underlying5
  a5 := Tryd.isAgg5
  z5 := Tryd.sizeOf5
  v5 := Tryd.zeroValue5
  infoByte := by kernel_rfl
  cellsByte := by kernel_rfl
  sizeByte := by kernel_rfl
  neB5 := by decide }
/-- The call's own builder, the first block that it made, holds these bytes. -/
def Tryd.BldHas (bs : List UInt8) (w w' : World) : Prop := Lib.IsBuilderF 61 5 w.heap.size w.heap.size (Lib.byteCells bs) w' ∧ Below w.heap.size w w'
theorem Tryd.bldAt_on {T e : TypeId} {B b : Nat} {p : Value} {bs : List Value} {w1 w2 : World} (h : Lib.BuilderAtF T e B b p bs w1) (k : Below w1.heap.size w1 w2) : Lib.BuilderAtF T e B b p bs w2 := by
  have hlt := h.lt
  obtain ⟨hB, v, hb, hown, hne⟩ := h
  refine ⟨hB, v, by rw [k.block b hlt]; exact hb, ⟨hown.1, ?_⟩, hne⟩
  rcases hown.2 with hn | ⟨g, cap, cur, fz, hv, h1, h2, h3⟩
  · exact .inl hn
  · exact .inr ⟨g, cap, cur, fz, hv, h1, by rw [k.block g (Array.getElem?_eq_some_iff.1 h2).1]; exact h2, h3⟩
theorem Tryd.BldHas.on {bs : List UInt8} {w w1 w2 : World} (h : Tryd.BldHas bs w w1) (k : Below w1.heap.size w1 w2) : Tryd.BldHas bs w w2 :=
  ⟨h.1.elim (fun x => .inl (Tryd.bldAt_on x k)) (fun x => .inr (Tryd.bldAt_on x k)), h.2.trans (k.mono h.2.size)⟩
theorem Tryd.BldHas.new (w : World) : Tryd.BldHas [] w (w.alloc (.cells #[.pointer none, .slice none 0 0] 61)) :=
  ⟨Lib.IsBuilderF.of (Lib.fresh_isBuilder _ _ w), (Below.refl _ _).alloc (Nat.le_refl _) _⟩
/-- A box of the call's that is no row of bytes stands as it stood. -/
def Tryd.Kept (k : Nat) (w w' : World) : Prop := ∀ c t, w.heap[k]? = some (.cells c t (0, 0)) → t ≠ 5 → w'.heap[k]? = some (.cells c t (0, 0))
theorem Tryd.kept_of {b k : Nat} {w w' : World} (h : Lib.OthersKept 5 (some b) w w') (hk : k ≠ b) : Tryd.Kept k w w' :=
  fun c t e ht => h k _ e (fun e' => hk (by simpa using e')) (fun c' fz e' => ht (by cases e'; rfl))
theorem Tryd.writeByte (bs : List UInt8) (c : UInt8) (w w1 : World) (h : Tryd.BldHas bs w w1) (hlen : bs.length ≤ 140737488355327) :
    Calls Tryd.prog 49 #[.pointer (some ⟨w.heap.size, 0, none⟩), .int .u8 c.toNat] w1 fun e w' => e = .returned .nilIface ∧ Tryd.BldHas (bs ++ [c]) w w' := by
  refine (Any.Builder_WriteByte_k Tryd.bld167 Tryd.bldX w.heap.size w.heap.size (Lib.byteCells bs) c.toNat w1 h.1 (by rw [Lib.byteCells_length]; omega) h.2.size).mono ?_
  rintro e w2 ⟨rfl, h1, h2, _⟩
  exact ⟨rfl, .inr (by rw [Lib.byteCells_append]; exact h1), h.2.trans h2⟩
theorem Tryd.writeByteK (bs : List UInt8) (c : UInt8) (w w1 : World) (h : Tryd.BldHas bs w w1) (hlen : bs.length ≤ 140737488355327) :
    Calls Tryd.prog 49 #[.pointer (some ⟨w.heap.size, 0, none⟩), .int .u8 c.toNat] w1 fun e w' => e = .returned .nilIface ∧ Tryd.BldHas (bs ++ [c]) w w' ∧ (∀ k, k ≠ w.heap.size → Tryd.Kept k w1 w') ∧ Below w.heap.size w1 w' := by
  refine (Any.Builder_WriteByte_k Tryd.bld167 Tryd.bldX w.heap.size w.heap.size (Lib.byteCells bs) c.toNat w1 h.1 (by rw [Lib.byteCells_length]; omega) h.2.size).mono ?_
  rintro e w2 ⟨rfl, h1, h2, h3⟩
  exact ⟨rfl, ⟨.inr (by rw [Lib.byteCells_append]; exact h1), h.2.trans h2⟩, fun k hk => Tryd.kept_of h3 hk, h2⟩
theorem Tryd.writeString (bs : List UInt8) (s : ByteArray) (w w1 : World) (h : Tryd.BldHas bs w w1) (hlen : bs.length + s.size ≤ 140737488355328) :
    Calls Tryd.prog 34 #[.pointer (some ⟨w.heap.size, 0, none⟩), .string s] w1 fun e w' => e = .returned (.tuple #[.int .i64 s.size, .nilIface]) ∧ Tryd.BldHas (bs ++ s.data.toList) w w' ∧ ∀ k, k ≠ w.heap.size → Tryd.Kept k w1 w' := by
  refine (Any.Builder_WriteString_k Tryd.bld166 Tryd.bldX w.heap.size w.heap.size (Lib.byteCells bs) s w1 h.1 (by rw [Lib.byteCells_length]; exact hlen) h.2.size).mono ?_
  rintro e w2 ⟨rfl, h1, h2, h3⟩
  exact ⟨rfl, ⟨.inr (by rw [Lib.byteCells_append, ← Lib.strCells_eq]; exact h1), h.2.trans h2⟩, fun k hk => Tryd.kept_of h3 hk⟩
theorem Tryd.writeStringK (bs : List UInt8) (s : ByteArray) (w w1 : World) (h : Tryd.BldHas bs w w1) (hlen : bs.length + s.size ≤ 140737488355328) :
    Calls Tryd.prog 34 #[.pointer (some ⟨w.heap.size, 0, none⟩), .string s] w1 fun e w' => e = .returned (.tuple #[.int .i64 s.size, .nilIface]) ∧ Tryd.BldHas (bs ++ s.data.toList) w w' ∧ (∀ k, k ≠ w.heap.size → Tryd.Kept k w1 w') ∧ Below w.heap.size w1 w' := by
  refine (Any.Builder_WriteString_k Tryd.bld166 Tryd.bldX w.heap.size w.heap.size (Lib.byteCells bs) s w1 h.1 (by rw [Lib.byteCells_length]; exact hlen) h.2.size).mono ?_
  rintro e w2 ⟨rfl, h1, h2, h3⟩
  exact ⟨rfl, ⟨.inr (by rw [Lib.byteCells_append, ← Lib.strCells_eq]; exact h1), h.2.trans h2⟩, fun k hk => Tryd.kept_of h3 hk, h2⟩
theorem Tryd.builderString (bs : List UInt8) (w w1 : World) (h : Tryd.BldHas bs w w1) :
    Calls Tryd.prog 26 #[.pointer (some ⟨w.heap.size, 0, none⟩)] w1 fun e w' => e = .returned (.string ⟨bs.toArray⟩) ∧ Below w.heap.size w w' := by
  refine (Any.Builder_String_any_k Tryd.bld169 Tryd.bldX w.heap.size w.heap.size bs w1 h.1 h.2.size).mono ?_
  rintro e w2 ⟨rfl, _, h2, _⟩
  exact ⟨rfl, h.2.trans h2⟩
end Go.Proofs
