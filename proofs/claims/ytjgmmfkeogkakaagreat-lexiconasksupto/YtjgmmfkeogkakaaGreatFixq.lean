/-
  The program's Fix: what is written for the runes at the text's places, one behind the other, for every text short enough for a builder.
-/
import Derived.Test.YtjgmmfkeogkakaaGreatSeqq
import Derived.Test.YtjgmmfkeogkakaaGreatGbl
import Derived.Test.YtjgmmfkeogkakaaGreatUtfwq
namespace Go.Proofs.YtjgmmfkeogkakaaGreat.Utf
open Go Go.Lib Go.RowKit Go.Shelf
attribute [local go_sem] Oper.semAt_some

/-- A builder that the call has made stands where only what is no cells turns. -/
theorem builderAtF_kept {T e : TypeId} {B b : Nat} {p : Value} {bs : List Value} {W W' : World} {row : Option Nat} (h : Lib.BuilderAtF T e B b p bs W) (hg : W.grownBy W' row)
    (hr : ∀ r, row = some r → ∃ o : Obj, W.heap[r]? = some o ∧ o.isCells = false) : Lib.BuilderAtF T e B b p bs W' := by
  obtain ⟨hB, v, hbk, hown, hne⟩ := h
  have hlt : b < W.heap.size := (Array.getElem?_eq_some_iff.1 hbk).1
  refine ⟨hB, v, ?_, hown.kept hg ?_, hne⟩
  · rw [hg.block b hlt (fun e => by obtain ⟨o, ho, hc⟩ := hr b e.symm; rw [hbk] at ho; cases ho; cases hc)]
    exact hbk
  · cases hv : v.ownBlock with
    | none => exact .inl rfl
    | some g =>
      refine .inr (fun e => ?_)
      obtain ⟨o, ho, hc⟩ := hr g e.symm
      obtain ⟨c, fz, hcc⟩ := Lib.ownsRowF_kind hown g hv
      rw [hcc] at ho; cases ho; cases hc
theorem isBuilderF_kept {T e : TypeId} {B b : Nat} {bs : List Value} {W W' : World} {row : Option Nat} (h : Lib.IsBuilderF T e B b bs W) (hg : W.grownBy W' row)
    (hr : ∀ r, row = some r → ∃ o : Obj, W.heap[r]? = some o ∧ o.isCells = false) : Lib.IsBuilderF T e B b bs W' :=
  h.elim (fun x => .inl (builderAtF_kept x hg hr)) (fun x => .inr (builderAtF_kept x hg hr))
theorem builder_own {α : Type} (T e : TypeId) (B b : Nat) (f : List α → List Value) : Own (fun pre W => Lib.IsBuilderF T e B b (f pre) W) := fun _ _ _ _ hs hg hr => isBuilderF_kept hs hg hr
theorem isBuilderF_new (T e : TypeId) (w : World) : Lib.IsBuilderF T e w.heap.size w.heap.size [] (w.alloc (.cells #[.pointer none, .slice none 0 0] T)) :=
  .inl ⟨Nat.le_refl _, .slice none 0 0, World.alloc_heap_new w _, World.ownsRowF_nil _ _ _ _, by simp [Value.ownBlock]⟩
theorem strCells_bytes (s : ByteArray) : Lib.strCells s = Lib.byteCells s.data.toList := by
  simp [Lib.strCells, Lib.byteCells]
theorem byteCells_append (a b : List UInt8) : Lib.byteCells (a ++ b) = Lib.byteCells a ++ Lib.byteCells b := by simp [Lib.byteCells]
end Go.Proofs.YtjgmmfkeogkakaaGreat.Utf
