/-
  A slice of numbers that came in, in the first form: that a nil one has no room.
-/
import Derived.Test.YtlgbpimmhnncgaaDoorArgs4
namespace Go.Proofs.YtlgbpimmhnncgaaDoor.Msk
open Go Go.Lib Go.RowKit Go.ChangeShapes Go.WideShapes Go.ChangeAt

theorem open_intArg2 {H : Type} {enc : TypeId × Value → H} {W : World} {base : Nat} {v : Value} {d : DataW H} {ps : List MemPlace} (hval : Value.okWide Tryd.prog W .any base 22 v) (h : DataW.Trod enc Tryd.prog W 0 (fun _ => true) true 22 v d ps) :
    ∃ (zs : List Int) (ao : Option Addr) (cap : Nat), v = .slice ao zs.length cap ∧ (zs = [] ∨ ∃ elems spare, d = .slice elems spare ∧ zs.length = elems.length) ∧ ReadsI W ao zs ∧ (ao = none → cap = 0) := by
  obtain ⟨zs, ao, cap, rfl, h1, h2, _⟩ := open_intArg1 hval h
  refine ⟨zs, ao, cap, rfl, h1, h2, fun ha => ?_⟩
  subst ha
  obtain ⟨fuel, hf⟩ := h
  rcases open_ints Tryd.underlying22 Tryd.underlying3 cells3 hf with ⟨hcs, _⟩ | ⟨a, len', cap', zs', hcs, _⟩
  · simp [Value.cells] at hcs
    exact hcs.2
  · simp [Value.cells] at hcs
end Go.Proofs.YtlgbpimmhnncgaaDoor.Msk
