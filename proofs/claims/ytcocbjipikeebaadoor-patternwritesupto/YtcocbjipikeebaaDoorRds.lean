/-
  What it is that a slice value's cells read as a list.
-/
import Derived.Test.YtcocbjipikeebaaDoorProg
import Derived.WalkKit
import Derived.Lib.Walk
import Derived.LoopTactic
import Derived.BigQuiet
import Derived.Deep.QuietTactic
import Derived.WalkSmall
namespace Go.Proofs.YtcocbjipikeebaaDoor.Utf
open Go Go.Lib Go.RowKit

/-- A slice value whose cells read as the list. -/
def Reads (W : World) (ao : Option Addr) (xs : List Value) : Prop := ∀ j (hj : j < xs.length), ∃ g, ao = some ⟨g, 0, none⟩ ∧ g < W.heap.size ∧ W.cell? ⟨g, j, none⟩ = some xs[j]
theorem Reads.below {W W' : World} {ao : Option Addr} {xs : List Value} (h : Reads W ao xs) (hb : Below W.heap.size W W') : Reads W' ao xs := fun j hj => by
  obtain ⟨g, h1, h2, h3⟩ := h j hj
  exact ⟨g, h1, Nat.lt_of_lt_of_le h2 hb.size, (hb.cell (p := ⟨g, j, none⟩) h2).trans h3⟩

end Go.Proofs.YtcocbjipikeebaaDoor.Utf
