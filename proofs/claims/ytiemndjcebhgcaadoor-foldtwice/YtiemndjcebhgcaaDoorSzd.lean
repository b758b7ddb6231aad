/-
  The sizes of arguments, in the first form.
-/
import Derived.Test.YtiemndjcebhgcaaDoorRows
import Derived.SizedLaws
namespace Go.Proofs.YtiemndjcebhgcaaDoor.Utf
end Go.Proofs.YtiemndjcebhgcaaDoor.Utf
