/-
  The document's Blank, of any sides.
-/
import Derived.Test.YtilokjcbkhhifaaDoorGrdk
namespace Go.Proofs.YtilokjcbkhhifaaDoor.Grd
open Go Go.Lib Go.RowKit

end Go.Proofs.YtilokjcbkhhifaaDoor.Grd
