/-
  The document's Order: the order of words.
-/
import Derived.Test.YtcocbjipikeebaaDoorGxt
import Derived.Deep.RegionWith
namespace Go.Proofs.YtcocbjipikeebaaDoor.Utf
open Go Go.Lib Go.RowKit

end Go.Proofs.YtcocbjipikeebaaDoor.Utf
