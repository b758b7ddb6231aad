/-
  The document's Join walked: the letters' texts one behind the other, or an error.
-/
import Derived.Test.YtcocbjipikeebaaDoorGsj
import Derived.Test.YtcocbjipikeebaaDoorNewq
import Derived.Test.YtcocbjipikeebaaDoorGxa
namespace Go.Proofs.YtcocbjipikeebaaDoor.Utf
open Go Go.Lib Go.RowKit

theorem ba_cat (a b : ByteArray) : (a ++ b).data.toList = a.data.toList ++ b.data.toList := by
  rw [ByteArray.data_append, Array.toList_append]

end Go.Proofs.YtcocbjipikeebaaDoor.Utf
