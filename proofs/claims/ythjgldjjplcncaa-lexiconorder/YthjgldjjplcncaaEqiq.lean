/-
  Two lists of numbers compared (the library's slices.Equal, the document's SameInts): true just where they are the same.
-/
import Derived.Test.YthjgldjjplcncaaNew
import Derived.Test.YthjgldjjplcncaaGxa
namespace Go.Proofs.Ythjgldjjplcncaa.Utf
open Go Go.Lib Go.RowKit

end Go.Proofs.Ythjgldjjplcncaa.Utf
