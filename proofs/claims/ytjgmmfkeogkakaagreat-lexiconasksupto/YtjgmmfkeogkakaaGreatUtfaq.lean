/-
  What the program's calls on texts come to: Next, Encode, Count, for every text, place and number, in every world that holds the two tables of unicode/utf8.
-/
import Derived.Test.YtjgmmfkeogkakaaGreatProg
import Derived.Test.YtjgmmfkeogkakaaGreatGutf
import Derived.WalkKit
import Derived.Lib.Walk
import Derived.Lib.RuneCountTail
import Derived.Laws.RangeString
import Derived.Laws.RangeAny
import Derived.LoopTactic
import Derived.Lib.OthersKept
import Derived.WalkSmall
import Derived.Laws.BytesArg
import Derived.Laws.IdiomStrings
import Derived.Deep.DeepFit
namespace Go.Proofs.YtjgmmfkeogkakaaGreat.Utf
open Go Go.Lib Go.RowKit

theorem encode_any (r : Int) (w : World) :
    Calls Tryz.prog 85 #[.int .i32 r] w fun e w' => e = .returned (.string (Utf8.encode r)) ∧ w' = w := by
  go_enter Tryz.func85, Tryz.ntmps85
  go_wp2
  go_ret
  exact ⟨rfl, rfl⟩

theorem awake_next1 : nextR ⟨#[233, 195, 169]⟩ 1 = 233 := by decide
theorem awake_next2 : nextW ⟨#[233, 195, 169]⟩ 1 = 2 := by decide
theorem awake_enc : Utf8.encode 8364 = ⟨#[226, 130, 172]⟩ := by decide
theorem awake_count : Lib.runeCount ⟨#[97, 255, 98]⟩ = 3 := by decide

end Go.Proofs.YtjgmmfkeogkakaaGreat.Utf
