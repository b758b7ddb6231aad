/-
  The law on the class, the capital and the plain form of a rune walked: for every rune that an int32 can be it answers true.
-/
import Derived.Test.YtjfkihljgicijaaAwk2
import Derived.Test.YtjfkihljgicijaaRefc
import Derived.Test.YtjfkihljgicijaaRefd
import Derived.Test.YtjfkihljgicijaaRefe
namespace Go.Proofs.Ytjfkihljgicijaa.Utf
open Go Go.Lib Go.RowKit

set_option maxHeartbeats 1000000 in
theorem foldRunes_walk (r : Int) (w : World) (h0 : -2147483648 ≤ r) (h1 : r ≤ 2147483647) :
    Calls Try.prog 3 #[.int .i32 r] w fun e w' => e = .returned (.bool true) ∧ Below w.heap.size w w' := by
  have cA := awake2_any w
  have c1 := fun w => class_any r w
  have c2 := fun w => refClass_any r w h0 h1
  have c3 := fun w => upper_any r w h0 h1
  have c4 := fun w => refUpper_any r w h0 h1
  have c5 := fun w => plain_any r w
  have c6 := fun w => refPlain_any r w h0 h1
  generalize cls r = C at *
  generalize up r = U at *
  generalize pl r = P at *
  go_enter Try.func3, Try.ntmps3
  go_wp2_with fail
  refine cA.mono ?_
  rintro e w1 ⟨rfl, hb1⟩
  go_wp2_with (first
    | (go_at_call 9; refine (c1 _).mono ?_; rintro e w' ⟨rfl, hw⟩; obtain rfl := hw.symm)
    | (go_at_call 10; refine (c2 _).mono ?_; rintro e w' ⟨rfl, hw⟩; obtain rfl := hw.symm)
    | (go_at_call 11; refine (c3 _).mono ?_; rintro e w' ⟨rfl, hw⟩; obtain rfl := hw.symm)
    | (go_at_call 12; refine (c4 _).mono ?_; rintro e w' ⟨rfl, hw⟩; obtain rfl := hw.symm)
    | (go_at_call 13; refine (c5 _).mono ?_; rintro e w' ⟨rfl, hw⟩; obtain rfl := hw.symm))
  refine (c6 _).mono ?_
  rintro e w6 ⟨rfl, hb6⟩
  go_wp2
  go_ret
  exact ⟨rfl, hb1.trans (hb6.mono hb1.size)⟩
end Go.Proofs.Ytjfkihljgicijaa.Utf
