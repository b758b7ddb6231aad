/-
  The program's hasBeside, isBarred, step.
-/
import Derived.Test.YthjgldjjplcncaaDoorGrdb
namespace Go.Proofs.YthjgldjjplcncaaDoor.Grd
open Go Go.Lib Go.RowKit

set_option maxHeartbeats 400000 in
theorem hasBeside_any (g : Gr) (p : Ad) (hz : Sz g) (i way : Nat) (hi : i < g.n) (hway : way < 4) (w : World) (hw : Wy w) (hR : ReadsB w p.a1 g.B) :
    Calls Tryd.prog 22 #[gv g p, .int .i64 i, .int .i64 way] w fun e w' => e = .returned (.bool (g.bes i way).isSome) ∧ Below w.heap.size w w' := by
  have cB := fun W h => beside_any g p hz i way hi hway W (hw.below hw.size h) (hR.below h)
  unfold gv opt at cB
  unfold gv
  go_enter Tryd.func22, Tryd.ntmps22
  go_wp2_with (go_at_call 31; refine (cB _ (below_box w _)).mono ?_; rintro e w' ⟨rfl, hb⟩)
  go_ret
  exact ⟨rfl, (below_box w _).trans (hb.mono (below_box w _).size)⟩

end Go.Proofs.YthjgldjjplcncaaDoor.Grd
