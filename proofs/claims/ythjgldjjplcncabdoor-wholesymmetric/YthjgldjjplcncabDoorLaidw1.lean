/-
  What the four ways, the one listed variable of a row, give, and a world in which they are laid, for the witness.
-/
import Derived.Test.YthjgldjjplcncabDoorLaid7
namespace Go.Proofs.YthjgldjjplcncabDoor.Wlg
open Go Go.Lib Go.RowKit Go.ChangeShapes Go.WideShapes Go.ChangeAt Grd

theorem wy_of {W : World} (h : laidMetH Tryd.prog [("rebus/grid.ways", Rows.laid_rebus_grid_ways)] W) : Wy W := by
  rw [MakeChecks.laidMetH_plain _ _ _ (by kernel_rfl)] at h
  exact wy_of_mem (List.mem_cons_self ..) h
theorem laid_met (os : Os) (args : Array Value) : laidMet Tryd.prog [("rebus/grid.ways", Rows.laid_rebus_grid_ways)] ((World.laidAll Tryd.prog os [("rebus/grid.ways", Rows.laid_rebus_grid_ways)]).forCall (fun _ _ => 0) ⟨#[], args, []⟩).memory :=
  laidMet_laidAll _ (by kernel_rfl) (by kernel_rfl)
end Go.Proofs.YthjgldjjplcncabDoor.Wlg
