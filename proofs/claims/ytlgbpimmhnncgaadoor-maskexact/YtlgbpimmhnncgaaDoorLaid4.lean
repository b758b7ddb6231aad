/-
  What the listed variable of a row gives (math/bits's table), and a world in which it is laid, for the witness.
-/
import Derived.Test.YtlgbpimmhnncgaaDoorMska
import Derived.Test.YtlgbpimmhnncgaaDoorCards
import Derived.Test.YtlgbpimmhnncgaaDoorTie
import Derived.ProofKit
import Derived.OpenShut
import Derived.Deep.DeepHandedRow
import Derived.Deep.DeepWitnessRowRef
import Derived.Lib.LaidIn
import Derived.Lib.LaidTab
import Derived.Lay
import Derived.PinnedBridge
namespace Go.Proofs.YtlgbpimmhnncgaaDoor.Msk
open Go Go.Lib Go.RowKit Go.ChangeShapes Go.WideShapes Go.ChangeAt

theorem own : ownKnob Tryd.prog.godebug = none := by kernel_rfl
theorem tabData_eq : Rows.laid_math_bits_deBruijn64tab = Lib.tabData (H := Unit) .u8 (deBruijn64tab.map fun n : Nat => (n : Int)) := by kernel_rfl
/-- WHAT THE ROW's LIST GIVES: the table. -/
theorem tab_of {W : World} (h : laidMetH Tryd.prog [("math/bits.deBruijn64tab", Rows.laid_math_bits_deBruijn64tab)] W) : Tab W := by
  rw [tabData_eq] at h
  rw [MakeChecks.laidMetH_plain _ _ _ (by kernel_rfl)] at h
  have ht : TabIs Tryd.prog W "math/bits.deBruijn64tab" .u8 (deBruijn64tab.map fun n : Nat => (n : Int)) :=
    tabIs_of_head (g := 0) (t := 46) (e := 5) (n := 64) (by kernel_rfl) (by kernel_rfl) (by kernel_rfl) (by kernel_rfl) (by kernel_rfl) (by kernel_rfl) h
  intro j hj
  have := ht.cell (g := 0) (by kernel_rfl) j (by simp [deBruijn64tab]; omega)
  rw [this]
  congr 2
  have hl : j < deBruijn64tab.length := hj
  simp [List.getD_eq_getElem?_getD, List.getElem?_eq_getElem hl]
theorem laid_met (os : Os) (args : Array Value) : laidMet Tryd.prog [("math/bits.deBruijn64tab", Rows.laid_math_bits_deBruijn64tab)] ((World.laidAll Tryd.prog os [("math/bits.deBruijn64tab", Rows.laid_math_bits_deBruijn64tab)]).forCall (fun _ _ => 0) ⟨#[], args, []⟩).memory :=
  laidMet_laidAll _ (by kernel_rfl) (by kernel_rfl)
end Go.Proofs.YtlgbpimmhnncgaaDoor.Msk
