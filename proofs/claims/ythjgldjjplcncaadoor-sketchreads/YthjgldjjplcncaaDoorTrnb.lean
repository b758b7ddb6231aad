/-
  Layer 6: moved (a cell's place behind a turn), for right arguments.
-/
import Derived.Test.YthjgldjjplcncaaDoorTrna
namespace Go.Proofs.YthjgldjjplcncaaDoor.Grd
open Go Go.Lib Go.RowKit

theorem Pl.qs_le {P : Pl} (h1 : P.h ≤ 16) (h2 : P.w ≤ 16) (n : Nat) : (P.qs n).h ≤ 16 ∧ (P.qs n).w ≤ 16 := by
  obtain ⟨e1, e2⟩ := Pl.qs_hw P n
  rw [e1, e2]
  by_cases e : n % 2 = 1
  · rw [if_pos e, if_pos e]; exact ⟨h2, h1⟩
  · rw [if_neg e, if_neg e]; exact ⟨h1, h2⟩

end Go.Proofs.YthjgldjjplcncaaDoor.Grd
