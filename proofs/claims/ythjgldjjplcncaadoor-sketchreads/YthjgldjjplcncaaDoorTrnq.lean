/-
  Layer 6: turned, of a right grid.
-/
import Derived.Test.YthjgldjjplcncaaDoorTrno
import Derived.Deep.CutRange
import Derived.Deep.RegionWith
namespace Go.Proofs.YthjgldjjplcncaaDoor.Grd
open Go Go.Lib Go.RowKit

theorem Five.dif {O : Nat → Prop} {W W' : World} {b : Nat} {x0 x1 x2 x3 x4 : Value} (h : Five W b x0 x1 x2 x3 x4) (hd : Dif O W W') (ho : ¬ O b) : Five W' b x0 x1 x2 x3 x4 := ⟨(hd.block b h.lt ho).trans h.blk⟩
theorem Two.dif {O : Nat → Prop} {W W' : World} {b : Nat} {t : TypeId} {x0 x1 : Value} (h : Two W b t x0 x1) (hd : Dif O W W') (ho : ¬ O b) : Two W' b t x0 x1 := ⟨(hd.block b h.lt ho).trans h.blk⟩
end Go.Proofs.YthjgldjjplcncaaDoor.Grd
