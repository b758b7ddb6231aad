/-
  Layer 6: Turn, of any grid and number.
-/
import Derived.Test.YthjgldjjplcncaaDoorTrnq
import Derived.Test.YthjgldjjplcncaaDoorGrdf
namespace Go.Proofs.YthjgldjjplcncaaDoor.Grd
open Go Go.Lib Go.RowKit

theorem results_gtc {fn : Func} {p q : Tmp} (h : fn.results = #[.cell p 25, .tmp q]) (tmps : Array Value) (w : World) (b : Nat) (x0 x1 x2 x3 x4 : Value)
    (hp : tmps.getD p undef = .pointer (some ⟨b, 0, none⟩)) (hb : Five w b x0 x1 x2 x3 x4) :
    (results fn tmps).run Tryd.prog w = .ok (.tuple #[.agg #[x0, x1, x2, x3, x4], tmps.getD q undef]) w := results_gt h tmps w b x0 x1 x2 x3 x4 hp hb.blk
/-- Five stores. -/
def st5 (W : World) (b : Nat) (y0 y1 y2 y3 y4 : Value) : World := ((((W.setCell ⟨b, 0, none⟩ y0).setCell ⟨b, 1, none⟩ y1).setCell ⟨b, 2, none⟩ y2).setCell ⟨b, 3, none⟩ y3).setCell ⟨b, 4, none⟩ y4
theorem Five.all {W : World} {b : Nat} {x0 x1 x2 x3 x4 : Value} (h : Five W b x0 x1 x2 x3 x4) (y0 y1 y2 y3 y4 : Value) : Five (st5 W b y0 y1 y2 y3 y4) b y0 y1 y2 y3 y4 := ((((h.set0 y0).set1 y1).set2 y2).set3 y3).set4 y4
theorem Dif.st5 {O : Nat → Prop} {a W : World} (h : Dif O a W) {b : Nat} (hb : O b) (y0 y1 y2 y3 y4 : Value) : Dif O a (st5 W b y0 y1 y2 y3 y4) := ((((h.set b 0 y0 hb).set b 1 y1 hb).set b 2 y2 hb).set b 3 y3 hb).set b 4 y4 hb
theorem Below.all {B b : Nat} {w W : World} (h : Below B w W) (hb : B ≤ b) (hs : B ≤ W.heap.size) (y0 y1 y2 y3 y4 : Value) : Below B w (st5 W b y0 y1 y2 y3 y4) :=
  h.trans ((Dif.st5 (Dif.refl (fun k => k = b) W) rfl y0 y1 y2 y3 y4).below (B := B) (fun k hk _ => by omega) hs)
theorem MadeG.st5 {B b : Nat} {W : World} {n g1 g2 g3 : Nat} {xs ys zs : List Bool} (h : MadeG B W n g1 g2 g3 xs ys zs) (hb : b ≠ g1 ∧ b ≠ g2 ∧ b ≠ g3) (y0 y1 y2 y3 y4 : Value) : MadeG B (st5 W b y0 y1 y2 y3 y4) n g1 g2 g3 xs ys zs := by
  have hd := Dif.st5 (Dif.refl (fun k => k = b) W) rfl y0 y1 y2 y3 y4
  exact ⟨h.n12, h.n13, h.n23, hd.row h.r1 (fun e => hb.1 e.symm), hd.row h.r2 (fun e => hb.2.1 e.symm), hd.row h.r3 (fun e => hb.2.2 e.symm)⟩

end Go.Proofs.YthjgldjjplcncaaDoor.Grd
