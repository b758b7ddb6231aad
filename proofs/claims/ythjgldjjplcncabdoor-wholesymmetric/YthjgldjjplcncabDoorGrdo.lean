/-
  The laws' own: lent (a grid in longer memory), kept (is it as it was, its spare room too?).
-/
import Derived.Test.YthjgldjjplcncabDoorGrdl
import Derived.Deep.RegionWith
namespace Go.Proofs.YthjgldjjplcncabDoor.Grd
open Go Go.Lib Go.RowKit

theorem results_g {fn : Func} {p : Tmp} (h : fn.results = #[.cell p 27]) (tmps : Array Value) (w : World) (b : Nat) (x0 x1 x2 x3 x4 : Value)
    (hp : tmps.getD p undef = .pointer (some ⟨b, 0, none⟩)) (c0 : w.cell? ⟨b, 0, none⟩ = some x0) (c1 : w.cell? ⟨b, 1, none⟩ = some x1) (c2 : w.cell? ⟨b, 2, none⟩ = some x2) (c3 : w.cell? ⟨b, 3, none⟩ = some x3) (c4 : w.cell? ⟨b, 4, none⟩ = some x4) :
    (results fn tmps).run Tryd.prog w = .ok (.agg #[x0, x1, x2, x3, x4]) w := by
  have hp' : tmps[p]?.getD undef = .pointer (some ⟨b, 0, none⟩) := by simpa using hp
  simp only [results, h]
  simp [hp', asAddr]
  go_simp

/-- A grid in longer memory. -/
def lad (g : Gr) (b1 b2 b3 : Nat) : Ad := ⟨some ⟨b1, 0, none⟩, g.B.length + 2, some ⟨b2, 0, none⟩, g.R.length + 2, some ⟨b3, 0, none⟩, g.D.length + 2⟩
structure Lent (W : World) (B : Nat) (g : Gr) (b1 b2 b3 : Nat) : Prop where
  s1 : Spare W B b1 g.B
  s2 : Spare W B b2 g.R
  s3 : Spare W B b3 g.D
theorem Lent.below {W W' : World} {B : Nat} {g : Gr} {b1 b2 b3 : Nat} (h : Lent W B g b1 b2 b3) (hb : Below W.heap.size W W') : Lent W' B g b1 b2 b3 := ⟨h.s1.below hb, h.s2.below hb, h.s3.below hb⟩
theorem Lent.rg {W : World} {B : Nat} {g : Gr} {b1 b2 b3 : Nat} (h : Lent W B g b1 b2 b3) : RG W g (lad g b1 b2 b3) := ⟨h.s1.reads, h.s2.reads, h.s3.reads⟩
/-- A nil list has no room. -/
def Ad.nz (p : Ad) : Prop := (p.a1 = none → p.c1 = 0) ∧ (p.a2 = none → p.c2 = 0) ∧ (p.a3 = none → p.c3 = 0)

theorem set_grown (w : World) (b j : Nat) (u : Value) : w.grownBy (w.setCell ⟨b, j, none⟩ u) (some b) := ⟨rfl, rfl, rfl, by simp, fun k _ hk => heap_setCell_other w ⟨b, j, none⟩ k u (fun e => hk (by simp [e]))⟩
theorem Spare.set {W : World} {B b : Nat} {zs : List Bool} (h : Spare W B b zs) {c j : Nat} {u : Value} (hc : c < B) : Spare (W.setCell ⟨c, j, none⟩ u) B b zs :=
  World.ownsRow.kept h (set_grown W c j u) (.inr fun e => by have := h.lt.1; have e2 : b = c := Option.some.inj e; omega)
/-- A block of five cells. -/
structure Five (W : World) (b : Nat) (x0 x1 x2 x3 x4 : Value) : Prop where
  blk : W.heap[b]? = some (.cells #[x0, x1, x2, x3, x4] 27)
theorem Five.c0 {W : World} {b : Nat} {x0 x1 x2 x3 x4 : Value} (h : Five W b x0 x1 x2 x3 x4) : W.cell? ⟨b, 0, none⟩ = some x0 := by simp [World.cell?, h.blk]
theorem Five.c1 {W : World} {b : Nat} {x0 x1 x2 x3 x4 : Value} (h : Five W b x0 x1 x2 x3 x4) : W.cell? ⟨b, 1, none⟩ = some x1 := by simp [World.cell?, h.blk]
theorem Five.c2 {W : World} {b : Nat} {x0 x1 x2 x3 x4 : Value} (h : Five W b x0 x1 x2 x3 x4) : W.cell? ⟨b, 2, none⟩ = some x2 := by simp [World.cell?, h.blk]
theorem Five.c3 {W : World} {b : Nat} {x0 x1 x2 x3 x4 : Value} (h : Five W b x0 x1 x2 x3 x4) : W.cell? ⟨b, 3, none⟩ = some x3 := by simp [World.cell?, h.blk]
theorem Five.c4 {W : World} {b : Nat} {x0 x1 x2 x3 x4 : Value} (h : Five W b x0 x1 x2 x3 x4) : W.cell? ⟨b, 4, none⟩ = some x4 := by simp [World.cell?, h.blk]
theorem Five.fr {W : World} {b : Nat} {x0 x1 x2 x3 x4 : Value} (h : Five W b x0 x1 x2 x3 x4) (j : Nat) : W.frozen? ⟨b, j, none⟩ = false := frozen_of_row W b j _ _ h.blk
theorem Five.lt {W : World} {b : Nat} {x0 x1 x2 x3 x4 : Value} (h : Five W b x0 x1 x2 x3 x4) : b < W.heap.size := (Array.getElem?_eq_some_iff.1 h.blk).1
theorem Five.keep {W W' : World} {b : Nat} {x0 x1 x2 x3 x4 : Value} (h : Five W b x0 x1 x2 x3 x4) (hb : Below W.heap.size W W') : Five W' b x0 x1 x2 x3 x4 := ⟨(hb.block b h.lt).trans h.blk⟩
theorem Five.other {W : World} {b c j : Nat} {x0 x1 x2 x3 x4 u : Value} (h : Five W b x0 x1 x2 x3 x4) (hc : b ≠ c) : Five (W.setCell ⟨c, j, none⟩ u) b x0 x1 x2 x3 x4 := ⟨((set_grown W c j u).block b h.lt (fun e => hc (Option.some.inj e))).trans h.blk⟩
theorem Five.set0 {W : World} {b : Nat} {x0 x1 x2 x3 x4 : Value} (h : Five W b x0 x1 x2 x3 x4) (u : Value) : Five (W.setCell ⟨b, 0, none⟩ u) b u x1 x2 x3 x4 := ⟨heap_setCell_same W b 0 _ _ u h.blk⟩
theorem Five.set1 {W : World} {b : Nat} {x0 x1 x2 x3 x4 : Value} (h : Five W b x0 x1 x2 x3 x4) (u : Value) : Five (W.setCell ⟨b, 1, none⟩ u) b x0 u x2 x3 x4 := ⟨heap_setCell_same W b 1 _ _ u h.blk⟩
theorem Five.set2 {W : World} {b : Nat} {x0 x1 x2 x3 x4 : Value} (h : Five W b x0 x1 x2 x3 x4) (u : Value) : Five (W.setCell ⟨b, 2, none⟩ u) b x0 x1 u x3 x4 := ⟨heap_setCell_same W b 2 _ _ u h.blk⟩
theorem Five.set3 {W : World} {b : Nat} {x0 x1 x2 x3 x4 : Value} (h : Five W b x0 x1 x2 x3 x4) (u : Value) : Five (W.setCell ⟨b, 3, none⟩ u) b x0 x1 x2 u x4 := ⟨heap_setCell_same W b 3 _ _ u h.blk⟩
theorem Five.set4 {W : World} {b : Nat} {x0 x1 x2 x3 x4 : Value} (h : Five W b x0 x1 x2 x3 x4) (u : Value) : Five (W.setCell ⟨b, 4, none⟩ u) b x0 x1 x2 x3 u := ⟨heap_setCell_same W b 4 _ _ u h.blk⟩
theorem Below.setIn {B b j : Nat} {w W : World} {u : Value} (h : Below B w W) (hb : B ≤ b) (hs : B ≤ W.heap.size) : Below B w (W.setCell ⟨b, j, none⟩ u) := h.grown (set_grown W b j u) hs (fun k hk => by injection hk with hk; omega)

end Go.Proofs.YthjgldjjplcncabDoor.Grd
