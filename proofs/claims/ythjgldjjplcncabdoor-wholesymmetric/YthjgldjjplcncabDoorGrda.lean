/-
  The program's calls on one cell and one way: isSide, isOpen, beside, hasBeside, isBarred, step; for every grid whose sides and sizes are right.
-/
import Derived.Test.YthjgldjjplcncabDoorProg
import Derived.Test.YthjgldjjplcncabDoorGrdm
import Derived.WalkKit
import Derived.Lib.Walk
import Derived.LoopTactic
import Derived.BigQuiet
import Derived.Deep.QuietTactic
import Derived.WalkSmall
import Derived.Deep.LoopGhost
namespace Go.Proofs.YthjgldjjplcncabDoor.Grd
open Go Go.Lib Go.RowKit

/-- The four ways, in their variable. -/
structure Wy (w : World) : Prop where
  c0 : w.cell? ⟨0, 0, none⟩ = some (.int .i64 0)
  c1 : w.cell? ⟨0, 1, none⟩ = some (.int .i64 1)
  c2 : w.cell? ⟨0, 2, none⟩ = some (.int .i64 1)
  c3 : w.cell? ⟨0, 3, none⟩ = some (.int .i64 0)
  c4 : w.cell? ⟨0, 4, none⟩ = some (.int .i64 0)
  c5 : w.cell? ⟨0, 5, none⟩ = some (.int .i64 (-1))
  c6 : w.cell? ⟨0, 6, none⟩ = some (.int .i64 (-1))
  c7 : w.cell? ⟨0, 7, none⟩ = some (.int .i64 0)
theorem cell_of_block {w w' : World} {b j : Nat} (e : w'.heap[b]? = w.heap[b]?) : w'.cell? ⟨b, j, none⟩ = w.cell? ⟨b, j, none⟩ := by simp only [World.cell?]; rw [e]
theorem Wy.of {w w' : World} (h : Wy w) (e : w'.heap[0]? = w.heap[0]?) : Wy w' :=
  ⟨(cell_of_block e).trans h.c0, (cell_of_block e).trans h.c1, (cell_of_block e).trans h.c2, (cell_of_block e).trans h.c3, (cell_of_block e).trans h.c4, (cell_of_block e).trans h.c5, (cell_of_block e).trans h.c6, (cell_of_block e).trans h.c7⟩
theorem Wy.size {w : World} (h : Wy w) : 0 < w.heap.size := by
  by_cases hs : 0 < w.heap.size
  · exact hs
  · have := h.c0
    have e : w.heap[0]? = none := Array.getElem?_eq_none (by omega)
    simp [World.cell?, e] at this
theorem Wy.below {B : Nat} {w w' : World} (h : Wy w) (hB : 0 < B) (hb : Below B w w') : Wy w' := h.of (hb.block 0 hB)
theorem Wy.drew {w : World} (h : Wy w) (n : Nat) : Wy (w.drewN n) := h.below (B := w.heap.size) h.size (below_drewN (Below.refl _ _) n)

/-- A list of bools, wherever it lies. -/
def ReadsB (W : World) (ao : Option Addr) (zs : List Bool) : Prop := ∀ i (_ : i < zs.length), ∃ b off, ao = some ⟨b, off, none⟩ ∧ b < W.heap.size ∧ W.cell? ⟨b, off + i, none⟩ = some (.bool (bt zs i))
theorem ReadsB.below {W W' : World} {ao : Option Addr} {zs : List Bool} (h : ReadsB W ao zs) (hb : Below W.heap.size W W') : ReadsB W' ao zs := fun j hj => by
  obtain ⟨g, o, h1, h2, h3⟩ := h j hj
  exact ⟨g, o, h1, Nat.lt_of_lt_of_le h2 hb.size, (hb.cell (p := ⟨g, o + j, none⟩) h2).trans h3⟩
theorem ReadsB.drew {W : World} {ao : Option Addr} {zs : List Bool} (h : ReadsB W ao zs) (n : Nat) : ReadsB (W.drewN n) ao zs := h.below (below_drewN (Below.refl _ _) n)

/-- Where a grid's three lists lie, and their room. -/
structure Ad where
  a1 : Option Addr
  c1 : Nat
  a2 : Option Addr
  c2 : Nat
  a3 : Option Addr
  c3 : Nat
/-- A grid as a value. -/
def gv (g : Gr) (p : Ad) : Value := .agg #[.int .i64 g.h, .int .i64 g.w, .slice p.a1 g.B.length p.c1, .slice p.a2 g.R.length p.c2, .slice p.a3 g.D.length p.c3]
structure RG (W : World) (g : Gr) (p : Ad) : Prop where
  b : ReadsB W p.a1 g.B
  r : ReadsB W p.a2 g.R
  d : ReadsB W p.a3 g.D
theorem RG.below {W W' : World} {g : Gr} {p : Ad} (h : RG W g p) (hb : Below W.heap.size W W') : RG W' g p := ⟨h.b.below hb, h.r.below hb, h.d.below hb⟩
theorem RG.drew {W : World} {g : Gr} {p : Ad} (h : RG W g p) (n : Nat) : RG (W.drewN n) g p := ⟨h.b.drew n, h.r.drew n, h.d.drew n⟩

/-- A grid that lies in a block of its own. -/
structure Bx (W : World) (b : Nat) (g : Gr) (p : Ad) : Prop where
  lt : b < W.heap.size
  k0 : W.cell? ⟨b, 0, none⟩ = some (.int .i64 g.h)
  k1 : W.cell? ⟨b, 1, none⟩ = some (.int .i64 g.w)
  k2 : W.cell? ⟨b, 2, none⟩ = some (.slice p.a1 g.B.length p.c1)
  k3 : W.cell? ⟨b, 3, none⟩ = some (.slice p.a2 g.R.length p.c2)
  k4 : W.cell? ⟨b, 4, none⟩ = some (.slice p.a3 g.D.length p.c3)
theorem Bx.below {W W' : World} {b B : Nat} {g : Gr} {p : Ad} (h : Bx W b g p) (hb : Below B W W') (hB : b < B) (hs : W.heap.size ≤ W'.heap.size) : Bx W' b g p :=
  ⟨Nat.lt_of_lt_of_le h.lt hs, (cell_of_block (hb.block b hB)).trans h.k0, (cell_of_block (hb.block b hB)).trans h.k1, (cell_of_block (hb.block b hB)).trans h.k2, (cell_of_block (hb.block b hB)).trans h.k3, (cell_of_block (hb.block b hB)).trans h.k4⟩
theorem Bx.keep {W W' : World} {b : Nat} {g : Gr} {p : Ad} (h : Bx W b g p) (hb : Below W.heap.size W W') : Bx W' b g p := h.below hb h.lt hb.size
theorem cells_box (w : World) (cs : Array Value) (t : TypeId) (j : Nat) : (w.alloc (.cells cs t)).cell? ⟨w.heap.size, j, none⟩ = cs[j]? := by
  have hn : (w.alloc (.cells cs t)).heap[w.heap.size]? = some (.cells cs t) := by unfold World.alloc; simp
  simp only [World.cell?]
  rw [hn]
  rfl
theorem below_box (w : World) (o : Obj) : Below w.heap.size w (w.alloc o) := (Below.refl _ _).alloc (Nat.le_refl _) o
theorem Bx.new (w : World) (g : Gr) (p : Ad) (t : TypeId) : Bx (w.alloc (.cells #[.int .i64 g.h, .int .i64 g.w, .slice p.a1 g.B.length p.c1, .slice p.a2 g.R.length p.c2, .slice p.a3 g.D.length p.c3] t)) w.heap.size g p :=
  ⟨by rw [World.size_alloc]; omega, cells_box _ _ _ _, cells_box _ _ _ _, cells_box _ _ _ _, cells_box _ _ _ _, cells_box _ _ _ _⟩

theorem isSide_any (i : Int) (w : World) :
    Calls Tryd.prog 34 #[.int .i64 i] w fun e w' => e = .returned (.bool (decide (sideOk i))) ∧ w' = w := by
  go_enter Tryd.func34, Tryd.ntmps34
  by_cases h : 1 ≤ i
  · have e : decide (sideOk i) = decide (i ≤ 16) := decide_eq_decide.2 ⟨fun x => x.2, fun x => ⟨h, x⟩⟩
    rw [e]
    go_wp2
    go_ret
    exact ⟨rfl, rfl⟩
  · have e : decide (sideOk i) = false := decide_eq_false fun x => h x.1
    rw [e]
    go_wp2
    go_ret
    exact ⟨rfl, rfl⟩

end Go.Proofs.YthjgldjjplcncabDoor.Grd
