/-
  Layer 6: blank and setBar: a grid of new memory, a bar laid in it.
-/
import Derived.Test.YthjgldjjplcncaaDoorTrnl
import Derived.Test.YthjgldjjplcncaaDoorTrnb
import Derived.Test.YthjgldjjplcncaaDoorGrdq
import Derived.Test.YthjgldjjplcncaaDoorGrdo
import Derived.Laws.OwnMore
namespace Go.Proofs.YthjgldjjplcncaaDoor.Grd
open Go Go.Lib Go.RowKit

/-- Two worlds that differ in some blocks and in new ones alone. -/
structure Dif (O : Nat → Prop) (w w' : World) : Prop where
  os : w'.os = w.os
  tape : w'.tape = w.tape
  output : w'.output = w.output
  size : w.heap.size ≤ w'.heap.size
  block : ∀ k, k < w.heap.size → ¬ O k → w'.heap[k]? = w.heap[k]?
theorem Dif.refl (O : Nat → Prop) (w : World) : Dif O w w := ⟨rfl, rfl, rfl, Nat.le_refl _, fun _ _ _ => rfl⟩
theorem Dif.trans {O : Nat → Prop} {a b c : World} (h : Dif O a b) (k : Dif O b c) : Dif O a c := ⟨k.os.trans h.os, k.tape.trans h.tape, k.output.trans h.output, Nat.le_trans h.size k.size, fun i hi ho => (k.block i (by have := h.size; omega) ho).trans (h.block i hi ho)⟩
theorem Dif.mono {O O' : Nat → Prop} {a b : World} (h : Dif O a b) (hm : ∀ k, k < a.heap.size → O k → O' k) : Dif O' a b := ⟨h.os, h.tape, h.output, h.size, fun k hk ho => h.block k hk fun h1 => ho (hm k hk h1)⟩
theorem Dif.of_below {O : Nat → Prop} {a b : World} (h : Below a.heap.size a b) : Dif O a b := ⟨h.os, h.tape, h.output, h.size, fun k hk _ => h.block k hk⟩
theorem Dif.cell {O : Nat → Prop} {a b : World} (h : Dif O a b) {p : Addr} (hp : p.block < a.heap.size) (ho : ¬ O p.block) : b.cell? p = a.cell? p := by simp only [World.cell?, h.block p.block hp ho]
theorem Dif.below {O : Nat → Prop} {a b : World} (h : Dif O a b) {B : Nat} (hO : ∀ k, k < B → k < a.heap.size → ¬ O k) (hB : B ≤ a.heap.size) : Below B a b := ⟨h.os, h.tape, h.output, h.size, fun k hk => h.block k (by omega) (hO k hk (by omega))⟩
theorem Dif.set {O : Nat → Prop} {a b : World} (h : Dif O a b) (B j : Nat) (v : Value) (hB : O B) : Dif O a (b.setCell ⟨B, j, none⟩ v) :=
  h.trans ⟨rfl, rfl, rfl, by simp, fun k _ ho => heap_setCell_other b ⟨B, j, none⟩ k v (fun e => ho (e ▸ hB))⟩
theorem Dif.row {O : Nat → Prop} {a b : World} (h : Dif O a b) {B g c n : Nat} {xs : List Value} (hr : a.ownsRow B 4 1 (.slice (some ⟨g, 0, none⟩) n c) n xs) (ho : ¬ O g) : b.ownsRow B 4 1 (.slice (some ⟨g, 0, none⟩) n c) n xs := by
  rcases hr with ⟨h1, h2 | ⟨g', cap, cur, e1, e2, e3, e4⟩⟩
  · exact ⟨h1, .inl h2⟩
  · have eg : g' = g := by injection e1 with e1; injection e1 with e1; injection e1 with e1; exact e1.symm
    subst eg
    exact ⟨h1, .inr ⟨g', cap, cur, e1, e2, (h.block g' (Array.getElem?_eq_some_iff.1 e3).1 ho).trans e3, e4⟩⟩
theorem MadeG.dif {B : Nat} {W W' : World} {n g1 g2 g3 : Nat} {xs ys zs : List Bool} (h : MadeG B W n g1 g2 g3 xs ys zs) (hb : Below W.heap.size W W') : MadeG B W' n g1 g2 g3 xs ys zs :=
  ⟨h.n12, h.n13, h.n23, (Dif.of_below (O := fun _ => False) hb).row h.r1 id, (Dif.of_below (O := fun _ => False) hb).row h.r2 id, (Dif.of_below (O := fun _ => False) hb).row h.r3 id⟩
theorem cellsB_set (zs : List Bool) (j : Nat) (v : Bool) : (cellsB zs).set j (.bool v) = cellsB (zs.set j v) := by simp [cellsB, List.map_set]
theorem cellsB_at {zs : List Bool} {j : Nat} (h : j < zs.length) : (cellsB zs)[j]? = some (.bool (bt zs j)) := by
  simp [cellsB, bt, List.getElem?_eq_getElem h]
theorem MadeG.len {B : Nat} {W : World} {n g1 g2 g3 : Nat} {xs ys zs : List Bool} (h : MadeG B W n g1 g2 g3 xs ys zs) : xs.length = n ∧ ys.length = n ∧ zs.length = n := by
  have a := h.r1.1
  have b := h.r2.1
  have c := h.r3.1
  rw [cellsB_length] at a b c
  omega
/-- The grid's value of three lists of its own. -/
def gv3 (h w n g1 g2 g3 : Nat) : Value := .agg #[.int .i64 h, .int .i64 w, .slice (some ⟨g1, 0, none⟩) n n, .slice (some ⟨g2, 0, none⟩) n n, .slice (some ⟨g3, 0, none⟩) n n]
theorem MadeG.base {B B' : Nat} {W : World} {n g1 g2 g3 : Nat} {xs ys zs : List Bool} (h : MadeG B W n g1 g2 g3 xs ys zs) (hb : B' ≤ B) : MadeG B' W n g1 g2 g3 xs ys zs :=
  ⟨h.n12, h.n13, h.n23, row_base h.r1 hb, row_base h.r2 hb, row_base h.r3 hb⟩
theorem MadeG.lo {B : Nat} {W : World} {n g1 g2 g3 : Nat} {xs ys zs : List Bool} (h : MadeG B W n g1 g2 g3 xs ys zs) : (B ≤ g1 ∧ g1 < W.heap.size) ∧ (B ≤ g2 ∧ g2 < W.heap.size) ∧ B ≤ g3 ∧ g3 < W.heap.size := ⟨h.r1.lt g1 rfl, h.r2.lt g2 rfl, h.r3.lt g3 rfl⟩
/-- A store below its memory. -/
theorem MadeG.setLow {B c j : Nat} {W : World} {n g1 g2 g3 : Nat} {xs ys zs : List Bool} {u : Value} (h : MadeG B W n g1 g2 g3 xs ys zs) (hc : c < B) : MadeG B (W.setCell ⟨c, j, none⟩ u) n g1 g2 g3 xs ys zs := by
  have hd : Dif (fun k => k = c) W (W.setCell ⟨c, j, none⟩ u) := (Dif.refl _ _).set c j _ rfl
  obtain ⟨a, b, d⟩ := h.lo
  exact ⟨h.n12, h.n13, h.n23, hd.row h.r1 (by omega), hd.row h.r2 (by omega), hd.row h.r3 (by omega)⟩
/-- A cell of one of the lists stored. -/
theorem MadeG.put1 {B : Nat} {W : World} {n g1 g2 g3 : Nat} {xs ys zs : List Bool} (h : MadeG B W n g1 g2 g3 xs ys zs) {j : Nat} (v : Bool) : MadeG B (W.setCell ⟨g1, j, none⟩ (.bool v)) n g1 g2 g3 (xs.set j v) ys zs := by
  have hd : Dif (fun k => k = g1) W (W.setCell ⟨g1, j, none⟩ (.bool v)) := (Dif.refl _ _).set g1 j _ rfl
  have hy := (h.r1.stored j (.bool v)).1
  rw [cellsB_set] at hy
  exact ⟨h.n12, h.n13, h.n23, hy, hd.row h.r2 (fun e => h.n12 e.symm), hd.row h.r3 (fun e => h.n13 e.symm)⟩
theorem MadeG.put2 {B : Nat} {W : World} {n g1 g2 g3 : Nat} {xs ys zs : List Bool} (h : MadeG B W n g1 g2 g3 xs ys zs) {j : Nat} (v : Bool) : MadeG B (W.setCell ⟨g2, j, none⟩ (.bool v)) n g1 g2 g3 xs (ys.set j v) zs := by
  have hd : Dif (fun k => k = g2) W (W.setCell ⟨g2, j, none⟩ (.bool v)) := (Dif.refl _ _).set g2 j _ rfl
  have hy := (h.r2.stored j (.bool v)).1
  rw [cellsB_set] at hy
  exact ⟨h.n12, h.n13, h.n23, hd.row h.r1 h.n12, hy, hd.row h.r3 (fun e => h.n23 e.symm)⟩
theorem MadeG.put3 {B : Nat} {W : World} {n g1 g2 g3 : Nat} {xs ys zs : List Bool} (h : MadeG B W n g1 g2 g3 xs ys zs) {j : Nat} (v : Bool) : MadeG B (W.setCell ⟨g3, j, none⟩ (.bool v)) n g1 g2 g3 xs ys (zs.set j v) := by
  have hd : Dif (fun k => k = g3) W (W.setCell ⟨g3, j, none⟩ (.bool v)) := (Dif.refl _ _).set g3 j _ rfl
  have hy := (h.r3.stored j (.bool v)).1
  rw [cellsB_set] at hy
  exact ⟨h.n12, h.n13, h.n23, hd.row h.r1 h.n13, hd.row h.r2 h.n23, hy⟩

end Go.Proofs.YthjgldjjplcncaaDoor.Grd
