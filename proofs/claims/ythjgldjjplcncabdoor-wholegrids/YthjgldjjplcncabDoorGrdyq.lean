/-
  The laws' own look that the program is there at all: a blank grid has a step.
-/
import Derived.Test.YthjgldjjplcncabDoorGrdkq
namespace Go.Proofs.YthjgldjjplcncabDoor.Grd
open Go Go.Lib Go.RowKit

/-- A blank grid. -/
def blankG (h v : Nat) : Gr := ⟨h, v, List.replicate (h * v) false, List.replicate (h * v) false, List.replicate (h * v) false⟩
theorem bt_repy (n i : Nat) : bt (List.replicate n false) i = false := by
  unfold bt
  rw [List.getElem?_replicate]
  by_cases h : i < n <;> simp [h]
theorem blankG_H (h v : Nat) : (blankG h v).H = h := by simp [blankG, Gr.H]
theorem blankG_W (h v : Nat) : (blankG h v).W = v := by simp [blankG, Gr.W]
theorem blankG_n (h v : Nat) : (blankG h v).n = h * v := by unfold Gr.n; rw [blankG_H, blankG_W]
theorem blankG_ok {h v : Nat} (h1 : 1 ≤ h ∧ h ≤ 16) (h2 : 1 ≤ v ∧ v ≤ 16) : (blankG h v).ok := by
  refine Gr.chk_ok ⟨⟨?_, ?_⟩, ?_, ?_⟩ ⟨?_, ?_, ?_⟩ ?_
  · show (1 : Int) ≤ (h : Int); omega
  · show (h : Int) ≤ 16; omega
  · show (1 : Int) ≤ (v : Int); omega
  · show (v : Int) ≤ 16; omega
  · rw [blankG_n]; simp [blankG]
  · rw [blankG_n]; simp [blankG]
  · rw [blankG_n]; simp [blankG]
  · rintro ⟨i, _, hb | hb⟩
    · have := hb.1; rw [show (blankG h v).R = List.replicate (h * v) false from rfl, bt_repy] at this; cases this
    · have := hb.1; rw [show (blankG h v).D = List.replicate (h * v) false from rfl, bt_repy] at this; cases this
theorem row_readsB {W : World} {B b n : Nat} {zs : List Bool} (h : W.ownsRow B 4 1 (.slice (some ⟨b, 0, none⟩) n n) n (cellsB zs)) : ReadsB W (some ⟨b, 0, none⟩) zs := fun j hj => by
  have hn : zs.length = n := by have := h.1; rw [cellsB_length] at this; omega
  refine ⟨b, 0, rfl, (h.lt b rfl).2, ?_⟩
  rw [Nat.zero_add, h.cellAt j (by omega)]
  simp [cellsB, bt, List.getElem?_eq_getElem hj]
theorem MadeG.rgy {B : Nat} {W : World} {n g1 g2 g3 c1 c2 c3 : Nat} {g : Gr} (h : MadeG B W n g1 g2 g3 g.B g.R g.D) : RG W g ⟨some ⟨g1, 0, none⟩, c1, some ⟨g2, 0, none⟩, c2, some ⟨g3, 0, none⟩, c3⟩ := ⟨row_readsB h.r1, row_readsB h.r2, row_readsB h.r3⟩
theorem MadeG.below {B : Nat} {W W' : World} {n g1 g2 g3 : Nat} {xs ys zs : List Bool} (h : MadeG B W n g1 g2 g3 xs ys zs) (hb : Below W.heap.size W W') : MadeG B W' n g1 g2 g3 xs ys zs := ⟨h.n12, h.n13, h.n23, row_keeps h.r1 hb, row_keeps h.r2 hb, row_keeps h.r3 hb⟩

theorem st_23 : (blankG 2 3).stI 1 1 = some 4 := by
  have hok := blankG_ok (h := 2) (v := 3) (by omega) (by omega)
  have ho : (blankG 2 3).opn 1 = true := by decide
  unfold Gr.stI
  rw [if_pos ⟨Gr.opI_iff.2 ⟨hok, 1, rfl, ho⟩, by omega, by omega⟩]
  decide

end Go.Proofs.YthjgldjjplcncabDoor.Grd
