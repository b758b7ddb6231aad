/-
  The laws' own: spare (a list in longer memory), lent (a grid in longer memory), kept (is it as it was, its spare room too?).
-/
import Derived.Test.YthjgldjjplcncabDoorGrdj
namespace Go.Proofs.YthjgldjjplcncabDoor.Grd
open Go Go.Lib Go.RowKit

theorem infoBool' : (Tryd.prog.info? 4).map (fun i => (i.zero, i.size, i.bytes)) = some (some (.bool false), 1, 1) := by kernel_rfl
def cellsL (zs : List Bool) : List Value := zs.map Value.bool
theorem cellsL_length (zs : List Bool) : (cellsL zs).length = zs.length := by simp [cellsL]
theorem cellsL_one (zs : List Bool) : ∀ u ∈ cellsL zs, u.oneCell' = true := fun u hu => by
  obtain ⟨x, _, rfl⟩ := List.mem_map.1 hu
  rfl
theorem cellsL_at {zs : List Bool} {j : Nat} (h : j < zs.length) : (cellsL zs)[j]? = some (.bool (bt zs j)) := by
  simp [cellsL, bt, List.getElem?_eq_getElem h]

set_option maxRecDepth 20000 in
/-- Append of a list that came in (it may be nil) to one that has room: it stays in its block. -/
theorem wpList_append_readsB {w : World} {ops : Array Oper} {rest : List Oper} {o : Oper} {a : Act} {Q : Exit → Act → World → Prop} (hgd : o.guard = none) (s x : Operand)
    (ho : o.op = .call { callee := .builtin .append, args := #[s, x], argTypes := #[25, 25] })
    (base : Nat) (i : TypeInfo) (hi : Tryd.prog.info? 4 = some i) (hsize : i.size = 1)
    (g cap : Nat) (hs : a.eval s = .slice (some ⟨g, 0, none⟩) 0 cap) (hown : w.ownsRow base 4 1 (.slice (some ⟨g, 0, none⟩) 0 cap) 0 [])
    (zs : List Bool) (ao : Option Addr) (c : Nat) (hx : a.eval x = .slice ao zs.length c) (hao : ao = none → c = 0) (hR : ReadsB w ao zs) (hroom : zs.length ≤ cap)
    (h : ∀ w', w'.ownsRow base 4 1 (.slice (some ⟨g, 0, none⟩) zs.length cap) zs.length (cellsL zs) → w.grownBy w' (some g) → wpList Tryd.prog ops Q rest (a.put o.dst (.slice (some ⟨g, 0, none⟩) zs.length cap)) w') : wpList Tryd.prog ops Q (o :: rest) a w := by
  cases ao with
  | none =>
    obtain rfl := hao rfl
    have hl0 : zs = [] := by
      cases zs with
      | nil => rfl
      | cons x r =>
        obtain ⟨g, o, h, _⟩ := hR 0 (by simp)
        cases h
    subst hl0
    exact wpList_append_own_none hgd s x _ ho base 4 i 1 Tryd.underlying25 hi _ 0 [] hs hown hx (h w hown ⟨rfl, rfl, rfl, Nat.le_refl _, fun _ _ _ => rfl⟩)
  | some ad =>
    refine wpList_append_own_spare _ hgd s x _ ho base 4 i 1 Tryd.underlying25 hi hsize g 0 cap [] hs hown ad zs.length c (cellsL zs) hx (by rw [cellsL_length]; omega) (fun j u hu => ?_) (cellsL_one zs) (by omega) (fun w' h1 h2 => ?_)
    · have hj : j < zs.length := by have := (List.getElem?_eq_some_iff.1 hu).1; rwa [cellsL_length] at this
      obtain ⟨g2, o2, h1, h2, h3⟩ := hR j hj
      injection h1 with h1
      subst h1
      rw [Addr.add_lit, h3, ← hu, cellsL_at hj]
    · rw [Nat.zero_add, List.nil_append] at h1
      rw [Nat.zero_add]
      exact h w' h1 h2

/-- A list of a call's own with two cells of spare room behind it: true, false. -/
def Spare (W : World) (B b : Nat) (zs : List Bool) : Prop := W.ownsRow B 4 1 (.slice (some ⟨b, 0, none⟩) (zs.length + 2) (zs.length + 2)) (zs.length + 2) (cellsL (zs ++ [true, false]))
theorem Spare.reads {W : World} {B b : Nat} {zs : List Bool} (h : Spare W B b zs) : ReadsB W (some ⟨b, 0, none⟩) zs := fun j hj => by
  refine ⟨b, 0, rfl, (h.lt b rfl).2, ?_⟩
  rw [Nat.zero_add, h.cellAt j (by omega), cellsL_at (by simp; omega)]
  simp [bt, List.getElem?_append_left hj]
theorem Spare.below {W W' : World} {B b : Nat} {zs : List Bool} (h : Spare W B b zs) (hb : Below W.heap.size W W') : Spare W' B b zs := row_keeps h hb
theorem Spare.base {W : World} {B B' b : Nat} {zs : List Bool} (h : Spare W B b zs) (hb : B' ≤ B) : Spare W B' b zs := row_base h hb
theorem Spare.lt {W : World} {B b : Nat} {zs : List Bool} (h : Spare W B b zs) : B ≤ b ∧ b < W.heap.size := World.ownsRow.lt h b rfl
theorem Spare.cells {W : World} {B b : Nat} {zs : List Bool} (h : Spare W B b zs) : W.cell? ⟨b, zs.length, none⟩ = some (.bool true) ∧ W.cell? ⟨b, zs.length + 1, none⟩ = some (.bool false) := by
  constructor
  · rw [World.ownsRow.cellAt h zs.length (by omega), cellsL_at (by simp)]
    simp [bt]
  · rw [World.ownsRow.cellAt h (zs.length + 1) (by omega), cellsL_at (by simp)]
    simp [bt]

theorem cell_two_new (w : World) (x y : Value) (t : TypeId) : ∀ j u, [x, y][j]? = some u → (w.alloc (.cells #[x, y] t)).cell? ((⟨w.heap.size, 0, none⟩ : Addr).add j) = some u := fun j u h => by
  rw [Addr.add_lit, Nat.zero_add, cells_box]
  simpa using h

end Go.Proofs.YthjgldjjplcncabDoor.Grd
