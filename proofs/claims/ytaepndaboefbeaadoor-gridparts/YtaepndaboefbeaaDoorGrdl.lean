/-
  The laws' own: spare (a list in longer memory), lent (a grid in longer memory), kept (is it as it was, its spare room too?).
-/
import Derived.Test.YtaepndaboefbeaaDoorGrdj
namespace Go.Proofs.YtaepndaboefbeaaDoor.Grd
open Go Go.Lib Go.RowKit

theorem infoBool' : (Tryd.prog.info? 4).map (fun i => (i.zero, i.size, i.bytes)) = some (some (.bool false), 1, 1) := by kernel_rfl
def cellsL (zs : List Bool) : List Value := zs.map Value.bool
theorem cellsL_length (zs : List Bool) : (cellsL zs).length = zs.length := by simp [cellsL]
theorem cellsL_one (zs : List Bool) : ∀ u ∈ cellsL zs, u.oneCell' = true := fun u hu => by
  obtain ⟨x, _, rfl⟩ := List.mem_map.1 hu
  rfl
theorem cellsL_at {zs : List Bool} {j : Nat} (h : j < zs.length) : (cellsL zs)[j]? = some (.bool (bt zs j)) := by
  simp [cellsL, bt, List.getElem?_eq_getElem h]

/-- Append of a list that came in (it may be nil) to one that has room: it stays in its block. -/
theorem wpList_append_readsB {w : World} {ops : Array Oper} {rest : List Oper} {o : Oper} {a : Act} {Q : Exit → Act → World → Prop} (hgd : o.guard = none) (s x : Operand)
    (ho : o.op = .call { callee := .builtin .append, args := #[s, x], argTypes := #[22, 22] })
    (base : Nat) (i : TypeInfo) (hi : Tryd.prog.info? 4 = some i) (hsize : i.size = 1)
    (g cap : Nat) (hs : a.eval s = .slice (some ⟨g, 0, none⟩) 0 cap) (hown : w.ownsRow base 4 1 (.slice (some ⟨g, 0, none⟩) 0 cap) 0 [])
    (zs : List Bool) (ao : Option Addr) (c : Nat) (hx : a.eval x = .slice ao zs.length c) (hao : ao = none → c = 0) (hR : ReadsB w ao zs) (hroom : zs.length ≤ cap)
    (h : ∀ w', w'.ownsRow base 4 1 (.slice (some ⟨g, 0, none⟩) zs.length cap) zs.length (cellsL zs) → w.grownBy w' (some g) → wpList Tryd.prog ops Q rest (a.put o.dst (.slice (some ⟨g, 0, none⟩) zs.length cap)) w') : wpList Tryd.prog ops Q (o :: rest) a w := by
  cases ao with
  | none =>
    obtain rfl := hao rfl
    have hl0 : zs = [] := by
      cases zs with
      | nil => rfl
      | cons x r =>
        obtain ⟨g, o, h, _⟩ := hR 0 (by simp)
        cases h
    subst hl0
    exact wpList_append_own_none hgd s x _ ho base 4 i 1 Tryd.underlying22 hi _ 0 [] hs hown hx (h w hown ⟨rfl, rfl, rfl, Nat.le_refl _, fun _ _ _ => rfl⟩)
  | some ad =>
    refine wpList_append_own_spare _ hgd s x _ ho base 4 i 1 Tryd.underlying22 hi hsize g 0 cap [] hs hown ad zs.length c (cellsL zs) hx (by rw [cellsL_length]; omega) (fun j u hu => ?_) (cellsL_one zs) (by omega) (fun w' h1 h2 => ?_)
    · have hj : j < zs.length := by have := (List.getElem?_eq_some_iff.1 hu).1; rwa [cellsL_length] at this
      obtain ⟨g2, o2, h1, h2, h3⟩ := hR j hj
      injection h1 with h1
      subst h1
      rw [Addr.add_lit, h3, ← hu, cellsL_at hj]
    · rw [Nat.zero_add, List.nil_append] at h1
      rw [Nat.zero_add]
      exact h w' h1 h2

/-- A list of a call's own with two cells of spare room behind it: true, false. -/
def Spare (W : World) (B b : Nat) (zs : List Bool) : Prop := W.ownsRow B 4 1 (.slice (some ⟨b, 0, none⟩) (zs.length + 2) (zs.length + 2)) (zs.length + 2) (cellsL (zs ++ [true, false]))
theorem Spare.reads {W : World} {B b : Nat} {zs : List Bool} (h : Spare W B b zs) : ReadsB W (some ⟨b, 0, none⟩) zs := fun j hj => by
  refine ⟨b, 0, rfl, (h.lt b rfl).2, ?_⟩
  rw [Nat.zero_add, h.cellAt j (by omega), cellsL_at (by simp; omega)]
  simp [bt, List.getElem?_append_left hj]
theorem Spare.below {W W' : World} {B b : Nat} {zs : List Bool} (h : Spare W B b zs) (hb : Below W.heap.size W W') : Spare W' B b zs := row_keeps h hb
theorem Spare.base {W : World} {B B' b : Nat} {zs : List Bool} (h : Spare W B b zs) (hb : B' ≤ B) : Spare W B' b zs := row_base h hb
theorem Spare.lt {W : World} {B b : Nat} {zs : List Bool} (h : Spare W B b zs) : B ≤ b ∧ b < W.heap.size := World.ownsRow.lt h b rfl
theorem Spare.cells {W : World} {B b : Nat} {zs : List Bool} (h : Spare W B b zs) : W.cell? ⟨b, zs.length, none⟩ = some (.bool true) ∧ W.cell? ⟨b, zs.length + 1, none⟩ = some (.bool false) := by
  constructor
  · rw [World.ownsRow.cellAt h zs.length (by omega), cellsL_at (by simp)]
    simp [bt]
  · rw [World.ownsRow.cellAt h (zs.length + 1) (by omega), cellsL_at (by simp)]
    simp [bt]

theorem cell_two_new (w : World) (x y : Value) (t : TypeId) : ∀ j u, [x, y][j]? = some u → (w.alloc (.cells #[x, y] t)).cell? ((⟨w.heap.size, 0, none⟩ : Addr).add j) = some u := fun j u h => by
  rw [Addr.add_lit, Nat.zero_add, cells_box]
  simpa using h

set_option maxHeartbeats 1000000 in
theorem spare_any (zs : List Bool) (ao : Option Addr) (cap : Nat) (w : World) (hl : zs.length ≤ 140737488355328) (hR : ReadsB w ao zs) (hao : ao = none → cap = 0) :
    Calls Tryd.prog 29 #[.slice ao zs.length cap] w fun e w' => ∃ b, e = .returned (.slice (some ⟨b, 0, none⟩) zs.length (zs.length + 2)) ∧ Spare w' w.heap.size b zs ∧ Below w.heap.size w w' := by
  obtain ⟨i0, hi0, hz0, hz1, hz2⟩ := info_parts infoBool'
  obtain ⟨M, hM⟩ : ∃ M, M = madeCells (Value.bool false).cells ((zs.length + 2) * i0.size) := ⟨_, rfl⟩
  have hMs : M.size = (zs.length + 2) * 1 := by rw [hM, size_madeCells, hz1]
  have hmk : ∀ W : World, (Instr.makeSlice 22 (.int .i64 0) (.int .i64 ((zs.length : Int) + 2))).run Tryd.prog W = .ok (.slice (some ⟨W.heap.size, 0, none⟩) 0 (zs.length + 2)) (W.alloc (.cells M 4)) := fun W => by
    have h := run_make (P := Tryd.prog) W 22 4 i0 (.bool false) Tryd.underlying22 hi0 hz0 .i64 .i64 0 ((zs.length : Int) + 2) (by omega) (by omega) (by rw [hz2]; omega) (by omega)
    have e1 : ((zs.length : Int) + 2).toNat = zs.length + 2 := by omega
    rw [e1, ← hM] at h
    exact h
  have o0 := World.ownsRow_made (e := 4) (size := 1) (base := w.heap.size) w M (zs.length + 2) (Nat.le_refl _) (by unfold maxLen; omega) hMs
  have hb0 : Below w.heap.size w (w.alloc (.cells M 4)) := below_box w _
  have hRa := hR.below hb0
  have hsa : (w.alloc (.cells M 4)).heap.size = w.heap.size + 1 := World.size_alloc _ _
  clear hM hR
  go_enter Tryd.func29, Tryd.ntmps29
  go_wp2_with (at_builtin; refine wpList_append_readsB rfl _ _ rfl w.heap.size i0 hi0 hz1 w.heap.size (zs.length + 2) rfl o0 zs ao cap rfl hao hRa (by omega) ?_)
  intro w2 o2 hg2
  have hb2 : Below w.heap.size w w2 := Below.grown hb0 hg2 (by omega) (fun j hj => by injection hj with h; omega)
  have hz2' : w.heap.size < w2.heap.size := (o2.lt w.heap.size rfl).2
  clear o0 hg2 hb0 hmk hRa hsa
  go_wp2_with (at_builtin; refine wpList_append_own_spare _ rfl _ _ 22 rfl w.heap.size 4 i0 1 Tryd.underlying22 hi0 hz1 w.heap.size zs.length (zs.length + 2) (cellsL zs) rfl (o2.alloc _) ⟨w2.heap.size, 0, none⟩ 2 2 [.bool true, .bool false] rfl rfl (cell_two_new _ _ _ _) (by simp [Value.oneCell']) (by omega) ?_)
  intro w3 o3 hg3
  have HB3 : Aside (Below w.heap.size w w3) := Below.grown (hb2.alloc (by omega) _) hg3 (by simp; omega) (fun j hj => by injection hj with h; omega)
  have HS : Aside (Spare w3 w.heap.size w.heap.size zs) := by
    show Spare w3 w.heap.size w.heap.size zs
    unfold Spare
    rw [show cellsL (zs ++ [true, false]) = cellsL zs ++ [.bool true, .bool false] by simp [cellsL]]
    exact o3
  clear o2 o3 hg3 hb2
  go_wp2
  go_ret
  exact ⟨_, rfl, HS.out, HB3.out⟩
end Go.Proofs.YtaepndaboefbeaaDoor.Grd
