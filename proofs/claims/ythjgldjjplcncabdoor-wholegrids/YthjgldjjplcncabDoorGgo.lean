/-
  The laws' own: spare (a list in longer memory), lent (a grid in longer memory), kept (is it as it was, its spare room too?).
-/
import Derived.Test.YthjgldjjplcncabDoorGrdjq
import Derived.Deep.RegionWith
namespace Go.Proofs.YthjgldjjplcncabDoor.Grd
open Go Go.Lib Go.RowKit

theorem infoBool' : (Tryd.prog.info? 4).map (fun i => (i.zero, i.size, i.bytes)) = some (some (.bool false), 1, 1) := by kernel_rfl
def cellsL (zs : List Bool) : List Value := zs.map Value.bool
theorem cellsL_length (zs : List Bool) : (cellsL zs).length = zs.length := by simp [cellsL]
theorem cellsL_one (zs : List Bool) : ∀ u ∈ cellsL zs, u.oneCell' = true := fun u hu => by
  obtain ⟨x, _, rfl⟩ := List.mem_map.1 hu
  rfl
theorem cellsL_at {zs : List Bool} {j : Nat} (h : j < zs.length) : (cellsL zs)[j]? = some (.bool (bt zs j)) := by
  simp [cellsL, bt, List.getElem?_eq_getElem h]

set_option maxRecDepth 20000 in
/-- Append of a list that came in (it may be nil) to one that has room: it stays in its block. -/
theorem wpList_append_readsB {w : World} {ops : Array Oper} {rest : List Oper} {o : Oper} {a : Act} {Q : Exit → Act → World → Prop} (hgd : o.guard = none) (s x : Operand)
    (ho : o.op = .call { callee := .builtin .append, args := #[s, x], argTypes := #[25, 25] })
    (base : Nat) (i : TypeInfo) (hi : Tryd.prog.info? 4 = some i) (hsize : i.size = 1)
    (g cap : Nat) (hs : a.eval s = .slice (some ⟨g, 0, none⟩) 0 cap) (hown : w.ownsRow base 4 1 (.slice (some ⟨g, 0, none⟩) 0 cap) 0 [])
    (zs : List Bool) (ao : Option Addr) (c : Nat) (hx : a.eval x = .slice ao zs.length c) (hao : ao = none → c = 0) (hR : ReadsB w ao zs) (hroom : zs.length ≤ cap)
    (h : ∀ w', w'.ownsRow base 4 1 (.slice (some ⟨g, 0, none⟩) zs.length cap) zs.length (cellsL zs) → w.grownBy w' (some g) → wpList Tryd.prog ops Q rest (a.put o.dst (.slice (some ⟨g, 0, none⟩) zs.length cap)) w') : wpList Tryd.prog ops Q (o :: rest) a w := by
  cases ao with
  | none =>
    obtain rfl := hao rfl
    have hl0 : zs = [] := by
      cases zs with
      | nil => rfl
      | cons x r =>
        obtain ⟨g, o, h, _⟩ := hR 0 (by simp)
        cases h
    subst hl0
    exact wpList_append_own_none hgd s x _ ho base 4 i 1 Tryd.underlying25 hi _ 0 [] hs hown hx (h w hown ⟨rfl, rfl, rfl, Nat.le_refl _, fun _ _ _ => rfl⟩)
  | some ad =>
    refine wpList_append_own_spare _ hgd s x _ ho base 4 i 1 Tryd.underlying25 hi hsize g 0 cap [] hs hown ad zs.length c (cellsL zs) hx (by rw [cellsL_length]; omega) (fun j u hu => ?_) (cellsL_one zs) (by omega) (fun w' h1 h2 => ?_)
    · have hj : j < zs.length := by have := (List.getElem?_eq_some_iff.1 hu).1; rwa [cellsL_length] at this
      obtain ⟨g2, o2, h1, h2, h3⟩ := hR j hj
      injection h1 with h1
      subst h1
      rw [Addr.add_lit, h3, ← hu, cellsL_at hj]
    · rw [Nat.zero_add, List.nil_append] at h1
      rw [Nat.zero_add]
      exact h w' h1 h2

/-- A list of a call's own with two cells of spare room behind it: true, false. -/
def Spare (W : World) (B b : Nat) (zs : List Bool) : Prop := W.ownsRow B 4 1 (.slice (some ⟨b, 0, none⟩) (zs.length + 2) (zs.length + 2)) (zs.length + 2) (cellsL (zs ++ [true, false]))
theorem Spare.reads {W : World} {B b : Nat} {zs : List Bool} (h : Spare W B b zs) : ReadsB W (some ⟨b, 0, none⟩) zs := fun j hj => by
  refine ⟨b, 0, rfl, (h.lt b rfl).2, ?_⟩
  rw [Nat.zero_add, h.cellAt j (by omega), cellsL_at (by simp; omega)]
  simp [bt, List.getElem?_append_left hj]
theorem Spare.below {W W' : World} {B b : Nat} {zs : List Bool} (h : Spare W B b zs) (hb : Below W.heap.size W W') : Spare W' B b zs := row_keeps h hb
theorem Spare.base {W : World} {B B' b : Nat} {zs : List Bool} (h : Spare W B b zs) (hb : B' ≤ B) : Spare W B' b zs := row_base h hb
theorem Spare.lt {W : World} {B b : Nat} {zs : List Bool} (h : Spare W B b zs) : B ≤ b ∧ b < W.heap.size := World.ownsRow.lt h b rfl
theorem Spare.cells {W : World} {B b : Nat} {zs : List Bool} (h : Spare W B b zs) : W.cell? ⟨b, zs.length, none⟩ = some (.bool true) ∧ W.cell? ⟨b, zs.length + 1, none⟩ = some (.bool false) := by
  constructor
  · rw [World.ownsRow.cellAt h zs.length (by omega), cellsL_at (by simp)]
    simp [bt]
  · rw [World.ownsRow.cellAt h (zs.length + 1) (by omega), cellsL_at (by simp)]
    simp [bt]

theorem cell_two_new (w : World) (x y : Value) (t : TypeId) : ∀ j u, [x, y][j]? = some u → (w.alloc (.cells #[x, y] t)).cell? ((⟨w.heap.size, 0, none⟩ : Addr).add j) = some u := fun j u h => by
  rw [Addr.add_lit, Nat.zero_add, cells_box]
  simpa using h

end Go.Proofs.YthjgldjjplcncabDoor.Grd
/-
  The laws' own: lent (a grid in longer memory), kept (is it as it was, its spare room too?).
-/
namespace Go.Proofs.YthjgldjjplcncabDoor.Grd
open Go Go.Lib Go.RowKit

theorem results_g {fn : Func} {p : Tmp} (h : fn.results = #[.cell p 27]) (tmps : Array Value) (w : World) (b : Nat) (x0 x1 x2 x3 x4 : Value)
    (hp : tmps.getD p undef = .pointer (some ⟨b, 0, none⟩)) (c0 : w.cell? ⟨b, 0, none⟩ = some x0) (c1 : w.cell? ⟨b, 1, none⟩ = some x1) (c2 : w.cell? ⟨b, 2, none⟩ = some x2) (c3 : w.cell? ⟨b, 3, none⟩ = some x3) (c4 : w.cell? ⟨b, 4, none⟩ = some x4) :
    (results fn tmps).run Tryd.prog w = .ok (.agg #[x0, x1, x2, x3, x4]) w := by
  have hp' : tmps[p]?.getD undef = .pointer (some ⟨b, 0, none⟩) := by simpa using hp
  simp only [results, h]
  simp [hp', asAddr]
  go_simp

/-- A grid in longer memory. -/
def lad (g : Gr) (b1 b2 b3 : Nat) : Ad := ⟨some ⟨b1, 0, none⟩, g.B.length + 2, some ⟨b2, 0, none⟩, g.R.length + 2, some ⟨b3, 0, none⟩, g.D.length + 2⟩
structure Lent (W : World) (B : Nat) (g : Gr) (b1 b2 b3 : Nat) : Prop where
  s1 : Spare W B b1 g.B
  s2 : Spare W B b2 g.R
  s3 : Spare W B b3 g.D
theorem Lent.below {W W' : World} {B : Nat} {g : Gr} {b1 b2 b3 : Nat} (h : Lent W B g b1 b2 b3) (hb : Below W.heap.size W W') : Lent W' B g b1 b2 b3 := ⟨h.s1.below hb, h.s2.below hb, h.s3.below hb⟩
theorem Lent.rg {W : World} {B : Nat} {g : Gr} {b1 b2 b3 : Nat} (h : Lent W B g b1 b2 b3) : RG W g (lad g b1 b2 b3) := ⟨h.s1.reads, h.s2.reads, h.s3.reads⟩
/-- A nil list has no room. -/
def Ad.nz (p : Ad) : Prop := (p.a1 = none → p.c1 = 0) ∧ (p.a2 = none → p.c2 = 0) ∧ (p.a3 = none → p.c3 = 0)

theorem set_grown (w : World) (b j : Nat) (u : Value) : w.grownBy (w.setCell ⟨b, j, none⟩ u) (some b) := ⟨rfl, rfl, rfl, by simp, fun k _ hk => heap_setCell_other w ⟨b, j, none⟩ k u (fun e => hk (by simp [e]))⟩
theorem Spare.set {W : World} {B b : Nat} {zs : List Bool} (h : Spare W B b zs) {c j : Nat} {u : Value} (hc : c < B) : Spare (W.setCell ⟨c, j, none⟩ u) B b zs :=
  World.ownsRow.kept h (set_grown W c j u) (.inr fun e => by have := h.lt.1; have e2 : b = c := Option.some.inj e; omega)
/-- A block of five cells. -/
structure Five (W : World) (b : Nat) (x0 x1 x2 x3 x4 : Value) : Prop where
  blk : W.heap[b]? = some (.cells #[x0, x1, x2, x3, x4] 27)
theorem Five.c0 {W : World} {b : Nat} {x0 x1 x2 x3 x4 : Value} (h : Five W b x0 x1 x2 x3 x4) : W.cell? ⟨b, 0, none⟩ = some x0 := by simp [World.cell?, h.blk]
theorem Five.c1 {W : World} {b : Nat} {x0 x1 x2 x3 x4 : Value} (h : Five W b x0 x1 x2 x3 x4) : W.cell? ⟨b, 1, none⟩ = some x1 := by simp [World.cell?, h.blk]
theorem Five.c2 {W : World} {b : Nat} {x0 x1 x2 x3 x4 : Value} (h : Five W b x0 x1 x2 x3 x4) : W.cell? ⟨b, 2, none⟩ = some x2 := by simp [World.cell?, h.blk]
theorem Five.c3 {W : World} {b : Nat} {x0 x1 x2 x3 x4 : Value} (h : Five W b x0 x1 x2 x3 x4) : W.cell? ⟨b, 3, none⟩ = some x3 := by simp [World.cell?, h.blk]
theorem Five.c4 {W : World} {b : Nat} {x0 x1 x2 x3 x4 : Value} (h : Five W b x0 x1 x2 x3 x4) : W.cell? ⟨b, 4, none⟩ = some x4 := by simp [World.cell?, h.blk]
theorem Five.fr {W : World} {b : Nat} {x0 x1 x2 x3 x4 : Value} (h : Five W b x0 x1 x2 x3 x4) (j : Nat) : W.frozen? ⟨b, j, none⟩ = false := frozen_of_row W b j _ _ h.blk
theorem Five.lt {W : World} {b : Nat} {x0 x1 x2 x3 x4 : Value} (h : Five W b x0 x1 x2 x3 x4) : b < W.heap.size := (Array.getElem?_eq_some_iff.1 h.blk).1
theorem Five.keep {W W' : World} {b : Nat} {x0 x1 x2 x3 x4 : Value} (h : Five W b x0 x1 x2 x3 x4) (hb : Below W.heap.size W W') : Five W' b x0 x1 x2 x3 x4 := ⟨(hb.block b h.lt).trans h.blk⟩
theorem Five.other {W : World} {b c j : Nat} {x0 x1 x2 x3 x4 u : Value} (h : Five W b x0 x1 x2 x3 x4) (hc : b ≠ c) : Five (W.setCell ⟨c, j, none⟩ u) b x0 x1 x2 x3 x4 := ⟨((set_grown W c j u).block b h.lt (fun e => hc (Option.some.inj e))).trans h.blk⟩
theorem Five.set0 {W : World} {b : Nat} {x0 x1 x2 x3 x4 : Value} (h : Five W b x0 x1 x2 x3 x4) (u : Value) : Five (W.setCell ⟨b, 0, none⟩ u) b u x1 x2 x3 x4 := ⟨heap_setCell_same W b 0 _ _ u h.blk⟩
theorem Five.set1 {W : World} {b : Nat} {x0 x1 x2 x3 x4 : Value} (h : Five W b x0 x1 x2 x3 x4) (u : Value) : Five (W.setCell ⟨b, 1, none⟩ u) b x0 u x2 x3 x4 := ⟨heap_setCell_same W b 1 _ _ u h.blk⟩
theorem Five.set2 {W : World} {b : Nat} {x0 x1 x2 x3 x4 : Value} (h : Five W b x0 x1 x2 x3 x4) (u : Value) : Five (W.setCell ⟨b, 2, none⟩ u) b x0 x1 u x3 x4 := ⟨heap_setCell_same W b 2 _ _ u h.blk⟩
theorem Five.set3 {W : World} {b : Nat} {x0 x1 x2 x3 x4 : Value} (h : Five W b x0 x1 x2 x3 x4) (u : Value) : Five (W.setCell ⟨b, 3, none⟩ u) b x0 x1 x2 u x4 := ⟨heap_setCell_same W b 3 _ _ u h.blk⟩
theorem Five.set4 {W : World} {b : Nat} {x0 x1 x2 x3 x4 : Value} (h : Five W b x0 x1 x2 x3 x4) (u : Value) : Five (W.setCell ⟨b, 4, none⟩ u) b x0 x1 x2 x3 u := ⟨heap_setCell_same W b 4 _ _ u h.blk⟩
theorem Below.setIn {B b j : Nat} {w W : World} {u : Value} (h : Below B w W) (hb : B ≤ b) (hs : B ≤ W.heap.size) : Below B w (W.setCell ⟨b, j, none⟩ u) := h.grown (set_grown W b j u) hs (fun k hk => by injection hk with hk; omega)

end Go.Proofs.YthjgldjjplcncabDoor.Grd
